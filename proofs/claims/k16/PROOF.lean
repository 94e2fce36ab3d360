import PyProof.Rows.All
import Wide.All
import OpenK.AllK
import Wide.FinOn
import Lean
import PyProof.EqAt
import PyProof.EqKinds
import PyProof.TupleCall
import PySem.Challenge.RW_cellkeep_k16_whole_slid
set_option Elab.async false
set_option linter.all false
set_option maxRecDepth 100000
set_option maxHeartbeats 4000000
open List renaming getElem?_cons_zero->aa,getElem?_cons_succ->ae,length_cons->af,replicate->ah,length_nil->ai,length_map->aj,map_cons->ak,getElem?_eq_getElem->au,map_nil->av,set_cons_zero->aw,set_cons_succ->ax,append_nil->ay,getD_eq_getElem?_getD->az,cons_append->aL,mem_append_right->aO,getElem?_map->aS,length_append->aY,size_toArray->aZ,mem_cons_self->a_,mem_cons_of_mem->ba,nil_append->bc,length_set->bf,mem_append_left->bj,map_append->bo,getElem_mem->bq,mem_cons->br,lookup->bu,length_replicate->bw,map_map->bB,take_succ_eq_append_getElem->bC,getElem?_set->bE,take_length->bF,length_take->bH,not_mem_nil->bI,find?_cons->bK,all_cons->bM,mem_singleton->bN,nodup_cons->bP,getElem?_eq_none->bQ,nodup_append->bV,map->bX,range->bZ,getElem_map->b8,map_congr_left->b_,mem_map_of_mem->cb,replicate_succ->cf,length_singleton->cm,mem_of_getElem?->cz,length_filter_le->cI,nodup_nil->cN,getElem?_append_right->cT,lookup_cons->cV,getElem?_zipWith->cY,getElem?_take_of_lt->cZ,append_assoc->c8,length_take_le->c9,length_zipWith->c_,zipWith->dg,flatten_cons->dA,length_range->dB,mem_or_eq_of_mem_set->dD,eq_of_mem_replicate->dE,length_filterMap_le->dF,filterMap_cons->dI,filter_map->dP,mem_append->dQ,filterMap_append->dS,length_drop->dY,sum_cons->d5,length->d6,getElem?_append_left->d9,pairwise_cons->eK,getElem?_replicate->eO,ext_getElem?->eR,getElem_take->eT,take_add_one->eU,getElem_cons_succ->eX,zipWith_cons_cons->eY,any_cons->e_,filter_cons->fh,sum_append->fq,getElem?_range->fw,take_zero->fA,filter_congr->fL,all_eq_true->fT,of_mem_zip->f_,getElem?_set_self->gh,range_succ_eq_map->gj,mem_range->gx,getElem?_set_ne->gF,mem_of_mem_drop->gG,mem_of_mem_take->gH,take_succ_cons->gN,filter_append->g9,getElem?_drop->g_,any_eq_false->ic,any_eq_true->ir,cons_ne_nil->iu,ext_getElem->iw,foldl->iA,filterMap->iF
open List.cons renaming injEq->ag
open Int renaming reduceAdd->ao,reduceNeg->aT,reduceLT->aV,reduceSub->bx,reducePow->bD,toNat_natCast->bU,toNat_of_nonneg->cP,reduceLE->cQ,emod_lt_of_pos->dO,emod_nonneg->d8,zero_add->eJ,le_refl->eW,lt_trans->fS,lt_or_gt_of_ne->g8
open Nat renaming reduceAdd->aq,sub_self->aF,le_trans->aH,le_refl->aI,lt_of_lt_of_le->aK,reduceLT->aW,reduceSub->bz,ne_of_lt->bA,lt_of_le_of_lt->bO,zero_add->bS,lt_irrefl->ck,zero_le->cD,succ_le_succ->dG,le_of_lt->dU,min_self->dW,le_succ->fG,le_succ_of_le->fM,add_zero->fU,lt_succ_self->fV,ne_of_gt->fW,lt_of_succ_lt_succ->gm,add_le_add_left->gO,lt_or_gt_of_ne->hE,min_eq_left->iB
open PySem.W renaming Frag->aA,findIn->aB,nsIn->aE,mg_of->aG,isFn->aR,kitOne->bb,keepIn->bL,plainGet->bT,hasDictIn->bW,kia_one->b7,emptyDict->cg,plainOver->cj,makesIn->cG,mg_none_of->cJ,instObj->cO,excIn->cU,codeHdIn->de,fnOf->di,Looks->dv,looks_findIn->dZ,hideAll_get->d7,kla_obj->d_,callWith_K->eM,mroIn->fb,methodCall_KW->fj,hideAll->fv,plainGet_of->fz,codeIn->fB,lookIn->fD,of_hideAll->fH,clsIn->fK,methodObj->fO,specialIn->fP,OpenLaw->gb,takerIn->gc,takesIn->gf,cellsFrom_some->gq,kla_fn->gB,callWith_K0->gP,codeHd_of_K->gQ,looks_mroIn->gR,envX->hV,kitx_dict->ie,kitx_list->ig,handedIn->iy,kdl_dict->iz,WalkO->iK
open Ne renaming symm->aC
open True renaming intro->aD
open Sum renaming inl->aJ,inr->fE
open Bool renaming false_eq_true->aM,not_eq_true'->aN,and_eq_true->aQ,false_ne_true->bp,true_eq_false->bR,eq_iff_iff->fm,not_true->gK,not_false->iE
open PySem.Heap renaming get?_push_of_some->aP,lt_size->aU,get?_push_size->bJ,SameBut->eG,get?_update_other->eV,DictAt->fF,get?_update_self->gs,size_push->gu,get?_none_of_le->gE
open PySem.Value renaming ref->aX,int->dX,none->d4,str->fk,bool->gI,type->gJ,float->iq,isStrOf->iL
open Option.some renaming inj->bg,injEq->bh
open PySem.Str renaming ofString->bt,empty->dt,ofString_eq_toList->gr
open Option renaming map_some->bG,join_some->cX,getD_some->dH,isSome_map->fN,getD_none->ix,map_map->iG
open False renaming elim->bY
open PySem.F renaming slot_list_append->cu,type_list_append->cx,slot_dict_get->du,args_dict_get_2->eP,plainAttrs_dict->eQ,entry_dict_get->eZ,args_tuple_add_2->fX,entry_tuple_add->fY,plainAttrs_list->fZ,slot_tuple_add->gp,slot_dict_pop->gz,type_dict_get->gA
open PyProof.Rows renaming callWith_type1->cy
open Sum.inl renaming inj->cE
open PySem renaming mem_of_lookup->cF,Within->hX,call->iC,KeyKind->iJ
open PySem.NameKind renaming free->cK,cell->iI
open PySem.Calls renaming callWith_builtin->df,evalArgs_plain->dC,spliced_cons->dM,spliced_nil->dR,Name_function_global->fI
open Array renaming append_empty->dJ,length_toList->gL,toList_append->gM,append_assoc->gY
open ForInStep renaming yield->dN
open PySem.Builtin.List renaming listTooLong->eF
open PySem.Around renaming in1_units->fg,frames_deeper->gC,under->gX
open Or renaming inr->fu,inl->gy
open PySem.Paired renaming length->fJ
open PySem.Obj renaming mapSeq->fQ,data_mapFields->hU
open PySem.SeqAt renaming EqAt->fR
open PySem.SeqAt.EqAt renaming same->gg,int_none->gS,none_int->gT,none_str->gU,str_none->gW,int_str->hZ,of_refs->h_,str_int->ia
open List.Perm renaming refl->gw
open Char renaming toNat->gD
open PySem.Code renaming isFrame->gZ
open List.Pairwise renaming nil->ib
open PySem.Data renaming fields->ip
open String renaming reduceEq->iD
open PySem.EqBoolInt renaming eq_bool_int->iH
open PySem.IsRange renaming new->iM
namespace L2
open PySem PySem.Spec PyProof.Rows
noncomputable abbrev Key:=Sum Int Str
noncomputable def wC:Key->Value->Bool
 | .inl k,v=>Value.isInt k v
 | .inr x,v=>iL x v
noncomputable def Xm (w:World):Key->Int
 | .inl k=>hashInt k
 | .inr x=>hashStr w x
theorem kR:∀{k:Key} {v:Value},wC k v=true->(∃i t,k=aJ i/\v=dX i t)∨(∃x t,k=fE x/\v=fk x t)
 | .inl i,v,h=>by
  obtain⟨t,e⟩:=Value.isInt_shape (k:=i) (v:=v) h
  exact .inl ⟨i,t,rfl,e⟩
 | .inr x,v,h=>by
  obtain⟨t,e⟩:=Value.isStrOf_shape (x:=x) (v:=v) h
  exact .inr ⟨x,t,rfl,e⟩
theorem P4(i:Int)(t:Tok):wC (.inl i) (.int i t)=true:=by simp[wC,Value.isInt]
theorem P5(x:Str)(t:Tok):wC (.inr x) (.str x t)=true:=by simp[wC,iL]
theorem Vl(a b:Int):decide ((aJ a:Key)=aJ b)=(a==b):=by
 by_cases e:a=b
 ·subst e;simp
 ·have h:¬(aJ a:Key)=aJ b:=λq=>e (cE q)
  rw[decide_eq_false h]
  exact(beq_eq_false_iff_ne.mpr e).symm
theorem Vo(a b:Str):decide ((fE a:Key)=fE b)=decide (a=b):=by
 by_cases e:a=b
 ·subst e;simp
 ·have h:¬(fE a:Key)=fE b:=λq=>e (Sum.inr.inj q)
  rw[decide_eq_false h,decide_eq_false e]
theorem Vm(a:Int)(b:Str):decide ((aJ a:Key)=fE b)=false:=decide_eq_false (λq=>nomatch q)
theorem Vn(a:Str)(b:Int):decide ((fE a:Key)=aJ b)=false:=decide_eq_false (λq=>nomatch q)
noncomputable def jT (prog:Program) (w:World):iJ prog w Key where
 is:=wC
 hash:=Xm w
 inj:=λv a b ha hb=>by
  rcases kR ha with ⟨i,t,rfl,rfl⟩|⟨x,t,rfl,rfl⟩
  ·rcases kR hb with ⟨j,u,rfl,e⟩|⟨y,u,rfl,e⟩
   ·injection e with e1 _;rw[e1]
   ·exact nomatch e
  ·rcases kR hb with ⟨j,u,rfl,e⟩|⟨y,u,rfl,e⟩
   ·exact nomatch e
   ·injection e with e1 _;rw[e1]
 byValue:=λk v h=>by
  rcases kR h with ⟨i,t,rfl,rfl⟩|⟨x,t,rfl,rfl⟩<;>rfl
 pyHash:=λhv h=>by
  rcases kR hv with ⟨i,t,rfl,rfl⟩|⟨x,t,rfl,rfl⟩
  ·exact wpAny_pyHash_int h
  ·exact wpAny_pyHash_str h
 eqBool:=λhu hv h=>by
  rcases kR hu with ⟨i,t,rfl,rfl⟩|⟨x,t,rfl,rfl⟩
  ·rcases kR hv with ⟨j,u,rfl,rfl⟩|⟨y,u,rfl,rfl⟩
   ·rw[Vl]at h;exact wpAny_eqBool_int h
   ·rw[Vm]at h;exact hZ i t y u _ _ _ _ h
  ·rcases kR hv with ⟨j,u,rfl,rfl⟩|⟨y,u,rfl,rfl⟩
   ·rw[Vn]at h;exact ia x t j u _ _ _ _ h
   ·rw[Vo]at h;exact wpAny_eqBool_str h
 «strs»:=λk x t v h=>by
  rcases kR h with ⟨i,u,rfl,e⟩|⟨y,u,rfl,e⟩
  ·exact nomatch e
  ·injection e with e1 _
   subst e1
   cases v<;>rfl
theorem MO(prog:Program)(w:World)(i:Int)(t:Tok):(jT prog w).is (.inl i) (.int i t)=true:=P4 i t
theorem MP(prog:Program)(w:World)(x:Str)(t:Tok):(jT prog w).is (.inr x) (.str x t)=true:=P5 x t
end L2
namespace L2
open PySem PySem.Spec PyProof.Rows
inductive V where
 |kT|bl (b:Bool)|int (i:Int)|str (x:Str)|byt (b:Array UInt8)|Nu (b:UInt64)|ref (a:Addr)|ty (n:String)
 deriving DecidableEq
noncomputable def RelV:V->Value->Prop
 | .kT,u=>u=d4
 | .bl b,u=>u=gI b
 | .int i,u=>∃t,u=dX i t
 | .str x,u=>∃t,u=fk x t
 | .byt b,u=>∃t,u=Value.bytes b t
 | .Nu b,u=>∃t,u=iq b t
 | .ref a,u=>u=aX a
 | .ty n,u=>u=gJ n
noncomputable abbrev Vals:List V->List Value->Prop:=Paired RelV
theorem Vals.length{xs:List V}{us:List Value}(r:Vals xs us):xs.length=us.length:=fJ r
theorem Vals.get:∀{xs:List V} {us:List Value} {i:Nat} {x:V},Vals xs us->xs[i]? =some x->∃u,us[i]? =some u/\RelV x u
 |_,_,_,_,.nil,e=>by simp at e
 |_,_,0,_,.cons r _,e=>by simp at e;subst e;exact⟨_,rfl,r⟩
 |_,_,i+1,x,.cons _ t,e=>by
  obtain⟨u,h1,h2⟩:=Vals.get (i:=i) (x:=x) t (by simpa using e)
  exact⟨u,by simpa using h1,h2⟩
theorem Vals.set{x:V}{u:Value}(r:RelV x u):∀{xs:List V} {us:List Value} (i:Nat),Vals xs us->Vals (xs.set i x) (us.set i u)
 |_,_,_,.nil=> .nil
 |_,_,0,.cons _ t=> .cons r t
 |_,_,i+1,.cons q t=> .cons q (Vals.set r i t)
theorem Vals.append:∀{xs ys:List V} {us ws:List Value},Vals xs us->Vals ys ws->Vals (xs++ys) (us++ws)
 |_,_,_,_,.nil,s=>s
 |_,_,_,_,.cons r t,s=> .cons r (Vals.append t s)
theorem Vals.take:∀{xs:List V} {us:List Value} (n:Nat),Vals xs us->Vals (xs.take n) (us.take n)
 |_,_,0,_=> .nil
 |_,_,_+1,.nil=> .nil
 |_,_,n+1,.cons r t=> .cons r (Vals.take n t)
theorem Vals.drop:∀{xs:List V} {us:List Value} (n:Nat),Vals xs us->Vals (xs.drop n) (us.drop n)
 |_,_,0,r=>r
 |_,_,_+1,.nil=> .nil
 |_,_,n+1,.cons _ t=>Vals.drop n t
noncomputable def xZ:Option V->Option Value->Prop
 |some v,some u=>RelV v u
 |none,none=>True
 |_,_=>False
noncomputable def KV {κ:Type}:List (κ×V)->List (κ×Value)->Prop:=Paired λ(p:κ×V) (q:κ×Value)=>p.1=q.1/\RelV p.2 q.2
noncomputable def kV:Key->V
 | .inl i=> .int i
 | .inr x=> .str x
inductive HO where
 |lst (xs:List V)
 |tup (xs:List V)
 |dK (kvs:List (Key×V))|dT (kvs:List (List Key×V))
 |set (S:Int->Bool) (n:Nat)
 |ins (C dx:Addr) (fs:List (Str×V))
 |own (x:Addr)
 |xd (fs:List (Str×V))
 |met (f x:Addr)
 |Y0 (lo hi:Int)
 |rN (o:Obj) (u:HO)
 |CB (ps:Array Value)
 |ext (φ:Heap->Prop)
 |exc (cls:Value)
noncomputable abbrev Hp:=Addr->Option HO
noncomputable def upd (H:Hp) (a:Addr) (o:HO):Hp:=λb=>if b=a then some o else H b
theorem iS{H:Hp}{a:Addr}{o:HO}:upd H a o a=some o:=by unfold upd;rw[if_pos rfl]
theorem iW{H:Hp}{a b:Addr}{o:HO}(h:b≠a):upd H a o b=H b:=by unfold upd;rw[if_neg h]
theorem Pu{H:Hp}{a:Addr}{o u:HO}:upd (upd H a o) a u=upd H a u:=by
 funext b;unfold upd;split<;>rfl
theorem XB{H:Hp}{a b:Addr}{o u:HO}(h:H a=some o)(h':H b=some u)(d:o≠u):a≠b:=by
 intro e;subst e;rw[h]at h';exact d (bg h')
theorem iT{H:Hp}{a b:Addr}{o:HO}(h:H a=some o)(h':H b=none):a≠b:=by
 intro e;subst e;rw[h]at h';cases h'
section
variable(P:Program)(w:World)
noncomputable def l9 (H:Hp) (h:Heap) (a:Addr):HO->Prop
 | .lst xs=>xs.length<=sizeLine/\∃(its:List Value) (n:Nat),Vals xs its/\h.get? a=some {cls:= .type "list",data:= .seq its.toArray n}
 | .tup xs=>xs.length<=sizeLine/\∃its:List Value,Vals xs its/\IsTup h a its.toArray
 | .dK kvs=>kvs.length<=sizeLine/\(a==sysModules)=false/\∃vs,KV kvs vs/\h.DictOf (jT P w) a vs
 | .dT kvs=>kvs.length<=sizeLine/\(a==sysModules)=false/\∃xs:List (List Key×Addr×Value),
   Paired (λ(p:List Key×V) (q:List Key×Addr×Value)=>p.1=q.1/\H q.2.1=some (.tup (p.1.map kV))/\RelV p.2 q.2.2) kvs xs/\
   ∃o es ep,h.get? a=some o/\o.ExactDict/\o.data= .dict es ep/\es.toList=xs.map (entryOfKey (tupleKind (jT P w)))/\(xs.map (·.1)).Nodup
 | .set S n=>h.SetOf (intKind P w) a S n
 | .ins C dx fs=>H dx=some (.own a)/\fs.length<=1000/\dx≠a/\h.get? a=some (cO C dx)/\
   ∃mA,h.Ns1 dx mA/\(∀f,xZ (fs.lookup f) (mA f))/\hX mA (fs.map (·.1))
 | .own _=>∃o,h.get? a=some o
 | .xd fs=>∃mA,h.Ns1 a mA/\∀f,xZ (fs.lookup f) (mA f)
 | .Y0 lo hi=>∃t u v,h.get? a=some {cls:= .type "range",data:= .fields #[.int lo t,.int hi u,.int 1 v]}
 | .rN o u=>h.get? a=some o/\l9 H h a u
 | .CB ps=>h.get? a=some {cls:= .none,data:= .fields ps}
 | .met f x=>h.get? a=some (fO (.ref f) (.ref x))
 | .exc cls=>∃o vs,h.get? a=some o/\o.cls=cls/\o.data= .fields vs
 | .ext φ=>φ h/\(∃o,h.get? a=some o)/\∀h1 h2:Heap,φ h1->(∀o,h1.get? a=some o->h2.get? a=some o)->φ h2
noncomputable def wa (H:Hp) (h:Heap):Prop:=∀a o,H a=some o->l9 P w H h a o
end
section
variable{P:Program}{w:World}{H H':Hp}{h h':Heap}{a:Addr}{o:HO}
theorem l9.lt(x:l9 P w H h a o):a<h.objs.size:=by
 cases o with
 |lst xs=>obtain⟨_,_,_,_,e⟩:=x;exact aU e
 |tup xs=>obtain⟨_,_,_,p⟩:=x;exact p.lt
 |dK kvs=>obtain⟨_,_,_,_,o,_,_,e,_⟩:=x;exact aU e
 |dT kvs=>obtain⟨_,_,_,_,o,_,_,e,_⟩:=x;exact aU e
 |set S n=>obtain⟨o,_,_,_,e,_⟩:=x;exact aU e
 |ins C dx fs=>obtain⟨_,_,_,e,_⟩:=x;exact aU e
 |own y=>obtain⟨_,e⟩:=x;exact aU e
 |xd fs=>obtain⟨_,⟨_,_,_,e,_⟩,_⟩:=x;exact aU e
 |Y0 lo hi=>obtain⟨_,_,_,e⟩:=x;exact aU e
 |rN ob u=>obtain⟨e,_⟩:=x;exact aU e
 |CB ps=>exact aU (show h.get? a=some _ from x)
 |met f y=>exact aU (show h.get? a=some _ from x)
 |ext φ=>obtain⟨_,⟨_,e⟩,_⟩:=x;exact aU e
 |exc cls=>obtain⟨_,_,e,_⟩:=x;exact aU e
theorem Paired.Vs{α β:Type}{F G:α->β->Prop}:∀{l₁:List α} {l₂:List β},Paired F l₁ l₂->(∀a b,F a b->G a b)->Paired G l₁ l₂
 |_,_,.nil,_=> .nil
 |_,_,.cons r t,f=> .cons (f _ _ r) (Paired.Vs t f)
theorem l9.zt(x:l9 P w H h a o)(k:∀b u,(b=a∨H b=some (.own a))->h.get? b=some u->h'.get? b=some u)
  (ho:∀b,H b=some (.own a)->H' b=some (.own a)) (ht:∀b xs,H b=some (.tup xs)->H' b=some (.tup xs)):l9 P w H' h' a o:=by
 induction o with
 |lst xs=>obtain⟨z,its,n,r,e⟩:=x;exact⟨z,its,n,r,k _ _ (.inl rfl) e⟩
 |tup xs=>obtain⟨z,its,r,ob,e,c⟩:=x;exact⟨z,its,r,ob,k _ _ (.inl rfl) e,c⟩
 |dK kvs=>obtain⟨z,y,vs,r,ob,es,ep,e,c⟩:=x;exact⟨z,y,vs,r,ob,es,ep,k _ _ (.inl rfl) e,c⟩
 |dT kvs=>
  obtain⟨z,y,xs,r,ob,es,ep,e,c⟩:=x
  exact⟨z,y,xs,Paired.Vs r λp q z=>⟨z.1,ht _ _ z.2.1,z.2.2⟩,ob,es,ep,k _ _ (.inl rfl) e,c⟩
 |set S n=>obtain⟨ob,es,ep,t,e,c⟩:=x;exact⟨ob,es,ep,t,k _ _ (.inl rfl) e,c⟩
 |ins C dx fs=>
  obtain⟨d,z,ne,e,mA,⟨od,es,ep,e2,c⟩,r⟩:=x
  exact⟨ho _ d,z,ne,k _ _ (.inl rfl) e,mA,⟨od,es,ep,k _ _ (.inr d) e2,c⟩,r⟩
 |own y=>obtain⟨ob,e⟩:=x;exact⟨ob,k _ _ (.inl rfl) e⟩
 |xd fs=>obtain⟨mA,⟨od,es,ep,e,c⟩,r⟩:=x;exact⟨mA,⟨od,es,ep,k _ _ (.inl rfl) e,c⟩,r⟩
 |Y0 lo hi=>obtain⟨t,u,v,e⟩:=x;exact⟨t,u,v,k _ _ (.inl rfl) e⟩
 |rN ob u ih=>obtain⟨e,q⟩:=x;exact⟨k _ _ (.inl rfl) e,ih q⟩
 |CB ps=>
  have e:h.get? a=some {cls:= .none,data:= .fields ps}:=x
  show h'.get? a=some {cls:= .none,data:= .fields ps}
  exact k a _ (.inl rfl) e
 |met f y=>
  have e:h.get? a=some (fO (.ref f) (.ref y)):=x
  show h'.get? a=some (fO (.ref f) (.ref y))
  exact k a _ (.inl rfl) e
 |exc cls=>obtain⟨o,vs,e,c⟩:=x;exact⟨o,vs,k _ _ (.inl rfl) e,c⟩
 |ext φ=>obtain⟨p,⟨o,e⟩,st⟩:=x;exact⟨st _ _ p λo q=>k _ _ (.inl rfl) q,⟨o,k _ _ (.inl rfl) e⟩,st⟩
theorem wa.lt(x:wa P w H h)(e:H a=some o):a<h.objs.size:=(x a o e).lt
theorem wa.fresh(x:wa P w H h)(e:h.objs.size<=a):H a=none:=by
 cases q:H a with
 |none=>rfl
 |some u=>exact absurd (aK (x.lt q) e) (ck _)
theorem wa.kept(x:wa P w H h)(k:∀b u,h.get? b=some u->h'.get? b=some u):wa P w H h':=λa o e=>
 (x a o e).zt (λb u _ q=>k b u q) (λ_ q=>q) λ_ _ q=>q
theorem wa.laid(x:wa P w H h)(k:∀b u,h.get? b=some u->h'.get? b=some u)(hp:h.objs.size<=a)(new:l9 P w (upd H a o) h' a o):wa P w (upd H a o) h':=λb u e=>by
 have hn:=x.fresh hp
 by_cases hb:b=a
 ·subst hb;rw[iS]at e;cases e;exact new
 ·rw[iW hb]at e
  exact(x b u e).zt (λc v _ q=>k c v q) (λc q=>by rw[iW (iT q hn)];exact q) λc xs q=>by rw[iW (iT q hn)];exact q
end
noncomputable def Rd (H:Hp) (a:Addr) (u:HO):Prop:=H a=some u∨∃o,H a=some (.rN o u)
theorem Rd.ok{P:Program}{w:World}{H:Hp}{h:Heap}{a:Addr}{u:HO}(r:Rd H a u)(x:wa P w H h):l9 P w H h a u:=by
 rcases r with r|⟨o,r⟩
 ·exact x a u r
 ·obtain⟨_,q⟩:=x a _ r
  exact q
noncomputable def WI:Option HO->Prop
 |some (.lst _)=>True
 |some (.dK _)=>True
 |some (.dT _)=>True
 |some (.set _ _)=>True
 |some (.ins _ _ _)=>True
 |some (.ext _)=>True
 |_=>False
section
variable{P:Program}{w:World}{H:Hp}{h h':Heap}{x e:Addr}{o':HO}
theorem wa.write(ok:wa P w H h)(mu:WI (H x))(he:e=x∨H e=some (.own x))(k:∀b u,b≠e->h.get? b=some u->h'.get? b=some u)(heo:∃u,h'.get? e=some u)
  (new:l9 P w (upd H x o') h' x o'):wa P w (upd H x o') h':=λb u q=>by
 have nown:∀c y,H c=some (.own y)->c≠x:=λc y r z=>by subst z;rw[r]at mu;exact mu
 have ntup:∀c xs,H c=some (.tup xs)->c≠x:=λc xs r z=>by subst z;rw[r]at mu;exact mu
 by_cases hb:b=x
 ·subst hb;rw[iS]at q;cases q;exact new
 ·rw[iW hb]at q
  by_cases hbe:b=e
  ·have q':H b=some (.own x):=by
    rcases he with z|z
    ·exact absurd (hbe.trans z) hb
    ·rw[hbe];exact z
   rw[q]at q';cases q'
   obtain⟨v,hv⟩:=heo
   exact⟨v,by rw[hbe];exact hv⟩
  ·refine(ok b u q).zt (λc v hc r=>k c v ?_ r) (λc r=>by rw[iW (nown c b r)];exact r) λc xs r=>by rw[iW (ntup c xs r)];exact r
   rcases hc with rfl|hc
   ·exact hbe
   ·rintro rfl
    rcases he with z|z
    ·exact nown c b hc z
    ·rw[hc]at z;cases z;exact hb rfl
end
structure Un(fs ex:List Addr)(H H':Hp)(h h':Heap):Prop where
 keep:∀b o,h.get? b=some o->H b=none->b∉fs->b∉ex->h'.get? b=some o
 slot:∀b o,h.get? b=some o->H b=none->b∈fs->b∉ex->∃sl,h'.get? b=some {o with slots:=sl}
 free:∀b o,h.get? b=some o->H b=none->b∉ex->H' b=none
 there:∀b o,h.get? b=some o->b∉ex->∃o',h'.get? b=some o'
 AX:∀b xs,H b=some (.tup xs)->H' b=some (.tup xs)
 xG:∀b o u,H b=some (.rN o u)->H' b=some (.rN o u)
 zv:∀b ps,H b=some (.CB ps)->∃more,H' b=some (.CB (ps++more))
section
variable{fs fs' ex ex':List Addr}{H H1 H2:Hp}{h h1 h2 h':Heap}{a x e:Addr}{o:HO}
theorem Un.any(u:Un fs ex H H1 h h1){b:Addr}{ob:Obj}(q:h.get? b=some ob)(n:H b=none)(hx:b∉ex):∃sl,h1.get? b=some {ob with slots:=sl}:=by
 by_cases hb:b∈fs
 ·exact u.slot b ob q n hb hx
 ·exact⟨ob.slots,u.keep b ob q n hb hx⟩
theorem Un.kept(k:∀b u,h.get? b=some u->h'.get? b=some u):Un fs ex H H h h':=
 ⟨λb ob q _ _ _=>k b ob q,λb ob q _ _ _=>⟨ob.slots,k b ob q⟩,λ_ _ _ n _=>n,λb ob q _=>⟨ob,k b ob q⟩,λ_ _ q=>q,λ_ _ _ q=>q,λ_ ps q=>⟨#[],by rw[q];simp⟩⟩
theorem Un.refl:Un fs ex H H h h:=Un.kept λ_ _ q=>q
theorem Un.laid(k:∀b u,h.get? b=some u->h'.get? b=some u)(hp:h.objs.size<=a)(hn:H a=none):Un fs ex H (upd H a o) h h' where
 keep:=λb u q _ _ _=>k b u q
 slot:=λb u q _ _ _=>⟨u.slots,k b u q⟩
 free:=λb u q n _=>by rw[iW (bA (aK (aU q) hp))];exact n
 there:=λb u q _=>⟨u,k b u q⟩
 AX:=λb xs q=>by rw[iW (iT q hn)];exact q
 xG:=λb u xs q=>by rw[iW (iT q hn)];exact q
 zv:=λb ps q=>⟨#[],by rw[iW (iT q hn),q];simp⟩
theorem Un.write(mu:WI (H x))(he:e=x∨H e=some (.own x))(k:∀b u,b≠e->h.get? b=some u->h'.get? b=some u)(heo:∃u,h'.get? e=some u):Un fs ex H (upd H x o) h h':=by
 have hx:∀b,H b=none->b≠x:=λb n z=>by subst z;rw[n]at mu;exact mu
 have hb:∀b,H b=none->b≠e:=λb n z=>by
  subst z
  rcases he with r|r
  ·exact hx b n r
  ·rw[n]at r;cases r
 have hm:∀b u,H b=some u->¬WI (some u)->b≠x:=λb u q nm z=>by subst z;rw[q]at mu;exact nm mu
 refine⟨λb u q n _ _=>k b u (hb b n) q,λb u q n _ _=>⟨u.slots,k b u (hb b n) q⟩,λb u q n _=>by rw[iW (hx b n)];exact n,λb u q _=> ?_,
  λb xs q=>by rw[iW (hm b _ q λz=>z)];exact q,λb u xs q=>by rw[iW (hm b _ q λz=>z)];exact q,λb ps q=>⟨#[],by rw[iW (hm b _ q λz=>z),q];simp⟩⟩
 by_cases hbe:b=e
 ·subst hbe;exact heo
 ·exact⟨u,k b u hbe q⟩
end
noncomputable def Bm (h:Heap) (H:Hp):List Addr:=(bZ h.objs.size).filter λa=>(H a).isSome
noncomputable def KQ (h:Heap) (H:Hp):Heap:=fv h (Bm h H)
theorem PU(h:Heap)(H:Hp):(KQ h H).objs.size=h.objs.size:=PySem.W.hideAll_size _ _
theorem Ri{h:Heap}{H:Hp}{b:Addr}{o:Obj}(e:h.get? b=some o)(n:H b=none):(KQ h H).get? b=some o:=
 d7 _ e λhm=>by
  have q:(H b).isSome=true:=(List.mem_filter.mp hm).2
  rw[n]at q;simp at q
theorem Tx{h:Heap}{H:Hp}{b:Addr}{o:Obj}(e:(KQ h H).get? b=some o):h.get? b=some o/\H b=none:=by
 have e':h.get? b=some o:=fH (Bm h H) e
 refine⟨e',?_⟩
 cases q:H b with
 |none=>rfl
 |some x=>
  have hm:b∈Bm h H:=List.mem_filter.mpr ⟨List.mem_range.mpr (aU e'),by simp[q]⟩
  have z:(KQ h H).get? b=none:=PySem.W.hideAll_none (Bm h H) hm
  rw[z]at e;cases e
noncomputable def SI (g h:Heap) (L:Addr):List (Addr×Obj):=(bZ h.objs.size).filterMap λa=>if a=L∨(g.get? a).isSome=true then none else(h.get? a).map λo=>(a,o)
noncomputable def rest (g h:Heap) (L d:Addr):List (Addr×Obj):=(SI g h L).filter λp=>decide (p.1≠d)
end L2
namespace L2
open PySem PySem.Spec PyProof.Rows
noncomputable def BMain (mg:Str->Option Value) (h:Heap):Prop:=∃bm ob,mg "__builtins__"=some (.ref bm)/\bm≠builtinsNs/\h.get? bm=some ob/\ob.cls= .type "module"/\ob.dict=some builtinsNs/\ob.data= .plain
structure Mod(K:aA)(mg:Str->Option Value)(base:Heap):Prop where
 CF:K.In base
 glob:base.Ns mainGlobals mg
 blt:∃mb,base.Ns builtinsNs mb/\∀x:Str,x≠"__name__"->mb x=bootBuiltins x
 nolimit:base.NoLimit
 bmain:BMain mg base
structure Cx where
 prog:Program
 w:World
 K:aA
 mg:Str->Option Value
 base:Heap
 A:Around
 N:List Str
 s₀:Shared
 H₀:Hp
 env:Env
 outer:List Env
 stack:List Env
 ex:List Addr
 fn:Str->Bool
 calm:Bool
 pn:List (Addr×Obj)
 xe:Value->Shared->Prop
noncomputable def EC (l:List Env):List Addr:=l.filterMap (·.frame)
noncomputable abbrev Cx.fs (X:Cx):List Addr:=EC X.outer
noncomputable def WB (sc:Scope) (x:Str):Prop:=sc.names.lookup x=some .local∨sc.names.lookup x=some .cell∨sc.names.lookup x=some .free
noncomputable def Loc (sc:Scope) (x:Str):Prop:=sc.names.lookup x=some .local∨sc.names.lookup x=some .cell
noncomputable def Look (env:Env) (h:Heap) (m:Str->Option Value) (x:Str) (u:Value):Prop:=
 (env.kindOf x=some .local/\m x=some u)∨((env.kindOf x=some .cell∨env.kindOf x=some .free)/\∃c,env.cells.lookup x=some c/\h.IsCell c (some u))
structure Cx.Ok(X:Cx):Prop where
 mod:Mod X.K X.mg X.base
 kind:X.env.scope.kind= .function
 glob:X.env.globals=mainGlobals
 blt:X.env.builtins=builtinsNs
 above:X.s₀.heap.objs.size<=X.env.locals
 inj:∀x y c,X.env.cells.lookup x=some c->X.env.cells.lookup y=some c->x=y
 has:∀x,(X.env.kindOf x=some .cell∨X.env.kindOf x=some .free)->∃c,X.env.cells.lookup x=some c
 U9:∀x c,X.fn x=true->X.env.cells.lookup x=some c->X.s₀.heap.objs.size<=c
 hd:X.calm=true->X.A.handled=none
 frames:X.A.frames=some X.stack
 X0:X.stack=X.outer∨(X.stack=X.env::X.outer/\X.env.frame=some X.env.locals)
 YB:∀b∈X.ex,b≠X.env.locals/\∀x c,X.env.cells.lookup x=some c->c≠b
 bs:∀b o,X.base.get? b=some o->X.s₀.heap.get? b=some o/\X.H₀ b=none
 PF:X.base.objs.size<=X.s₀.heap.objs.size
 GU:∀b o,X.base.get? b=some o->b∉X.ex
 Q4:∀b∈X.ex,b∉X.fs
 Bl:X.s₀.heap.FunFrames X.base X.outer
 SD:∀b∈X.fs,X.H₀ b=none
structure Inv(X:Cx)(pins:List (Addr×Obj))(σ:List (Option V))(H:Hp)(s:Shared):Prop where
 ok:X.Ok
 os:s.os=X.s₀.os
 bare:AllBare s.gens
 base:Un X.fs X.ex X.H₀ H X.s₀.heap s.heap
 loc:∃m,s.heap.Ns X.env.locals m/\∀(i:Nat) (x:Str) (v:V),X.N[i]? =some x->σ[i]? =some (some v)->WB X.env.scope x->∃u,RelV v u/\Look X.env s.heap m x u
 cell:∀x c,X.env.cells.lookup x=some c->∃v,s.heap.IsCell c v
 free:H X.env.locals=none
 tP:∀x c,X.env.cells.lookup x=some c->H c=none
 pin:∀p∈X.pn++pins,s.heap.get? p.1=some p.2/\H p.1=none/\p.1≠X.env.locals/\p.1∉X.fs/\∀v,p.2.data≠ .cell v
 ko:wa X.prog X.w H s.heap
 len:σ.length=X.N.length
section
variable{X:Cx}{pins:List (Addr×Obj)}{σ:List (Option V)}{H H':Hp}{s:Shared}{h':Heap}
theorem Cx.Ok.YQ(ok:X.Ok){b:Addr}{o:Obj}(e:X.base.get? b=some o):b∉X.fs:=λhb=>by
 have:=(ok.Bl.mem hb).1
 rw[e]at this;cases this
theorem Inv.bs(I:Inv X pins σ H s):∀b o,X.base.get? b=some o->s.heap.get? b=some o/\H b=none:=λb o e=>
 ⟨I.base.keep b o (I.ok.bs b o e).1 (I.ok.bs b o e).2 (I.ok.YQ e) (I.ok.GU b o e),I.base.free b o (I.ok.bs b o e).1 (I.ok.bs b o e).2 (I.ok.GU b o e)⟩
theorem Inv.bk(I:Inv X pins σ H s):∀b o,X.base.get? b=some o->s.heap.get? b=some o:=λb o e=>(I.bs b o e).1
theorem Inv.mod(I:Inv X pins σ H s):Mod X.K X.mg X.base:=I.ok.mod
theorem Inv.CD(I:Inv X pins σ H s):X.K.In s.heap:=I.ok.mod.CF.keeps I.bk
theorem Inv.lt(I:Inv X pins σ H s):X.env.locals<s.heap.objs.size:=let ⟨_,hn,_⟩:=I.loc;hn.lt
theorem Inv.sz(I:Inv X pins σ H s):X.s₀.heap.objs.size<=s.heap.objs.size:=aH I.ok.above (dU I.lt)
theorem Inv.YR(I:Inv X pins σ H s){a:Addr}(h:s.heap.objs.size<=a):a∉X.fs:=λhb=>by
 obtain⟨_,o,ho,_⟩:=I.ok.Bl.mem hb
 exact absurd (aK (aU ho) (aH I.sz h)) (ck _)
theorem Inv.Ut(I:Inv X pins σ H s):∀x c,X.env.cells.lookup x=some c->c≠X.env.locals:=λx c e z=>by
 obtain⟨v,o,ho,hd⟩:=I.cell x c e
 obtain⟨m,⟨o',es,ep,ho',hd',_⟩,_⟩:=I.loc
 rw[z,ho']at ho;cases ho;rw[hd']at hd;cases hd
theorem Inv.Bl(I:Inv X pins σ H s):s.heap.FunFrames X.base X.outer:=by
 have all:∀(l:List Env),(∀b∈EC l,b∈X.fs)->X.s₀.heap.FunFrames X.base l->s.heap.FunFrames X.base l:=by
  intro l
  induction l with
  |nil=>intro _ _;trivial
  |cons env r ih=>
   intro hs hl
   obtain⟨hk,⟨L,o,hf,hn,ho,hd⟩,hr⟩:=hl
   have hL:L∈X.fs:=hs L (by unfold EC;rw[dI,hf];exact a_)
   obtain⟨sl,e⟩:=I.base.slot L o ho (I.ok.SD L hL) hL λz=>I.ok.Q4 L z hL
   exact⟨hk,⟨L,_,hf,hn,e,hd⟩,ih (λb hb=>hs b (by unfold EC;rw[dI,hf];exact ba _ hb)) hr⟩
 exact all X.outer (λ_ hb=>hb) I.ok.Bl
theorem Inv.stack(I:Inv X pins σ H s):s.heap.FunFrames X.base X.stack:=by
 rcases I.ok.X0 with e|⟨e,hf⟩
 ·rw[e];exact I.Bl
 ·rw[e]
  obtain⟨m,hn,_⟩:=I.loc
  refine .cons (by rw[I.ok.kind];decide) hf hn ?_ I.Bl
  exact gE (aH I.ok.PF I.ok.above)
theorem Inv.Ht(I:Inv X pins σ H s):∀b∈EC X.stack,b∈X.env.locals::X.fs:=λb hb=>by
 rcases I.ok.X0 with e|⟨e,hf⟩
 ·rw[e]at hb;exact ba _ hb
 ·rw[e]at hb
  unfold EC at hb
  rw[dI,hf]at hb
  exact hb
theorem Inv.Bf(I:Inv X pins σ H s):∀b∈EC X.stack,H b=none:=λb hb=>by
 rcases List.mem_cons.mp (I.Ht b hb) with e|hb
 ·rw[e];exact I.free
 ·obtain⟨_,o,ho,_⟩:=I.ok.Bl.mem hb
  exact I.base.free b o ho (I.ok.SD b hb) λz=>I.ok.Q4 b z hb
theorem Inv.step{g':Array GenState}{t':Nat}{d':Drawn}{ch:List Addr}(I:Inv X pins σ H s)
  (hch:∀b∈ch,(b∈X.ex∨X.s₀.heap.objs.size<=b)/\b≠X.env.locals/\(∀x c,X.env.cells.lookup x=some c->c≠b)/\∀p∈X.pn++pins,p.1≠b)
  (keep:∀b o,b≠X.env.locals->b∉X.fs->b∉ch->s.heap.get? b=some o->H b=none->h'.get? b=some o)
  (slot:∀b o,b≠X.env.locals->b∈X.fs->b∉ch->s.heap.get? b=some o->H b=none->∃sl,h'.get? b=some {o with slots:=sl}) (free:∀b o,b∉ch->s.heap.get? b=some o->H b=none->H' b=none)
  (there:∀b o,b∉ch->s.heap.get? b=some o->∃o',h'.get? b=some o')
  (AX:∀b xs,H b=some (.tup xs)->H' b=some (.tup xs)) (xG:∀b o u,H b=some (.rN o u)->H' b=some (.rN o u)) (zv:∀b ps,H b=some (.CB ps)->∃more,H' b=some (.CB (ps++more)))
  (ns:∀m,s.heap.Ns X.env.locals m->h'.Ns X.env.locals m) (ko:wa X.prog X.w H' h') (hg:AllBare g'):
  Inv X pins σ H' {s with heap:=h',gens:=g',drawn:=d',toks:=t'}:=by
 have neL:∀b o,X.s₀.heap.get? b=some o->b≠X.env.locals:=λb o e=>bA (aK (aU e) I.ok.above)
 have neC:∀b o,X.s₀.heap.get? b=some o->b∉X.ex->b∉ch:=λb o e hx hb=>by
  rcases (hch b hb).1 with z|z
  ·exact hx z
  ·exact absurd (aK (aU e) z) (ck _)
 have cellK:∀x c,X.env.cells.lookup x=some c->∀v,s.heap.IsCell c v->h'.IsCell c v:=λx c e v ⟨o,ho,hd⟩=>by
  have nch:c∉ch:=λz=>(hch c z).2.2.1 x c e rfl
  by_cases hc:c∈X.fs
  ·obtain⟨sl,q⟩:=slot c o (I.Ut x c e) hc nch ho (I.tP x c e)
   exact⟨_,q,hd⟩
  ·exact⟨o,keep c o (I.Ut x c e) hc nch ho (I.tP x c e),hd⟩
 refine⟨I.ok,I.os,hg,⟨λb o e n hb hx=> ?_,λb o e n hb hx=> ?_,λb o e n hx=> ?_,λb o e hx=> ?_,λb xs e=>AX b xs (I.base.AX b xs e),λb o xs e=>xG b o xs (I.base.xG b o xs e),λb ps e=> ?_⟩,?_,λx c e=> ?_,?_,λx c e=> ?_,λp hp=> ?_,ko,I.len⟩
 ·exact keep b o (neL b o e) hb (neC b o e hx) (I.base.keep b o e n hb hx) (I.base.free b o e n hx)
 ·obtain⟨sl,e1⟩:=I.base.slot b o e n hb hx
  obtain⟨sl',e2⟩:=slot b _ (neL b o e) hb (neC b o e hx) e1 (I.base.free b o e n hx)
  exact⟨sl',e2⟩
 ·obtain⟨o',e1⟩:=I.base.there b o e hx
  exact free b o' (neC b o e hx) e1 (I.base.free b o e n hx)
 ·obtain⟨o',e1⟩:=I.base.there b o e hx
  exact there b o' (neC b o e hx) e1
 ·obtain⟨m1,e1⟩:=I.base.zv b ps e
  obtain⟨m2,e2⟩:=zv b _ e1
  exact⟨m1++m2,by rw[e2,gY]⟩
 ·obtain⟨m,hn,hl⟩:=I.loc
  refine⟨m,ns m hn,λi x v e1 e2 e3=> ?_⟩
  obtain⟨u,r,l⟩:=hl i x v e1 e2 e3
  refine⟨u,r,?_⟩
  rcases l with l|⟨k,c,e,z⟩
  ·exact .inl l
  ·exact .inr ⟨k,c,e,cellK x c e _ z⟩
 ·obtain⟨v,z⟩:=I.cell x c e
  exact⟨v,cellK x c e v z⟩
 ·obtain⟨m,⟨o,_,_,ho,_⟩,_⟩:=I.loc
  exact free _ o (λz=>(hch _ z).2.1 rfl) ho I.free
 ·obtain⟨v,o,ho,hd⟩:=I.cell x c e
  exact free c o (λz=>(hch c z).2.2.1 x c e rfl) ho (I.tP x c e)
 ·obtain⟨e,n,ne,nf,d⟩:=I.pin p hp
  have nch:p.1∉ch:=λz=>(hch p.1 z).2.2.2 p hp rfl
  exact⟨keep p.1 p.2 ne nf nch e n,free p.1 p.2 nch e n,ne,nf,d⟩
theorem Inv.un{t':Nat}(I:Inv X pins σ H s)(u:Un X.fs [] H H' s.heap h')(ko:wa X.prog X.w H' h'):Inv X pins σ H' {s with heap:=h',toks:=t'}:=by
 obtain⟨m,⟨o,es,ep,ho,r⟩,_⟩:=id I.loc
 obtain⟨sl,hL⟩:=u.any ho I.free (by simp)
 exact I.step (g':=s.gens) (d':=s.drawn) (ch:=[]) (λ_ z=>nomatch z) (λb o _ hb _ e n=>u.keep b o e n hb (by simp)) (λb o _ hb _ e n=>u.slot b o e n hb (by simp)) (λb o _ e n=>u.free b o e n (by simp)) (λb o _ e=>u.there b o e (by simp)) u.AX u.xG u.zv (λm' hm=>by
  obtain⟨o',es',ep',ho',r'⟩:=hm
  rw[ho]at ho';cases ho'
  exact⟨_,es',ep',hL,r'⟩) ko I.bare
theorem Inv.call{g':Array GenState}{t':Nat}{d':Drawn}{ch:List Addr}(I:Inv X pins σ H s)(u:Un (EC X.stack) ch H H' s.heap h')(ko:wa X.prog X.w H' h')(hg:AllBare g')
  (hch:∀b∈ch,(b∈X.ex∨X.s₀.heap.objs.size<=b)/\b≠X.env.locals/\(∀x c,X.env.cells.lookup x=some c->c≠b)/\∀p∈X.pn++pins,p.1≠b):
  Inv X pins σ H' {s with heap:=h',gens:=g',drawn:=d',toks:=t'}:=by
 obtain⟨m,⟨o,es,ep,ho,r⟩,_⟩:=id I.loc
 obtain⟨sl,hL⟩:=u.any ho I.free λz=>(hch _ z).2.1 rfl
 exact I.step (ch:=ch) hch (λb o hL hb hc e n=>u.keep b o e n (λz=>(List.mem_cons.mp (I.Ht b z)).elim hL hb) hc) (λb o _ _ hc e n=>u.any e n hc) (λb o hc e n=>u.free b o e n hc) (λb o hc e=>u.there b o e hc) u.AX u.xG u.zv (λm' hm=>by
  obtain⟨o',es',ep',ho',r'⟩:=hm
  rw[ho]at ho';cases ho'
  exact⟨_,es',ep',hL,r'⟩) ko hg
theorem Inv.turned{t':Nat}{it:Addr}(I:Inv X pins σ H s)(k:∀b o,b≠it->s.heap.get? b=some o->h'.get? b=some o)(hn:H it=none)(hL:it≠X.env.locals)
  (h1:it∈X.ex∨X.s₀.heap.objs.size<=it) (h2:∀x c,X.env.cells.lookup x=some c->c≠it) (h3:∀p∈X.pn++pins,p.1≠it):Inv X pins σ H {s with heap:=h',toks:=t'}:=by
 have nit:∀b u,H b=some u->b≠it:=λb u e z=>by rw[z,hn]at e;cases e
 refine I.step (g':=s.gens) (d':=s.drawn) (ch:=[it]) (λb hb=> ?_) (λb o _ _ hc e _=>k b o (λz=>hc (by simp[z])) e) (λb o _ _ hc e _=>⟨o.slots,k b o (λz=>hc (by simp[z])) e⟩) (λ_ _ _ _ n=>n)
  (λb o hc e=>⟨o,k b o (λz=>hc (by simp[z])) e⟩) (λ_ _ e=>e) (λ_ _ _ e=>e) (λb ps e=>⟨#[],by rw[e];simp⟩) (λm hm=> ?_) (λb u e=> ?_) I.bare
 ·have e:b=it:=by simpa using hb
  subst e
  exact⟨h1,hL,h2,h3⟩
 ·obtain⟨o,es,ep,ho,r⟩:=hm
  exact⟨o,es,ep,k _ o (aC hL) ho,r⟩
 ·refine(I.ko b u e).zt (λc v hc q=>k c v ?_ q) (λ_ q=>q) λ_ _ q=>q
  rcases hc with z|z
  ·rw[z];exact nit b u e
  ·exact nit c _ z
theorem Inv.tok(I:Inv X pins σ H s)(t:Nat):Inv X pins σ H {s with toks:=t}:=I.un (h':=s.heap) (t':=t) Un.refl I.ko
theorem Inv.kept{t':Nat}(I:Inv X pins σ H s)(k:∀b u,s.heap.get? b=some u->h'.get? b=some u):Inv X pins σ H {s with heap:=h',toks:=t'}:=I.un (Un.kept k) (I.ko.kept k)
theorem Inv.laid{a:Addr}{o:HO}{t':Nat}(I:Inv X pins σ H s)(k:∀b u,s.heap.get? b=some u->h'.get? b=some u)(hp:s.heap.objs.size<=a)(new:l9 X.prog X.w (upd H a o) h' a o):
  Inv X pins σ (upd H a o) {s with heap:=h',toks:=t'}:=I.un (Un.laid k hp (I.ko.fresh hp)) (I.ko.laid k hp new)
theorem Inv.write{x e:Addr}{o:HO}{t':Nat}(I:Inv X pins σ H s)(mu:WI (H x))(he:e=x∨H e=some (.own x))(k:∀b u,b≠e->s.heap.get? b=some u->h'.get? b=some u)(heo:∃u,h'.get? e=some u)
  (new:l9 X.prog X.w (upd H x o) h' x o):Inv X pins σ (upd H x o) {s with heap:=h',toks:=t'}:=I.un (Un.write mu he k heo) (I.ko.write mu he k heo new)
theorem Inv.Dv{pins':List (Addr×Obj)}(I:Inv X pins σ H s)(h:∀p∈pins',s.heap.get? p.1=some p.2/\H p.1=none/\p.1≠X.env.locals/\p.1∉X.fs/\∀v,p.2.data≠ .cell v):Inv X pins' σ H s:=
 ⟨I.ok,I.os,I.bare,I.base,I.loc,I.cell,I.free,I.tP,λp hp=>(List.mem_append.mp hp).elim (λz=>I.pin p (bj _ z)) (h p),I.ko,I.len⟩
theorem MR{N:List Str}(hN:N.Nodup){i j:Nat}{x:Str}(a:N[i]? =some x)(b:N[j]? =some x):i=j:=by
 obtain⟨h1,e1⟩:=List.getElem?_eq_some_iff.mp a
 obtain⟨h2,e2⟩:=List.getElem?_eq_some_iff.mp b
 exact(List.getElem_inj hN).mp (e1.trans e2.symm)
theorem JN{M:Model}{A:Around}{E:Value->Shared->Prop}{i:Nat}{x:Str}{v:V}{u:Value}{Q:Unit->Shared->Prop}(I:Inv X pins σ H s)(hN:X.N.Nodup)(hi:X.N[i]? =some x)(hx:Loc X.env.scope x)(r:RelV v u)
  (h:∀s',Inv X pins (σ.set i (some v)) H s'->(∃a,eG a s.heap s'.heap/\(a=X.env.locals∨X.env.cells.lookup x=some a))->Q () s') (hf:X.fn x=true∨X.env.scope.names.lookup x=some .local:=by first|exact .inl rfl|exact .inr rfl|assumption):wpAny M A (storeName X.env x u) Q E s:=by
 obtain⟨m,hn,hl⟩:=id I.loc
 have hcls:(X.env.scope.kind== .class ||(X.env.scope.kind== .module&&X.env.locals !=X.env.globals))=false:=by rw[I.ok.kind];rfl
 have hiσ:i<σ.length:=by rw[I.len];exact(List.getElem?_eq_some_iff.mp hi).1
 have Ut:=I.Ut
 have tracked:∀{a:Addr} {h':Heap},(∃o,s.heap.get? a=some o/\H a=none)->eG a s.heap h'->wa X.prog X.w H h':=λ{a h'} ha hs b ob e=>by
  obtain⟨_,_,hfree⟩:=ha
  refine(I.ko b ob e).zt (λc w' hc q=>(hs.2 c ?_).trans q) (λ_ q=>q) λ_ _ q=>q
  rintro rfl
  rcases hc with rfl|hc
  ·rw[hfree]at e;cases e
  ·rw[hfree]at hc;cases hc
 rcases hx with hk|hk
 ·refine wpAny_storeName_local hk hn (λh' hn' hs=> ?_) hcls
  obtain⟨oL,_,_,hoL,_⟩:=id hn
  refine h _ ⟨I.ok,I.os,I.bare,⟨λb o e n hb hx=> ?_,λb o e n hb hx=> ?_,I.base.free,λb o e hx=> ?_,I.base.AX,I.base.xG,I.base.zv⟩,⟨_,hn',λj y v' e1 e2 e3=> ?_⟩,λy c e=> ?_,I.free,I.tP,λp hp=> ?_,tracked ⟨oL,hoL,I.free⟩ hs,by simpa using I.len⟩ ⟨_,hs,.inl rfl⟩
  ·exact(hs.2 b (bA (aK (aU e) I.ok.above))).trans (I.base.keep b o e n hb hx)
  ·obtain⟨sl,e1⟩:=I.base.slot b o e n hb hx
   exact⟨sl,(hs.2 b (bA (aK (aU e) I.ok.above))).trans e1⟩
  ·obtain⟨o',e1⟩:=I.base.there b o e hx
   exact⟨o',(hs.2 b (bA (aK (aU e) I.ok.above))).trans e1⟩
  ·by_cases hj:j=i
   ·subst hj
    rw[hi]at e1;cases e1
    rw[gh hiσ]at e2
    cases e2
    exact⟨u,r,.inl ⟨hk,by simp⟩⟩
   ·rw[gF (aC hj)]at e2
    obtain⟨u',r',q⟩:=hl j y v' e1 e2 e3
    refine⟨u',r',?_⟩
    rcases q with ⟨k,e⟩|⟨k,c,e,z⟩
    ·refine .inl ⟨k,?_⟩
     have:y≠x:=λe=>hj (MR hN e1 (e▸hi))
     simp[this,e]
    ·exact .inr ⟨k,c,e,z.sameBut hs (Ut y c e)⟩
  ·obtain⟨w',z⟩:=I.cell y c e
   exact⟨w',z.sameBut hs (Ut y c e)⟩
  ·obtain⟨e,n,ne,nf,d⟩:=I.pin p hp
   exact⟨(hs.2 p.1 ne).trans e,n,ne,nf,d⟩
 ·have hfn:X.fn x=true:=by
   rcases hf with z|z
   ·exact z
   ·rw[z]at hk;cases hk
  obtain⟨c,hc⟩:=I.ok.has x (.inl hk)
  obtain⟨w',z⟩:=I.cell x c hc
  refine wpAny_storeName_cell I.ok.kind hk hc z (λh' hc' hs=> ?_)
  obtain⟨oc,hoc,hocd⟩:=id z
  refine h {s with heap:=h'} ⟨I.ok,I.os,I.bare,⟨λb o e n hb hx=> ?_,λb o e n hb hx=> ?_,I.base.free,λb o e hx=> ?_,I.base.AX,I.base.xG,I.base.zv⟩,⟨m,hn.sameBut hs (aC (Ut x c hc)),λj y v' e1 e2 e3=> ?_⟩,λy c' e=> ?_,I.free,I.tP,λp hp=> ?_,tracked ⟨oc,hoc,I.tP x c hc⟩ hs,by simpa using I.len⟩ ⟨c,hs,.inr hc⟩
  ·exact(hs.2 b (bA (aK (aU e) (I.ok.U9 x c hfn hc)))).trans (I.base.keep b o e n hb hx)
  ·obtain⟨sl,e1⟩:=I.base.slot b o e n hb hx
   exact⟨sl,(hs.2 b (bA (aK (aU e) (I.ok.U9 x c hfn hc)))).trans e1⟩
  ·obtain⟨o',e1⟩:=I.base.there b o e hx
   exact⟨o',(hs.2 b (bA (aK (aU e) (I.ok.U9 x c hfn hc)))).trans e1⟩
  ·by_cases hj:j=i
   ·subst hj
    rw[hi]at e1;cases e1
    rw[gh hiσ]at e2
    cases e2
    exact⟨u,r,.inr ⟨.inl hk,c,hc,hc'⟩⟩
   ·rw[gF (aC hj)]at e2
    obtain⟨u',r',q⟩:=hl j y v' e1 e2 e3
    refine⟨u',r',?_⟩
    rcases q with q|⟨k,c',e,z'⟩
    ·exact .inl q
    ·refine .inr ⟨k,c',e,z'.sameBut hs ?_⟩
     rintro rfl
     exact hj (MR hN e1 (I.ok.inj _ _ _ e hc▸hi))
  ·by_cases hcc:c'=c
   ·subst hcc;exact⟨_,hc'⟩
   ·obtain⟨w2,z2⟩:=I.cell y c' e
    exact⟨w2,z2.sameBut hs hcc⟩
  ·obtain⟨e,n,ne,nf,d⟩:=I.pin p hp
   refine⟨(hs.2 p.1 ?_).trans e,n,ne,nf,d⟩
   intro q
   rw[q,hoc]at e
   have q':oc=p.2:=bg e
   exact d w' (by rw[←q'];exact hocd)
theorem Ni{M:Model}{A:Around}{E:Value->Shared->Prop}{i:Nat}{x:Str}{v:V}{u:Value}{Q:Unit->Shared->Prop}(I:Inv X pins σ H s)(hN:X.N.Nodup)(hi:X.N[i]? =some x)(hx:Loc X.env.scope x)(r:RelV v u)
  (h:∀s',Inv X pins (σ.set i (some v)) H s'->Q () s') (hf:X.fn x=true∨X.env.scope.names.lookup x=some .local:=by first|exact .inl rfl|exact .inr rfl|assumption):wpAny M A (storeName X.env x u) Q E s:=
 JN I hN hi hx r (λs' I' _=>h s' I') hf
theorem Inv.Us{s':Shared}{ch:List Addr}(I:Inv X pins σ H s)(ho:s'.os=s.os)(u:Un (EC X.stack) ch H H' s.heap s'.heap)(ko:wa X.prog X.w H' s'.heap)(hg:AllBare s'.gens)
  (hch:∀b∈ch,(b∈X.ex∨X.s₀.heap.objs.size<=b)/\b≠X.env.locals/\(∀x c,X.env.cells.lookup x=some c->c≠b)/\∀p∈X.pn++pins,p.1≠b):Inv X pins σ H' s':=by
 obtain⟨h',g',d',t',o'⟩:=s'
 have e:o'=s.os:=ho
 subst e
 exact I.call (g':=g') (t':=t') (d':=d') u ko hg hch
end
noncomputable abbrev XK:=Value->Option Addr->Hp->Prop
noncomputable abbrev St:=List (Option V)
noncomputable abbrev VK:=V->Hp->Prop
noncomputable abbrev TE:=St->Hp->VK->Prop
noncomputable abbrev TT:=St->Hp->(Bool->Hp->Prop)->Prop
noncomputable abbrev TA:=St->Hp->(List V->Hp->Prop)->Prop
structure Ends where
 nx:St->Hp->Prop
 rt:VK
 bk:St->Hp->Prop:=λ_ _=>False
 ct:St->Hp->Prop:=λ_ _=>False
noncomputable abbrev TS:=Ends->St->Hp->Prop
noncomputable def EP (X:Cx) (pins:List (Addr×Obj)) (σ:St) (Q:VK) (u:Value) (s':Shared):Prop:=∃v H',Inv X pins σ H' s'/\RelV v u/\Q v H'
noncomputable def TP (X:Cx) (pins:List (Addr×Obj)) (σ:St) (Q:Bool->Hp->Prop) (b:Bool) (s':Shared):Prop:=∃H',Inv X pins σ H' s'/\Q b H'
noncomputable def AP (X:Cx) (pins:List (Addr×Obj)) (σ:St) (Q:List V->Hp->Prop) (us:List Value) (s':Shared):Prop:=∃vs H',Inv X pins σ H' s'/\Vals vs us/\Q vs H'
noncomputable def SP (X:Cx) (pins:List (Addr×Obj)) (D:Ends) (f:Flow) (s':Shared):Prop:=
 match f with
 | .next=>∃σ' H',Inv X pins σ' H' s'/\D.nx σ' H'
 | .brk=>∃σ' H',Inv X pins σ' H' s'/\D.bk σ' H'
 | .cont=>∃σ' H',Inv X pins σ' H' s'/\D.ct σ' H'
 | .ret u=>∃v σ' H',Inv X pins σ' H' s'/\RelV v u/\D.rt v H'
noncomputable def PE (X:Cx) (e:Expr) (t:TE):Prop:=
 ∀(pins:List (Addr×Obj)) (s:Shared) (σ:St) (H:Hp) (Q:VK),Inv X pins σ H s->t σ H Q->wpAny (model X.prog X.w) X.A (eval e X.env) (EP X pins σ Q) X.xe s
noncomputable def PT (X:Cx) (e:Expr) (t:TT):Prop:=
 ∀(pins:List (Addr×Obj)) (s:Shared) (σ:St) (H:Hp) (Q:Bool->Hp->Prop),Inv X pins σ H s->t σ H Q->wpAny (model X.prog X.w) X.A (isTrue e X.env (eval e X.env)) (TP X pins σ Q) X.xe s
noncomputable def PW (X:Cx) (e:Expr) (t:TT):Prop:=
 ∀(whole:Sem Value) (pins:List (Addr×Obj)) (s:Shared) (σ:St) (H:Hp) (Q:Bool->Hp->Prop),Inv X pins σ H s->t σ H Q->wpAny (model X.prog X.w) X.A (isTrue e X.env whole) (TP X pins σ Q) X.xe s
theorem PW.pt{X:Cx}{e:Expr}{t:TT}(h:PW X e t):PT X e t:=h _
noncomputable def PA (X:Cx) (es:List Expr) (t:TA):Prop:=
 ∀(pos:Pos) (pins:List (Addr×Obj)) (s:Shared) (σ:St) (H:Hp) (Q:List V->Hp->Prop),Inv X pins σ H s->t σ H Q->wpAny (model X.prog X.w) X.A (spliced (backTo pos (starEach es X.env))) (AP X pins σ Q) X.xe s
noncomputable def PS (X:Cx) (st:Stmt) (t:TS):Prop:=
 ∀(pins:List (Addr×Obj)) (s:Shared) (σ:St) (H:Hp) (D:Ends),Inv X pins σ H s->t D σ H->wpAny (model X.prog X.w) X.A (exec st X.env) (SP X pins D) X.xe s
noncomputable def NC (X:Cx) (st:List Stmt) (t:TS):Prop:=
 ∀(pins:List (Addr×Obj)) (s:Shared) (σ:St) (H:Hp) (D:Ends),Inv X pins σ H s->t D σ H->wpAny (model X.prog X.w) X.A (execs st X.env) (SP X pins D) X.xe s
theorem oh{α:Type}{t:Sem α}{Q Q':α->Shared->Prop}{M:Model}{A:Around}{E:Value->Shared->Prop}{s:Shared}(h:wpAny M A t Q E s)(hQ:∀a s,Q a s->Q' a s):wpAny M A t Q' E s:=wpAny_mono h hQ λ_ _ x=>x
end L2
namespace L2
open PySem PySem.Spec PyProof.Rows
section
variable{X:Cx}
noncomputable def Zf (i:Nat):TE:=λσ H Q=>∃v,σ[i]? =some (some v)/\Q v H
noncomputable def tC (v:V):TE:=λ_ H Q=>Q v H
theorem RQ{i:Nat}{x:Str}{pos:Pos}(hN:X.N[i]? =some x)(hv:WB X.env.scope x)(hd:(x==("__debug__":Str))=false:=by decide)(hcd:(x==("__classdict__":Str))=false:=by decide):PE X (.Name x pos) (Zf i):=by
 intro pins s σ H Q I h
 obtain⟨v,e,h⟩:=h
 obtain⟨m,hn,hl⟩:=I.loc
 obtain⟨u,r,l⟩:=hl i x v hN e hv
 have fin:EP X pins σ Q u s:=⟨v,H,I,r,h⟩
 rcases l with ⟨hk,hm⟩|⟨hk,c,hc,hcell⟩
 ·exact wpAny_Name (wpAny_loadName_local I.ok.kind hk hn hm fin) hd
 ·rcases hk with hk|hk
  ·exact wpAny_Name (wpAny_loadName_cell I.ok.kind hk hc hcell fin) hd
  ·exact wpAny_Name (wpAny_loadName_free I.ok.kind hk hc hcell fin hcd) hd
theorem VW{i j pos}:PE X (.Constant (.int i) j pos) (tC (.int i)):=λ_ _ _ H _ I h=>wpAny_Constant_int ⟨.int i,H,I.tok _,⟨_,rfl⟩,h⟩
theorem XM{b j pos}:PE X (.Constant (.bool b) j pos) (tC (.bl b)):=λ_ _ _ H _ I h=>Constant_bool ⟨.bl b,H,I,rfl,h⟩
theorem VY{j pos}:PE X (.Constant .none j pos) (tC .kT):=λ_ _ _ H _ I h=>Constant_none ⟨.kT,H,I,rfl,h⟩
theorem V1{x j pos}:PE X (.Constant (.str x) j pos) (tC (.str x)):=λ_ _ _ H _ I h=>Calls.Constant_str ⟨.str x,H,I.tok _,⟨_,rfl⟩,h⟩
noncomputable def Gl (X:Cx) (x:Str):Prop:=X.env.kindOf x=some .globalImplicit
theorem Di{E:Value->Shared->Prop}{pins:List (Addr×Obj)}{s:Shared}{σ:St}{H:Hp}{x:Str}{u:Value}{pos:Pos}{Q:Value->Shared->Prop}(I:Inv X pins σ H s)(hg:Gl X x)(hm:X.mg x=some u)(h:Q u s)
  (hd:(x==("__debug__":Str))=false:=by decide):wpAny (model X.prog X.w) X.A (eval (.Name x pos) X.env) Q E s:=
 fI I.ok.kind hg (Calls.loadGlobal_global (by rw[I.ok.glob];exact I.mod.glob.keeps I.bk) hm h) hd
theorem z7{E:Value->Shared->Prop}{pins:List (Addr×Obj)}{s:Shared}{σ:St}{H:Hp}{x:Str}{u:Value}{pos:Pos}{Q:Value->Shared->Prop}(I:Inv X pins σ H s)(hg:Gl X x)(hm:X.mg x=none)(hv:bootBuiltins x=some u)(h:Q u s)
  (hn:x≠"__name__":=by decide) (hd:(x==("__debug__":Str))=false:=by decide):wpAny (model X.prog X.w) X.A (eval (.Name x pos) X.env) Q E s:=by
 obtain⟨mb,h1,h2⟩:=I.mod.blt
 exact fI I.ok.kind hg (Calls.loadGlobal_builtin (by rw[I.ok.glob];exact I.mod.glob.keeps I.bk) hm (by rw[I.ok.blt];exact h1.keeps I.bk) ((h2 x hn).trans hv) h) hd
theorem TN{x:Str}{v:V}{u:Value}{pos:Pos}(hg:Gl X x)(hm:X.mg x=some u)(r:RelV v u)(hd:(x==("__debug__":Str))=false:=by decide):PE X (.Name x pos) (tC v):=
 λ_ _ _ H _ I h=>Di I hg hm ⟨v,H,I,r,h⟩ hd
theorem TJ{x:Str}{v:V}{u:Value}{pos:Pos}(hg:Gl X x)(hm:X.mg x=none)(hv:bootBuiltins x=some u)(r:RelV v u)(hn:x≠"__name__":=by decide)(hd:(x==("__debug__":Str))=false:=by decide):PE X (.Name x pos) (tC v):=
 λ_ _ _ H _ I h=>z7 I hg hm hv ⟨v,H,I,r,h⟩ hn hd
variable{a b:Expr}{ta tb:TE}{pos:Pos}
variable{tA tB':TT}{rest:List Expr}
noncomputable def zu (t u:TT):TT:=λσ H Q=>t σ H λc H1=>if c=true then u σ H1 Q else Q false H1
noncomputable def Pt (t u:TT):TT:=λσ H Q=>t σ H λc H1=>if c=true then Q true H1 else u σ H1 Q
noncomputable def q9 (t:TT):TT:=λσ H Q=>t σ H λc H1=>Q (!c) H1
theorem T5(ha:PT X a tA):PW X (.BoolOp .And [a] pos) tA:=by
 intro wh pins s σ H Q I h
 refine isTrue_and (oh (ha pins s σ H Q I h) λc s1 e=> ?_)
 cases c with
 |true=>exact isTrue_and_nil e
 |false=>exact e
theorem Wa(ha:PT X a tA):PW X (.BoolOp .Or [a] pos) tA:=by
 intro wh pins s σ H Q I h
 refine isTrue_or (oh (ha pins s σ H Q I h) λc s1 e=> ?_)
 cases c with
 |false=>exact isTrue_or_nil e
 |true=>exact e
theorem V_(ha:PT X a tA)(hb:PW X (.BoolOp .And (b::rest) pos) tB'):PW X (.BoolOp .And (a::b::rest) pos) (zu tA tB'):=by
 intro wh pins s σ H Q I h
 refine isTrue_and (oh (ha pins s σ H _ I h) λc s1 ⟨H1,I1,q1⟩=> ?_)
 cases c with
 |true=>exact hb wh pins s1 σ H1 Q I1 q1
 |false=>exact⟨H1,I1,q1⟩
theorem XU(ha:PT X a tA)(hb:PW X (.BoolOp .Or (b::rest) pos) tB'):PW X (.BoolOp .Or (a::b::rest) pos) (Pt tA tB'):=by
 intro wh pins s σ H Q I h
 refine isTrue_or (oh (ha pins s σ H _ I h) λc s1 ⟨H1,I1,q1⟩=> ?_)
 cases c with
 |true=>exact⟨H1,I1,q1⟩
 |false=>exact hb wh pins s1 σ H1 Q I1 q1
theorem V9(ha:PT X a tA):PT X (.UnaryOp .Not a pos) (q9 tA):=by
 intro pins s σ H Q I h
 exact isTrue_not (ha pins s σ H (λc H1=>Q (!c) H1) I h)
noncomputable def Nj (ta tb:TE):TE:=λσ H Q=>ta σ H λx H1=>∃c,x= .bl c/\if c=true then tb σ H1 Q else Q (.bl false) H1
noncomputable def Sa (ta:TE):TE:=λσ H Q=>ta σ H λx H1=>∃c,x= .bl c/\Q (.bl (!c)) H1
theorem V0{op}{t:TE}(h:PE X a t):PE X (.BoolOp op [a] pos) t:=λpins s σ H Q I hw=>BoolOp_one (h pins s σ H Q I hw)
theorem VU(ha:PE X a ta)(hb:PE X (.BoolOp .And (b::rest) pos) tb):PE X (.BoolOp .And (a::b::rest) pos) (Nj ta tb):=by
 intro pins s σ H Q I h
 refine BoolOp_and (oh (ha pins s σ H _ I h) λv s1 ⟨x,H1,I1,r1,q1⟩=> ?_)
 obtain⟨c,rfl,q1⟩:=q1
 cases r1
 refine wpAny_truthy_bool ?_
 cases c with
 |true=>exact hb pins s1 σ H1 Q I1 q1
 |false=>exact⟨.bl false,H1,I1,rfl,q1⟩
theorem VZ(ha:PE X a ta):PE X (.UnaryOp .Not a pos) (Sa ta):=by
 intro pins s σ H Q I h
 refine UnaryOp_ (oh (ha pins s σ H _ I h) λv s1 ⟨x,H1,I1,r1,q1⟩=> ?_)
 obtain⟨c,rfl,q1⟩:=q1
 cases r1
 exact not_of (wpAny_truthy_bool ⟨.bl (!c),H1,I1,rfl,q1⟩)
end
end L2
namespace L2
open PySem PySem.Spec PyProof.Rows
noncomputable def mj (K:aA) (H:Hp) (a:Addr) (xs:List V):Prop:=
 Rd H a (.lst xs)∨
  ∃(o:Obj) (its:Array Value) (n:Nat),K.lookup a=some o/\o.cls= .type "list"/\o.dict=none/\o.data= .seq its n/\its.size<=sizeLine/\Vals xs its.toList
noncomputable def JV (K:aA) (H:Hp) (a:Addr) (xs:List V):Prop:=
 Rd H a (.tup xs)∨
  ∃(o:Obj) (its:Array Value) (n:Nat),K.lookup a=some o/\o.cls= .type "tuple"/\o.data= .seq its n/\its.size<=sizeLine/\Vals xs its.toList
noncomputable def Yr:Value->Option V
 | .none=>some .kT
 | .bool b=>some (.bl b)
 | .int i _=>some (.int i)
 | .str x _=>some (.str x)
 | .bytes b _=>some (.byt b)
 | .float b _=>some (.Nu b)
 | .ref a=>some (.ref a)
 | .type n=>some (.ty n)
 |_=>none
theorem RelV.abs{x:V}{u:Value}(r:RelV x u):Yr u=some x:=by
 cases x with
 |kT=>cases r;rfl
 |bl _=>cases r;rfl
 |int _=>obtain⟨t,rfl⟩:=r;rfl
 |str _=>obtain⟨t,rfl⟩:=r;rfl
 |byt _=>obtain⟨t,rfl⟩:=r;rfl
 |Nu _=>obtain⟨t,rfl⟩:=r;rfl
 |ref _=>cases r;rfl
 |ty _=>cases r;rfl
theorem RelV.inj{x y:V}{u:Value}(r:RelV x u)(q:RelV y u):x=y:=bg (r.abs.symm.trans q.abs)
theorem Vals.inj:∀{xs ys:List V} {us:List Value},Vals xs us->Vals ys us->xs=ys
 |_,_,_,.nil,.nil=>rfl
 |_,_,_,.cons r t,.cons r' t'=>by rw[r.inj r',Vals.inj t t']
section
variable{X:Cx}{pins:List (Addr×Obj)}{σ:St}{H:Hp}{s:Shared}{a:Addr}{xs ys:List V}
theorem mj.of{K:aA}(h:H a=some (.lst xs)):mj K H a xs:= .inl (.inl h)
theorem JV.of{K:aA}(h:H a=some (.tup xs)):JV K H a xs:= .inl (.inl h)
theorem Inv.list(I:Inv X pins σ H s)(h:mj X.K H a xs):∃its:List Value,Vals xs its/\PlainL s.heap a its.toArray/\xs.length<=sizeLine:=by
 rcases h with h|⟨o,its,n,hk,hc,hd,hs,hz,r⟩
 ·obtain⟨z,its,n,r,e⟩:=h.ok I.ko
  exact⟨its,r,⟨_,n,e,rfl,rfl,rfl⟩,z⟩
 ·refine⟨its.toList,r,⟨o,n,I.CD a o hk,hc,hd,by simpa using hs⟩,?_⟩
  have e:=r.length
  simp only[gL]at e
  lia
theorem Inv.tuple(I:Inv X pins σ H s)(h:JV X.K H a xs):∃its:List Value,Vals xs its/\IsTup s.heap a its.toArray/\xs.length<=sizeLine:=by
 rcases h with h|⟨o,its,n,hk,hc,hs,hz,r⟩
 ·obtain⟨z,its,r,p⟩:=h.ok I.ko
  exact⟨its,r,p,z⟩
 ·refine⟨its.toList,r,⟨o,I.CD a o hk,hc,n,by simpa using hs⟩,?_⟩
  have e:=r.length
  simp only[gL]at e
  lia
theorem Inv.MK(I:Inv X pins σ H s)(h:mj X.K H a xs)(h':mj X.K H a ys):xs=ys:=by
 obtain⟨its,r,⟨o,n,e,_,_,d⟩,_⟩:=I.list h
 obtain⟨its',r',⟨o',n',e',_,_,d'⟩,_⟩:=I.list h'
 rw[e]at e';cases e'
 rw[d]at d'
 injection d' with d1 _
 have:its=its':=by simpa using congrArg Array.toList d1
 subst this
 exact r.inj r'
end
noncomputable abbrev Cx.Bn (X:Cx) (E:Value->Shared->Prop):Cx:={X with xe:=E}
theorem Cx.Ok.Bn{X:Cx}(ok:X.Ok)(E:Value->Shared->Prop):(X.Bn E).Ok:=
 ⟨ok.mod,ok.kind,ok.glob,ok.blt,ok.above,ok.inj,ok.has,ok.U9,ok.hd,ok.frames,ok.X0,ok.YB,ok.bs,ok.PF,ok.GU,ok.Q4,ok.Bl,ok.SD⟩
theorem Cx.Ok.xB{X:Cx}{E:Value->Shared->Prop}(ok:(X.Bn E).Ok):X.Ok:=
 ⟨ok.mod,ok.kind,ok.glob,ok.blt,ok.above,ok.inj,ok.has,ok.U9,ok.hd,ok.frames,ok.X0,ok.YB,ok.bs,ok.PF,ok.GU,ok.Q4,ok.Bl,ok.SD⟩
section
variable{X:Cx}{pins:List (Addr×Obj)}{σ:St}{H:Hp}{s:Shared}{E:Value->Shared->Prop}
theorem Inv.Bn(I:Inv X pins σ H s)(E:Value->Shared->Prop):Inv (X.Bn E) pins σ H s:=⟨I.ok.Bn E,I.os,I.bare,I.base,I.loc,I.cell,I.free,I.tP,I.pin,I.ko,I.len⟩
theorem Inv.xB(I:Inv (X.Bn E) pins σ H s):Inv X pins σ H s:=⟨I.ok.xB,I.os,I.bare,I.base,I.loc,I.cell,I.free,I.tP,I.pin,I.ko,I.len⟩
theorem SP.xB{D:Ends}{f:Flow}{s':Shared}(h:SP (X.Bn E) pins D f s'):SP X pins D f s':=by
 cases f with
 |next=>obtain⟨σ',H',I,q⟩:=h;exact⟨σ',H',I.xB,q⟩
 |brk=>obtain⟨σ',H',I,q⟩:=h;exact⟨σ',H',I.xB,q⟩
 |cont=>obtain⟨σ',H',I,q⟩:=h;exact⟨σ',H',I.xB,q⟩
 |ret u=>obtain⟨v,σ',H',I,r,q⟩:=h;exact⟨v,σ',H',I.xB,r,q⟩
end
section
variable{X:Cx}{st:Stmt}{rest:List Stmt}{t u:TS}{e:Expr}{te:TE}{pos:Pos}
noncomputable def kj:TS:=λD σ H=>D.nx σ H
noncomputable def jM (t u:TS):TS:=λD σ H=>t {D with nx:=u D} σ H
theorem T2:NC X [] kj:=λ_ _ σ H _ I h=>wpAny_execs_nil ⟨σ,H,I,h⟩
theorem RZ(h1:PS X st t)(h2:NC X rest u):NC X (st::rest) (jM t u):=by
 intro pins s σ H D I h
 refine wpAny_execs_cons (oh (h1 pins s σ H {D with nx:=u D} I h) λf s1 q=> ?_)
 cases f with
 |next=>
  obtain⟨σ',H',I',q⟩:=q
  exact h2 pins s1 σ' H' D I' q
 |ret v=>exact q
 |brk=>exact q
 |cont=>exact q
theorem T3(h1:PS X st t):NC X [st] t:=by
 intro pins s σ H D I h
 refine wpAny_execs_cons (oh (h1 pins s σ H D I h) λf s1 q=> ?_)
 cases f with
 |next=>exact wpAny_execs_nil q
 |ret v=>exact q
 |brk=>exact q
 |cont=>exact q
theorem Inv.quiet{pins:List (Addr×Obj)}{σ:St}{H:Hp}{s:Shared}(I:Inv X pins σ H s):interactive X.env=false:=by simp[interactive,I.ok.kind]
noncomputable def jB (te:TE):TS:=λD σ H=>te σ H λ_ H1=>D.nx σ H1
theorem TY(he:PE X e te)(hs:swapsWith e none pos.line X.env=pure false:=by rfl):PS X (.Expr e pos) (jB te):=by
 intro pins s σ H D I h
 exact wpAny_Expr_any (oh (he pins s σ H _ I h) λv s1 ⟨x,H1,I1,r1,q1⟩=>⟨σ,H1,I1,q1⟩) I.quiet hs
noncomputable def kU (te:TE):TS:=λD σ H=>te σ H D.rt
theorem V7(he:PE X e te):PS X (.Return (some e) pos) (kU te):=by
 intro pins s σ H D I h
 exact wpAny_Return_some (oh (he pins s σ H _ I h) λv s1 ⟨x,H1,I1,r1,q1⟩=>⟨x,σ,H1,I1,r1,q1⟩)
noncomputable def Sb:TS:=λD _ H=>D.rt .kT H
theorem T1:PS X (.Return none pos) Sb:=λ_ _ σ H _ I h=>wpAny_Return_none ⟨.kT,σ,H,I,rfl,h⟩
noncomputable def kM (c:TT) (t u:TS):TS:=λD σ H=>c σ H λb H1=>if b=true then t D σ H1 else u D σ H1
theorem XT{c:Expr}{a b:List Stmt}{tc:TT}(hc:PT X c tc)(ha:NC X a t)(hb:NC X b u):PS X (.If c a b pos) (kM tc t u):=by
 intro pins s σ H D I h
 refine wpAny_If (oh (hc pins s σ H _ I h) λd s1 ⟨H1,I1,q1⟩=> ?_)
 cases d with
 |true=>exact ha pins s1 σ H1 D I1 q1
 |false=>exact hb pins s1 σ H1 D I1 q1
end
noncomputable abbrev TG:=V->St->Hp->(St->Hp->Prop)->Prop
noncomputable abbrev Sx:=List V->St->Hp->(St->Hp->Prop)->Prop
noncomputable def PG (X:Cx) (target:Expr) (t:TG):Prop:=
 ∀(pins:List (Addr×Obj)) (s:Shared) (σ:St) (H:Hp) (v:V) (u:Value) (Q:St->Hp->Prop),Inv X pins σ H s->RelV v u->t v σ H Q->
  wpAny (model X.prog X.w) X.A (assign target X.env u) (λ_ s'=>∃σ' H',Inv X pins σ' H' s'/\Q σ' H') X.xe s
noncomputable def WJ (X:Cx) (ts:List Expr) (t:Sx):Prop:=
 ∀(pins:List (Addr×Obj)) (s:Shared) (σ:St) (H:Hp) (vs:List V) (us:List Value) (Q:St->Hp->Prop),Inv X pins σ H s->Vals vs us->t vs σ H Q->
  wpAny (model X.prog X.w) X.A (assignInOrder ((assignEach ts X.env).map (·.2)) us) (λ_ s'=>∃σ' H',Inv X pins σ' H' s'/\Q σ' H') X.xe s
noncomputable abbrev Py:=V->V->V->Hp->(Hp->Prop)->Prop
noncomputable def SG (X:Cx) (t:Py):Prop:=
 ∀(pins:List (Addr×Obj)) (s:Shared) (σ:St) (H:Hp) (o i v:V) (ov iv u:Value) (Q:Hp->Prop),Inv X pins σ H s->RelV o ov->RelV i iv->RelV v u->t o i v H Q->
  wpAny (model X.prog X.w) X.A (setItem ov iv u) (λ_ s'=>∃H',Inv X pins σ H' s'/\Q H') X.xe s
section
variable{X:Cx}{pos:Pos}
noncomputable def jq (i:Nat):TG:=λv σ H Q=>Q (σ.set i (some v)) H
theorem Fy{i:Nat}{x:Str}(hN:X.N.Nodup)(hi:X.N[i]? =some x)(hx:Loc X.env.scope x)(hf:X.fn x=true∨X.env.scope.names.lookup x=some .local:=by first|exact .inl rfl|exact .inr rfl|assumption):PG X (.Name x pos) (jq i):=by
 intro pins s σ H v u Q I r h
 exact wpAny_assign_Name (Ni I hN hi hx r (λs' I'=>⟨_,H,I',h⟩) hf)
noncomputable def Td:Sx:=λvs σ H Q=>vs=[]/\Q σ H
noncomputable def Gh (t:TG) (u:Sx):Sx:=λvs σ H Q=>∃v r,vs=v::r/\t v σ H λσ' H'=>u r σ' H' Q
theorem Pd:WJ X [] Td:=by
 intro pins s σ H vs us Q I r h
 obtain⟨e,h⟩:=h
 subst e
 cases r
 exact assignInOrder_nil ⟨σ,H,I,h⟩
theorem G_{e:Expr}{es:List Expr}{t:TG}{u:Sx}(h1:PG X e t)(h2:WJ X es u)
  (hs:(assignEach (e::es) X.env).map (·.2)=assign e X.env::(assignEach es X.env).map (·.2):=by rfl):WJ X (e::es) (Gh t u):=by
 intro pins s σ H vs us Q I r h
 obtain⟨v,vr,e1,h⟩:=h
 subst e1
 cases r with
 |cons r rr=>
  rw[hs]
  refine assignInOrder_cons (oh (h1 pins s σ H _ _ _ I r h) λ_ s1 ⟨σ1,H1,I1,q1⟩=> ?_)
  exact h2 pins s1 σ1 H1 _ _ Q I1 rr q1
noncomputable def Te (K:aA) (n:Nat) (t:Sx):TG:=λv σ H Q=>∃a xs,v= .ref a/\JV K H a xs/\xs.length=n/\t xs σ H Q
theorem RS{es:List Expr}{k:Nat}{t:Sx}{n:Nat}(hc:X.calm=true)(h:WJ X es t)
  (hn:(assignEach es X.env).length=n:=by rfl) (hst:(assignEach es X.env).findIdx? (·.1)=none:=by rfl):PG X (.Tuple es k pos) (Te X.K n t):=by
 intro pins s σ H v u Q I r hw
 obtain⟨a,xs,e1,hq,hl,hw⟩:=hw
 subst e1
 cases r
 obtain⟨its,rv,ht,hz⟩:=I.tuple hq
 refine assign_Tuple_tuple (I.ok.hd hc) ht (by simp[hn,←hl,rv.length]) hst λh' hx=> ?_
 have I1:Inv X pins σ H {s with heap:=h'}:=I.kept (t':=s.toks) λb o e=>hx b o (bA (aU e)) e
 exact h pins _ σ H xs _ Q I1 (by simpa using rv) hw
noncomputable def E4 (to ti:TE) (t:Py):TG:=λv σ H Q=>to σ H λo H1=>ti σ H1 λi H2=>t o i v H2 λH3=>Q σ H3
theorem V3{o i:Expr}{to ti:TE}{t:Py}(ho:PE X o to)(hi:PE X i ti)(hs:SG X t)
  (ha:∀v,assign (.Subscript o i pos) X.env v=(do
   let ov←holding [v] (eval o X.env)
   let iv←holding [v,ov] (eval i X.env)
   standAt pos
   holding [v,ov,iv] (setItem ov iv v)
   release [v,ov,iv] []):=by intro _;rfl):PG X (.Subscript o i pos) (E4 to ti t):=by
 intro pins s σ H v u Q I r h
 rw[ha]
 refine wpAny_bind (wpAny_holding (oh (ho pins s σ H _ I h) λov s1 ⟨x,H1,I1,r1,q1⟩=> ?_))
 refine wpAny_bind (wpAny_holding (oh (hi pins s1 σ H1 _ I1 q1) λiv s2 ⟨y,H2,I2,r2,q2⟩=> ?_))
 refine wpAny_bind (wpAny_standAt (wpAny_bind (wpAny_holding (oh (hs pins s2 σ H2 x y v ov iv u _ I2 r1 r2 r q2) λ_ s3 ⟨H3,I3,q3⟩=> ?_))))
 exact wpAny_release ⟨σ,H3,I3,q3⟩
noncomputable def jX (te:TE) (g:TG):TS:=λD σ H=>te σ H λx H1=>g x σ H1 D.nx
theorem V5{tg e:Expr}{te:TE}{g:TG}(he:PE X e te)(hg:PG X tg g)(hs:swapsWithSole [tg] e pos.line X.env=pure false:=by rfl)(hw:swappedStores [tg] e X.env=pure none:=by rfl)
  (h1:(assignEach [tg] X.env).map (·.2)=[assign tg X.env]:=by rfl):PS X (.Assign [tg] e pos) (jX te g):=by
 intro pins s σ H D I h
 refine wpAny_Assign_stores (oh (he pins s σ H _ I h) λv s1 ⟨x,H1,I1,r1,q1⟩=> ?_) hs hw
 rw[h1]
 exact oh (hg pins s1 σ H1 x v _ I1 r1 q1) λ_ s2 q=>q
theorem V8{i:Nat}{x:Str}{e:Expr}{te:TE}{pos':Pos}(hN:X.N.Nodup)(hi:X.N[i]? =some x)(hx:Loc X.env.scope x)(he:PE X e te)(hs:swapsWith e (some (.Name x pos')) pos.line X.env=pure false:=by rfl)(hf:X.fn x=true∨X.env.scope.names.lookup x=some .local:=by first|exact .inl rfl|exact .inr rfl|assumption):
  PS X (.Assign [.Name x pos'] e pos) (jX te (jq i)):=by
 intro pins s σ H D I h
 refine wpAny_Assign_Name (oh (he pins s σ H _ I h) λv s1 ⟨y,H1,I1,r1,q1⟩=> ?_) hs
 exact Ni I1 hN hi hx r1 (λs2 I2=>⟨_,H1,I2,q1⟩) hf
end
section
variable{X:Cx}{pos:Pos}
noncomputable def Se (c:TT) (tb:TS):TS:=λD σ H=>∃W:Nat->St->Hp->Prop,(∃m,W m σ H)/\∀m σ H,W m σ H->
 c σ H λb H1=>if b=true then∃N:St->Hp->Prop,(∀σ' H',N σ' H'->∃m',m'<m/\W m' σ' H')/\tb {D with nx:=N,ct:=N,bk:=D.nx} σ H1 else D.nx σ H1
theorem RY{c:Expr}{body:List Stmt}{tc:TT}{tb:TS}(hp:PassesOwn (model X.prog X.w) X.A X.env X.xe)(hc:PT X c tc)(hb:NC X body tb):PS X (.While c body [] pos) (Se tc tb):=by
 intro pins s σ H D I h
 obtain⟨W,⟨m0,w0⟩,turn⟩:=h
 refine wpAny_While (codeAny_whileLoop (λn s'=>∃σ' H',Inv X pins σ' H' s'/\W n σ' H') ?_ m0 ⟨σ,H,I,w0⟩)
 rintro n s1 ⟨σ1,H1,I1,w1⟩
 refine wpAny_passesOwn hp (oh (hc pins s1 σ1 H1 _ I1 (turn n σ1 H1 w1)) λb s2 ⟨H2,I2,q2⟩=> ?_)
 cases b with
 |true=>
  obtain⟨N,hN,q2⟩:=q2
  rw[if_pos rfl]
  refine wpAny_passesOwn hp (oh (hb pins s2 σ1 H2 _ I2 q2) λf s3 q3=> ?_)
  cases f with
  |next=>
   obtain⟨σ3,H3,I3,n3⟩:=q3
   obtain⟨m',hm,w3⟩:=hN σ3 H3 n3
   exact⟨m',hm,σ3,H3,I3,w3⟩
  |cont=>
   obtain⟨σ3,H3,I3,n3⟩:=q3
   obtain⟨m',hm,w3⟩:=hN σ3 H3 n3
   exact⟨m',hm,σ3,H3,I3,w3⟩
  |brk=>exact q3
  |ret v=>exact q3
 |false=>
  rw[if_neg bp]
  exact wpAny_execs_nil ⟨σ1,H2,I2,q2⟩
end
structure It where
 go:Nat->Hp->Prop
 UK:Nat->Hp->V->Hp->Prop
 stop:Nat->Hp->Prop
noncomputable def DL (X:Cx) (pins:List (Addr×Obj)) (H:Hp) (b:Addr):Prop:=
 H b=none/\b≠X.env.locals/\b∉X.fs/\(b∈X.ex∨X.s₀.heap.objs.size<=b)/\(∀x c,X.env.cells.lookup x=some c->c≠b)/\∀p∈X.pn++pins,p.1≠b
theorem Inv.Q8{X:Cx}{pins:List (Addr×Obj)}{σ:St}{H H':Hp}{s:Shared}{b:Addr}(I:Inv X pins σ H s)(hb:s.heap.objs.size<=b)(hn:H' b=none):DL X pins H' b:=by
 refine⟨hn,fW (aK I.lt hb),I.YR hb,.inr (aH I.sz hb),λx c e z=> ?_,λp hp z=> ?_⟩
 ·obtain⟨v,q⟩:=I.cell x c e
  exact absurd (aK q.lt (by rw[z];exact hb)) (ck _)
 ·exact absurd (aK (aU (I.pin p hp).1) (by rw[z];exact hb)) (ck _)
structure Turn(P:Program)(w:World)(K:aA)(tg:Expr)(J:It)(fp:List Addr)(it:Addr)(tn:Nat->Heap->Prop):Prop where
 mem:it∈fp
 obj:∀i h,tn i h->∀b∈fp,∃o,h.get? b=some o/\∀v,o.data≠ .cell v
 keep:∀i h h',tn i h->(∀b∈fp,∀o,h.get? b=some o->h'.get? b=some o)->tn i h'
 item:∀(X:Cx),X.prog=P->X.w=w->X.K=K->X.calm=true->∀(i:Nat) (pins:List (Addr×Obj)) (s:Shared) (σ:St) (H:Hp) (E:Value->Shared->Prop),Inv X pins σ H s->(∀b∈fp,DL X pins H b)->tn i s.heap->J.go i H->
  wpAny (model P w) X.A (pyNext (.ref it)) (λr s1=>∃u,r=some u/\
   wpAny (model P w) X.A (letOwnedTupleGo tg (.ref it) u) (λ_ s2=>∃x H',Inv X pins σ H' s2/\RelV x u/\J.UK i H x H'/\tn (i+1) s2.heap/\∀b∈fp,H' b=none) E s1) E s
 done:∀(X:Cx),X.prog=P->X.w=w->X.K=K->X.calm=true->∀(i:Nat) (pins:List (Addr×Obj)) (s:Shared) (σ:St) (H:Hp) (E:Value->Shared->Prop),Inv X pins σ H s->(∀b∈fp,DL X pins H b)->tn i s.heap->J.stop i H->
  wpAny (model P w) X.A (pyNext (.ref it)) (λr s1=>r=none/\Inv X pins σ H s1) E s
 self:∀(A:Around) (i:Nat) (s:Shared) (Q:Value->Shared->Prop) (E:Value->Shared->Prop),tn i s.heap->Q (.ref it) s->wpAny (model P w) A (pyIter (.ref it)) Q E s
noncomputable abbrev TI:=St->Hp->(It->Hp->Prop)->Prop
noncomputable def Zl (X:Cx) (pins:List (Addr×Obj)) (σ:St) (tg:Expr) (R:It->Hp->Prop) (itv:Value) (s2:Shared):Prop:=
 ∃(it:Addr) (fp:List Addr) (tn:Nat->Heap->Prop) (J:It) (H':Hp),itv= .ref it/\Inv X pins σ H' s2/\Turn X.prog X.w X.K tg J fp it tn/\tn 0 s2.heap/\(∀b∈fp,DL X pins H' b)/\R J H'
noncomputable def PI (X:Cx) (tg iter:Expr) (wi:TI):Prop:=
 ∀(pins:List (Addr×Obj)) (s:Shared) (σ:St) (H:Hp) (R:It->Hp->Prop),Inv X pins σ H s->wi σ H R->
  wpAny (model X.prog X.w) X.A (eval iter X.env) (λv s1=>wpAny (model X.prog X.w) X.A (pyIter v) (Zl X pins σ tg R) X.xe s1) X.xe s
theorem Rf{M:Model}{A:Around}{E:Value->Shared->Prop}{s:Shared}{tg:Expr}{it:Addr}{u:Value}{o:Obj}{n:String}{vs:Array Value}{Q:Unit->Shared->Prop}(ho:s.heap.get? it=some o)(hc:o.cls= .type n)(hd:o.data= .fields vs)
  (hn: ["enumerate","zip","dict_itemiterator","dict_reverseitemiterator","odict_iterator","itertools.zip_longest","itertools.pairwise"].contains n=false) (hQ:Q () s):wpAny M A (letOwnedTupleGo tg (.ref it) u) Q E s:=by
 unfold letOwnedTupleGo
 cases tg<;>first
  |exact wpAny_pure hQ
  |(cases u<;>first
    |exact wpAny_pure hQ
    |(refine wpAny_bind (wpAny_load ho ?_)
      rw[hc,hd]
      show wpAny M A (if (["enumerate","zip","dict_itemiterator","dict_reverseitemiterator","odict_iterator","itertools.zip_longest","itertools.pairwise"].contains n&&vs[0]? ==some (rawInt _))=true then _ else _) Q E s
      rw[if_neg (by intro h;rw[hn,Bool.false_and]at h;cases h)]
      exact wpAny_pure hQ))
noncomputable def Qp (K:aA) (a:Addr):It:=
 ⟨λi H=>∃xs x,mj K H a xs/\xs[i]? =some x,λi H x H'=>H'=H/\∀xs,mj K H a xs->xs[i]? =some x,λi H=>∃xs,mj K H a xs/\xs.length<=i⟩
noncomputable def Sw (lo:Int) (n:Nat):It:=⟨λi _=>i<n,λi H x H'=>H'=H/\x= .int (lo+i),λi _=>n<=i⟩
theorem Qm{P:Program}{w:World}{K:aA}{tg:Expr}(a it:Addr):Turn P w K tg (Qp K a) [it] it (λi h=>h.IsListIter it a i) where
 mem:=by simp
 obj:=λi h st b hb=>by
  have e:b=it:=by simpa using hb
  subst e
  obtain⟨o,e,c,d⟩:=st
  exact⟨o,e,λv z=>by rw[d]at z;cases z⟩
 keep:=λi h h' st k=>st.at λo e=>k it (by simp) o e
 item:=by
  intro X hP hw hK hc i pins s σ H E I hf st hg
  subst hP hw hK
  obtain⟨xs,x,hq,hx⟩:=hg
  obtain⟨its,rv,p,hz⟩:=I.list hq
  obtain⟨u,hu,ru⟩:=rv.get hx
  obtain⟨f0,f1,f2,f3,f4,f5⟩:=hf it (by simp)
  refine wpAny_pyNext_list_item st p.isList (x:=u) (by simpa using hu) λh' st' sb=> ?_
  have I1:Inv X pins σ H {s with heap:=h'}:=I.turned (t':=s.toks) (λb o hb e=>(sb.2 b hb).trans e) f0 f1 f3 f4 f5
  obtain⟨o,e,c,d⟩:=id st'
  exact⟨u,rfl,Rf (s:={s with heap:=h'}) e c d (by decide) ⟨x,H,I1,ru,⟨rfl,λys hy=>by rw[I.MK hy hq];exact hx⟩,st',λb hb=>(hf b hb).1⟩⟩
 done:=by
  intro X hP hw hK hc i pins s σ H E I hf st hg
  subst hP hw hK
  obtain⟨xs,hq,hx⟩:=hg
  obtain⟨its,rv,p,hz⟩:=I.list hq
  obtain⟨f0,f1,f2,f3,f4,f5⟩:=hf it (by simp)
  have hl:=rv.length
  exact wpAny_pyNext_list_end (I.ok.hd hc) st p.isList (by simp;lia) λh' eb=>⟨rfl,I.turned (t':=s.toks) (λb o hb e=>eb b o hb e) f0 f1 f3 f4 f5⟩
 self:=λ_ _ _ _ _ st h=>wpAny_pyIter_listiter st h
theorem OF{P:Program}{w:World}{K:aA}{tg:Expr}(it:Addr)(lo:Int)(n:Nat):Turn P w K tg (Sw lo n) [it] it (λi h=>IsRangeIter h it (lo+(i:Nat)*1) ((n:Int)-(i:Nat)) 1) where
 mem:=by simp
 obj:=λi h st b hb=>by
  have e:b=it:=by simpa using hb
  subst e
  exact⟨_,st,λv z=>by
   have z':ip _=Data.cell v:=z
   cases z'⟩
 keep:=λi h h' st k=>k it (by simp) _ st
 item:=by
  intro X hP hw hK hc i pins s σ H E I hf st hg
  subst hP hw hK
  obtain⟨f0,f1,f2,f3,f4,f5⟩:=hf it (by simp)
  have W:=Walks.range (prog:=X.prog) (w:=X.w) (I.ok.hd hc) it lo 1 n
  refine W.item i s _ _ hg st λv h' tk hv st' kk=> ?_
  obtain⟨t,rfl⟩:=hv
  have I1:Inv X pins σ H {s with heap:=h',toks:=tk}:=I.turned (λb o hb e=>kk b o (by simpa using hb) e) f0 f1 f3 f4 f5
  refine⟨_,rfl,Rf (s:={s with heap:=h',toks:=tk}) (n:="range_iterator") st' rfl rfl (by decide) ⟨.int (lo+i),H,I1,⟨t,?_⟩,⟨rfl,rfl⟩,st',λb hb=>(hf b hb).1⟩⟩
  rw[Int.mul_one]
 done:=by
  intro X hP hw hK hc i pins s σ H E I hf st hg
  subst hP hw hK
  obtain⟨f0,f1,f2,f3,f4,f5⟩:=hf it (by simp)
  exact wpAny_pyNext_range_end (I.ok.hd hc) st (by have:n<=i:=hg;lia) λh' eb=>⟨rfl,I.turned (t':=s.toks) (λb o hb e=>eb b o hb e) f0 f1 f3 f4 f5⟩
 self:=λ_ _ _ _ _ st h=>wpAny_pyIter_rangeiter st h
end L2
namespace L2
open PySem PySem.Spec PyProof.Rows
section
variable{X:Cx}{tg:Expr}
noncomputable def qj (K:aA) (tl:TE):TI:=λσ H R=>tl σ H λx H1=>∃a,x= .ref a/\(∃xs,mj K H1 a xs)/\R (Qp K a) H1
theorem TV{l:Expr}{tl:TE}(hl:PE X l tl):PI X tg l (qj X.K tl):=by
 intro pins s σ H R I h
 refine oh (hl pins s σ H _ I h) λv s1 ⟨x,H1,I1,r1,q1⟩=> ?_
 obtain⟨a,e,⟨xs,hq⟩,q⟩:=q1
 subst e
 cases r1
 obtain⟨its,rv,p,hz⟩:=I1.list hq
 refine wpAny_pyIter_list p.isList ?_
 refine⟨s1.heap.objs.size,[s1.heap.objs.size],_,_,H1,rfl,I1.kept (t':=s1.toks) λb o e=>aP _ e,Qm a _,⟨_,bJ _ rfl,rfl,rfl⟩,λb hb=> ?_,q⟩
 have e:b=s1.heap.objs.size:=by simpa using hb
 subst e
 exact I1.Q8 (aI _) (I1.ko.fresh (aI _))
theorem MW{pins:List (Addr×Obj)}{σ:St}{H:Hp}{s:Shared}{R:It->Hp->Prop}{E:Value->Shared->Prop}{lo hi:Int}{t u v:Tok}{tk:Nat}(I:Inv X pins σ H s)(h1: -(2^62)<=lo)(h2:lo<2^62)(h3: -(2^62)<=hi)(h4:hi<2^62)
  (q:R (Sw lo (hi-lo).toNat) H):wpAny (model X.prog X.w) X.A (pyIter (.ref s.heap.objs.size)) (Zl X pins σ tg R) E {s with heap:=s.heap.push {cls:= .type "range",data:= .fields #[.int lo t,.int hi u,.int 1 v]},toks:=tk}:=by
 refine wpAny_pyIter_range (iM ..) (small_one h1 h2 h3 h4) ?_
 have I1:Inv X pins σ H {s with heap:=s.heap.push {cls:= .type "range",data:= .fields #[.int lo t,.int hi u,.int 1 v]},toks:=tk}:=I.kept λb o e=>aP _ e
 refine⟨(s.heap.push {cls:= .type "range",data:= .fields #[.int lo t,.int hi u,.int 1 v]}).objs.size,[(s.heap.push {cls:= .type "range",data:= .fields #[.int lo t,.int hi u,.int 1 v]}).objs.size],_,_,H,rfl,
  I1.kept (t':=tk) λb o e=>aP _ e,OF _ lo (hi-lo).toNat,?_,λb hb=> ?_,q⟩
 ·have e1:lo+((0:Nat):Int)*1=lo:=by simp
  have e2:(((hi-lo).toNat:Nat):Int)-((0:Nat):Int)=Builtin.Range.rangeSize lo hi 1:=by rw[rangeSize_one];split<;>lia
  show IsRangeIter _ _ (lo+((0:Nat):Int)*1) ((((hi-lo).toNat:Nat):Int)-((0:Nat):Int)) 1
  rw[e1,e2]
  exact bJ _ rfl
 ·have e:b=(s.heap.push {cls:= .type "range",data:= .fields #[.int lo t,.int hi u,.int 1 v]}).objs.size:=by simpa using hb
  subst e
  exact I1.Q8 (aI _) (I1.ko.fresh (aI _))
noncomputable def zY (ta:TA):TI:=λσ H R=>ta σ H λvs H1=>∃j:Int,vs=[.int j]/\ -(2^62)<=j/\j<2^62/\R (Sw 0 j.toNat) H1
noncomputable def Rj (ta:TA):TI:=λσ H R=>ta σ H λvs H1=>∃i j:Int,vs=[.int i,.int j]/\(-(2^62)<=i/\i<2^62/\ -(2^62)<=j/\j<2^62)/\R (Sw i (j-i).toNat) H1
theorem Qd{a:Expr}{ta:TA}{p pos:Pos}(hg:Gl X "range")(hm:X.mg "range"=none)(ha:PA X [a] ta)(hs:starEach [a] X.env=[(false,eval a X.env)]:=by rfl):PI X tg (.Call (.Name "range" p) [a] [] pos) (zY ta):=by
 intro pins s σ H R I h
 refine Call_ (z7 I hg hm boot_range (cy (oh (ha pos pins s σ H _ I h) λus s1 ⟨vs,H1,I1,r1,q1⟩=> ?_) hs rfl))
 obtain⟨j,e,q1,q2,q⟩:=q1
 subst e
 cases r1 with
 |cons r rr=>
  cases rr
  obtain⟨t,rfl⟩:=r
  exact call_range_1 (MW I1 (by lia) (by lia) q1 q2 (by simpa using q))
theorem Qe{a b:Expr}{ta:TA}{p pos:Pos}(hg:Gl X "range")(hm:X.mg "range"=none)(ha:PA X [a,b] ta)(hs:starEach [a,b] X.env=[(false,eval a X.env),(false,eval b X.env)]:=by rfl)(hs2:starEach [b] X.env=[(false,eval b X.env)]:=by rfl):
  PI X tg (.Call (.Name "range" p) [a,b] [] pos) (Rj ta):=by
 intro pins s σ H R I h
 refine Call_ (z7 I hg hm boot_range (cy (oh (ha pos pins s σ H _ I h) λus s1 ⟨vs,H1,I1,r1,q1⟩=> ?_) (by rw[hs,hs2]) (by rw[hs2];rfl)))
 obtain⟨i,j,e,⟨q1,q2,q3,q4⟩,q⟩:=q1
 subst e
 cases r1 with
 |cons r rr=>
  cases rr with
  |cons r' rr=>
   cases rr
   obtain⟨t,rfl⟩:=r
   obtain⟨t',rfl⟩:=r'
   exact call_range_2 (MW I1 q1 q2 q3 q4 q)
noncomputable def Wm (wi:TI) (g:TG) (tb:TS):TS:=λD σ H=>wi σ H λJ H1=>∃W:Nat->Nat->St->Hp->Prop,(∃m,W 0 m σ H1)/\∀i m σ H,W i m σ H->
 (J.stop i H/\D.nx σ H)∨(J.go i H/\∃N:St->Hp->Prop,(∀σ' H',N σ' H'->∃m',m'<m/\W (i+1) m' σ' H')/\∀x H',J.UK i H x H'->g x σ H' λσ2 H2=>tb {D with nx:=N,ct:=N,bk:=D.nx} σ2 H2)
noncomputable def Ha (fp:List Addr) (h:Heap):List (Addr×Obj):=fp.filterMap λb=>(h.get? b).map λo=>(b,o)
theorem yB{fp:List Addr}{h:Heap}{b:Addr}{o:Obj}(hb:b∈fp)(e:h.get? b=some o):(b,o)∈Ha fp h:=List.mem_filterMap.mpr ⟨b,hb,by rw[e];rfl⟩
theorem P_{fp:List Addr}{h:Heap}{p:Addr×Obj}(hp:p∈Ha fp h):p.1∈fp/\h.get? p.1=some p.2:=by
 obtain⟨b,hb,e⟩:=List.mem_filterMap.mp hp
 cases q:h.get? b with
 |none=>rw[q]at e;cases e
 |some o=>
  rw[q]at e
  have e':(b,o)=p:=bg e
  subst e'
  exact⟨hb,q⟩
theorem Inv.pinned{pins:List (Addr×Obj)}{σ:St}{H:Hp}{s:Shared}{fp:List Addr}(I:Inv X pins σ H s)(hf:∀b∈fp,DL X pins H b)(ho:∀b∈fp,∃o,s.heap.get? b=some o/\∀v,o.data≠ .cell v):Inv X (pins++Ha fp s.heap) σ H s:=
 I.Dv λp hp=>(List.mem_append.mp hp).elim (λz=>I.pin p (aO _ z)) λz=>by
  obtain⟨hb,e⟩:=P_ z
  obtain⟨f0,f1,f2,_⟩:=hf p.1 hb
  obtain⟨o,e',d⟩:=ho p.1 hb
  rw[e]at e';cases e'
  exact⟨e,f0,f1,f2,d⟩
theorem Inv.Hy{pins pl:List (Addr×Obj)}{σ:St}{H:Hp}{s:Shared}(I:Inv X (pins++pl) σ H s):Inv X pins σ H s:=I.Dv λp hp=>I.pin p (aO _ (bj _ hp))
theorem V6{iter:Expr}{body:List Stmt}{wi:TI}{g:TG}{tb:TS}{pos:Pos}(hp:PassesOwn (model X.prog X.w) X.A X.env X.xe)(hc:X.calm=true)(hi:PI X tg iter wi)(hg:PG X tg g)(hb:NC X body tb)
  (hs:∀x,foldedSetIterable iter X.env x=pure x:=by intro _;rfl):PS X (.For tg iter body [] pos) (Wm wi g tb):=by
 intro pins s σ H D I h
 refine wpAny_For (oh (hi pins s σ H _ I h) λv s1 h1=>oh h1 λitv s2 h2=> ?_) hs
 obtain⟨it,fp,tn,J,H2,e,I2,T,st2,f2,W,⟨m0,w0⟩,turn⟩:=h2
 subst e
 have stat:∀{H':Hp},(∀b∈fp,H' b=none)->∀b∈fp,DL X pins H' b:=λhn b hb=>⟨hn b hb,(f2 b hb).2⟩
 refine codeAny_forLoop_any (λn s'=>∃i σ' H',Inv X pins σ' H' s'/\tn i s'.heap/\(∀b∈fp,H' b=none)/\W i n σ' H') ?_ m0 ⟨0,σ,H2,I2,st2,λb hb=>(f2 b hb).1,w0⟩
 rintro n s3 ⟨i,σ3,H3,I3,st3,fr3,w3⟩
 rcases turn i n σ3 H3 w3 with ⟨stop,qn⟩|⟨go,N,hN,step⟩
 ·refine wpAny_passesOwn hp (oh (T.done X rfl rfl rfl hc i pins s3 σ3 H3 X.xe I3 (stat fr3) st3 stop) λr s4 ⟨hr,I4⟩=> ?_)
  subst hr
  exact wpAny_execs_nil ⟨σ3,H3,I4,qn⟩
 ·refine wpAny_passesOwn hp (oh (T.item X rfl rfl rfl hc i pins s3 σ3 H3 X.xe I3 (stat fr3) st3 go) λr s4 ⟨u,hr,h4⟩=> ?_)
  subst hr
  refine wpAny_passesOwn hp (oh h4 λ_ s5 ⟨x,H5,I5,r5,y5,st5,fr5⟩=> ?_)
  have I5':=I5.pinned (stat fr5) (T.obj _ _ st5)
  refine wpAny_passesOwn hp (oh (hg _ s5 σ3 H5 x u _ I5' r5 (step x H5 y5)) λ_ s6 ⟨σ6,H6,I6,q6⟩=> ?_)
  refine wpAny_passesOwn hp (oh (hb _ s6 σ6 H6 _ I6 q6) λf s7 q7=> ?_)
  have again:∀{σ7:St} {H7:Hp},Inv X (pins++Ha fp s5.heap) σ7 H7 s7->N σ7 H7->∃m,m<n/\∃i σ' H',Inv X pins σ' H' s7/\tn i s7.heap/\(∀b∈fp,H' b=none)/\W i m σ' H':=λ{σ7 H7} I7 n7=>by
   obtain⟨m',hm,w7⟩:=hN σ7 H7 n7
   refine⟨m',hm,i+1,σ7,H7,I7.Hy,T.keep _ _ _ st5 λb hb o e=>(I7.pin (b,o) (aO _ (aO _ (yB hb e)))).1,λb hb=> ?_,w7⟩
   obtain⟨o,e,d⟩:=T.obj _ _ st5 b hb
   exact(I7.pin (b,o) (aO _ (aO _ (yB hb e)))).2.1
  cases f with
  |next=>obtain⟨σ7,H7,I7,n7⟩:=q7;exact again I7 n7
  |cont=>obtain⟨σ7,H7,I7,n7⟩:=q7;exact again I7 n7
  |brk=>obtain⟨σ7,H7,I7,q7⟩:=q7;exact⟨σ7,H7,I7.Hy,q7⟩
  |ret v=>obtain⟨x7,σ7,H7,I7,r7,q7⟩:=q7;exact⟨x7,σ7,H7,I7.Hy,r7,q7⟩
end
theorem Q7{K:aA}{a:Addr}{xs:List V}{g:TG}{tb:TS}{D:Ends}{σ:St}{H:Hp}(Pv:Nat->St->Hp->Prop)(h0:Pv 0 σ H)(hl:∀i σ H,i<=xs.length->Pv i σ H->mj K H a xs)
  (hs:∀i x σ H,xs[i]? =some x->Pv i σ H->g x σ H λσ2 H2=>tb {D with nx:=Pv (i+1),ct:=Pv (i+1),bk:=D.nx} σ2 H2) (hd:∀σ H,Pv xs.length σ H->D.nx σ H):
  ∃W:Nat->Nat->St->Hp->Prop,(∃m,W 0 m σ H)/\∀i m σ H,W i m σ H->
   ((Qp K a).stop i H/\D.nx σ H)∨((Qp K a).go i H/\∃N:St->Hp->Prop,(∀σ' H',N σ' H'->∃m',m'<m/\W (i+1) m' σ' H')/\∀x H',(Qp K a).UK i H x H'->g x σ H' λσ2 H2=>tb {D with nx:=N,ct:=N,bk:=D.nx} σ2 H2):=by
 refine⟨λi m σ H=>m=xs.length-i/\i<=xs.length/\Pv i σ H,⟨xs.length,by simp,cD _,h0⟩,?_⟩
 rintro i m σ H ⟨rfl,hi,p⟩
 have q:=hl i σ H hi p
 by_cases hlt:i<xs.length
 ·refine .inr ⟨⟨xs,xs[i],q,by simp[hlt]⟩,Pv (i+1),λσ' H' p'=>⟨xs.length-(i+1),by omega,rfl,hlt,p'⟩,λx H' y=> ?_⟩
  obtain⟨e,y⟩:=y
  subst e
  exact hs i x σ _ (y xs q) p
 ·have e:i=xs.length:=by lia
  subst e
  exact .inl ⟨⟨xs,q,aI _⟩,hd σ H p⟩
theorem PQ{lo:Int}{n:Nat}{g:TG}{tb:TS}{D:Ends}{σ:St}{H:Hp}(Pv:Nat->St->Hp->Prop)(h0:Pv 0 σ H)
  (hs:∀i σ H,i<n->Pv i σ H->g (.int (lo+i)) σ H λσ2 H2=>tb {D with nx:=Pv (i+1),ct:=Pv (i+1),bk:=D.nx} σ2 H2) (hd:∀σ H,Pv n σ H->D.nx σ H):
  ∃W:Nat->Nat->St->Hp->Prop,(∃m,W 0 m σ H)/\∀i m σ H,W i m σ H->
   ((Sw lo n).stop i H/\D.nx σ H)∨((Sw lo n).go i H/\∃N:St->Hp->Prop,(∀σ' H',N σ' H'->∃m',m'<m/\W (i+1) m' σ' H')/\∀x H',(Sw lo n).UK i H x H'->g x σ H' λσ2 H2=>tb {D with nx:=N,ct:=N,bk:=D.nx} σ2 H2):=by
 refine⟨λi m σ H=>m=n-i/\i<=n/\Pv i σ H,⟨n,by simp,cD _,h0⟩,?_⟩
 rintro i m σ H ⟨rfl,hi,p⟩
 by_cases hlt:i<n
 ·refine .inr ⟨hlt,Pv (i+1),λσ' H' p'=>⟨n-(i+1),by omega,rfl,hlt,p'⟩,λx H' y=> ?_⟩
  obtain⟨e,y⟩:=y
  subst e y
  exact hs i σ _ hlt p
 ·have e:i=n:=by lia
  subst e
  exact .inl ⟨aI _,hd σ H p⟩
end L2
namespace L2
open PySem PySem.Spec PyProof.Rows
noncomputable abbrev R2:=V->V->Hp->VK->Prop
noncomputable def ux (X:Cx) (f:Value->Value->Sem Value) (r:R2):Prop:=
 ∀(pins:List (Addr×Obj)) (s:Shared) (σ:St) (H:Hp) (x y:V) (v u:Value) (Q:VK),Inv X pins σ H s->RelV x v->RelV y u->r x y H Q->
  wpAny (model X.prog X.w) X.A (f v u) (EP X pins σ Q) X.xe s
noncomputable def WO (X:Cx) (f:Value->Sem Value) (r:V->Hp->VK->Prop):Prop:=
 ∀(pins:List (Addr×Obj)) (s:Shared) (σ:St) (H:Hp) (x:V) (v:Value) (Q:VK),Inv X pins σ H s->RelV x v->r x H Q->
  wpAny (model X.prog X.w) X.A (f v) (EP X pins σ Q) X.xe s
noncomputable def tN (X:Cx) (f:Value) (r:List V->Hp->VK->Prop):Prop:=
 ∀(pins:List (Addr×Obj)) (s:Shared) (σ:St) (H:Hp) (xs:List V) (us:List Value) (Q:VK),Inv X pins σ H s->Vals xs us->r xs H Q->
  wpAny (model X.prog X.w) X.A (call f us) (EP X pins σ Q) X.xe s
noncomputable def Ym (X:Cx) (r:V->Hp->(Bool->Hp->Prop)->Prop):Prop:=
 ∀(pins:List (Addr×Obj)) (s:Shared) (σ:St) (H:Hp) (x:V) (v:Value) (Q:Bool->Hp->Prop),Inv X pins σ H s->RelV x v->r x H Q->
  wpAny (model X.prog X.w) X.A (truthy v) (TP X pins σ Q) X.xe s
noncomputable def ke (r:R2) (ta tb:TE):TE:=λσ H Q=>ta σ H λx H1=>tb σ H1 λy H2=>r x y H2 Q
noncomputable def WD (r:V->Hp->VK->Prop) (ta:TE):TE:=λσ H Q=>ta σ H λx H1=>r x H1 Q
noncomputable def rI (C:Int->Int->Prop) (g:Int->Int->V):R2:=λx y H Q=>∃i j,x= .int i/\y= .int j/\C i j/\Q (g i j) H
noncomputable def UE (g:Int->Int->V):R2:=λx y H Q=>∃i j,x= .int i/\y= .int j/\Q (g i j) H
noncomputable def rU (g:Int->V):V->Hp->VK->Prop:=λx H Q=>∃i,x= .int i/\Q (g i) H
section
variable{X:Cx}{a b c:Expr}{ta tb tc:TE}{pos:Pos}
theorem UT(ha:PE X a ta)(hb:PE X b tb){pins:List (Addr×Obj)}{s:Shared}{σ:St}{H:Hp}{R:V->V->Hp->Prop}(I:Inv X pins σ H s)
  (h:ta σ H λx H1=>tb σ H1 λy H2=>R x y H2) {Q:Value->Shared->Prop} {f:Value->Value->Sem Value}
  (hf:∀v u s2 x y H2,Inv X pins σ H2 s2->RelV x v->RelV y u->R x y H2->wpAny (model X.prog X.w) X.A (f v u) Q X.xe s2):
  wpAny (model X.prog X.w) X.A (eval a X.env) (λv s₁=>wpAny (model X.prog X.w) X.A (eval b X.env) (λu s₂=>wpAny (model X.prog X.w) X.A (f v u) Q X.xe s₂) X.xe s₁) X.xe s:=by
 refine oh (ha pins s σ H _ I h) λv s1 ⟨x,H1,I1,r1,q1⟩=> ?_
 refine oh (hb pins s1 σ H1 _ I1 q1) λu s2 ⟨y,H2,I2,r2,q2⟩=> ?_
 exact hf v u s2 x y H2 I2 r1 r2 q2
theorem XQ{op:Operator}{r:R2}(ho:ux X (binaryOp op) r)(ha:PE X a ta)(hb:PE X b tb):PE X (.BinOp a op b pos) (ke r ta tb):=by
 intro pins s σ H Q I h
 exact wpAny_BinOp (UT ha hb I h λv u s2 x y H2 I2 rx ry q=>ho pins s2 σ H2 x y v u Q I2 rx ry q)
theorem XS{op:UnaryOp}{r:V->Hp->VK->Prop}(ho:WO X (unaryOp op) r)(ha:PE X a ta):PE X (.UnaryOp op a pos) (WD r ta):=by
 intro pins s σ H Q I h
 exact UnaryOp_ (oh (ha pins s σ H _ I h) λv s1 ⟨x,H1,I1,r1,q1⟩=>ho pins s1 σ H1 x v Q I1 r1 q1)
theorem YT{f:Value->Value->Sem Value}{C:Int->Int->Prop}{g:Int->Int->Int}
  (rule:∀(i j:Int) (t u:Tok) (s:Shared) (Q:Value->Shared->Prop) (E:Value->Shared->Prop),C i j->Q (.int (g i j) s.toks) {s with toks:=s.toks+1}->wpAny (model X.prog X.w) X.A (f (.int i t) (.int j u)) Q E s):
  ux X f (rI C λi j=> .int (g i j)):=by
 intro pins s σ H x y v u Q I rx ry h
 obtain⟨i,j,rfl,rfl,hc,q⟩:=h
 obtain⟨t,rfl⟩:=rx
 obtain⟨t',rfl⟩:=ry
 exact rule i j t t' s _ _ hc ⟨.int (g i j),H,I.tok _,⟨_,rfl⟩,q⟩
theorem XE{f:Value->Value->Sem Value}{g:Int->Int->Int}
  (rule:∀(i j:Int) (t u:Tok) (s:Shared) (Q:Value->Shared->Prop) (E:Value->Shared->Prop),Q (.int (g i j) s.toks) {s with toks:=s.toks+1}->wpAny (model X.prog X.w) X.A (f (.int i t) (.int j u)) Q E s):
  ux X f (UE λi j=> .int (g i j)):=by
 intro pins s σ H x y v u Q I rx ry h
 obtain⟨i,j,rfl,rfl,q⟩:=h
 obtain⟨t,rfl⟩:=rx
 obtain⟨t',rfl⟩:=ry
 exact rule i j t t' s _ _ ⟨.int (g i j),H,I.tok _,⟨_,rfl⟩,q⟩
theorem VJ{f:Value->Value->Sem Value}{g:Int->Int->Bool}
  (rule:∀(i j:Int) (t u:Tok) (s:Shared) (Q:Value->Shared->Prop) (E:Value->Shared->Prop),Q (.bool (g i j)) s->wpAny (model X.prog X.w) X.A (f (.int i t) (.int j u)) Q E s):
  ux X f (UE λi j=> .bl (g i j)):=by
 intro pins s σ H x y v u Q I rx ry h
 obtain⟨i,j,rfl,rfl,q⟩:=h
 obtain⟨t,rfl⟩:=rx
 obtain⟨t',rfl⟩:=ry
 exact rule i j t t' s _ _ ⟨.bl (g i j),H,I,rfl,q⟩
noncomputable def tU (i j:Int):Prop:=0<j/\j<1073741824
noncomputable def DK (i j:Int):Prop:=(-(2^64)<i/\i<2^64)∨(-(2^64)<j/\j<2^64)
theorem DK.ok{i j:Int}(h:DK i j):IntMulOk i j:=by
 rcases h with ⟨h1,h2⟩|⟨h1,h2⟩
 ·exact .of_left (intBits_le_64 h1 h2)
 ·exact .of_right (intBits_le_64 h1 h2)
theorem VL:ux X (binaryOp .Add) (UE λi j=> .int (i+j)):=XE λ_ _ _ _ _ _ _ q=>add_int q
theorem VR:ux X (binaryOp .Sub) (UE λi j=> .int (i-j)):=XE λ_ _ _ _ _ _ _ q=>sub_int q
theorem VP:ux X (binaryOp .Mult) (rI DK λi j=> .int (i*j)):=YT λ_ _ _ _ _ _ _ hc q=>mul_int q hc.ok
theorem TB:ux X (binaryOp .FloorDiv) (rI tU λi j=> .int (i/j)):=YT λi j _ _ _ _ _ hc q=>by
 have h1:(0:Int)<j:=hc.1
 have h2:j<1073741824:=hc.2
 exact floordiv_int (by lia) (by rw[Int.fdiv_eq_ediv_of_nonneg i (by lia)];exact q) (.inl (PyProof.noPylong_small (by omega)))
theorem VO:ux X (binaryOp .Mod) (rI (λ_ j=>0<j) λi j=> .int (i%j)):=YT λi j _ _ _ _ _ hc q=>by
 have h1:(0:Int)<j:=hc
 exact mod_int' (by lia) (by rw[Int.fmod_eq_emod_of_nonneg i (by lia)];exact q)
theorem ZA{f:Value->Sem Value}{g:Int->Int}
  (rule:∀(i:Int) (t:Tok) (s:Shared) (Q:Value->Shared->Prop) (E:Value->Shared->Prop),Q (.int (g i) s.toks) {s with toks:=s.toks+1}->wpAny (model X.prog X.w) X.A (f (.int i t)) Q E s):
  WO X f (rU λi=> .int (g i)):=by
 intro pins s σ H x v Q I rx h
 obtain⟨i,rfl,q⟩:=h
 obtain⟨t,rfl⟩:=rx
 exact rule i t s _ _ ⟨.int (g i),H,I.tok _,⟨_,rfl⟩,q⟩
theorem Wq:WO X (unaryOp .USub) (rU λi=> .int (-i)):=ZA λ_ _ _ _ _ q=>neg_int q
end
noncomputable def Wd:V->V->Bool
 | .kT,.kT=>true| .kT,.int _=>true| .int _,.kT=>true| .kT,.bl _=>true| .bl _,.kT=>true| .kT,.str _=>true| .str _,.kT=>true
 | .int _,.int _=>true| .bl _,.bl _=>true| .str _,.str _=>true| .byt _,.byt _=>true
 | .int _,.str _=>true| .str _,.int _=>true| .bl _,.str _=>true| .str _,.bl _=>true
 |_,_=>false
noncomputable def Zx:R2:=λx y H Q=>Wd x y=true/\Q (.bl (decide (x=y))) H
noncomputable def Zy:R2:=λx y H Q=>Wd x y=true/\Q (.bl (!decide (x=y))) H
theorem OU{i j:Int}:decide (V.int i=V.int j)=(i==j):=by
 rw[fm]
 simp
theorem QW{i j:Bool}:decide (V.bl i=V.bl j)=(i==j):=by
 rw[fm]
 simp
theorem OV{i j:Str}:decide (V.str i=V.str j)=(i==j):=by
 rw[fm]
 simp
theorem OT{i j:Array UInt8}:decide (V.byt i=V.byt j)=(i.toList==j.toList):=by
 rw[fm]
 cases i
 cases j
 simp
section
variable{X:Cx}{a b c:Expr}{ta tb tc:TE}{pos:Pos}
theorem kZ{pins:List (Addr×Obj)}{σ:St}{H:Hp}{s:Shared}{Q:VK}{k k':Bool}(I:Inv X pins σ H s)(q:Q (.bl k) H)(e:k=k'):EP X pins σ Q (.bool k') s:=by
 subst e
 exact⟨.bl k,H,I,rfl,q⟩
theorem XF:ux X (compareOp .Eq) Zx:=by
 intro pins s σ H x y v u Q I rx ry h
 obtain⟨hs,q⟩:=h
 cases x with
 |kT=>
  cases rx
  cases y with
  |kT=>cases ry;exact PySem.EqNone.eq_none_none (kZ I q (by simp))
  |bl j=>cases ry;exact PySem.EqNone.eq_none_bool (kZ I q (by simp))
  |int j=>obtain⟨t',rfl⟩:=ry;exact PySem.EqNone.eq_none_int (kZ I q (by simp))
  |str j=>obtain⟨t',rfl⟩:=ry;exact PySem.EqNone.eq_none_str (kZ I q (by simp))
  |_=>exact absurd (show false=true from hs) bp
 |bl i=>
  cases rx
  cases y with
  |kT=>cases ry;exact PySem.EqNone.eq_bool_none (kZ I q (by simp))
  |bl j=>cases ry;exact eq_bool (kZ I q QW)
  |str j=>obtain⟨t',rfl⟩:=ry;exact PySem.EqMixed.eq_bool_str (kZ I q (by simp))
  |_=>exact absurd (show false=true from hs) bp
 |int i=>
  obtain⟨t,rfl⟩:=rx
  cases y with
  |kT=>cases ry;exact PySem.EqNone.eq_int_none (kZ I q (by simp))
  |int j=>obtain⟨t',rfl⟩:=ry;exact eq_int (kZ I q OU)
  |str j=>obtain⟨t',rfl⟩:=ry;exact PySem.EqMixed.eq_int_str (kZ I q (by simp))
  |_=>exact absurd (show false=true from hs) bp
 |str i=>
  obtain⟨t,rfl⟩:=rx
  cases y with
  |kT=>cases ry;exact PySem.EqNone.eq_str_none (kZ I q (by simp))
  |bl j=>cases ry;exact PySem.EqMixed.eq_str_bool (kZ I q (by simp))
  |int j=>obtain⟨t',rfl⟩:=ry;exact PySem.EqMixed.eq_str_int (kZ I q (by simp))
  |str j=>obtain⟨t',rfl⟩:=ry;exact eq_str (kZ I q OV)
  |_=>exact absurd (show false=true from hs) bp
 |byt i=>
  obtain⟨t,rfl⟩:=rx
  cases y with
  |byt j=>obtain⟨t',rfl⟩:=ry;exact PySem.W.eq_bytes (kZ I q OT)
  |_=>exact absurd (show false=true from hs) bp
 |_=>cases y<;>exact absurd (show false=true from hs) bp
theorem XJ:ux X (compareOp .NotEq) Zy:=by
 intro pins s σ H x y v u Q I rx ry h
 obtain⟨hs,q⟩:=h
 cases x with
 |kT=>
  cases rx
  cases y with
  |kT=>cases ry;exact PySem.EqNone.ne_none_none (kZ I q (by simp))
  |bl j=>cases ry;exact PySem.EqNone.ne_none_bool (kZ I q (by simp))
  |int j=>obtain⟨t',rfl⟩:=ry;exact PySem.EqNone.ne_none_int (kZ I q (by simp))
  |str j=>obtain⟨t',rfl⟩:=ry;exact PySem.EqNone.ne_none_str (kZ I q (by simp))
  |_=>exact absurd (show false=true from hs) bp
 |bl i=>
  cases rx
  cases y with
  |kT=>cases ry;exact PySem.EqNone.ne_bool_none (kZ I q (by simp))
  |bl j=>cases ry;exact ne_bool (kZ I q (congrArg not QW))
  |str j=>obtain⟨t',rfl⟩:=ry;exact PySem.EqMixed.ne_bool_str (kZ I q (by simp))
  |_=>exact absurd (show false=true from hs) bp
 |int i=>
  obtain⟨t,rfl⟩:=rx
  cases y with
  |kT=>cases ry;exact PySem.EqNone.ne_int_none (kZ I q (by simp))
  |int j=>obtain⟨t',rfl⟩:=ry;exact ne_int (kZ I q (congrArg not OU))
  |str j=>obtain⟨t',rfl⟩:=ry;exact PySem.EqMixed.ne_int_str (kZ I q (by simp))
  |_=>exact absurd (show false=true from hs) bp
 |str i=>
  obtain⟨t,rfl⟩:=rx
  cases y with
  |kT=>cases ry;exact PySem.EqNone.ne_str_none (kZ I q (by simp))
  |bl j=>cases ry;exact PySem.EqMixed.ne_str_bool (kZ I q (by simp))
  |int j=>obtain⟨t',rfl⟩:=ry;exact PySem.EqMixed.ne_str_int (kZ I q (by simp))
  |str j=>obtain⟨t',rfl⟩:=ry;exact ne_str (kZ I q (congrArg not OV))
  |_=>exact absurd (show false=true from hs) bp
 |byt i=>
  obtain⟨t,rfl⟩:=rx
  cases y with
  |byt j=>obtain⟨t',rfl⟩:=ry;exact PySem.W.ne_bytes (kZ I q (congrArg not OT))
  |_=>exact absurd (show false=true from hs) bp
 |_=>cases y<;>exact absurd (show false=true from hs) bp
theorem XI:ux X (compareOp .Lt) (UE λi j=> .bl (decide (i<j))):=VJ λ_ _ _ _ _ _ _ q=>lt_int q
theorem XH:ux X (compareOp .LtE) (UE λi j=> .bl (decide (i<=j))):=VJ λ_ _ _ _ _ _ _ q=>le_int q
theorem XG:ux X (compareOp .Gt) (UE λi j=> .bl (decide (j<i))):=VJ λ_ _ _ _ _ _ _ q=>gt_int q
theorem VN:ux X (compareOp .Is) (λx y H Q=>y= .kT/\Q (.bl (decide (x= .kT))) H):=by
 intro pins s σ H x y v u Q I rx ry h
 obtain⟨rfl,q⟩:=h
 cases ry
 refine is_none_gen (kZ I q ?_)
 cases x<;>first
  |(cases rx;rfl)
  |(obtain⟨t,rfl⟩:=rx;rfl)
theorem TC:ux X (compareOp .IsNot) (λx y H Q=>y= .kT/\Q (.bl (!decide (x= .kT))) H):=by
 intro pins s σ H x y v u Q I rx ry h
 obtain⟨rfl,q⟩:=h
 cases ry
 refine isnot_none_gen (kZ I q ?_)
 cases x<;>first
  |(cases rx;rfl)
  |(obtain⟨t,rfl⟩:=rx;rfl)
theorem jx(b:Expr){op:CmpOp}(h:op≠ .In:=by decide)(h2:op≠ .NotIn:=by decide):behindInMarks op b=false:=by
 have e1:(op==CmpOp.In)=false:=by cases op<;>first|rfl|exact absurd rfl h
 have e2:(op==CmpOp.NotIn)=false:=by cases op<;>first|rfl|exact absurd rfl h2
 cases b<;>simp[behindInMarks,e1,e2]
theorem TK{op:CmpOp}{r:R2}(ho:ux X (compareOp op) r)(ha:PE X a ta)(hb:PE X b tb)(hm:behindInMarks op b=false):PE X (.Compare a [op] [b] pos) (ke r ta tb):=by
 intro pins s σ H Q I h
 exact wpAny_Compare1 (UT ha hb I h λv u s2 x y H2 I2 rx ry q=>ho pins s2 σ H2 x y v u Q I2 rx ry q) hm
noncomputable def jC (t:TE):TT:=λσ H Q=>t σ H λx H'=>∃k,x= .bl k/\Q k H'
theorem T4{op:CmpOp}{r:R2}(ho:ux X (compareOp op) r)(ha:PE X a ta)(hb:PE X b tb)(hm:behindInMarks op b=false):PT X (.Compare a [op] [b] pos) (jC (ke r ta tb)):=by
 intro pins s σ H Q I h
 refine wpAny_isTrue_Compare1 (oh (ha pins s σ H _ I h) λv s1 ⟨x,H1,I1,r1,q1⟩=>oh (hb pins s1 σ H1 _ I1 q1) λu s2 ⟨y,H2,I2,r2,q2⟩=>
  oh (ho pins s2 σ H2 x y v u _ I2 r1 r2 q2) λc s3 ⟨z,H3,I3,r3,k,e,q3⟩=> ?_) hm
 subst e
 cases r3
 exact wpAny_truthy_bool ⟨H3,I3,q3⟩
noncomputable def OC (r r':R2) (ta tb tc:TE):TE:=λσ H Q=>ta σ H λx H1=>tb σ H1 λy H2=>r x y H2 λz H3=>∃k,z= .bl k/\
 (if k=true then tc σ H3 λw' H4=>r' y w' H4 Q else Q (.bl false) H3)
theorem RI{op op':CmpOp}{r r':R2}(ho:ux X (compareOp op) r)(ho':ux X (compareOp op') r')(ha:PE X a ta)(hb:PE X b tb)(hc:PE X c tc)
  (hm:lastMarks [op,op'] [b,c]=false:=by with_unfolding_all rfl):PE X (.Compare a [op,op'] [b,c] pos) (OC r r' ta tb tc):=by
 intro pins s σ H Q I h
 refine Compare_chain (oh (ha pins s σ H _ I h) λv s1 ⟨x,H1,I1,r1,q1⟩=>chain_link (oh (hb pins s1 σ H1 _ I1 q1) λu s2 ⟨y,H2,I2,r2,q2⟩=>
  oh (ho pins s2 σ H2 x y v u _ I2 r1 r2 q2) λd s3 ⟨z,H3,I3,r3,k,e,q3⟩=> ?_)) hm
 subst e
 cases r3
 refine wpAny_truthy_bool ?_
 cases k with
 |false=>exact ite_ff ⟨.bl false,H3,I3,rfl,q3⟩
 |true=>exact ite_tt (chain_last (oh (hc pins s3 σ H3 _ I3 q3) λw' s4 ⟨z',H4,I4,r4,q4⟩=>ho' pins s4 σ H4 y z' u w' Q I4 r2 r4 q4))
noncomputable def pX (K:aA) (x:V) (H:Hp) (k:Bool):Prop:=
 match x with
 | .kT=>k=false
 | .bl b=>k=b
 | .int i=>k=(i !=0)
 | .str y=>y.length<=sizeLine/\k=((y.length:Int) !=0)
 | .byt y=>y.size<=sizeLine/\k=((y.size:Int) !=0)
 | .ref p=>(∃xs,mj K H p xs/\k= !xs.isEmpty)∨(∃xs,JV K H p xs/\k= !xs.isEmpty)∨∃kvs,H p=some (.dK kvs)/\k= !kvs.isEmpty
 |_=>False
theorem NZ{κ:Type}{kvs:List (κ×V)}{vs:List (κ×Value)}(r:KV kvs vs):(!vs.isEmpty)= !kvs.isEmpty:=by
 cases r<;>rfl
theorem Gu{xs:List V}{its:List Value}(r:Vals xs its):(!its.toArray.isEmpty)= !xs.isEmpty:=by
 cases r<;>simp
theorem GF:(sizeLine:Nat)<2^63:=by rw[sizeLine_eq];decide
theorem Wn:Ym X (λx H Q=>∃k,pX X.K x H k/\Q k H):=by
 intro pins s σ H x v Q I rx h
 obtain⟨k,e,q⟩:=h
 have hl:=GF
 have hs:sizeLine=16777216:=sizeLine_eq
 cases x with
 |kT=>
  cases rx
  have e':k=false:=e
  subst e'
  exact truthy_none ⟨H,I,q⟩
 |bl b=>
  cases rx
  have e':k=b:=e
  subst e'
  exact wpAny_truthy_bool ⟨H,I,q⟩
 |int i=>
  obtain⟨t,rfl⟩:=rx
  have e':k=(i !=0):=e
  subst e'
  exact PySem.P.truthy_int ⟨H,I,q⟩
 |str y=>
  obtain⟨t,rfl⟩:=rx
  obtain⟨hy,e'⟩:y.length<=sizeLine/\k=((y.length:Int) !=0):=e
  subst e'
  exact PySem.P.truthy_str (by lia) ⟨H,I.tok _,q⟩
 |byt y=>
  obtain⟨t,rfl⟩:=rx
  obtain⟨hy,e'⟩:y.size<=sizeLine/\k=((y.size:Int) !=0):=e
  subst e'
  exact PySem.W.truthy_bytes (by lia) ⟨H,I.tok _,q⟩
 |ref p=>
  cases rx
  have e':(∃xs,mj X.K H p xs/\k= !xs.isEmpty)∨(∃xs,JV X.K H p xs/\k= !xs.isEmpty)∨∃kvs,H p=some (.dK kvs)/\k= !kvs.isEmpty:=e
  rcases e' with ⟨xs,hx,e'⟩|⟨xs,hx,e'⟩|⟨kvs,hx,e'⟩
  ·subst e'
   obtain⟨its,r,pl,hz⟩:=I.list hx
   have hlen:=r.length
   exact wpAny_truthy_list pl.isList (by simp only[aZ];lia) ⟨H,I.tok _,by rw[Gu r];exact q⟩
  ·subst e'
   obtain⟨its,r,pl,hz⟩:=I.tuple hx
   have hlen:=r.length
   exact truthy_tuple pl (by simp only[aZ];lia) ⟨H,I.tok _,by rw[Gu r];exact q⟩
  ·subst e'
   obtain⟨hz,hS,vs,r,m⟩:kvs.length<=sizeLine/\(p==sysModules)=false/\∃vs,KV kvs vs/\s.heap.DictOf (jT X.prog X.w) p vs:=I.ko p _ hx
   have hlen:kvs.length=vs.length:=fJ r
   exact wpAny_truthy_dict hS m (by lia) ⟨H,I.tok _,by rw[NZ r];exact q⟩
 |_=>exact(show False from e).elim
theorem R0(ha:PE X a ta)(he:∀whole,isTrue a X.env whole=(do let v←whole;standAt a.pos;holding [v] (truthy v))):
  PT X a (λσ H Q=>ta σ H λx H'=>∃k,pX X.K x H' k/\Q k H'):=by
 intro pins s σ H Q I h
 exact isTrue_plain (oh (ha pins s σ H _ I h) λv s1 ⟨x,H1,I1,r1,q1⟩=>Wn pins s1 σ H1 x v Q I1 r1 q1) (he _)
theorem Oj:ux X (binaryOp .Add) (λx y H Q=>∃i j,x= .str i/\y= .str j/\i.length+j.length<=sizeLine/\Q (.str (i++j)) H):=by
 intro pins s σ H x y v u Q I rx ry h
 obtain⟨i,j,rfl,rfl,hz,q⟩:=h
 obtain⟨t,rfl⟩:=rx
 obtain⟨t',rfl⟩:=ry
 exact add_str (λt' tk=>⟨.str (i++j),H,I.tok _,⟨_,rfl⟩,q⟩) hz
theorem vals1{x:V}{us:List Value}(r:Vals [x] us):∃u,us=[u]/\RelV x u:=by
 cases r with
 |cons r1 r2=>cases r2;exact⟨_,rfl,r1⟩
theorem vals2{x y:V}{us:List Value}(r:Vals [x,y] us):∃u w',us=[u,w']/\RelV x u/\RelV y w':=by
 cases r with
 |cons r1 r2=>
  cases r2 with
  |cons r3 r4=>cases r4;exact⟨_,_,rfl,r1,r3⟩
end
end L2
namespace L2
open PySem PySem.Spec PyProof.Rows
structure NA(h:Heap)(x dx C:Addr)(mA:Str->Option Value):Prop where
 obj:h.get? x=some (cO C dx)
 ns:h.Ns1 dx mA
 ne:dx≠x
theorem P7{h:Heap}{dx:Addr}{mA:Str->Option Value}(n:h.Ns1 dx mA):∃od,h.get? dx=some od/\∀name,fD name od=some (mA name):=by
 obtain⟨o,es,ep,ho,hd,hk,_,hm⟩:=n
 refine⟨o,ho,λname=> ?_⟩
 have e:=hm name
 unfold nsFind findBy at e
 rw[←Array.find?_toList]at e
 unfold fD
 rw[hd]
 dsimp only
 split
 ·rename_i y q
  rw[q]at e
  exact congrArg some e
 ·rename_i q
  rw[q]at e
  have a:es.toList.any (·.refKey)=false:=by
   rw[ic]
   intro y hy
   obtain⟨z,t,hkey⟩:=hk y (Array.mem_toList_iff.mp hy)
   simp[DictEntry.refKey,hkey]
  have a':¬es.toList.any (·.refKey)=true:=by rw[a];exact bp
  rw[if_neg a']
  exact congrArg some e
theorem NA.look{h:Heap}{x dx C:Addr}{mA:Str->Option Value}(I:NA h x dx C mA):∃od,PySem.W.InstAt h x (cO C dx) C (some od)/\∀name,fD name od=some (mA name):=
 let ⟨od,ho,hl⟩:=P7 I.ns
 ⟨od,⟨I.obj,rfl,rfl,ho⟩,hl⟩
section
variable{prog:Program}{w:World}{A:Around}{E:Value->Shared->Prop}{s:Shared}{K:aA}{x dx C f:Addr}{mA:Str->Option Value}{name:Str}{v:Value}
theorem get_map{expr:Bool}{Q:Value->Shared->Prop}(X:K.In s.heap)(I:NA s.heap x dx C mA)(hg:bT K C name=true)(hh:bW K C=true)
  (ha:aB K (.ref C) name=some none) (hv:mA name=some v) (hv':iy v=true) (h:Q v {s with toks:=s.toks+1}):
  wpAny (model prog w) A (getAttr (.ref x) name expr) Q E s:=by
 obtain⟨od,J,hl⟩:=I.look
 exact PySem.W.get_value X J (fz hg).1 (PySem.W.findObj_own hh ha rfl (by rw[hl,hv])) hv' h
theorem Q_{pl:Sem Bool}{Q:Value×List Value->Shared->Prop}(X:K.In s.heap)(I:NA s.heap x dx C mA)(hg:bT K C name=true)
  (hf:aB K (.ref C) name=some (some (.ref f))) (ht:aR K (.ref f)=true) (hv:mA name=none) (h:Q (.ref f,[.ref x]) s):
  wpAny (model prog w) A (getMethod (.ref x) name pl) Q E s:=by
 obtain⟨od,J,hl⟩:=I.look
 exact PySem.W.method_fn X J (fz hg).1 (fz hg).2 hf (beq_iff_eq.mp ht) (by show(fD name od).map (·.isSome)=some false;rw[hl,hv];rfl) h
theorem Ub{ns:List Str}{Q:Unit->Shared->Prop}(X:K.In s.heap)(I:NA s.heap x dx C mA)
  (hs:aB K (.ref C) "__setattr__"=some (some (.builtin "object.__setattr__"))) (hp:cj K C=true) (ht:gc K C name=some none) (hh:bW K C=true)
  (hw:hX mA ns) (hsz:ns.length<=sizeLine)
  (h:∀h',NA h' x dx C (λy=>if y=name then some v else mA y)->eG dx s.heap h'->Q () {s with heap:=h',toks:=s.toks+2}):
  wpAny (model prog w) A (setAttr (.ref x) name v) Q E s:=by
 obtain⟨od,J,hl⟩:=I.look
 refine PySem.W.set_plain X J hs (PySem.W.osa_open (s:={s with toks:=s.toks+1}) (r:=none) X J hp ht λb=> ?_)
 obtain⟨cd,hc,hd'⟩:=PySem.W.any_some hh
 have hx:s.heap.get? x=some ⟨.ref C,some dx,.plain,#[]⟩:=I.obj
 refine wpAny_bind (wpAny_pure (wpAny_bind (wpAny_bind (wpAny_loadPart hx (wpAny_bind (PySem.W.Looks.here (s:={s with toks:=s.toks+1}) (PySem.W.looks_clsIn X hc) ?_))))))
 rw[hd']
 refine wpAny_pure (a:=some dx) (wpAny_bind (wpAny_pure (wpAny_bind ?_)))
 refine wpAny_nsSet1 (s:={s with toks:=s.toks+1}) I.ns λh' hn2 hs2=> ?_
 obtain⟨oD,esD,epD,hoD,hdD,hcD⟩:=hn2.count (PySem.Within.cons name v hw)
 refine wpAny_bind (wpAny_lookBehind hoD (by rw[hdD];exact pastItsLine_dict (aH hcD (by rw[af];lia))) ?_)
 exact wpAny_pure (h _ ⟨(hs2.2 _ (aC I.ne)).trans I.obj,hn2,I.ne⟩ hs2)
theorem Ry{R:Result->Shared->Prop}{vs:List Value}{kw:List (Str×Value)}(X:K.In s.heap)(hm:cG K C=true)
  (hi:aB K (.ref C) "__init__"=some (some (.ref f))) (hf:PySem.W.typeIn K (.ref f)=some (.type "function"))
  (h:codeAny (model prog w) (A.under (.builtin "type.__call__" ⟨.ref C::vs,kw⟩)) (.call (.ref f) ⟨.ref (s.heap.objs.size+1)::vs,kw⟩) (PySem.W.InitBack (s.heap.objs.size+1) R)
   {s with heap:=(s.heap.push cg).push (cO C s.heap.objs.size)}):
  codeAny (model prog w) A (.call (.ref C) ⟨vs,kw⟩) R s:=by
 obtain⟨hh,g,d,t,os⟩:=s
 exact PySem.W.make_core (PySem.W.makes_of X hm) (dZ X hi) (λself=>PySem.W.bind_fn X self hf) (.inl rfl) h
end
noncomputable def ly (f:Str) (v:V):List (Str×V)->List (Str×V)
 | []=>[(f,v)]
 |(g,x)::r=>if g=f then(g,v)::r else(g,x)::ly f v r
theorem EH(f g:Str)(v:V):∀fs:List (Str×V),(ly f v fs).lookup g=if g=f then some v else fs.lookup g
 | []=>by
  show bu g [(f,v)]=_
  by_cases h:g=f
  ·have hb:(g==f)=true:=beq_iff_eq.mpr h
   simp only[bu,hb,if_pos h]
  ·have hb:(g==f)=false:=beq_eq_false_iff_ne.mpr h
   simp only[bu,hb,if_neg h]
 |(k,x)::r=>by
  have ih:=EH f g v r
  rw[show ly f v ((k,x)::r)=(if k=f then(k,v)::r else(k,x)::ly f v r) from rfl]
  by_cases hk:k=f
  ·rw[if_pos hk]
   by_cases h:g=k
   ·have hb:(g==k)=true:=beq_iff_eq.mpr h
    simp only[bu,hb,if_pos (h.trans hk)]
   ·have hb:(g==k)=false:=beq_eq_false_iff_ne.mpr h
    simp only[bu,hb,if_neg (λe:g=f=>h (e.trans hk.symm))]
  ·rw[if_neg hk]
   by_cases h:g=k
   ·have hb:(g==k)=true:=beq_iff_eq.mpr h
    simp only[bu,hb,if_neg (λe:g=f=>hk (h.symm.trans e))]
   ·have hb:(g==k)=false:=beq_eq_false_iff_ne.mpr h
    simp only[bu,hb]
    exact ih
theorem D5(f:Str)(v:V):∀fs:List (Str×V),f∈(ly f v fs).map (·.1)/\∀g,g∈fs.map (·.1)->g∈(ly f v fs).map (·.1)
 | []=>⟨by simp[ly],λg h=>by simp at h⟩
 |(k,x)::r=>by
  obtain⟨i1,i2⟩:=D5 f v r
  rw[show ly f v ((k,x)::r)=(if k=f then(k,v)::r else(k,x)::ly f v r) from rfl]
  by_cases hk:k=f
  ·rw[if_pos hk]
   subst hk
   exact⟨by simp,λg h=>by simpa using h⟩
  ·rw[if_neg hk]
   refine⟨?_,λg h=> ?_⟩
   ·rw[ak]
    exact ba _ i1
   ·rw[ak]at h⊢
    rcases List.mem_cons.mp h with e|e
    ·exact List.mem_cons.mpr (.inl e)
    ·exact ba _ (i2 g e)
theorem EF(f:Str)(v:V):∀fs:List (Str×V),(ly f v fs).length<=fs.length+1
 | []=>by simp[ly]
 |(k,x)::r=>by
  have ih:=EF f v r
  rw[show ly f v ((k,x)::r)=(if k=f then(k,v)::r else(k,x)::ly f v r) from rfl]
  by_cases hk:k=f
  ·rw[if_pos hk,af,af];lia
  ·rw[if_neg hk,af,af];lia
theorem xZ.some_of{v:V}{o:Option Value}(r:xZ (some v) o):∃u,o=some u/\RelV v u:=by
 cases o with
 |none=>exact(show False from r).elim
 |some u=>exact⟨u,rfl,r⟩
theorem xZ.none_of{o:Option Value}(r:xZ none o):o=none:=by
 cases o with
 |none=>rfl
 |some u=>exact(show False from r).elim
theorem PR{v:V}{u:Value}(r:RelV v u):iy u=true:=by
 cases v with
 |kT=>cases (show u=d4 from r);rfl
 |bl b=>cases (show u=gI b from r);rfl
 |int i=>obtain⟨t,e⟩:=(show∃t,u=dX i t from r);cases e;rfl
 |str x=>obtain⟨t,e⟩:=(show∃t,u=fk x t from r);cases e;rfl
 |byt b=>obtain⟨t,e⟩:=(show∃t,u=Value.bytes b t from r);cases e;rfl
 |Nu b=>obtain⟨t,e⟩:=(show∃t,u=iq b t from r);cases e;rfl
 |ref a=>cases (show u=aX a from r);rfl
 |ty n=>cases (show u=gJ n from r);rfl
section
variable{P:Program}{w:World}{H H':Hp}{h h':Heap}{a C dx:Addr}{fs fs':List (Str×V)}
theorem Fu(ko:wa P w H h)(e:H a=some (.ins C dx fs)):∃mA,NA h a dx C mA/\(∀f,xZ (fs.lookup f) (mA f))/\hX mA (fs.map (·.1))/\fs.length<=1000/\H dx=some (.own a):=by
 obtain⟨d,z,ne,ob,mA,n,r,q⟩:=(show l9 P w H h a (.ins C dx fs) from ko a _ e)
 exact⟨mA,⟨ob,n,ne⟩,r,q,z,d⟩
end
structure Fh(K:aA)(C:Addr):Prop where
 pg:bT K C dt=true
 hd:bW K C=true
 po:cj K C=true
 sa:aB K (.ref C) "__setattr__"=some (some (.builtin "object.__setattr__"))
theorem Fh.get{K:aA}{C:Addr}(c:Fh K C)(f:Str):bT K C f=true:=c.pg
noncomputable def mf (K:aA) (C:Addr) (f:Str):Prop:=aB K (.ref C) f=some none
theorem mf.X3{K:aA}{C:Addr}{f:Str}(n:mf K C f):gc K C f=some none:=by
 unfold gc
 rw[show aB K (.ref C) f=some none from n]
 rfl
structure Meth(K:aA)(C:Addr)(m:Str)(f:Addr):Prop where
 at_:aB K (.ref C) m=some (some (.ref f))
 fn:aR K (.ref f)=true
 kp:bL K (.ref f)=true
section
variable{X:Cx}{pins:List (Addr×Obj)}{σ:St}{H:Hp}{s:Shared}{a C dx:Addr}{fs:List (Str×V)}{f:Str}{v:V}{A:Around}{E:Value->Shared->Prop}
theorem NV{b:Bool}{Q:Value->Shared->Prop}(I:Inv X pins σ H s)(e:H a=some (.ins C dx fs))(c:Fh X.K C)(n:mf X.K C f)(l:fs.lookup f=some v)
  (h:∀u s',Inv X pins σ H s'->RelV v u->Q u s'):wpAny (model X.prog X.w) A (getAttr (.ref a) f b) Q E s:=by
 obtain⟨mA,O,r,_,_,_⟩:=Fu I.ko e
 obtain⟨u,hu,ru⟩:=xZ.some_of (v:=v) (o:=mA f) (by rw[←l];exact r f)
 exact get_map I.CD O (c.get f) c.hd n hu (PR ru) (h u _ (I.tok _) ru)
theorem B_{m:Str}{g:Addr}{pl:Sem Bool}{Q:Value×List Value->Shared->Prop}(I:Inv X pins σ H s)(e:H a=some (.ins C dx fs))(c:Fh X.K C)(k:Meth X.K C m g)(l:fs.lookup m=none)
  (h:Q (.ref g,[.ref a]) s):wpAny (model X.prog X.w) A (getMethod (.ref a) m pl) Q E s:=by
 obtain⟨mA,O,r,_,_,_⟩:=Fu I.ko e
 have hn:mA m=none:=xZ.none_of (by rw[←l];exact r m)
 exact Q_ I.CD O (c.get m) k.at_ k.fn hn h
theorem OA{y:V}{u:Value}{Q:Unit->Shared->Prop}(I:Inv X pins σ H s)(e:H a=some (.ins C dx fs))(c:Fh X.K C)(n:mf X.K C f)(hl:fs.length<1000)(ry:RelV y u)
  (h:∀s',Inv X pins σ (upd H a (.ins C dx (ly f y fs))) s'->Q () s'):wpAny (model X.prog X.w) A (setAttr (.ref a) f u) Q E s:=by
 obtain⟨mA,O,r,wi,_,ho⟩:=Fu I.ko e
 have hz:(fs.map (·.1)).length<=sizeLine:=by rw[aj,sizeLine_eq];lia
 refine Ub I.CD O c.sa c.po n.X3 c.hd wi hz λh' O' sb=>h _ ?_
 have hd:∃o,h'.get? dx=some o:=let ⟨o,_,_,e',_⟩:=O'.ns;⟨o,e'⟩
 refine I.write (x:=a) (e:=dx) (by rw[e];exact aD) (.inr ho) (λb q hb z=>(sb.2 b hb).trans z) hd ?_
 refine⟨by rw[iW O.ne];exact ho,?_,O.ne,O'.obj,_,O'.ns,λg=> ?_,λg hg=> ?_⟩
 ·have:=EF f y fs;lia
 ·show xZ ((ly f y fs).lookup g) (if g=f then some u else mA g)
  rw[EH]
  by_cases q:g=f
  ·rw[if_pos q,if_pos q];exact ry
  ·rw[if_neg q,if_neg q];exact r g
 ·by_cases q:g=f
  ·rw[q];exact(D5 f y fs).1
  ·refine(D5 f y fs).2 g (wi g λz=>hg ?_)
   show(if g=f then some u else mA g)=none
   rw[if_neg q];exact z
theorem Inv.made(I:Inv X pins σ H s):Inv X pins σ (upd (upd H s.heap.objs.size (.own (s.heap.objs.size+1))) (s.heap.objs.size+1) (.ins C s.heap.objs.size []))
  {s with heap:=(s.heap.push cg).push (cO C s.heap.objs.size)}:=by
 have e1:(s.heap.push cg).get? s.heap.objs.size=some cg:=bJ s.heap rfl
 have e2:((s.heap.push cg).push (cO C s.heap.objs.size)).get? (s.heap.objs.size+1)=some (cO C s.heap.objs.size):=by
  have:=bJ (s.heap.push cg) (o:=cO C s.heap.objs.size) rfl
  rwa[gu]at this
 have e3:(s.heap.push cg).Ns s.heap.objs.size (λ_=>none):=⟨cg,#[],_,e1,rfl,(λe he=>absurd he (by simp)),λ_=>rfl⟩
 have I1:=I.laid (a:=s.heap.objs.size) (o:= .own (s.heap.objs.size+1)) (h':=s.heap.push cg) (t':=s.toks) (λb u q=>aP _ q) (aI _) ⟨_,e1⟩
 refine I1.laid (a:=s.heap.objs.size+1) (o:= .ins C s.heap.objs.size []) (t':=s.toks) (λb u q=>aP _ q) (Nat.le_of_eq (gu _ _)) ?_
 have ne:s.heap.objs.size≠s.heap.objs.size+1:=bA (fV _)
 refine⟨by rw[iW ne,iS],cD _,ne,e2,λ_=>none,(Heap.Ns1.of_empty e3).at λo q=>aP _ q,λ_=>aD,λy hy=>absurd rfl hy⟩
theorem SJ{prog:Program}{w:World}{env:Env}{e:Expr}{f:Str}{pos:Pos}{s:Shared}{Q:Value->Shared->Prop}(hb:attributeBase e f env (eval e env)=eval e env)
  (h:wpAny (model prog w) A (eval e env) (λo s₁=>wpAny (model prog w) A (getAttr o f true) Q E s₁) E s):wpAny (model prog w) A (eval (.Attribute e f pos) env) Q E s:=
 Attribute_any_ h (by rw[arm_eval_Attribute,hb])
end
section
variable{X:Cx}{o e value:Expr}{f:Str}{pos pos' tpos:Pos}{ta tv:TE}
end
section
variable{X:Cx}{pins:List (Addr×Obj)}{σ:St}{H:Hp}{s:Shared}{A:Around}{E:Value->Shared->Prop}{Q:Value->Shared->Prop}{c:Value}{b:Bool}
inductive EV (K:aA) (H:Hp):V->Value->Prop where
 |kT:EV K H .kT (.type "NoneType")
 |bl (x:Bool):EV K H (.bl x) (.type "bool")
 |int (i:Int):EV K H (.int i) (.type "int")
 |str (x:Str):EV K H (.str x) (.type "str")
 |Nu (x:UInt64):EV K H (.Nu x) (.type "float")
 |lst {a:Addr} {xs:List V} (e:H a=some (.lst xs)):EV K H (.ref a) (.type "list")
 |rN {a:Addr} {o:Obj} {xs:List V} (e:H a=some (.rN o (.lst xs))):EV K H (.ref a) (.type "list")
 |tup {a:Addr} {xs:List V} (e:H a=some (.tup xs)):EV K H (.ref a) (.type "tuple")
 |dK {a:Addr} {kvs:List (Key×V)} (e:H a=some (.dK kvs)):EV K H (.ref a) (.type "dict")
 |dT {a:Addr} {kvs:List (List Key×V)} (e:H a=some (.dT kvs)):EV K H (.ref a) (.type "dict")
 |ins {a C dx:Addr} {fs:List (Str×V)} (e:H a=some (.ins C dx fs)) (cl:Fh K C) (ha:aB K (.ref C) "__class__"=some (some (.builtin "object.__class__")))
   (hn:fP K (.builtin "object.__class__") "__get__"=some (some (.builtin "getset_descriptor.__get__"))) (htk:gf K (.builtin "object.__class__")=some true)
   (hm:fb K C (.type "object")=some true):EV K H (.ref a) (.ref C)
theorem qP{x:V}{u t:Value}(I:Inv X pins σ H s)(rx:RelV x u)(ty:EV X.K H x t)(e:bb X.K t c=some b)(h:∀tk,Q (.bool b) {s with toks:=tk}):
  wpAny (model X.prog X.w) A (call (.builtin "isinstance") [u,c]) Q E s:=by
 cases ty with
 |kT=>cases (show u=d4 from rx);exact b7 PySem.W.kitx_none I.CD aD e (λz=>nomatch z) h
 |bl y=>cases (show u=gI y from rx);exact b7 PySem.W.kitx_bool I.CD aD e (λz=>nomatch z) h
 |int i=>obtain⟨t,q⟩:=(show∃t,u=dX i t from rx);cases q;exact b7 PySem.W.kitx_int I.CD aD e (λz=>nomatch z) h
 |str y=>obtain⟨t,q⟩:=(show∃t,u=fk y t from rx);cases q;exact b7 PySem.W.kitx_str I.CD aD e (λz=>nomatch z) h
 |Nu y=>obtain⟨t,q⟩:=(show∃t,u=iq y t from rx);cases q;exact b7 PySem.W.kitx_float I.CD aD e (λz=>nomatch z) h
 | @lst a xs ea=>
  cases (show u=aX a from rx)
  obtain⟨_,_,n,_,h1⟩:=(show l9 X.prog X.w H s.heap a (.lst xs) from I.ko a _ ea)
  exact b7 ig I.CD ⟨_,h1,rfl⟩ e (λz=>nomatch z) h
 | @rN a ob xs ea=>
  cases (show u=aX a from rx)
  obtain⟨_,_,_,n,_,h1⟩:=(show l9 X.prog X.w H s.heap a (.rN ob (.lst xs)) from I.ko a _ ea)
  exact b7 ig I.CD ⟨_,h1,rfl⟩ e (λz=>nomatch z) h
 | @tup a xs ea=>
  cases (show u=aX a from rx)
  obtain⟨_,_,_,p⟩:=(show l9 X.prog X.w H s.heap a (.tup xs) from I.ko a _ ea)
  obtain⟨o,h1,h2,_⟩:=p
  exact b7 PySem.W.kitx_tuple I.CD ⟨o,h1,h2⟩ e (λz=>nomatch z) h
 | @dK a kvs ea=>
  cases (show u=aX a from rx)
  obtain⟨_,_,vs,_,p⟩:=(show l9 X.prog X.w H s.heap a (.dK kvs) from I.ko a _ ea)
  obtain⟨o,es,ep,h1,h2,_⟩:=p
  exact b7 ie I.CD ⟨o,h1,h2.1⟩ e (λz=>nomatch z) h
 | @dT a kvs ea=>
  cases (show u=aX a from rx)
  obtain⟨_,_,xs,_,o,es,ep,h1,h2,_⟩:=(show l9 X.prog X.w H s.heap a (.dT kvs) from I.ko a _ ea)
  exact b7 ie I.CD ⟨o,h1,h2.1⟩ e (λz=>nomatch z) h
 | @ins a C dx fs ea cl ha hn htk hm=>
  cases (show u=aX a from rx)
  obtain⟨mA,O,_⟩:=Fu I.ko ea
  obtain⟨od,J,_⟩:=O.look
  exact b7 (PySem.W.kitx_own (cl.get _) cl.hd ha hn htk hm) I.CD J e (λz=>nomatch z) h
end
end L2
namespace L2
open PySem PySem.Spec PyProof.Rows
structure ou(ca:Bool)(k:Nat)(A:Around):Prop where
 hd:ca=true->A.handled=none
 dp:A.depth+3*k+5<recursionLimit
 un:A.units+16*k+200<cLine
theorem ou.mono{ca:Bool}{j k:Nat}{A:Around}(r:ou ca k A)(h:j<=k):ou ca j A:=⟨r.hd,by have:=r.dp;lia,by have:=r.un;lia⟩
theorem ou.deeper{ca:Bool}{k:Nat}{A:Around}(r:ou ca (k+1) A)(env:Env):ou ca k (A.deeper env):=
 ⟨r.hd,by have:=r.dp;show A.depth+1+3*k+5<_;lia,by have:=r.un;show A.units+3+16*k+200<_;lia⟩
theorem Od{A:Around}{C:Addr}{us:List Value}{kw:List (Str×Value)}:(A.under (.builtin "type.__call__" ⟨.ref C::us,kw⟩)).depth=A.depth+1:=by
 first|rfl|simp[gX,Code.weight,Code.isCreation,Code.isGuard,Code.isCaller,Code.frames,gZ,guardIds]
theorem Oe{A:Around}{C:Addr}{us:List Value}{kw:List (Str×Value)}:(A.under (.builtin "type.__call__" ⟨.ref C::us,kw⟩)).units=A.units+1:=by
 first|rfl|simp[gX,Code.cUnits,Code.frames,gZ]
theorem ou.make{ca:Bool}{k:Nat}{A:Around}(r:ou ca (k+1) A)(C:Addr)(us:List Value)(kw:List (Str×Value)):ou ca k (A.under (.builtin "type.__call__" ⟨.ref C::us,kw⟩)):=
 ⟨r.hd,by have:=r.dp;rw[Od];lia,by have:=r.un;rw[Oe];lia⟩
theorem ou.depth{ca:Bool}{k:Nat}{A:Around}(r:ou ca k A):A.depth<recursionLimit:=by have:=r.dp;lia
theorem ou.units{ca:Bool}{k:Nat}{A:Around}(r:ou ca k A):A.units+64<cLine:=by have:=r.un;lia
noncomputable def jd:TA:=λ_ H Q=>Q [] H
noncomputable def iZ (ta:TE) (tr:TA):TA:=λσ H Q=>ta σ H λx H1=>tr σ H1 λxs H2=>Q (x::xs) H2
section
variable{X:Cx}{e:Expr}{es:List Expr}{te:TE}{t:TA}{pos:Pos}
theorem Om:PA X [] jd:=λ_ _ _ _ H Q I h=>dR ⟨[],H,I,.nil,h⟩
theorem TF(ha:PE X e te)(hr:PA X es t)(hs:starEach (e::es) X.env=(false,eval e X.env)::starEach es X.env:=by rfl):PA X (e::es) (iZ te t):=by
 intro pos pins s σ H Q I h
 rw[hs]
 show wpAny _ _ (spliced ((false,eval e X.env)::backTo pos (starEach es X.env))) _ _ s
 refine dM (oh (ha pins s σ H _ I h) λu s1 ⟨x,H1,I1,r1,q1⟩=> ?_)
 exact oh (hr pos pins s1 σ H1 _ I1 q1) λus s2 ⟨xs,H2,I2,r2,q2⟩=>⟨x::xs,H2,I2,.cons r1 r2,q2⟩
noncomputable def Jg (t:TA):TE:=λσ H Q=>t σ H λxs H1=>xs.length<=sizeLine/\∀p,H1 p=none->Q (.ref p) (upd H1 p (.tup xs))
noncomputable def xU (t:TA):TE:=λσ H Q=>t σ H λxs H1=>xs.length<=sizeLine/\∀p,H1 p=none->Q (.ref p) (upd H1 p (.lst xs))
theorem V2{x1}(h:PA X es t):PE X (.Tuple es x1 pos) (Jg t):=by
 intro pins s σ H Q I hq
 refine wpAny_Tuple_spliced (oh (h pos pins s σ H _ I hq) λus s1 ⟨xs,H1,I1,r,z,q⟩=>⟨by rw[←r.length];exact z,?_⟩)
 have hf:H1 s1.heap.objs.size=none:=I1.ko.fresh (aI _)
 refine⟨.ref s1.heap.objs.size,upd H1 s1.heap.objs.size (.tup xs),I1.laid (t':=s1.toks) (λb u e=>aP _ e) (aI _) ?_,rfl,q _ hf⟩
 exact⟨z,us,r,⟨_,bJ _ rfl,rfl,_,rfl⟩⟩
theorem VX(h:PA X es t):PE X (.List es pos) (xU t):=by
 intro pins s σ H Q I hq
 refine wpAny_List_spliced (oh (h pos pins s σ H _ I hq) λus s1 ⟨xs,H1,I1,r,z,q⟩=>⟨by rw[←r.length];exact z,?_⟩)
 have hf:H1 s1.heap.objs.size=none:=I1.ko.fresh (aI _)
 refine⟨.ref s1.heap.objs.size,upd H1 s1.heap.objs.size (.lst xs),I1.laid (t':=s1.toks) (λb u e=>aP _ e) (aI _) ?_,rfl,q _ hf⟩
 exact⟨z,us,0,r,bJ _ rfl⟩
end
noncomputable abbrev Sp:=List V->Hp->VK->XK->Prop
noncomputable abbrev Qn:=List Env->Hp->Shared->XK->Value->Shared->Prop
structure HI(P:Program)(w:World)(K:aA)(mg:Str->Option Value)(base:Heap)(A:Around)(outer:List Env)(s:Shared)(H:Hp):Prop where
 frames:A.frames=some outer
 mod:Mod K mg base
 bs:∀b o,base.get? b=some o->s.heap.get? b=some o/\H b=none
 PF:base.objs.size<=s.heap.objs.size
 Bl:s.heap.FunFrames base outer
 SD:∀b∈EC outer,H b=none
 ko:wa P w H s.heap
 bare:AllBare s.gens
noncomputable def CE (outer:List Env) (P:Program) (w:World) (H:Hp) (s:Shared) (Q:VK) (u:Value) (s':Shared):Prop:=
 ∃v H',s'.os=s.os/\AllBare s'.gens/\Un (EC outer) [] H H' s.heap s'.heap/\wa P w H' s'.heap/\RelV v u/\Q v H'
noncomputable def CR (CX:Qn) (outer:List Env) (P:Program) (w:World) (H:Hp) (s:Shared) (Q:VK) (E:XK) (r:Result) (s':Shared):Prop:=
 match r with
 | .ok (.ret u)=>CE outer P w H s Q u s'
 | .ok _=>False
 | .error e=>CX outer H s E e s'
structure jA(P:Program)(w:World)(K:aA)(mg:Str->Option Value)(base:Heap)(CX:Qn)(ca:Bool)(k:Nat)(f:Addr)(fd:FuncData)(ps:List Str)(sp:Sp):Prop where
 len:∀vs H Q E,sp vs H Q E->vs.length=ps.length
 run:∀(A:Around) (outer:List Env) (s:Shared) (H:Hp) (args:Args) (us:List Value) (vs:List V) (Q:VK) (E:XK),ou ca k A->HI P w K mg base A outer s H->BindsTo s fd args (ps.zip us)->Vals vs us->sp vs H Q E->
  codeAny (model P w) A (.call (.ref f) args) (CR CX outer P w H s Q E) s
theorem jA.mono{P:Program}{w:World}{K:aA}{mg:Str->Option Value}{base:Heap}{CX:Qn}{ca:Bool}{j k:Nat}{f:Addr}{fd:FuncData}{ps:List Str}{sp:Sp}(F:jA P w K mg base CX ca j f fd ps sp)(h:j<=k:=by decide):
  jA P w K mg base CX ca k f fd ps sp:=⟨F.len,λA outer s H args us vs Q E hr=>F.run A outer s H args us vs Q E (hr.mono h)⟩
theorem HI.make{P:Program}{w:World}{K:aA}{mg:Str->Option Value}{base:Heap}{A:Around}{outer:List Env}{s:Shared}{H:Hp}(e:HI P w K mg base A outer s H)(C:Addr)(us:List Value)(kw:List (Str×Value)):
  HI P w K mg base (A.under (.builtin "type.__call__" ⟨.ref C::us,kw⟩)) outer s H:=⟨by first|exact e.frames|(simpa [gX,Code.envs,gZ,pushEnvs] using e.frames),e.mod,e.bs,e.PF,e.Bl,e.SD,e.ko,e.bare⟩
section
variable{X:Cx}{pins:List (Addr×Obj)}{σ:St}{H:Hp}{s s':Shared}
theorem Inv.Vc(I:Inv X pins σ H s):HI X.prog X.w X.K X.mg X.base X.A X.stack s H:=
 ⟨I.ok.frames,I.ok.mod,I.bs,aH I.ok.PF I.sz,I.stack,I.Bf,I.ko,I.bare⟩
theorem Inv.after{Q:VK}{u:Value}(I:Inv X pins σ H s)(h:CE X.stack X.prog X.w H s Q u s'):EP X pins σ Q u s':=by
 obtain⟨v,H',os,bare,un,ko,r,q⟩:=h
 obtain⟨hh,g,d,t,os'⟩:=s'
 obtain rfl:os'=s.os:=os
 exact⟨v,H',I.call (h':=hh) (g':=g) (d':=d) (t':=t) (ch:=[]) un ko bare (λb z=>absurd z (by simp)),r,q⟩
end
noncomputable def Binds (K:aA) (fd:FuncData) (ps:List Str) (ds:List Value):Prop:=
 ∀(s:Shared) (us:List Value),K.In s.heap->(us++ds).length=ps.length->BindsTo s fd ⟨us,[]⟩ (ps.zip (us++ds))
theorem Binds.all{K:aA}{fd:FuncData}{ps:List Str}(h:∀us:List Value,us.length=ps.length->bindArgs fd ⟨us,[]⟩=pure (ps.zip us)):Binds K fd ps []:=λs us _ hl=>by
 rw[ay]at hl⊢
 exact .of_eq (h us hl)
section
variable{X:Cx}{CX:Qn}{ca:Bool}{k:Nat}{f C:Addr}{fd:FuncData}{ps:List Str}{sp:Sp}{dvs:List V}{ds:List Value}{E:XK}{x m:Str}{p pos apos:Pos}{e o:Expr}{es:List Expr}{ta:TE}{t:TA}
structure Mk(K:aA)(C f:Addr):Prop where
 makes:cG K C=true
 init:aB K (.ref C) "__init__"=some (some (.ref f))
 fn:aR K (.ref f)=true
 kp:bL K (.ref C)=true
end
section
variable{X:Cx}{CX:Qn}{ca:Bool}{k:Nat}{f C:Addr}{fd:FuncData}{ps ks:List Str}{sp:Sp}{E:XK}{x m:Str}{p pos apos kpos:Pos}{e o:Expr}{es:List Expr}{kws:List Keyword}{te ta:TE}{t tk:TA}{nm:Option Str}
variable{g:List Value->List Value->List Value}{gV:List V->List V->List V}
end
structure i7(N P:List Str)(sc:Scope):Prop where
 kind:sc.kind= .function
 co:sc.isCoroutine=false
 gen:sc.isGenerator=false
 nd:N.Nodup
 pre:N.take P.length=P
 par:∀x∈P,sc.names.lookup x=some .local∨sc.names.lookup x=some .cell
 VF:∀y∈sc.names,y.2≠ .free
theorem Jm{kindOf:Str->Option NameKind}{x:Str}:∀{binds:List (Str×Value)} {m:Str->Option Value},(∀v,(x,v)∉binds)->bindL kindOf binds m x=m x
 | [],_,_=>rfl
 |(n,v)::r,m,h=>by
  unfold bindL
  rw[Jm λw hw=>h w (ba _ hw)]
  split
  ·have:x≠n:=by rintro rfl;exact h v a_
   simp[this]
  ·rfl
theorem Jj{kindOf:Str->Option NameKind}{x:Str}:∀{binds:List (Str×Value)} {m:Str->Option Value},(∀v,(x,v)∉binds)->bindC kindOf binds m x=m x
 | [],_,_=>rfl
 |(n,v)::r,m,h=>by
  unfold bindC
  rw[Jj λw hw=>h w (ba _ hw)]
  split
  ·rfl
  ·have:x≠n:=by rintro rfl;exact h v a_
   simp[this]
theorem Jk{kindOf:Str->Option NameKind}{x:Str}{v:Value}:∀{P:List Str} {vs:List Value} {i:Nat} {m:Str->Option Value},P.Nodup->P[i]? =some x->vs[i]? =some v->kindOf x=some .local->
  bindL kindOf (P.zip vs) m x=some v
 | [],_,_,_,_,h,_,_=>by simp at h
 |_::_,[],_,_,_,_,h,_=>by simp at h
 |p::P,w::vs,0,m,nd,h1,h2,hk=>by
  simp at h1 h2;subst h1;subst h2
  show bindL kindOf ((p,w)::P.zip vs) m p=_
  unfold bindL
  rw[Jm λv hv=>(List.nodup_cons.mp nd).1 (f_ hv).1,if_pos hk]
  simp
 |p::P,w::vs,i+1,m,nd,h1,h2,hk=>by
  show bindL kindOf ((p,w)::P.zip vs) m x=_
  unfold bindL
  exact Jk (i:=i) (List.nodup_cons.mp nd).2 (by simpa using h1) (by simpa using h2) hk
theorem Ji{kindOf:Str->Option NameKind}{x:Str}{v:Value}:∀{P:List Str} {vs:List Value} {i:Nat} {m:Str->Option Value},P.Nodup->P[i]? =some x->vs[i]? =some v->kindOf x≠some .local->
  bindC kindOf (P.zip vs) m x=some v
 | [],_,_,_,_,h,_,_=>by simp at h
 |_::_,[],_,_,_,_,h,_=>by simp at h
 |p::P,w::vs,0,m,nd,h1,h2,hk=>by
  simp at h1 h2;subst h1;subst h2
  show bindC kindOf ((p,w)::P.zip vs) m p=_
  unfold bindC
  rw[Jj λv hv=>(List.nodup_cons.mp nd).1 (f_ hv).1,if_neg hk]
  simp
 |p::P,w::vs,i+1,m,nd,h1,h2,hk=>by
  show bindC kindOf ((p,w)::P.zip vs) m x=_
  unfold bindC
  exact Ji (i:=i) (List.nodup_cons.mp nd).2 (by simpa using h1) (by simpa using h2) hk
noncomputable def start (N:List Str) (vs:List V):St:=vs.map some++ah (N.length-vs.length) none
noncomputable def Mi (CX:Qn) (ca:Bool) (P:Program) (w:World) (K:aA) (mg:Str->Option Value) (base:Heap) (N:List Str) (qual:Str) (scope:Scope) (f:Addr) (cd:Value) (A:Around) (outer:List Env) (s:Shared) (H:Hp) (E:XK):Cx where
 prog:=P
 w:=w
 K:=K
 mg:=mg
 base:=base
 A:=A.deeper (envOfC qual scope s.heap.objs.size f cd)
 N:=N
 s₀:=s
 H₀:=H
 env:=envOfC qual scope s.heap.objs.size f cd
 outer:=outer
 stack:=envOfC qual scope s.heap.objs.size f cd::outer
 ex:=[]
 calm:=ca
 fn:=λ_=>true
 pn:=[]
 xe:=λe s'=>wpAny (model P w) (A.deeper (envOfC qual scope s.heap.objs.size f cd)) (leaving (envOfC qual scope s.heap.objs.size f cd) e) (λ_ s''=>CX outer H s E e s'') (λe' s''=>CX outer H s E e' s'') s'
theorem Mg{sc:Scope}{n:Nat}{x:Str}(h:sc.names.lookup x=some .cell):∃c,(cellsFrom n sc.names []).lookup x=some c:=by
 have q:=gq sc.names n [] (.inl h)
 exact Option.isSome_iff_exists.mp q
theorem PV{CX:Qn}{ca:Bool}{P:Program}{w:World}{K:aA}{mg:Str->Option Value}{base:Heap}{N ps:List Str}{qual:Str}{scope:Scope}{f:Addr}{cd:Value}{A:Around}{outer:List Env}{s s1:Shared}{H:Hp}{E:XK}{us:List Value}{vs:List V}
  (S:i7 N ps scope) (hd:ca=true->A.handled=none) (e0:HI P w K mg base A outer s H) (hl:vs.length=ps.length) (r:Vals vs us)
  (x:InCallC s s.heap.objs.size (bindL (envOfC qual scope s.heap.objs.size f cd).kindOf (ps.zip us) λ_=>none) (cellsFrom (s.heap.objs.size+1) scope.names []) (bindC (envOfC qual scope s.heap.objs.size f cd).kindOf (ps.zip us) λ_=>none) s1):
  Inv (Mi CX ca P w K mg base N qual scope f cd A outer s H E) [] (start N vs) H s1:=by
 have hpl:ps.length<=N.length:=by have:=congrArg d6 S.pre;rw[bH]at this;lia
 obtain⟨h1,tk,rfl,hk⟩:=x.done
 have noA:∀b:Addr,b∉(Mi CX ca P w K mg base N qual scope f cd A outer s H E).ex:=λb z=>absurd (show b∈([]:List Addr) from z) (by simp)
 refine⟨⟨e0.mod,S.kind,rfl,rfl,aI _,λy z c h1 h2=> ?_,λy hy=> ?_,λy c _ h=> ?_,λz=>hd z,gC e0.frames,.inr ⟨rfl,rfl⟩,λb z=>absurd z (noA b),e0.bs,e0.PF,λb _ _=>noA b,λb z=>absurd z (noA b),e0.Bl,e0.SD⟩,
  rfl,e0.bare,Un.kept hk,⟨_,x.toInCall.ns,λi y v h1 h2 h3=> ?_⟩,λy c h=>⟨_,x.cell y c h⟩,e0.ko.fresh (aI _),λy c h=> ?_,λp hp=>absurd (show p∈([]:List (Addr×Obj)) from hp) (by simp),e0.ko.kept hk,?_⟩
 ·exact name_of_addr x.apart (cF h1) (cF h2)
 ·have hy:scope.names.lookup y=some .cell∨scope.names.lookup y=some .free:=hy
  rcases hy with hy|hy
  ·exact Mg hy
  ·exact absurd rfl (S.VF _ (cF hy))
 ·exact dU (x.above y c (cF h))
 ·have hi:i<vs.length:=by
   unfold start at h2
   by_cases hi:i<vs.length
   ·exact hi
   ·rw[cT (by simpa using hi)]at h2
    rw[eO]at h2
    split at h2<;>cases h2
  have ha:vs[i]? =some v:=by
   unfold start at h2
   rw[d9 (by simpa using hi),aS]at h2
   cases e:vs[i]? with
   |none=>rw[e]at h2;cases h2
   |some a=>rw[e]at h2;cases h2;rfl
  obtain⟨u,hu,rv⟩:=r.get ha
  have hp:ps[i]? =some y:=by
   rw[←S.pre,cZ (by lia)];exact h1
  have ndP:ps.Nodup:=by rw[←S.pre];exact S.nd.sublist (List.take_sublist _ _)
  refine⟨u,rv,?_⟩
  rcases S.par y (cz hp) with k|k
  ·exact .inl ⟨k,Jk ndP hp hu k⟩
  ·obtain⟨c,e⟩:=Mg (n:=s.heap.objs.size+1) k
   refine .inr ⟨.inl k,c,e,?_⟩
   have q:=x.cell y c e
   rw[Ji ndP hp hu (by show scope.names.lookup y≠_;rw[k];decide)]at q
   exact q
 ·exact e0.ko.fresh (dU (x.above y c (cF h)))
 ·unfold start
  show _=N.length
  rw[aY,aj,bw]
  lia
theorem Ux{CX:Qn}{ca:Bool}{P:Program}{w:World}{K:aA}{mg:Str->Option Value}{base:Heap}{k:Nat}{f:Addr}{name qual:Str}{params:Arguments}{body:List Stmt}{scope:Scope}{dV kV doc pm cdv ct oc:Value}{an od:Option Addr}
  {osl:Array (Option Value)} {N ps:List Str} {sp:Sp} (lk:K.lookup f=some ⟨oc,od,.func (di name qual params body scope dV kV doc pm an cdv ct),osl⟩) (hcd:fB K cdv qual=true) (S:i7 N ps scope)
  (len:∀vs H Q E,sp vs H Q E->vs.length=ps.length)
  (hbody:∀(A:Around) (outer:List Env) (s:Shared) (H:Hp) (vs:List V) (Q:VK) (E:XK),ou ca k (A.deeper (envOfC qual scope s.heap.objs.size f cdv))->sp vs H Q E->
   ∃t,NC (Mi CX ca P w K mg base N qual scope f cdv A outer s H E) body t/\t {nx:=λ_ H'=>Q .kT H',rt:=Q} (start N vs) H):
  jA P w K mg base CX ca (k+1) f (di name qual params body scope dV kV doc pm an cdv ct) ps sp:=by
 refine⟨len,λA outer s H args us vs Q E hr e0 hb r hsp=> ?_⟩
 have hl:=len _ _ _ _ hsp
 have KX:K.In s.heap:=e0.mod.CF.keeps λb o e=>(e0.bs b o e).1
 have lim:s.heap.NoLimit:=e0.mod.nolimit.keeps λb o e=>(e0.bs b o e).1
 have hkind:∀y∈ps.zip us,scope.names.lookup y.1=some .local∨(scope.names.lookup y.1=some .cell/\((cellsFrom (s.heap.objs.size+1) scope.names []).lookup y.1).isSome=true):=λ⟨n,v⟩ hy=>by
  rcases S.par n (f_ hy).1 with q|q
  ·exact .inl q
  ·exact .inr ⟨q,gq _ _ _ (.inl q)⟩
 refine codeAny_call_function hr.depth (KX _ _ lk) rfl S.co S.gen rfl (PySem.W.codeRec_of KX hcd) (hb _ _ _ _ ?_)
 refine wpAny_newFunctionEnv_cells S.kind hkind λenv he s1 x=> ?_
 subst he
 refine⟨lim.keeps x.toInCall.keep,codeAny_func ?_⟩
 obtain⟨t,ht,hq⟩:=hbody A outer s H vs Q E (hr.deeper _) hsp
 have I:Inv (Mi CX ca P w K mg base N qual scope f cdv A outer s H E) [] (start N vs) H s1:=PV S hr.hd e0 hl r x
 refine wpAny_mono (ht [] s1 (start N vs) H _ I hq) (λfl s' hs=> ?_) λe s' hs=>hs
 have fin:∀{σ':St} {H':Hp} {v:V} {u:Value},Inv (Mi CX ca P w K mg base N qual scope f cdv A outer s H E) [] σ' H' s'->RelV v u->Q v H'->CE outer P w H s Q u s':=
  λ{σ' H' v u} J rv q=>⟨v,H',J.os,J.bare,J.base,J.ko,rv,q⟩
 cases fl with
 |ret u=>
  obtain⟨v,σ',H',J,rv,q⟩:=hs
  exact fin J rv q
 |next=>
  obtain⟨σ',H',J,q⟩:=hs
  exact fin (v:=V.kT) (u:=d4) J rfl q
 |brk=>
  obtain⟨_,_,_,q⟩:=hs
  exact bY q
 |cont=>
  obtain⟨_,_,_,q⟩:=hs
  exact bY q
end L2
namespace L2
open PySem PySem.Spec PyProof.Rows
section
variable{X:Cx}{x:Str}{p pos:Pos}{e:Expr}{es:List Expr}{t:TA}{id T:String}{r:List V->Hp->VK->Prop}
noncomputable def Bg (r:List V->Hp->VK->Prop) (t:TA):TE:=λσ H Q=>t σ H λvs H1=>r vs H1 Q
theorem RE(hc:tN X (.builtin id) r)(hg:Gl X x)(hm:X.mg x=none)(hv:bootBuiltins x=some (.builtin id))(ha:PA X (e::es) t)(hn:x≠"__name__":=by decide)(hdb:(x==("__debug__":Str))=false:=by decide)
  (he:starEach (e::es) X.env=(false,eval e X.env)::starEach es X.env:=by rfl) (hpl:(backTo pos (starEach es X.env)).any (·.1)=false:=by rfl):PE X (.Call (.Name x p) (e::es) [] pos) (Bg r t):=by
 intro pins s σ H Q I h
 refine wpAny_Call_Name_kw (z7 I hg hm hv ?_ hn hdb)
 exact PyProof.Rows.callWith_builtin1 (oh (ha pos pins s σ H _ I h) λus s1 ⟨vs,H1,I1,r1,q1⟩=>hc pins s1 σ H1 vs us Q I1 r1 q1) he hpl
theorem Qb(hc:tN X (.type T) r)(hg:Gl X x)(hm:X.mg x=none)(hv:bootBuiltins x=some (.type T))(ha:PA X (e::es) t)(hn:x≠"__name__":=by decide)(hdb:(x==("__debug__":Str))=false:=by decide)
  (he:starEach (e::es) X.env=(false,eval e X.env)::starEach es X.env:=by rfl) (hpl:(backTo pos (starEach es X.env)).any (·.1)=false:=by rfl):PE X (.Call (.Name x p) (e::es) [] pos) (Bg r t):=by
 intro pins s σ H Q I h
 refine wpAny_Call_Name_kw (z7 I hg hm hv ?_ hn hdb)
 exact cy (oh (ha pos pins s σ H _ I h) λus s1 ⟨vs,H1,I1,r1,q1⟩=>hc pins s1 σ H1 vs us Q I1 r1 q1) he hpl
end
end L2
namespace HT
open PySem PyProof.Rows
section
open PySem.SeqAt
open PySem.AutoSeq1 (wpAny_loadPart')
open PySem.MeetsSeq PySem.MeetsSeq2 PySem.MeetsSeq3
end
section
variable{prog:Program}{w:World}{A:Around}{E:Value->Shared->Prop}{s:Shared}
theorem S8{t b:Addr}{vs ws:List Value}{Q:Value->Shared->Prop}(ht:IsTup s.heap t vs.toArray)(hb:IsTup s.heap b ws.toArray)(hv:vs≠ [])
  (h1:ws=[]->Q (.ref t) s) (h2:ws≠ []->Q (.ref s.heap.objs.size) {s with heap:=s.heap.push {cls:= .type "tuple",data:= .seq (vs++ws).toArray}})
  (hsz:vs.length+ws.length<=sizeLine):wpAny (model prog w) A (binaryOp .Add (.ref t) (.ref b)) Q E s:=by
 obtain⟨⟨cls,dd,data,sl⟩,ho,hc,n,hd⟩:=id ht
 obtain⟨⟨cls2,dd2,data2,sl2⟩,ho2,hc2,n2,hd2⟩:=id hb
 simp only at hc hd hc2 hd2
 subst hc hd hc2 hd2
 have e:vs.toArray++ws.toArray=(vs++ws).toArray:=by simp
 by_cases hw:ws=[]
 ·exact concat_meets ⟨_,ho,rfl⟩ ⟨_,ho2,rfl⟩ noFill_tuple_add seq_tuple_add gp fY (fX _ _)
   (tuple_addW1 t b vs.toArray ws.toArray n n2 dd dd2 sl sl2 (by simpa using hv) (by simp[hw])) ⟨ho,ho2,h1 hw⟩
 ·refine concat_meets ⟨_,ho,rfl⟩ ⟨_,ho2,rfl⟩ noFill_tuple_add seq_tuple_add gp fY (fX _ _)
   (tuple_addW2 t b vs.toArray ws.toArray n n2 dd dd2 sl sl2 (by simpa using hv) (by simpa using hw) (by rw[aZ,aZ];exact hsz)) ⟨ho,ho2,?_⟩
  rw[e]
  exact h2 hw
noncomputable def IK (n d:Nat):Option Int->Nat
 |none=>d
 |some v=>if v<0 then(v+(n:Int)).toNat else min v.toNat n
theorem FA(n d k:Nat):IK n d (some (k:Int))=min k n:=by
 show(if (k:Int)<0 then((k:Int)+(n:Int)).toNat else min (k:Int).toNat n)=min k n
 rw[if_neg (by lia),bU]
end
end HT
namespace L2
open PySem PySem.Spec PyProof.Rows
noncomputable abbrev TO:=St->Hp->(Option Int->Hp->Prop)->Prop
noncomputable def PO (X:Cx) (e:Option Expr) (t:TO):Prop:=
 ∀(pins:List (Addr×Obj)) (s:Shared) (σ:St) (H:Hp) (Q:Option Int->Hp->Prop),Inv X pins σ H s->t σ H Q->
  wpAny (model X.prog X.w) X.A (evalPart e X.env) (λu s'=>∃o H',Inv X pins σ H' s'/\IsPart u o/\Q o H') X.xe s
section
variable{X:Cx}{e:Expr}{te:TE}{lo hi:Option Expr}{tl th:TO}{pos p2:Pos}
noncomputable def Um (X:Cx) (r:V->Option Int->Option Int->Hp->VK->Prop):Prop:=
 ∀(pins:List (Addr×Obj)) (s:Shared) (σ:St) (H:Hp) (x:V) (v vl vu:Value) (lo hi:Option Int) (sl:Addr) (Q:VK),Inv X pins σ H s->RelV x v->s.heap.IsSliceOf sl vl vu .none->IsPart vl lo->IsPart vu hi->r x lo hi H Q->
  ∃T id,typeLookup (.type T) "__getitem__"=pure (some (.builtin id))/\s.TypeIs v T/\wpAny (model X.prog X.w) X.A (getItem v (.ref sl)) (EP X pins σ Q) X.xe s
noncomputable def X2 (r:V->Option Int->Option Int->Hp->VK->Prop) (te:TE) (tl th:TO):TE:=λσ H Q=>te σ H λx H1=>tl σ H1 λl H2=>th σ H2 λu H3=>r x l u H3 Q
theorem RP{r:V->Option Int->Option Int->Hp->VK->Prop}(hr:Um X r)(he:PE X e te)(hl:PO X lo tl)(hu:PO X hi th):PE X (.Subscript e (.Slice lo hi none p2) pos) (X2 r te tl th):=by
 intro pins s σ H Q I h
 refine Subscript_ (oh (he pins s σ H _ I h) λv s1 ⟨x,H1,I1,r1,q1⟩=> ?_)
 refine wpAny_Slice (oh (hl pins s1 σ H1 _ I1 q1) λvl s2 ⟨l,H2,I2,pl,q2⟩=>oh (hu pins s2 σ H2 _ I2 q2) λvu s3 ⟨u,H3,I3,pu,q3⟩=> ?_)
 rw[evalPart_none]
 refine wpAny_pure ?_
 have I4:Inv X pins σ H3 {s3 with heap:=s3.heap.push {cls:= .type "slice",data:= .fields #[vl,vu,.none]}}:=I3.kept (t':=s3.toks) λb ob q=>aP _ q
 obtain⟨T,id,hT,ht,hg⟩:=hr pins {s3 with heap:=s3.heap.push {cls:= .type "slice",data:= .fields #[vl,vu,.none]}} σ H3 x v vl vu l u s3.heap.objs.size Q I4 r1 (Heap.IsSliceOf.new ..) pl pu q3
 show wpAny (model X.prog X.w) X.A (subscriptTail e (.Slice lo hi none p2) v (.ref s3.heap.objs.size)) (EP X pins σ Q) X.xe {s3 with heap:=s3.heap.push {cls:= .type "slice",data:= .fields #[vl,vu,.none]}}
 exact tail_any (ops:=[.ref s3.heap.objs.size,v]) ht hT hg (by with_unfolding_all rfl)
noncomputable def HX (xs:List V) (lo hi:Option Int):List V:=(xs.drop (HT.IK xs.length 0 lo)).take (HT.IK xs.length xs.length hi-HT.IK xs.length 0 lo)
theorem Mh(xs:List V)(lo hi:Option Int):(HX xs lo hi).length<=xs.length:=by
 unfold HX
 rw[bH,dY]
 lia
noncomputable def XW (K:aA):R2:=λx y H Q=>∃a b xs ys,x= .ref a/\y= .ref b/\JV K H a xs/\JV K H b ys/\xs≠ []/\xs.length+ys.length<=sizeLine/\
 (ys=[]->Q (.ref a) H)/\(ys≠ []->∀p,H p=none->Q (.ref p) (upd H p (.tup (xs++ys))))
theorem Vals.Lc{xs:List V}{us:List Value}(r:Vals xs us):us=[]↔xs=[]:=by
 cases r with
 |nil=>simp
 |cons _ _=>simp
theorem Tz:ux X (binaryOp .Add) (XW X.K):=by
 intro pins s σ H x y v u Q I rx ry h
 obtain⟨a,b,xs,ys,rfl,rfl,ha,hb,hx,hz,q1,q2⟩:=h
 cases rx
 cases ry
 obtain⟨its,r1,p1,_⟩:=I.tuple ha
 obtain⟨its2,r2,p2,_⟩:=I.tuple hb
 refine HT.S8 p1 p2 (λz=>hx (r1.Lc.mp z)) (λz=>⟨.ref a,H,I,rfl,q1 (r2.Lc.mp z)⟩) (λz=> ?_) (by rw[←r1.length,←r2.length];exact hz)
 refine⟨.ref s.heap.objs.size,_,I.laid (t':=s.toks) (o:= .tup (xs++ys)) (λb ob q=>aP _ q) (aI _) ?_,rfl,q2 (λw=>z (r2.Lc.mpr w)) _ (I.ko.fresh (aI _))⟩
 exact⟨by rw[aY];exact hz,_,r1.append r2,IsTup.new _ _⟩
end
end L2
namespace L2
open PySem PySem.Spec PyProof.Rows
noncomputable def PX (n:Nat) (i:Int):Option Nat:=if 0<=i then(if i<n then some i.toNat else none) else if -(n:Int)<=i then some (i+n).toNat else none
noncomputable def HJ {α:Type} (xs:List α) (i:Int):Option α:=(PX xs.length i).bind λj=>xs[j]?
theorem O2{n:Nat}{i:Int}{j:Nat}(h:PX n i=some j):seqIndex? i n=some j/\j<n/\ -(n:Int)<=i/\i<n:=by
 unfold PX at h
 by_cases h0:0<=i
 ·rw[if_pos h0]at h
  by_cases h1:i<n
  ·rw[if_pos h1]at h
   have e:i.toNat=j:=bg h
   exact⟨by rw[seqIndex_of h0 h1,e],by lia,by lia,h1⟩
  ·rw[if_neg h1]at h;cases h
 ·rw[if_neg h0]at h
  by_cases h1: -(n:Int)<=i
  ·rw[if_pos h1]at h
   have e:(i+n).toNat=j:=bg h
   exact⟨by rw[seqIndex_neg (by lia) h1,e],by lia,h1,by lia⟩
  ·rw[if_neg h1]at h;cases h
theorem OJ{α:Type}{xs:List α}{i:Int}{v:α}(h:HJ xs i=some v):∃j,seqIndex? i xs.length=some j/\xs[j]? =some v/\j<xs.length/\ -(xs.length:Int)<=i/\i<xs.length:=by
 unfold HJ at h
 cases e:PX xs.length i with
 |none=>rw[e]at h;cases h
 |some j=>
  rw[e]at h
  obtain⟨h1,h2,h3,h4⟩:=O2 e
  exact⟨j,h1,h,h2,h3,h4⟩
theorem OK{α:Type}{xs:List α}{j:Nat}{v:α}(h:xs[j]? =some v):HJ xs (j:Int)=some v:=by
 have hj:j<xs.length:=(List.getElem?_eq_some_iff.mp h).1
 have e:PX xs.length (j:Int)=some j:=by
  unfold PX
  rw[if_pos (by lia),if_pos (by lia)];simp
 unfold HJ;rw[e];exact h
noncomputable def OI (b:Expr):Prop:=∀o i,subscripted b false o i=operate [o,i] (getItem o i)
noncomputable def Wz (X:Cx) (r:R2):Prop:=
 ∀(value slice:Expr) (pins:List (Addr×Obj)) (s:Shared) (σ:St) (H:Hp) (x y:V) (v u:Value) (Q:VK),Inv X pins σ H s->RelV x v->RelV y u->r x y H Q->
  subscripted slice false v u=operate [v,u] (getItem v u)->wpAny (model X.prog X.w) X.A (subscriptTail value slice v u) (EP X pins σ Q) X.xe s
noncomputable def Zk (X:Cx) (id:String) (r:V->List V->Hp->VK->Prop):Prop:=
 ∀(pins:List (Addr×Obj)) (s:Shared) (σ:St) (H:Hp) (x:V) (xs:List V) (v:Value) (us:List Value) (Q:VK),Inv X pins σ H s->RelV x v->Vals xs us->r x xs H Q->
  wpAny (model X.prog X.w) X.A (call (.builtin id) (v::us)) (EP X pins σ Q) X.xe s
section
variable{X:Cx}{a b:Expr}{ta tb:TE}{pos:Pos}
theorem XO{r:R2}(hr:Wz X r)(ha:PE X a ta)(hb:PE X b tb)(hs:OI b):PE X (.Subscript a b pos) (ke r ta tb):=by
 intro pins s σ H Q I h
 exact Subscript_ (UT ha hb I h λv u s2 x y H2 I2 rx ry q=>hr a b pins s2 σ H2 x y v u Q I2 rx ry q (hs _ _))
noncomputable def YV (K:aA):R2:=λx y H Q=>∃p xs i v,x= .ref p/\y= .int i/\mj K H p xs/\HJ xs i=some v/\Q v H
noncomputable def YW (K:aA):R2:=λx y H Q=>∃p xs i v,x= .ref p/\y= .int i/\JV K H p xs/\HJ xs i=some v/\Q v H
theorem O3:Wz X (YV X.K):=by
 intro value slice pins s σ H x y v u Q I rx ry h hs
 obtain⟨p,xs,i,z,rfl,rfl,hq,he,q⟩:=h
 cases rx
 obtain⟨t,rfl⟩:=ry
 obtain⟨its,r,pl,hz⟩:=I.list hq
 obtain⟨j,h1,h2,h3,h4,h5⟩:=OJ he
 obtain⟨w,ew,rw'⟩:=r.get h2
 have hl:=r.length
 have hn:=GF
 have fin:EP X pins σ Q w s:=⟨z,H,I,rw',q⟩
 by_cases h0:0<=i
 ·have hj:i.toNat=j:=by
   rw[seqIndex_of h0 h5]at h1
   exact bg h1
  exact item_listR pl.isList h0 (by lia) (by rw[hj];simpa using ew) fin hs
 ·have hj:(i+(its.toArray.size:Int)).toNat=j:=by
   rw[seqIndex_neg (by lia) h4]at h1
   rw[aZ,←hl]
   exact bg h1
  exact subscriptTail_builtinR (x:=w) pl.isList.typeIs slot_list_getitem.lookup
   (wpAny_getItem_list_neg (Q:=λr s'=>r=w/\EP X pins σ Q r s') pl.isList (by lia) (by rw[aZ]<;>lia) (by lia) (by rw[hj];simpa using ew) ⟨rfl,fin⟩) hs
theorem Vj:Wz X (YW X.K):=by
 intro value slice pins s σ H x y v u Q I rx ry h hs
 obtain⟨p,xs,i,z,rfl,rfl,hq,he,q⟩:=h
 cases rx
 obtain⟨t,rfl⟩:=ry
 obtain⟨its,r,pl,hz⟩:=I.tuple hq
 obtain⟨j,h1,h2,h3,h4,h5⟩:=OJ he
 obtain⟨w,ew,rw'⟩:=r.get h2
 have hl:=r.length
 have hn:=GF
 have fin:EP X pins σ Q w s:=⟨z,H,I,rw',q⟩
 exact subscriptTail_builtinR (x:=w) pl.typeIs slot_tuple_getitem.lookup
  (getItem_tuple (j:=j) (Q:=λr s'=>r=w/\EP X pins σ Q r s') pl (by lia) (by lia) (by rw[aZ,←hl];exact h1) (by simpa using ew) ⟨rfl,fin⟩) hs
theorem Og(its:List Value)(n j:Nat)(u:Value):fQ (·.setIfInBounds j u) {cls:= .type "list",data:= .seq its.toArray n}={cls:= .type "list",data:= .seq (its.set j u).toArray n}:=by
 simp[fQ]
theorem Inv.lst{pins:List (Addr×Obj)}{σ:St}{H:Hp}{s:Shared}{p:Addr}{xs:List V}(I:Inv X pins σ H s)(h:H p=some (.lst xs)):
  ∃(its:List Value) (n:Nat),Vals xs its/\s.heap.get? p=some {cls:= .type "list",data:= .seq its.toArray n}/\xs.length<=sizeLine:=by
 obtain⟨z,its,n,r,e⟩:=I.ko p _ h
 exact⟨its,n,r,e,z⟩
theorem Inv.Vr{pins:List (Addr×Obj)}{σ:St}{H:Hp}{s:Shared}{p:Addr}{xs ys:List V}{its its':List Value}{n n':Nat}{f:Obj->Obj}(I:Inv X pins σ H s)(h:H p=some (.lst xs))
  (ho:s.heap.get? p=some {cls:= .type "list",data:= .seq its.toArray n}) (hf:f {cls:= .type "list",data:= .seq its.toArray n}={cls:= .type "list",data:= .seq its'.toArray n'}) (r:Vals ys its') (hz:ys.length<=sizeLine) (t:Nat):
  Inv X pins σ (upd H p (.lst ys)) {s with heap:=s.heap.update p f,toks:=t}:=by
 have e:(s.heap.update p f).get? p=some {cls:= .type "list",data:= .seq its'.toArray n'}:=by
  rw[gs f ho (by rw[hf]<;>rfl),hf]
 refine I.write (x:=p) (e:=p) (by rw[h];trivial) (.inl rfl) (λb u hb q=>(eV _ _ (aC hb)).trans q) ⟨_,e⟩ ?_
 exact⟨hz,its',n',r,e⟩
noncomputable def XX:V->V->V->Hp->(Hp->Prop)->Prop:=λo i v H Q=>∃p xs k j,o= .ref p/\i= .int k/\H p=some (.lst xs)/\PX xs.length k=some j/\Q (upd H p (.lst (xs.set j v)))
theorem set_list:SG X XX:=by
 intro pins s σ H o i v ov iv u Q I ro ri rv h
 obtain⟨p,xs,k,j,rfl,rfl,hp,hj,q⟩:=h
 cases ro
 obtain⟨t,rfl⟩:=ri
 obtain⟨its,n,r,ho,hz⟩:=I.lst hp
 obtain⟨h1,h2,h3,h4⟩:=O2 hj
 have hl:=r.length
 have hn:=GF
 have I':Inv X pins σ (upd H p (.lst (xs.set j v))) {s with heap:=s.heap.update p (fQ (·.setIfInBounds j u))}:=
  I.Vr hp ho (Og its n j u) (r.set rv j) (by rw[bf];exact hz) s.toks
 by_cases h0:0<=k
 ·have hk:k.toNat=j:=by
   rw[seqIndex_of h0 h4]at h1
   exact bg h1
  exact PySem.W.ki_setAt ho h0 (by lia) (by rw[aZ,←hl];exact h4) (by rw[hk];exact⟨_,I',q⟩)
 ·have hk:(k+(its.toArray.size:Int)).toNat=j:=by
   rw[seqIndex_neg (by lia) h3]at h1
   rw[aZ,←hl]
   exact bg h1
  exact PySem.W.ki_setBack ho (by lia) (by rw[aZ,←hl];exact h3) (by lia) (by rw[hk];exact⟨_,I',q⟩)
theorem LP(lo hi:Option Int)(n:Nat):(sliceBounds lo hi none n).1=((HT.IK n 0 lo:Nat):Int)/\(sliceBounds lo hi none n).2.1=((HT.IK n n hi:Nat):Int)/\(sliceBounds lo hi none n).2.2=1:=by
 refine⟨?_,?_,rfl⟩
 ·cases lo with
  |none=>simp[sliceBounds,HT.IK]
  |some i=>
   simp only[sliceBounds,HT.IK,ix,show(1:Int)>0 by decide,if_true]
   by_cases h:i<0
   ·simp only[h,if_true]<;>lia
   ·simp only[h,if_false]<;>lia
 ·cases hi with
  |none=>simp[sliceBounds,HT.IK]
  |some i=>
   simp only[sliceBounds,HT.IK,ix,show(1:Int)>0 by decide,if_true]
   by_cases h:i<0
   ·simp only[h,if_true]<;>lia
   ·simp only[h,if_false]<;>lia
theorem Jc(its:List Value)(lo hi:Option Int):slicePick its.toArray lo hi none=((its.drop (HT.IK its.length 0 lo)).take (HT.IK its.length its.length hi-HT.IK its.length 0 lo)).toArray:=by
 obtain⟨h1,h2,h3⟩:=LP lo hi its.toArray.size
 unfold slicePick
 rw[h1,h2,h3]
 simp only[sliceRange_one,pick_run,aZ]<;>rfl
noncomputable def YZ (K:aA):V->Option Int->Option Int->Hp->VK->Prop:=λx lo hi H Q=>∃a xs,x= .ref a/\mj K H a xs/\∀p,H p=none->Q (.ref p) (upd H p (.lst (HX xs lo hi)))
theorem Po:Um X (YZ X.K):=by
 intro pins s σ H x v vl vu lo hi sl Q I rx hs pl pu h
 obtain⟨a,xs,rfl,hx,q⟩:=h
 cases rx
 obtain⟨its,r,ht,hz⟩:=I.list hx
 have hlen:=r.length
 refine⟨"list",_,slot_list_getitem.lookup,ht.isList.typeIs,?_⟩
 refine wpAny_getItem_list_slice ht.isList hs pl pu .none (by simp) ?_ (by rw[aZ]<;>lia)
 rw[Jc,←hlen]
 refine⟨.ref s.heap.objs.size,_,I.laid (t':=s.toks) (o:= .lst (HX xs lo hi)) (λb ob q=>aP _ q) (aI _) ?_,rfl,q _ (I.ko.fresh (aI _))⟩
 exact⟨aH (Mh xs lo hi) hz,_,0,(r.drop (HT.IK xs.length 0 lo)).take (HT.IK xs.length xs.length hi-HT.IK xs.length 0 lo),bJ _ rfl⟩
noncomputable def qX:V->Bool
 | .kT=>true
 | .bl _=>true
 | .int _=>true
 | .str _=>true
 |_=>false
noncomputable def Nt:V->V->Bool
 | .kT,.kT=>true
 | .bl a,.bl b=>a==b
 | .bl a,.int b=>(if a then 1 else 0)==b
 | .int a,.bl b=>a==(if b then 1 else 0)
 | .int a,.int b=>a==b
 | .str a,.str b=>a==b
 |_,_=>false
theorem NO{A:Around}{s:Shared}{y x:V}{u v:Value}(ry:RelV y u)(rx:RelV x v)(fy:qX y=true)(fx:qX x=true):fR A s u v (Nt y x):=by
 cases y with
 |kT=>
  cases ry
  cases x with
  |kT=>cases rx;exact gg _
  |bl b=>cases rx;exact SeqAt.EqAt.none_bool b
  |int b=>obtain⟨t,rfl⟩:=rx;exact gT b t
  |str b=>obtain⟨t,rfl⟩:=rx;exact gU b t
  |_=>exact absurd (show false=true from fx) bp
 |bl a=>
  cases ry
  cases x with
  |kT=>cases rx;exact SeqAt.EqAt.bool_none a
  |bl b=>cases rx;exact SeqAt.EqAt.bool_bool a b
  |int b=>obtain⟨t,rfl⟩:=rx;exact SeqAt.EqAt.bool_int a b t
  |str b=>obtain⟨t,rfl⟩:=rx;exact SeqAt.EqAt.bool_str a b t
  |_=>exact absurd (show false=true from fx) bp
 |int a=>
  obtain⟨t',rfl⟩:=ry
  cases x with
  |kT=>cases rx;exact gS a t'
  |bl b=>cases rx;exact SeqAt.EqAt.int_bool a t' b
  |int b=>obtain⟨t,rfl⟩:=rx;exact SeqAt.EqAt.int_int a t' b t
  |str b=>obtain⟨t,rfl⟩:=rx;exact hZ a t' b t
  |_=>exact absurd (show false=true from fx) bp
 |str a=>
  obtain⟨t',rfl⟩:=ry
  cases x with
  |kT=>cases rx;exact gW a t'
  |bl b=>cases rx;exact SeqAt.EqAt.str_bool a t' b
  |int b=>obtain⟨t,rfl⟩:=rx;exact ia a t' b t
  |str b=>obtain⟨t,rfl⟩:=rx;exact SeqAt.EqAt.str_str a t' b t
  |_=>exact absurd (show false=true from fx) bp
 |_=>exact absurd (show false=true from fy) bp
noncomputable def Tb (x:V) (u:Value):Bool:=match u with
 | .none=>Nt .kT x
 | .bool b=>Nt (.bl b) x
 | .int i _=>Nt (.int i) x
 | .str z _=>Nt (.str z) x
 |_=>false
theorem Q2{x y:V}{u:Value}(r:RelV y u)(f:qX y=true):Tb x u=Nt y x:=by
 cases y with
 |kT=>cases r;rfl
 |bl b=>cases r;rfl
 |int i=>obtain⟨t,rfl⟩:=r;rfl
 |str z=>obtain⟨t,rfl⟩:=r;rfl
 |_=>exact absurd (show false=true from f) bp
theorem JX{x:V}:∀{xs:List V} {us:List Value},Vals xs us->xs.all qX=true->us.any (Tb x)=xs.any λy=>Nt y x
 |_,_,.nil,_=>rfl
 |y::xs,u::us,.cons r t,f=>by
  rw[bM,aQ]at f
  rw[e_,e_,Q2 r f.1,JX t f.2]
theorem GJ{A:Around}{s:Shared}{x:V}{v:Value}(rx:RelV x v)(fx:qX x=true):∀{xs:List V} {us:List Value},Vals xs us->xs.all qX=true->∀u∈us,fR A s u v (Tb x u)
 |_,_,.nil,_=>λu hu=>by cases hu
 |y::xs,u::us,.cons r t,f=>λu' hu=>by
  rw[bM,aQ]at f
  rcases List.mem_cons.mp hu with rfl|hu
  ·rw[Q2 r f.1];exact NO r rx f.1 fx
  ·exact GJ rx fx t f.2 u' hu
noncomputable def UA (x:V) (xs:List V):Bool:=xs.any λy=>Nt y x
noncomputable def Zs (K:aA) (neg:Bool):R2:=λx y H Q=>∃p xs,y= .ref p/\(mj K H p xs∨JV K H p xs)/\qX x=true/\xs.all qX=true/\Q (.bl (if neg then !UA x xs else UA x xs)) H
theorem Lm:ux X (compareOp .NotIn) (Zs X.K true):=by
 intro pins s σ H x y v u Q I rx ry h
 obtain⟨p,xs,rfl,hq,fx,fs,q⟩:=h
 cases ry
 rcases hq with hq|hq
 ·obtain⟨its,r,pl,hz⟩:=I.list hq
  refine SeqAt.notIn_listAt (Tb x) pl.isList (λw hw=>GJ rx fx r fs w (by simpa using hw)) ⟨.bl _,H,I,rfl,?_⟩
  rw[show its.toArray.any (Tb x)=its.any (Tb x) by simp,JX r fs]
  exact q
 ·obtain⟨its,r,pl,hz⟩:=I.tuple hq
  refine SeqAt.notIn_tupleAt (Tb x) pl (λw hw=>GJ rx fx r fs w (by simpa using hw)) ⟨.bl _,H,I,rfl,?_⟩
  rw[show its.toArray.any (Tb x)=its.any (Tb x) by simp,JX r fs]
  exact q
theorem CU:tN X (.builtin "len") (λxs H Q=>∃p ys,xs=[.ref p]/\(mj X.K H p ys∨JV X.K H p ys)/\Q (.int ys.length) H):=by
 intro pins s σ H xs us Q I r h
 obtain⟨p,ys,rfl,hq,q⟩:=h
 obtain⟨u,rfl,rx⟩:=vals1 r
 cases rx
 have hn:=GF
 rcases hq with hq|hq
 ·obtain⟨its,r',pl,hz⟩:=I.list hq
  have hlen:=r'.length
  exact Calls.call_len_list pl.isList (by simp only[aZ]<;>lia) ⟨.int ys.length,H,I.tok _,⟨s.toks+1,by rw[aZ,hlen]⟩,q⟩
 ·obtain⟨its,r',pl,hz⟩:=I.tuple hq
  have hlen:=r'.length
  exact len_tuple pl (by simp only[aZ]<;>lia) ⟨.int ys.length,H,I.tok _,⟨s.toks+1,by rw[aZ,hlen]⟩,q⟩
theorem Kh:tN X (.type "list") (λxs H Q=>∃p ys,xs=[.ref p]/\(mj X.K H p ys∨JV X.K H p ys)/\∀l,H l=none->Q (.ref l) (upd H l (.lst ys))):=by
 intro pins s σ H xs us Q I r h
 obtain⟨p,ys,rfl,hq,q⟩:=h
 obtain⟨u,rfl,rx⟩:=vals1 r
 cases rx
 have fin:∀(its:List Value),Vals ys its->ys.length<=sizeLine->∀(h':Heap) (c':Nat),(∀b o',s.heap.get? b=some o'->h'.get? b=some o')->
   h'.get? s.heap.objs.size=some {cls:= .type "list",dict:=none,data:= .seq its.toArray c',slots:= #[]}->EP X pins σ Q (.ref s.heap.objs.size) {s with heap:=h'}:=λits r' hz h' c' kp e=>
  ⟨.ref s.heap.objs.size,_,I.laid (t':=s.toks) kp (aI _) (show l9 X.prog X.w _ h' _ (.lst ys) from⟨hz,its,c',r',e⟩),rfl,q _ (I.ko.fresh (aI _))⟩
 rcases hq with hq|hq
 ·obtain⟨its,r',pl,hz⟩:=I.list hq
  have hlen:=r'.length
  obtain⟨o,ho,hc,n,hd⟩:=pl.isList
  exact call_list_seq p (.inl rfl) ho hc hd (λh' c' kp e=>fin its r' hz h' c' kp e) (by simp only[aZ]<;>lia)
 ·obtain⟨its,r',pl,hz⟩:=I.tuple hq
  have hlen:=r'.length
  obtain⟨o,ho,hc,n,hd⟩:=pl
  exact call_list_seq p (.inr rfl) ho hc hd (λh' c' kp e=>fin its r' hz h' c' kp e) (by simp only[aZ]<;>lia)
noncomputable def Zg (K:aA) (T:String) (x:V) (H:Hp):Prop:=match x with
 | .str _=>T="str"
 | .int _=>T="int"
 | .ref p=>(T="list"/\∃xs,mj K H p xs)∨(T="tuple"/\∃o,K.lookup p=some o/\o.cls= .type "tuple"/\o.dict=none)∨
   (T="dict"/\((∃kvs,H p=some (.dK kvs))∨∃kvs,H p=some (.dT kvs)))∨(T="set"/\∃S n,H p=some (.set S n))
 |_=>False
theorem Sh{pins:List (Addr×Obj)}{σ:St}{H:Hp}{s:Shared}{T:String}{x:V}{v:Value}(I:Inv X pins σ H s)(r:RelV x v)(ty:Zg X.K T x H):
  s.TypeIs v T/\∀a,v= .ref a->∃ob,s.heap.get? a=some ob/\ob.dict=none:=by
 cases x with
 |str z=>
  obtain⟨t,rfl⟩:=r
  cases (show T="str" from ty)
  exact⟨typeIs_str s z t,λ_ e=>nomatch e⟩
 |int i=>
  obtain⟨t,rfl⟩:=r
  cases (show T="int" from ty)
  exact⟨typeIs_int s i t,λ_ e=>nomatch e⟩
 |ref p=>
  cases r
  rcases ty with ⟨rfl,xs,hq⟩|⟨rfl,o,hk,hc,hd⟩|⟨rfl,hk⟩|⟨rfl,S,n,hk⟩
  ·obtain⟨its,_,pl,_⟩:=I.list hq
   refine⟨pl.isList.typeIs,λa e=> ?_⟩
   cases e
   obtain⟨o,n,e,c,hd,_⟩:=pl
   exact⟨o,e,hd⟩
  ·refine⟨⟨o,I.CD p o hk,hc⟩,λa e=> ?_⟩
   cases e
   exact⟨o,I.CD _ o hk,hd⟩
  ·have z:∃o,s.heap.get? p=some o/\o.ExactDict:=by
    rcases hk with ⟨kvs,hk⟩|⟨kvs,hk⟩
    ·obtain⟨_,_,_,_,o,_,_,e,ex,_⟩:=I.ko p _ hk
     exact⟨o,e,ex⟩
    ·obtain⟨_,_,_,_,o,_,_,e,ex,_⟩:=I.ko p _ hk
     exact⟨o,e,ex⟩
   obtain⟨o,e,ex⟩:=z
   refine⟨⟨o,e,ex.1⟩,λa e2=> ?_⟩
   cases e2
   exact⟨o,e,ex.2.1⟩
  ·obtain⟨o,_,_,_,e,ex,_⟩:=I.ko p _ hk
   refine⟨⟨o,e,ex.1⟩,λa e2=> ?_⟩
   cases e2
   exact⟨o,e,ex.2.1⟩
 |_=>exact bY ty
variable{o e:Expr}{es:List Expr}{to:TE}{t:TA}{name:Str}{apos cpos:Pos}{T id:String}{r:V->List V->Hp->VK->Prop}
end
end L2
namespace L2
open PySem PySem.Spec PyProof.Rows
noncomputable def WH (X:Cx) (id:String) (r:V->List V->Hp->VK->Prop):Prop:=
 ∀(pins:List (Addr×Obj)) (s:Shared) (σ:St) (H:Hp) (x:V) (xs:List V) (v:Value) (us:List Value) (Q:VK),Inv X pins σ H s->RelV x v->Vals xs us->r x xs H Q->
  wpAny (model X.prog X.w) X.A (call (.builtin id) (v::us)) (EP X pins σ Q) X.xe s
theorem Vals.one:∀{x:V} {us:List Value},Vals [x] us->∃u,us=[u]/\RelV x u
 |_,_,.cons r .nil=>⟨_,rfl,r⟩
theorem Vals.zero:∀{us:List Value},Vals [] us->us=[]
 |_,.nil=>rfl
theorem Vals.dropLast{xs:List V}{us:List Value}(h:Vals xs us):Vals xs.dropLast us.dropLast:=by
 induction h with
 |nil=>exact .nil
 |cons r t ih=>
  cases t with
  |nil=>exact .nil
  |cons q t'=>exact .cons r ih
theorem Vals.rep{xs:List V}{us:List Value}(h:Vals xs us):∀k:Nat,Vals (ah k xs).flatten (ah k us).flatten
 |0=> .nil
 |k+1=>by
  rw[cf,cf,dA,dA]
  exact Vals.append h (Vals.rep h k)
theorem NP{α:Type}(l:List α):l.eraseIdx (l.length-1)=l.dropLast:=by
 induction l with
 |nil=>rfl
 |cons a r ih=>
  cases r with
  |nil=>rfl
  |cons b r=>
   have e:(a::b::r).length-1=((b::r).length-1)+1:=by
    have h1:(a::b::r).length=r.length+2:=rfl
    have h2:(b::r).length=r.length+1:=rfl
    lia
   rw[e,List.eraseIdx_cons_succ,ih]
   all_goals rfl
theorem foldl_rep(its:List Value):∀(k:Nat) (acc:List Value),
  iA (λx1 x2=>x1++x2) acc.toArray (ah k its.toArray)=(acc++(ah k its).flatten).toArray
 |0,acc=>by simp
 |k+1,acc=>by
  have e:acc.toArray++its.toArray=(acc++its).toArray:=by simp
  have e2:(acc++its)++(ah k its).flatten=acc++(ah (k+1) its).flatten:=by
   rw[cf,dA,c8]
  rw[←e2,←foldl_rep its k (acc++its),←e,cf,List.foldl_cons]
section
variable{X:Cx}{pins:List (Addr×Obj)}{σ:St}{H:Hp}{s:Shared}{l b:Addr}{xs ys zs:List V}
theorem Inv.Xr{its its':List Value}{n:Nat}{f:Array Value->Array Value}{t':Nat}(I:Inv X pins σ H s)(hH:H l=some (.lst xs))
  (e:s.heap.get? l=some {cls:= .type "list",data:= .seq its.toArray n}) (hf:f its.toArray=its'.toArray) (hv:Vals ys its') (hz:ys.length<=sizeLine):
  Inv X pins σ (upd H l (.lst ys)) {s with heap:=s.heap.update l (fQ f),toks:=t'}:=by
 have q:=PySem.IsL.update e f
 rw[hf]at q
 refine I.write (x:=l) (e:=l) (by rw[hH];exact trivial) (.inl rfl) (λb' u hb hu=>(eV s.heap (fQ f) (aC hb)).trans hu) ⟨_,q⟩ ?_
 exact⟨hz,its',_,hv,q⟩
theorem Inv.Xp{its:List Value}{t':Nat}(I:Inv X pins σ H s)(hv:Vals ys its)(hz:ys.length<=sizeLine):
  Inv X pins σ (upd H s.heap.objs.size (.lst ys)) {s with heap:=s.heap.push {cls:= .type "list",data:= .seq its.toArray},toks:=t'}:=
 I.laid (λ_ _ q=>aP _ q) (aI _) ⟨hz,its,0,hv,bJ _ rfl⟩
theorem Inv.fresh(I:Inv X pins σ H s):H s.heap.objs.size=none:=I.ko.fresh (aI _)
theorem Inv.Rx(I:Inv X pins σ H s)(hH:H l=some (.lst xs)):xs.length<=sizeLine/\∃(its:List Value) (n:Nat),Vals xs its/\xs.length=its.length/\s.heap.get? l=some {cls:= .type "list",data:= .seq its.toArray n}:=by
 obtain⟨z,its,n,r,e⟩:=I.ko l _ hH
 exact⟨z,its,n,r,r.length,e⟩
theorem RA{n:Nat}(h:n<=sizeLine):eF n=false:=by
 unfold eF
 exact decide_eq_false (by lia)
end
section
variable{X:Cx}
noncomputable def T6:V->List V->Hp->VK->Prop:=λx vs H Q=>∃l xs y,x= .ref l/\vs=[y]/\H l=some (.lst xs)/\xs.length<sizeLine/\Q .kT (upd H l (.lst (xs++[y])))
theorem P9:WH X "list.append" T6:=by
 intro pins s σ H x vs v us Q I rx rv h
 obtain⟨l,xs,y,rfl,rfl,hH,hz,q⟩:=h
 cases rx
 obtain⟨u,rfl,ru⟩:=rv.one
 obtain⟨z,its,n,r,hl,e⟩:=I.Rx hH
 refine call_meets F.slot_list_append ⟨_,e,rfl⟩ F.entry_list_append (F.args_list_append_2 _ _) (PySem.list_append l its.toArray n u (by rw[aZ];lia)) ⟨e,?_⟩
 refine⟨.kT,_,I.Xr (its':=its++[u]) hH e (by simp) (r.append (.cons ru .nil)) ?_,rfl,q⟩
 rw[aY,cm]
 lia
noncomputable def YX:V->List V->Hp->VK->Prop:=λx vs H Q=>∃l xs y,x= .ref l/\vs=[]/\H l=some (.lst xs)/\xs[xs.length-1]? =some y/\Q y (upd H l (.lst xs.dropLast))
theorem Vw:WH X "list.pop" YX:=by
 intro pins s σ H x vs v us Q I rx rv h
 obtain⟨l,xs,y,rfl,rfl,hH,hy,q⟩:=h
 cases rx
 have hus:=rv.zero
 subst hus
 obtain⟨z,its,n,r,hl,e⟩:=I.Rx hH
 obtain⟨u,hu,ru⟩:=r.get hy
 have hy':its.toArray[its.toArray.size-1]? =some u:=by
  show its.toArray[its.length-1]? =some u
  rw[←Array.getElem?_toList,←hl]
  exact hu
 refine call_meets F.slot_list_pop ⟨_,e,rfl⟩ F.entry_list_pop (F.args_list_pop_1 _) (MeetsSeq.list_pop_last l its.toArray n u hy' (by rw[aZ];lia)) ⟨e,?_⟩
 refine⟨y,_,I.Xr (its':=its.dropLast) hH e ?_ r.dropLast ?_,ru,q⟩
 ·show its.toArray.eraseIdxIfInBounds (its.toArray.size-1)=its.dropLast.toArray
  rw[aZ,List.eraseIdxIfInBounds_toArray,NP]
 ·rw[List.length_dropLast]
  omega
noncomputable def YU:R2:=λx y H Q=>∃l b xs zs,x= .ref l/\y= .ref b/\H l=some (.lst xs)/\H b=some (.lst zs)/\xs.length+zs.length<=sizeLine/\∀p,H p=none->Q (.ref p) (upd H p (.lst (xs++zs)))
theorem VM:ux X (binaryOp .Add) YU:=by
 intro pins s σ H x y v u Q I rx ry h
 obtain⟨l,b,xs,zs,rfl,rfl,hH,hB,hz,q⟩:=h
 cases rx
 cases ry
 obtain⟨z,its,n,r,hl,e⟩:=I.Rx hH
 obtain⟨z2,its2,n2,r2,hl2,e2⟩:=I.Rx hB
 refine PySem.P.add_list e e2 ?_ (by rw[aZ,aZ];lia)
 have ea:its.toArray++its2.toArray=(its++its2).toArray:=by simp
 rw[ea]
 exact⟨.ref _,_,I.Xp (t':=s.toks) (r.append r2) (by rw[aY];omega),rfl,q _ I.fresh⟩
noncomputable def YY:R2:=λx y H Q=>∃l k xs,x= .ref l/\y= .int k/\H l=some (.lst xs)/\ -(2^63)<=k/\k<2^63/\xs.length*k.toNat<=sizeLine/\
 ∀p,H p=none->Q (.ref p) (upd H p (.lst (ah k.toNat xs).flatten))
theorem len_rep{α:Type}(xs:List α)(k:Nat):(ah k xs).flatten.length=k*xs.length:=by
 induction k with
 |zero=>simp
 |succ k ih=>rw[cf,dA,aY,ih,Nat.succ_mul,Nat.add_comm]
theorem VQ:ux X (binaryOp .Mult) YY:=by
 intro pins s σ H x y v u Q I rx ry h
 obtain⟨l,k,xs,rfl,rfl,hH,h1,h2,hz,q⟩:=h
 cases rx
 obtain⟨t,rfl⟩:=ry
 obtain⟨z,its,n,r,hl,e⟩:=I.Rx hH
 have hlen:its.toArray.size*k.toNat<=sizeLine:=by rw[aZ,←hl];exact hz
 have hcap:¬its.toArray.size*k.toNat>(2^63-1)/8:=by
  have:(sizeLine:Nat)<=(2^63-1)/8:=by decide
  lia
 have hfit:¬(!Builtin.List.listFitsIndex k)=true:=by
  rw[fitsIndex_both h1 h2]
  exact bp
 have hlong:¬eF (its.toArray.size*k.toNat)=true:=by
  rw[RA hlen]
  exact bp
 have hnew:iA (λx1 x2=>x1++x2) #[] (ah (if its.toArray.isEmpty=true then 0 else k.toNat) its.toArray)=(ah k.toNat its).flatten.toArray:=by
  have f0:∀m:Nat,iA (λx1 x2=>x1++x2) #[] (ah m its.toArray)=(ah m its).flatten.toArray:=λm=>by
   have:=foldl_rep its m []
   rw[bc]at this
   exact this
  rw[f0]
  cases its with
  |nil=>simp
  |cons a r'=>rw[if_neg (by simp)]
 refine wpAny_binaryOp_repeat_ref (T:="list") (U:="int") (by decide) ⟨_,e,rfl⟩ (λs'=>typeIs_int s' k t) noFill_list_mul F.fills_int_mul F.slot_int_rmul repeat_list F.slot_int_index.lookup
  (call_meets F.slot_int_rmul (typeIs_int s k t) F.entry_int_rmul (F.args_int_rmul_2 _ _) (int___rmul___int_list k t l its.toArray n)
   ⟨e,rfl,⟨_,e,rfl⟩,call_meets F.slot_list_mul ⟨_,e,rfl⟩ F.entry_list_mul (F.args_list_mul_2 _ _) (AutoListH.list___mul___list_int_3 l its.toArray n k t hfit hcap hlong) ⟨e,?_⟩⟩)
 rw[hnew]
 exact⟨.ref _,_,I.Xp (t':=s.toks) (r.rep k.toNat) (by rw[len_rep,Nat.mul_comm];exact hz),rfl,q _ I.fresh⟩
end
section
variable{prog:Program}{w:World}{A:Around}{E:Value->Shared->Prop}{s:Shared}
set_option maxRecDepth 100000 in
end
section
variable{X:Cx}
end
end L2
namespace L2
open PySem PySem.Spec PyProof.Rows
section
variable{κ:Type} [DecidableEq κ]
noncomputable def mX (kvs:List (κ×V)) (k:κ):Option V:=(kvs.find? λkv=>decide (kv.1=k)).map (·.2)
noncomputable def putK (kvs:List (κ×V)) (k:κ) (v:V):List (κ×V):=
 if (kvs.any λkv=>decide (kv.1=k))=true then kvs.map (λkv=>if kv.1=k then(kv.1,v) else kv) else kvs++[(k,v)]
noncomputable def C0 (kvs:List (κ×V)) (k:κ):List (κ×V):=kvs.filter λkv=>decide (kv.1≠k)
theorem tM{p:κ×V}{r:List (κ×V)}{k:κ}(e:p.1=k):mX (p::r) k=some p.2:=by simp[mX,bK,e]
theorem tL{p:κ×V}{r:List (κ×V)}{k:κ}(e:¬p.1=k):mX (p::r) k=mX r k:=by simp[mX,bK,e]
theorem v_(k:κ):∀kvs:List (κ×V),(kvs.any λkv=>decide (kv.1=k))=(mX kvs k).isSome
 | []=>rfl
 |p::r=>by
  rw[e_]
  by_cases e:p.1=k
  ·simp only[tM e,decide_eq_true e,Bool.true_or,Option.isSome_some]
  ·rw[tL e,decide_eq_false e,Bool.false_or];exact v_ k r
theorem z8(kvs:List (κ×V))(k:κ)(v:V):(putK kvs k v).length<=kvs.length+1:=by
 unfold putK
 split
 ·rw[aj];lia
 ·rw[aY,af,ai];lia
theorem xZ.xJ{o:Option V}{u:Option Value}(r:xZ o u):o.isSome=u.isSome:=by
 cases o with
 |none=>cases u with
  |none=>rfl
  |some _=>exact(show False from r).elim
 |some _=>cases u with
  |none=>exact(show False from r).elim
  |some _=>rfl
theorem xZ.getD{o:Option V}{u:Option Value}{d:V}{d':Value}(r:xZ o u)(rd:RelV d d'):RelV (o.getD d) (u.getD d'):=by
 cases o with
 |none=>cases u with
  |none=>exact rd
  |some _=>exact(show False from r).elim
 |some _=>cases u with
  |none=>exact(show False from r).elim
  |some _=>exact r
theorem KV.val{kvs:List (κ×V)}{vs:List (κ×Value)}(r:KV kvs vs)(k:κ):xZ (mX kvs k) (valueAt vs k):=by
 unfold KV at r
 induction r with
 |nil=>exact aD
 | @cons p q ps qs h t ih=>
  obtain⟨h1,h2⟩:=h
  by_cases e:p.1=k
  ·have e':q.1=k:=h1.symm.trans e
   have b:valueAt (q::qs) k=some q.2:=by simp[valueAt,bK,e']
   rw[tM e,b];exact h2
  ·have e':¬q.1=k:=λz=>e (h1.trans z)
   have b:valueAt (q::qs) k=valueAt qs k:=by simp[valueAt,bK,e']
   rw[tL e,b];exact ih
theorem KV.any{kvs:List (κ×V)}{vs:List (κ×Value)}(r:KV kvs vs)(k:κ):(kvs.any λkv=>decide (kv.1=k))=vs.any λkv=>decide (kv.1=k):=by
 unfold KV at r
 induction r with
 |nil=>rfl
 |cons h t ih=>rw[e_,e_,ih,h.1]
theorem KV.Wc{kvs:List (κ×V)}{vs:List (κ×Value)}(r:KV kvs vs)(k:κ){y:V}{u:Value}(ry:RelV y u):
  KV (kvs.map λkv=>if kv.1=k then(kv.1,y) else kv) (vs.map λkv=>if kv.1=k then(kv.1,u) else kv):=by
 unfold KV at r⊢
 induction r with
 |nil=>exact .nil
 | @cons p q ps qs h t ih=>
  rw[ak,ak]
  refine .cons ?_ ih
  obtain⟨h1,h2⟩:=h
  by_cases e:p.1=k
  ·rw[if_pos e,if_pos (h1.symm.trans e)];exact⟨h1,ry⟩
  ·rw[if_neg e,if_neg (λz=>e (h1.trans z))];exact⟨h1,h2⟩
theorem KV.put{kvs:List (κ×V)}{vs:List (κ×Value)}(r:KV kvs vs)(k:κ){y:V}{u:Value}(ry:RelV y u):KV (putK kvs k y) (stored vs k u):=by
 unfold putK stored
 rw[r.any k]
 by_cases e:(vs.any λkv=>decide (kv.1=k))=true
 ·rw[if_pos e,if_pos e];exact r.Wc k ry
 ·rw[if_neg e,if_neg e];exact Paired.snoc r ⟨rfl,ry⟩
theorem KV.drop{kvs:List (κ×V)}{vs:List (κ×Value)}(r:KV kvs vs)(k:κ):KV (C0 kvs k) (without vs k):=by
 unfold KV at r⊢
 unfold C0 without
 induction r with
 |nil=>exact .nil
 | @cons p q ps qs h t ih=>
  obtain⟨h1,h2⟩:=h
  rw[fh,fh]
  by_cases e:p.1=k
  ·have a:¬decide (p.1≠k)=true:=by simp[e]
   have b:¬decide (q.1≠k)=true:=by simp[h1.symm.trans e]
   rw[if_neg a,if_neg b];exact ih
  ·have e':¬q.1=k:=λz=>e (h1.trans z)
   have a:decide (p.1≠k)=true:=by simp[e]
   have b:decide (q.1≠k)=true:=by simp[e']
   rw[if_pos a,if_pos b];exact .cons ⟨h1,h2⟩ ih
theorem KV.keys{kvs:List (κ×V)}{vs:List (κ×Value)}(r:KV kvs vs):kvs.map (·.1)=vs.map (·.1):=by
 unfold KV at r
 induction r with
 |nil=>rfl
 |cons h t ih=>rw[ak,ak,ih,h.1]
theorem KV.length{kvs:List (κ×V)}{vs:List (κ×Value)}(r:KV kvs vs):kvs.length=vs.length:=fJ r
theorem Q1(kvs:List (κ×V))(k:κ):(C0 kvs k).length<=kvs.length:=cI _ _
end
theorem EE{P:Program}{w:World}{k:Key}{u:Value}(r:RelV (kV k) u):(jT P w).is k u=true:=by
 cases k with
 |inl i=>obtain⟨t,e⟩:=(show∃t,u=dX i t from r);subst e;exact MO P w i t
 |inr x=>obtain⟨t,e⟩:=(show∃t,u=fk x t from r);subst e;exact MP P w x t
theorem Jz{P:Program}{w:World}:∀{ks:List Key} {us:List Value},Vals (ks.map kV) us->ItemsAre (jT P w) ks us
 | [],_,r=>by rw[av]at r;cases r;exact .nil
 |k::ks,_,r=>by
  rw[ak]at r
  cases r with
  |cons h t=>exact .cons (EE h) (Jz t)
noncomputable abbrev KT (H:Hp):List (List Key×V)->List (List Key×Addr×Value)->Prop:=Paired λp q=>p.1=q.1/\H q.2.1=some (.tup (p.1.map kV))/\RelV p.2 q.2.2
theorem KT.val{H:Hp}{kvs:List (List Key×V)}{xs:List (List Key×Addr×Value)}(r:KT H kvs xs)(k:List Key):xZ (mX kvs k) ((atKey xs k).map (·.2)):=by
 induction r with
 |nil=>exact aD
 | @cons p q ps qs h t ih=>
  obtain⟨h1,_,h2⟩:=h
  by_cases e:p.1=k
  ·have e':q.1=k:=h1.symm.trans e
   have b:atKey (q::qs) k=some q.2:=by simp[atKey,bK,e']
   rw[tM e,b];exact h2
  ·have e':¬q.1=k:=λz=>e (h1.trans z)
   have b:atKey (q::qs) k=atKey qs k:=by simp[atKey,bK,e']
   rw[tL e,b];exact ih
theorem KT.Wc{H:Hp}{kvs:List (List Key×V)}{xs:List (List Key×Addr×Value)}(r:KT H kvs xs)(k:List Key){y:V}{u:Value}(ry:RelV y u):
  KT H (kvs.map λkv=>if kv.1=k then(kv.1,y) else kv) (xs.map (putAt k u)):=by
 induction r with
 |nil=>exact .nil
 | @cons p q ps qs h t ih=>
  rw[ak,ak]
  refine .cons ?_ ih
  obtain⟨h1,h2,h3⟩:=h
  unfold putAt
  by_cases e:p.1=k
  ·rw[if_pos e,if_pos (h1.symm.trans e)];exact⟨h1,h2,ry⟩
  ·rw[if_neg e,if_neg (λz=>e (h1.trans z))];exact⟨h1,h2,h3⟩
theorem KT.put{H:Hp}{kvs:List (List Key×V)}{xs:List (List Key×Addr×Value)}(r:KT H kvs xs)(k:List Key){b:Addr}{y:V}{u:Value}(hb:H b=some (.tup (k.map kV)))(ry:RelV y u):
  KT H (putK kvs k y) (storedH xs k b u):=by
 have e:(kvs.any λkv=>decide (kv.1=k))=(atKey xs k).isSome:=by
  rw[v_,(r.val k).xJ,fN]
 unfold putK storedH
 rw[e]
 by_cases q:(atKey xs k).isSome=true
 ·rw[if_pos q,if_pos q];exact r.Wc k ry
 ·rw[if_neg q,if_neg q];exact Paired.snoc r ⟨rfl,hb,ry⟩
theorem KT.keeps{H H':Hp}{kvs:List (List Key×V)}{xs:List (List Key×Addr×Value)}(r:KT H kvs xs)(ht:∀b ys,H b=some (.tup ys)->H' b=some (.tup ys)):KT H' kvs xs:=
 Paired.Vs r λ_ _ z=>⟨z.1,ht _ _ z.2.1,z.2.2⟩
section
variable{P:Program}{w:World}{H:Hp}{h:Heap}{a:Addr}
theorem UG{u:HO}(ok:wa P w H h)(e:Rd H a u):l9 P w H h a u:=e.ok ok
theorem CZ{kvs:List (Key×V)}(ok:wa P w H h)(e:Rd H a (.dK kvs)):kvs.length<=sizeLine/\(a==sysModules)=false/\∃vs,KV kvs vs/\h.DictOf (jT P w) a vs:=
 show l9 P w H h a (.dK kvs) from UG ok e
theorem FZ{kvs:List (Key×V)}(ok:wa P w H h)(e:H a=some (.dK kvs)):kvs.length<=sizeLine/\(a==sysModules)=false/\∃vs,KV kvs vs/\h.DictOf (jT P w) a vs:=CZ ok (.inl e)
theorem D4{ks:List Key}(ok:wa P w H h)(e:H a=some (.tup (ks.map kV))):(tupleKind (jT P w)).is h ks a:=by
 obtain⟨_,its,r,o,h1,h2,n,h3⟩:=(show l9 P w H h a (.tup (ks.map kV)) from ok a _ e)
 exact⟨o,its.toArray,n,h1,h2,h3,by simpa using Jz r⟩
theorem F0{kvs:List (List Key×V)}(ok:wa P w H h)(e:Rd H a (.dT kvs)):kvs.length<=sizeLine/\(a==sysModules)=false/\
  ∃xs,KT H kvs xs/\h.DictOfH (tupleKind (jT P w)) a xs:=by
 obtain⟨z,y,xs,r,o,es,ep,h1,h2,h3,h4,h5⟩:=(show l9 P w H h a (.dT kvs) from UG ok e)
 refine⟨z,y,xs,r,o,es,ep,h1,h2,h3,h4,λx hx=> ?_,h5⟩
 have all:∀{l:List (List Key×V)} {m:List (List Key×Addr×Value)},KT H l m->∀x∈m,(tupleKind (jT P w)).is h x.1 x.2.1:=by
  intro l m q
  induction q with
  |nil=>intro x hx;exact nomatch hx
  | @cons p q ps qs hq t ih=>
   intro x hx
   rcases List.mem_cons.mp hx with e|hx
   ·subst e
    exact D4 ok (by rw[←hq.1];exact hq.2.1)
   ·exact ih x hx
 exact all r x hx
theorem Xj{kvs:List (List Key×V)}(ok:wa P w H h)(e:H a=some (.dT kvs)):kvs.length<=sizeLine/\(a==sysModules)=false/\
  ∃xs,KT H kvs xs/\h.DictOfH (tupleKind (jT P w)) a xs:=F0 ok (.inl e)
end
noncomputable def CJ (H:Hp) (a:Addr) (y:V) (r:Option V):Prop:=
 (∃kvs k,Rd H a (.dK kvs)/\y=kV k/\r=mX kvs k)∨∃kvs k b,Rd H a (.dT kvs)/\y= .ref b/\H b=some (.tup (k.map kV))/\r=mX kvs k
noncomputable def SF (H:Hp) (a:Addr) (y v:V) (H':Hp):Prop:=
 (∃kvs k,H a=some (.dK kvs)/\y=kV k/\kvs.length<sizeLine/\H'=upd H a (.dK (putK kvs k v)))∨
 ∃kvs k b,H a=some (.dT kvs)/\y= .ref b/\H b=some (.tup (k.map kV))/\kvs.length<sizeLine/\H'=upd H a (.dT (putK kvs k v))
theorem CJ.k{H:Hp}{a:Addr}{kvs:List (Key×V)}{k:Key}(e:H a=some (.dK kvs)):CJ H a (kV k) (mX kvs k):= .inl ⟨kvs,k,.inl e,rfl,rfl⟩
theorem SF.k{H:Hp}{a:Addr}{kvs:List (Key×V)}{k:Key}{v:V}(e:H a=some (.dK kvs))(hl:kvs.length<sizeLine):SF H a (kV k) v (upd H a (.dK (putK kvs k v))):= .inl ⟨kvs,k,e,rfl,hl,rfl⟩
section
variable{X:Cx}{pins:List (Addr×Obj)}{σ:St}{H:Hp}{s:Shared}{a:Addr}{y v:V}{u r:Value}{o:Option V}{A:Around}{E:Value->Shared->Prop}
theorem Inv.big(I:Inv X pins σ H s):sysModules<s.heap.objs.size:=by
 have h:mainGlobals<s.heap.objs.size:=(I.mod.glob.keeps I.bk).lt
 exact Nat.lt_trans (by decide) h
theorem Jr{Q:Value->Shared->Prop}(hu:A.units+1<cLine)(I:Inv X pins σ H s)(g:CJ H a y (some v))(ry:RelV y u)(h:∀w' s',Inv X pins σ H s'->RelV v w'->Q w' s'):
  wpAny (model X.prog X.w) A (getItem (.ref a) u) Q E s:=by
 rcases g with ⟨kvs,k,e,ey,l⟩|⟨kvs,k,b,e,ey,eb,l⟩
 ·subst ey
  obtain⟨z,hd,vs,rel,dd⟩:=CZ I.ko e
  obtain⟨w',hw,rw'⟩:=xZ.some_of (v:=v) (o:=valueAt vs k) (by rw[l];exact rel.val k)
  exact wpAny_getItem_of (EE ry) dd.mapOf hw (h w' _ (I.tok _) rw')
 ·subst ey
  cases (show u=aX b from ry)
  obtain⟨z,hd,xs,rel,dd⟩:=F0 I.ko e
  obtain⟨w',hw,rw'⟩:=xZ.some_of (v:=v) (o:=(atKey xs k).map (·.2)) (by rw[l];exact rel.val k)
  obtain⟨p,hp,hp2⟩:=Option.map_eq_some_iff.mp hw
  refine wpAny_getItem_heap (tupleKind_room_in1 hu) (D4 I.ko eb) dd hp ?_
  rw[hp2]
  exact h w' _ (I.tok _) rw'
theorem Yz{Q:Value->Shared->Prop}(hu:A.units+1<cLine)(I:Inv X pins σ H s)(g:CJ H a y o)(ry:RelV y u)(h:∀s',Inv X pins σ H s'->Q (.bool o.isSome) s'):
  wpAny (model X.prog X.w) A (compareOp .In u (.ref a)) Q E s:=by
 rcases g with ⟨kvs,k,e,ey,l⟩|⟨kvs,k,b,e,ey,eb,l⟩
 ·subst ey
  obtain⟨z,hd,vs,rel,dd⟩:=CZ I.ko e
  refine wpAny_in_of (EE ry) hd dd.mapOf ?_
  rw[←(rel.val k).xJ,←l]
  exact h _ (I.tok _)
 ·subst ey
  cases (show u=aX b from ry)
  obtain⟨z,hd,xs,rel,dd⟩:=F0 I.ko e
  refine wpAny_in_heap (tupleKind_room_in1 hu) (D4 I.ko eb) hd dd ?_
  have q:=(rel.val k).xJ
  rw[fN]at q
  rw[←q,←l]
  exact h _ (I.tok _)
theorem S9{Q:Value->Shared->Prop}(hu:A.units+1<cLine)(I:Inv X pins σ H s)(g:CJ H a y o)(ry:RelV y u)(h:∀s',Inv X pins σ H s'->Q (.bool (!o.isSome)) s'):
  wpAny (model X.prog X.w) A (compareOp .NotIn u (.ref a)) Q E s:=by
 rcases g with ⟨kvs,k,e,ey,l⟩|⟨kvs,k,b,e,ey,eb,l⟩
 ·subst ey
  obtain⟨z,hd,vs,rel,dd⟩:=CZ I.ko e
  refine wpAny_notIn_of (EE ry) hd dd.mapOf ?_
  rw[←(rel.val k).xJ,←l]
  exact h _ (I.tok _)
 ·subst ey
  cases (show u=aX b from ry)
  obtain⟨z,hd,xs,rel,dd⟩:=F0 I.ko e
  refine wpAny_notIn_heap (tupleKind_room_in1 hu) (D4 I.ko eb) hd dd ?_
  have q:=(rel.val k).xJ
  rw[fN]at q
  rw[←q,←l]
  exact h _ (I.tok _)
theorem Fo{h':Heap}{t':Nat}{ob:HO}(I:Inv X pins σ H s)(mu:WI (H a))(hs:eG a s.heap h')(he:∃q,h'.get? a=some q)(new:l9 X.prog X.w (upd H a ob) h' a ob):
  Inv X pins σ (upd H a ob) {s with heap:=h',toks:=t'}:=
 I.write (x:=a) (e:=a) mu (.inl rfl) (λb q hb z=>(hs.2 b hb).trans z) he new
theorem NN{P:Program}{w:World}{H':Hp}{h':Heap}{kvs:List (Key×V)}{vs:List (Key×Value)}(z:kvs.length<=sizeLine)(hd:(a==sysModules)=false)(rel:KV kvs vs)(dd:h'.DictOf (jT P w) a vs):
  l9 P w H' h' a (.dK kvs):=⟨z,hd,vs,rel,dd⟩
theorem PN{H':Hp}{Q:Unit->Shared->Prop}(hu:A.units+1<cLine)(I:Inv X pins σ H s)(g:SF H a y v H')(ry:RelV y u)(rv:RelV v r)(h:∀s',Inv X pins σ H' s'->Q () s'):
  wpAny (model X.prog X.w) A (setItem (.ref a) u r) Q E s:=by
 rcases g with ⟨kvs,k,e,ey,l,eH⟩|⟨kvs,k,b,e,ey,eb,l,eH⟩
 ·subst ey eH
  obtain⟨z,hd,vs,rel,dd⟩:=FZ I.ko e
  have hz:vs.length<=sizeLine:=by rw[←rel.length];exact z
  have hl:(putK kvs k v).length<=sizeLine:=by have:=z8 kvs k v;lia
  refine wpAny_setItem_pairs (hsz:=hz) (EE ry) dd λh' dd' hs=>h _ ?_
  have he:∃q,h'.get? a=some q:=let ⟨q,_,_,hq,_⟩:=dd';⟨q,hq⟩
  exact Fo I (by rw[e];exact aD) hs he (NN hl hd (rel.put k rv) dd')
 ·subst ey eH
  cases (show u=aX b from ry)
  obtain⟨z,hd,xs,rel,dd⟩:=Xj I.ko e
  have hz:xs.length<=sizeLine:=by rw[←fJ rel];exact z
  have hl:(putK kvs k v).length<=sizeLine:=by have:=z8 kvs k v;lia
  refine wpAny_setItem_heap (hsz:=hz) (tupleKind_room_in1 hu) (D4 I.ko eb) dd λh' dd' hs=>h _ ?_
  obtain⟨q,es,ep,hq,h2,h3,h4,_,h5⟩:=dd'
  refine Fo I (by rw[e];exact aD) hs ⟨q,hq⟩ ⟨hl,hd,_,(rel.put k eb rv).keeps λc ys ec=> ?_,q,es,ep,hq,h2,h3,h4,h5⟩
  rw[iW (XB ec e (λz=>nomatch z))]
  exact ec
end
section
variable{X:Cx}{pins:List (Addr×Obj)}{σ:St}{H:Hp}{s:Shared}{a:Addr}{kvs:List (Key×V)}{k:Key}{u:Value}{A:Around}{E:Value->Shared->Prop}
theorem Xi{v:V}{more:List Value}{Q:Value->Shared->Prop}(I:Inv X pins σ H s)(e:H a=some (.dK kvs))(ry:RelV (kV k) u)(l:mX kvs k=some v)(hm:more=[]∨∃x,more=[x])
  (h:∀w' s',Inv X pins σ (upd H a (.dK (C0 kvs k))) s'->RelV v w'->Q w' s'):wpAny (model X.prog X.w) A (call (.builtin "dict.pop") (.ref a::u::more)) Q E s:=by
 obtain⟨z,hd,vs,rel,dd⟩:=FZ I.ko e
 obtain⟨w',hw,rw'⟩:=xZ.some_of (v:=v) (o:=valueAt vs k) (by rw[←l];exact rel.val k)
 have hp:(keyPart u).isSome=true:=by
  cases k with
  |inl i=>obtain⟨t,q⟩:=(show∃t,u=dX i t from ry);subst q;rfl
  |inr x=>obtain⟨t,q⟩:=(show∃t,u=fk x t from ry);subst q;rfl
 have ha:argsOk "dict.pop" ⟨.ref a::u::more,[]⟩:=by
  rcases hm with q|⟨x,q⟩
  ·subst q;exact PySem.F.args_dict_pop_2 _ _
  ·subst q;exact PySem.F.args_dict_pop_3 _ _ _
 refine call_meetsIn gz dd.typeIs PySem.F.entry_dict_pop ha (meets_dict_pop_there (jT X.prog X.w) a (EE ry) more hm hp)
  ⟨vs,w',dd,by rw[←rel.length];exact z,hw,λh' dd' hs=>h w' _ ?_ rw'⟩
 have he:∃q,h'.get? a=some q:=let ⟨q,_,_,hq,_⟩:=dd';⟨q,hq⟩
 exact Fo I (by rw[e];exact aD) hs he (NN (aH (Q1 kvs k) z) hd (rel.drop k) dd')
theorem Xh{Q:Value->Shared->Prop}(I:Inv X pins σ H s)(e:Rd H a (.dK kvs))(h:∀t s',Inv X pins σ H s'->Q (.int kvs.length t) s'):wpAny (model X.prog X.w) A (call (.builtin "len") [.ref a]) Q E s:=by
 obtain⟨z,hd,vs,rel,dd⟩:=CZ I.ko e
 refine call_len_dict hd dd (by rw[←rel.length];rw[sizeLine_eq]at z;lia) ?_
 rw[←rel.length]
 exact h _ _ (I.tok _)
end
noncomputable def Qt (i:Expr):Prop:=∀ov iv,subscripted i false ov iv=operate [ov,iv] (getItem ov iv)
theorem Pq{prog:Program}{w:World}{A:Around}{E:Value->Shared->Prop}{s:Shared}{env:Env}{value slice:Expr}{pos:Pos}{T id:String}{Q:Value->Shared->Prop}
  (hl:typeLookup (.type T) "__getitem__"=pure (some (.builtin id))) (hs:Qt slice)
  (h:wpAny (model prog w) A (eval value env) (λo s₁=>wpAny (model prog w) A (eval slice env) (λi s₂=>s₂.TypeIs o T/\wpAny (model prog w) A (getItem o i) Q E s₂) E s₁) E s):
  wpAny (model prog w) A (eval (.Subscript value slice pos) env) Q E s:=by
 refine Subscript_ (wpAny_mono h (λo s₁ h₁=>wpAny_mono h₁ (λi s₂ h₂=> ?_) λ_ _ x=>x) λ_ _ x=>x)
 obtain⟨hT,h₂⟩:=h₂
 unfold subscriptTail
 refine wpAny_bind ?_
 rw[getitemInPython_of_ne hT.not_modules]
 refine wpAny_bind (wpAny_specialOf hT hl ?_)
 have fin:wpAny (model prog w) A (subscripted slice false o i) (λr s₃=>wpAny (model prog w) A (letTemporaryGo value o r>>=λ_=>pure r) Q E s₃) E s₂:=by
  rw[hs o i]
  exact wpAny_operating (wpAny_mono h₂ (λr s₃ h₃=>wpAny_bind (wpAny_letTemporaryGo (wpAny_pure h₃))) λ_ _ x=>x)
 first
  |exact wpAny_pure (wpAny_bind fin)
  |exact wpAny_bind (wpAny_pure (wpAny_bind fin))
  |exact wpAny_bind fin
theorem Ez{X:Cx}{pins:List (Addr×Obj)}{σ:St}{H:Hp}{s:Shared}{a:Addr}{y:V}{o:Option V}(I:Inv X pins σ H s)(g:CJ H a y o):s.TypeIs (.ref a) "dict":=by
 rcases g with ⟨kvs,k,e,_,_⟩|⟨kvs,k,b,e,_,_,_⟩
 ·obtain⟨_,_,vs,_,dd⟩:=CZ I.ko e
  exact dd.typeIs
 ·obtain⟨_,_,xs,_,dd⟩:=F0 I.ko e
  exact dd.typeIs
section
variable{X:Cx}{o i e value:Expr}{pos pos' tpos:Pos}{td ty tv:TE}
end
theorem Mj{P:Program}{w:World}{H:Hp}(h:Heap)(hb:sysModules<h.objs.size):l9 P w H (h.push {cls:= .type "dict",data:= .dict #[]}) h.objs.size (.dK []):=
 ⟨cD _,beq_eq_false_iff_ne.mpr (aC (bA hb)),[],.nil,Heap.DictOf.new h⟩
noncomputable def uu:TE:=λ_ H Q=>∀p,H p=none->Q (.ref p) (upd H p (.dK []))
section
variable{X:Cx}{pos:Pos}
theorem RK:PE X (.Dict [] [] pos) uu:=λpins s σ H Q I h=>
 wpAny_Dict_empty ⟨.ref s.heap.objs.size,_,I.laid (a:=s.heap.objs.size) (o:= .dK []) (t':=s.toks) (λ_ _ q=>aP _ q) (aI _) (Mj s.heap I.big),rfl,h _ (I.ko.fresh (aI _))⟩
end
noncomputable def LS:List (TE×TE)->St->Hp->(List (V×V)->Hp->Prop)->Prop
 | [],_,H,Q=>Q [] H
 |(tk,tv)::r,σ,H,Q=>tk σ H λx H1=>tv σ H1 λy H2=>LS r σ H2 λps H3=>Q ((x,y)::ps) H3
noncomputable abbrev VV:List (V×V)->List (Value×Value)->Prop:=Paired λp q=>RelV p.1 q.1/\RelV p.2 q.2
noncomputable def WK (X:Cx) (pos:Pos) (keys:List (Option Expr)) (values:List Expr) (trs:List (TE×TE)):Prop:=
 ∀(pins:List (Addr×Obj)) (s:Shared) (σ:St) (H:Hp) (Q:List (V×V)->Hp->Prop),Inv X pins σ H s->LS trs σ H Q->
  wpAny (model X.prog X.w) X.A (evalPairs (pairTrees keys values X.env pos)) (λvs s'=>∃ps H',Inv X pins σ H' s'/\VV ps vs/\Q ps H') X.xe s
theorem TX{X:Cx}{pos:Pos}:WK X pos [] [] []:=λpins s σ H Q I h=>pairTrees_nil_walk ⟨[],H,I,.nil,h⟩
theorem RW{X:Cx}{pos:Pos}{k v:Expr}{ks:List (Option Expr)}{vs:List Expr}{tk tv:TE}{trs:List (TE×TE)}(hk:PE X k tk)(hv:PE X v tv)(hr:WK X pos ks vs trs):
  WK X pos (some k::ks) (v::vs) ((tk,tv)::trs):=λpins s σ H Q I h=>
 pairTrees_cons_walk (oh (hk pins s σ H _ I h) λu s1 ⟨x,H1,I1,rx,q1⟩=>oh (hv pins s1 σ H1 _ I1 q1) λw2 s2 ⟨y,H2,I2,ry,q2⟩=>
  oh (hr pins s2 σ H2 _ I2 q2) λws s3 ⟨ps,H3,I3,rel,q3⟩=>⟨(x,y)::ps,H3,I3,.cons ⟨rx,ry⟩ rel,q3⟩)
noncomputable def D7 (kvs more:List (Key×V)):List (Key×V):=more.foldl (λacc kv=>putK acc kv.1 kv.2) kvs
theorem KV.merge:∀{more:List (Key×V)} {rs:List (Key×Value)} {kvs:List (Key×V)} {vs:List (Key×Value)},KV more rs->KV kvs vs->KV (D7 kvs more) (merged vs rs):=by
 intro more rs kvs vs r
 unfold KV at r
 induction r generalizing kvs vs with
 |nil=>intro q;exact q
 | @cons p q ps qs h t ih=>
  intro r0
  have e:KV (putK kvs p.1 p.2) (stored vs q.1 q.2):=by
   have:=r0.put p.1 h.2
   rw[←h.1];exact this
  exact ih e
theorem By:∀(more kvs:List (Key×V)),(D7 kvs more).length<=kvs.length+more.length
 | [],kvs=>by show kvs.length<=kvs.length+0;lia
 |p::r,kvs=>by
  have h1:=By r (putK kvs p.1 p.2)
  have h2:=z8 kvs p.1 p.2
  show(D7 (putK kvs p.1 p.2) r).length<=_
  rw[af];lia
theorem FV{P:Program}{w:World}:∀{kvs:List (Key×V)} {ws:List (Value×Value)},VV (kvs.map λkv=>(kV kv.1,kv.2)) ws->∃rs,Carries (jT P w) ws rs/\KV kvs rs
 | [],_,r=>by rw[av]at r;cases r;exact⟨[],aD,.nil⟩
 |p::kvs,_,r=>by
  rw[ak]at r
  cases r with
  | @cons a b as bs h t=>
   obtain⟨rs,c,q⟩:=FV (P:=P) (w:=w) t
   obtain⟨b1,b2⟩:=b
   exact⟨(p.1,b2)::rs,⟨EE h.1,rfl,c⟩,.cons ⟨rfl,h.2⟩ q⟩
noncomputable def R9 (trs:List (TE×TE)):TE:=λσ H Q=>∀p,H p=none->LS trs σ (upd H p (.dK [])) λps H2=>H2 p=some (.dK [])/\∃kvs:List (Key×V),ps=kvs.map (λkv=>(kV kv.1,kv.2))/\kvs.length<=15/\Q (.ref p) (upd H2 p (.dK (D7 [] kvs)))
theorem TM{X:Cx}{pos:Pos}{keys:List (Option Expr)}{values:List Expr}{trs:List (TE×TE)}(h:WK X pos keys values trs)(hall:keys.all (·.isSome)=true)(hl:keys.length=values.length)(h0:keys≠ [])
  (h15:keys.length<=15):PE X (.Dict keys values pos) (R9 trs):=by
 intro pins s σ H Q I q
 have hn:=I.ko.fresh (aI s.heap.objs.size)
 have I1:=I.laid (a:=s.heap.objs.size) (o:= .dK []) (h':=s.heap.push {cls:= .type "dict",data:= .dict #[]}) (t':=s.toks) (λ_ _ q=>aP _ q) (aI _) (Mj s.heap I.big)
 refine wpAny_Dict_walk (knd:=jT X.prog X.w) hall hl h0 h15 (oh (h pins _ σ _ _ I1 (q _ hn)) λws s2 ⟨ps,H2,I2,rel,e,kvs,ep,lk,q2⟩=> ?_)
 subst ep
 obtain⟨rs,c,rk⟩:=FV (P:=X.prog) (w:=X.w) rel
 obtain⟨z,hd,vs0,r0,dd⟩:=FZ I2.ko e
 cases r0
 refine⟨rs,c,dd,λh' dd' hs=>⟨.ref s.heap.objs.size,_,?_,rfl,q2⟩⟩
 have hz:(D7 [] kvs).length<=sizeLine:=by
  have h1:=By kvs []
  rw[ai]at h1
  rw[sizeLine_eq];lia
 have he:∃q,h'.get? s.heap.objs.size=some q:=let ⟨q,_,_,hq,_⟩:=dd';⟨q,hq⟩
 exact Fo I2 (by rw[e];exact aD) hs he (NN hz hd (rk.merge .nil) dd')
structure M1(X:Cx)(o:Expr)(m:Str)(apos:Pos)(e:Expr)(cpos:Pos):Prop where
 base:attributeBase o m X.env (eval o X.env)=eval o X.env
 YC:((backTo cpos (starEach [e] X.env)).all (λx=> !x.1)&&(backToKw cpos (keywordEach [] X.env)).all (λx=>x.1.isSome)
  &&decide (([e]:List Expr).length+([]:List Keyword).length+(if ([]:List Keyword).isEmpty then 0 else 1)<30))=true
 line:(apos.endLine==cpos.line)=true
 trees:backTo cpos (starEach [e] X.env)=[(false,eval e X.env)]
noncomputable def Zi (H:Hp) (a:Addr):Prop:=(∃kvs,Rd H a (.dK kvs))∨∃kvs,Rd H a (.dT kvs)
theorem NX{X:Cx}{pins:List (Addr×Obj)}{σ:St}{H:Hp}{s:Shared}{a:Addr}(I:Inv X pins σ H s)(d:Zi H a):
  s.TypeIs (.ref a) "dict"/\(∀b,aX a= .ref b->∃ob,s.heap.get? b=some ob/\ob.dict=none)/\(a==sysModules)=false:=by
 rcases d with ⟨kvs,e⟩|⟨kvs,e⟩
 ·obtain⟨_,hd,vs,_,dd⟩:=CZ I.ko e
  refine⟨dd.typeIs,λb q=> ?_,hd⟩
  cases q
  obtain⟨ob,_,_,h1,h2,_⟩:=dd
  exact⟨ob,h1,h2.2.1⟩
 ·obtain⟨_,hd,xs,_,dd⟩:=F0 I.ko e
  refine⟨dd.typeIs,λb q=> ?_,hd⟩
  cases q
  obtain⟨ob,_,_,h1,h2,_⟩:=dd
  exact⟨ob,h1,h2.2.1⟩
section
variable{X:Cx}{pins:List (Addr×Obj)}{σ:St}{H:Hp}{s:Shared}{a:Addr}{y d:V}{u r:Value}{o:Option V}{A:Around}{E:Value->Shared->Prop}
theorem QV{Q:Value->Shared->Prop}(hu:A.units+1<cLine)(I:Inv X pins σ H s)(g:CJ H a y o)(ry:RelV y u)(h:∀w' s',Inv X pins σ H s'->RelV (o.getD .kT) w'->Q w' s'):
  wpAny (model X.prog X.w) A (call (.builtin "dict.get") [.ref a,u]) Q E s:=by
 rcases g with ⟨kvs,k,e,ey,l⟩|⟨kvs,k,b,e,ey,eb,l⟩
 ·subst ey
  obtain⟨z,hd,vs,rel,dd⟩:=CZ I.ko e
  refine call_meetsIn du dd.typeIs eZ (eP _ _) (meets_dict_get (jT X.prog X.w) a (EE ry) hd) ⟨_,dd.mapOf,h _ _ (I.tok _) ?_⟩
  rw[l]
  exact(rel.val k).getD rfl
 ·subst ey
  cases (show u=aX b from ry)
  obtain⟨z,hd,xs,rel,dd⟩:=F0 I.ko e
  refine call_meetsIn du dd.typeIs eZ (eP _ _) (meetsH_dict_get (tupleKind (jT X.prog X.w)) a b hd) ⟨tupleKind_room_in1 hu,k,xs,D4 I.ko eb,dd,h _ _ (I.tok _) ?_⟩
  rw[l]
  exact(rel.val k).getD rfl
end
section
variable{X:Cx}{o e f:Expr}{apos cpos:Pos}{td ty tx:TE}
end
section
variable{X:Cx}{pins:List (Addr×Obj)}{σ:St}{H:Hp}{s:Shared}{a:Addr}{kvs:List (Key×V)}{A:Around}{E:Value->Shared->Prop}
end
section
variable{X:Cx}{pins:List (Addr×Obj)}{σ:St}{H:Hp}{s:Shared}{a:Addr}{y:V}{u:Value}{A:Around}{E:Value->Shared->Prop}
end
end L2
namespace Att
open PySem PySem.W PySem.Calls PyProof.Rows
theorem E5{P:Params}{h:Heap}:∀(ns:List Int) (vs:List Value),WellAll P h vs (ns.map WData.int)->IntsAre vs ns:=by
 intro ns
 induction ns with
 |nil=>
  intro vs w
  rw[av]at w
  cases w
  exact .nil
 |cons n ns ih=>
  intro vs w
  rw[ak]at w
  cases w with
  |cons a b=>
   cases a
   exact .cons _ _ (ih _ b)
theorem Qh{l:OpenLaw}{n:Nat}(hn:l.most=some n){P:Params}{h:Heap}{args:List WData}{vals:List Value}
  (hpre:l.row.toRowW.claim.pre args=true) (hwl:WellAll P h vals args):
  ∃a vs ns,vals=[aX a]/\args=[WData.list (ns.map WData.int)]/\h.get? a=some {cls:= .type "list",data:= .seq vs.toArray}/\IntsAre vs ns/\ns.length<=n:=by
 have hsh:WShape.hasAll [] args [.list .int]=true:=(pre_splitW hpre).1
 have hc:l.pre.holds [] {args:=args}=true:=(pre_splitW hpre).2
 obtain⟨d,r,rfl,h1,h2⟩:=hasAllW_cons hsh
 obtain rfl:=hasAllW_nil h2
 obtain⟨xs,rfl,h3⟩:=hasW_list h1
 obtain⟨ns,rfl⟩:=items_int h3
 have hlen:ns.length<=n:=by
  unfold OpenLaw.pre at hc
  have h4:(WTm.not (.lt (.lit (.int (n:Int))) (.len (.arg 0)))).holds [] {args:=[.list (ns.map .int)]}=true:=by
   have h4:=(holds_andW hc).1
   rw[hn]at h4
   exact h4
  have h5:=condW_of h4 (w_not (w_lt w_lit (w_len_list (w_arg rfl))))
  rw[aj]at h5
  refine Nat.le_of_not_lt λq=> ?_
  have q':(n:Int)<((ns.length:Nat):Int):=by omega
  first
   |(rw[decide_eq_true q']at h5;exact absurd h5 (by decide))
   |(simp at h5;omega)
 cases hwl with
 |cons w1 w2=>
  cases w2
  cases w1 with
  |list ho hall=>exact⟨_,_,ns,rfl,rfl,ho,E5 ns _ hall,hlen⟩
theorem Qf(l:OpenLaw)(args:List WData):l.row.toRowW.claim.post args (.bool true) args=true:=
 postW_of (r:=l.row.toRowW) (X:=(true==true))
  (show WShape.has [] (.bool true) .bool=true by first|rfl|decide|simp[WShape.has,WShape.arms,WShape.armsAll])
  (show(WTm.eq .res (.lit (.bool true))).value [] {args:=args,res:=some (.bool true),after:=args}=some (.bool (true==true)) from w_eq_bool (w_res rfl) w_lit) rfl
theorem L6{l:OpenLaw}{n:Nat}{q:Program}{loose:List Str}{XP:(Str->Option Value)->Heap->Prop}{YP:World->Heap->Prop}{d:DefRec}
  (hn:l.most=some n) (hdf:d.params.defaults=[])
  (call:∀(w:World) (s₀ s₁:Shared) (mg mb:Str->Option Value) (fa:Addr) (o:Obj) (pm cd doc:Value) (a:Addr) (vs:List Value) (ns:List Int),
   Ground q loose [] XP w s₀ mg mb s₁.heap->YP w s₁.heap->
   s₁.heap.get? fa=some o->o.data= .func (docDef d.name d.params d.body d.scope pm cd doc)->s₁.heap.CodeRec cd d.name->mg d.name=some (.ref fa)->
   s₁.heap.get? a=some {cls:= .type "list",data:= .seq vs.toArray}->IntsAre vs ns->ns.length<=n->s₁.gens= #[]->
   codeAny (model l.prog w) callerA (.call (.ref fa) ⟨[.ref a],[]⟩) (λr s'=>r= .ok (.ret (.bool true))/\OldK s₁.heap s'.heap/\s'.os=s₁.os/\AllBare s'.gens) s₁):
  WalkO q loose XP YP l.row.toRowW d [] (λf vs=>iC f vs):=by
 intro w s₀ s₁ mg mb G Y fa o pm cd doc dV kV ho hd hcd hD hmg hg args vals as hpre hlay hrd hwl hlo
 obtain rfl:dV= .none:=Dflts.none hD hdf
 obtain rfl:kV= .none:=Dflts.noKw hD
 obtain⟨a,vs,ns,rfl,rfl,hobj,hints,hlen⟩:=Qh hn hpre hwl
 refine enter_call (codeAny_mono (call w s₀ s₁ mg mb fa o pm cd doc a vs ns G Y ho (fd_plain hd) hcd hmg hobj hints hlen hg) λr s' hq=> ?_)
 obtain⟨rfl,h2,h3,h4⟩:=hq
 exact⟨.inl ⟨.bool true,.bool true,[],rfl,λ_=>rfl,.bool true,Qf l _,λ_=>⟨ib,λ_ hm=>(nomatch hm)⟩⟩,h2,h3,h4⟩
section
variable{prog:Program}{w:World}{A:Around}{E:Value->Shared->Prop}{s:Shared}{K:Frag}
noncomputable def ledger (h:Heap) (L d:Addr):List (Addr×Obj):=(bZ h.objs.size).filterMap λa=>if a=L∨a=d then none else(h.get? a).map λo=>(a,o)
end
end Att
namespace L2
open PySem PySem.Spec PyProof.Rows
theorem Bi:∀{vs:List Value} {ns:List Int},IntsAre vs ns->Vals (ns.map V.int) vs
 |_,_,.nil=> .nil
 |_,_,.cons n t h=> .cons ⟨t,rfl⟩ (Bi h)
end L2
namespace L2
open PySem PySem.Spec PyProof.Rows
end L2
namespace L2
open PySem PySem.Spec PyProof.Rows
noncomputable def inClass (s:Stmt) (j:Nat):Stmt:=match s with
 | .ClassDef _ _ _ body _ _ _ _ _ _ _=>body.getD j (.Pass ⟨0,0,0,0⟩)
 |_=> .Pass ⟨0,0,0,0⟩
noncomputable def yb (s:Stmt):Arguments:=match s with
 | .FunctionDef _ a _ _ _ _ _ _ _ _=>a
 |_=>{posonlyargs:=[],args:=[],vararg:=none,kwonlyargs:=[],kw_defaults:=[],kwarg:=none,defaults:=[]}
noncomputable def uB (s:Stmt):List Stmt:=match s with
 | .FunctionDef _ _ b _ _ _ _ _ _ _=>b
 |_=>[]
noncomputable def iX (s:Stmt):Scope:=match s with
 | .FunctionDef _ _ _ _ _ _ sc _ _ _=>sc
 |_=>{kind:= .function,names:=[],isGenerator:=false,isCoroutine:=false}
noncomputable abbrev E0:XK:=λ_ _ _=>False
structure mK(K:aA)(x qual:Str)(st:Stmt)(f:Addr)(fd:FuncData):Prop where
 ex:∃(oc:Value) (od:Option Addr) (kV doc pm:Value) (an:Option Addr) (cdv ct:Value) (osl:Array (Option Value)),
  fd=di x qual (yb st) (uB st) (iX st) .none kV doc pm an cdv ct/\K.lookup f=some ⟨oc,od,.func fd,osl⟩/\fB K cdv qual=true
 kp:bL K (.ref f)=true
section
variable{P:Program}{w:World}{K:aA}{mg:Str->Option Value}{base:Heap}
theorem mK.binds{x qual:Str}{st:Stmt}{f:Addr}{fd:FuncData}{ps:List Str}(F:mK K x qual st f fd)
  (h:∀(kV doc pm:Value) (an:Option Addr) (cdv ct:Value) (us:List Value),us.length=ps.length->bindArgs (di x qual (yb st) (uB st) (iX st) .none kV doc pm an cdv ct) ⟨us,[]⟩=pure (ps.zip us)):Binds K fd ps []:=by
 obtain⟨oc,od,kV,doc,pm,an,cdv,ct,osl,rfl,lk,hcd⟩:=F.ex
 exact .all (h kV doc pm an cdv ct)
theorem Vf{x qual:Str}{st:Stmt}{f:Addr}{oc:Value}{od an:Option Addr}{osl:Array (Option Value)}{kV doc pm cdv ct:Value}(l:K.lookup f=some ⟨oc,od,.func (di x qual (yb st) (uB st) (iX st) .none kV doc pm an cdv ct),osl⟩)
  (c:fB K cdv qual=true) (k:bL K (.ref f)=true):mK K x qual st f (di x qual (yb st) (uB st) (iX st) .none kV doc pm an cdv ct):=⟨⟨oc,od,kV,doc,pm,an,cdv,ct,osl,rfl,l,c⟩,k⟩
end
theorem jw{ca:Bool}{A:Around}{k:Nat}(hr:ou ca k A):A.units+1<cLine:=bO (gO (by decide:1<=64) _) hr.units
section
variable{X:Cx}
end
noncomputable def ja (H H':Hp):Prop:=∀b o,H b=some o->H' b=some o
theorem ja.refl(H:Hp):ja H H:=λ_ _ h=>h
theorem ja.trans{H H1 H2:Hp}(a:ja H H1)(b:ja H1 H2):ja H H2:=λc o h=>b c o (a c o h)
theorem ja.free{H H':Hp}(e:ja H H'){l:Addr}(h:H' l=Option.none):H l=Option.none:=by
 cases q:H l with
 |none=>rfl
 |some o=>
  rw[e l o q]at h
  cases h
theorem ja.seq{K:aA}{H H':Hp}{a:Addr}{xs:List V}(e:ja H H')(h:mj K H a xs):mj K H' a xs:=by
 rcases h with (h|⟨o,h⟩)|h
 ·exact .inl (.inl (e _ _ h))
 ·exact .inl (.inr ⟨o,e _ _ h⟩)
 ·exact .inr h
end L2
namespace L2
open PySem PySem.Spec PyProof.Rows
section
variable{X:Cx}
theorem PM:tN X (.builtin "len") (λxs H Q=>∃a kvs,xs=[V.ref a]/\H a=some (.dK kvs)/\Q (.int kvs.length) H):=by
 intro pins s σ H xs us Q I r h
 obtain⟨a,kvs,rfl,ha,q⟩:=h
 obtain⟨u,rfl,ru⟩:=vals1 r
 cases ru
 exact Xh I (.inl ha) λt s' I'=>⟨.int kvs.length,H,I',⟨t,rfl⟩,q⟩
end
section
variable{κ:Type} [DecidableEq κ]
end
end L2
namespace L2
open PySem PySem.Spec PyProof.Rows
structure WQ(fs:List Addr)(H H':Hp)(h B:Heap):Prop where
 keep:∀b o,h.get? b=some o->H b=none->b∉fs->B.get? b=some o/\H' b=none
 fr:∀b∈fs,H' b=none
 there:∀b o,h.get? b=some o->b∈fs∨∃o',B.get? b=some o'
 AX:∀b xs,H b=some (.tup xs)->H' b=some (.tup xs)
 xG:∀b o u,H b=some (.rN o u)->H' b=some (.rN o u)
 zv:∀b ps,H b=some (.CB ps)->∃more,H' b=some (.CB (ps++more))
noncomputable def WR (fs:List Addr) (h h':Heap):Prop:=∀b o,h.get? b=some o->b∈fs->∃sl,h'.get? b=some {o with slots:=sl}
structure WS(B:Heap)(l:List Env)(a:Addr)(h:Heap):Prop where
 stays:B.StaysIn h
 new:B.get? a=none
 Bl:h.FunFrames B l
noncomputable def UM (h:Heap) (a:Addr) (cls:Value):Prop:=∃oe vs a0,h.get? a=some oe/\oe.cls=cls/\oe.data= .fields vs/\vs[0]? =some a0/\vs[1]? =some .none
noncomputable abbrev WL:=Heap->Addr->Value->Heap->Prop
noncomputable def V4 (fl:Value):WL:=λB a cls h=>∃a0,Heap.TracedAtW h B a cls a0 fl
noncomputable abbrev Pe:WL:=V4 .none
noncomputable abbrev Ln (L:Addr):WL:=V4 (rawInt L)
noncomputable def UD (L:Addr):WL:=λB a cls h=>UM h a cls∨Pe B a cls h∨Ln L B a cls h
noncomputable def lG (P:Program) (w:World):Qn:=λouter H s E e s'=>∃(a:Addr) (cls:Value) (H':Hp) (B:Heap),e= .ref a/\s'.os=s.os/\AllBare s'.gens/\WS B outer a s'.heap/\Pe B a cls s'.heap/\
 wa P w H' B/\WQ (EC outer) H H' s.heap B/\WR (EC outer) s.heap s'.heap/\E cls none H'
inductive DN (X:Cx) (E:St->XK) (ph:WL) (a:Addr) (cls:Value) (s':Shared):Prop
 |mk {pins:List (Addr×Obj)} {σ:St} {H H':Hp} {B:Heap} {s:Shared} (I:Inv X pins σ H s) (os:s'.os=s.os) (bare:AllBare s'.gens) (way:WS B X.stack a s'.heap) (p:ph B a cls s'.heap)
   (ko:wa X.prog X.w H' B) (rel:WQ (EC X.stack) H H' s.heap B) (sl:WR (EC X.stack) s.heap s'.heap) (e:E σ cls none H'):DN X E ph a cls s'
noncomputable def Yn (X:Cx) (E:St->XK) (L:Addr):Value->Shared->Prop:=λe s'=>∃a cls,e= .ref a/\DN X E (UD L) a cls s'
section
variable{l:List Env}{B h h1 h2:Heap}{P:Program}{w:World}{H:Hp}{fs:List Addr}
theorem WR.up(sl:WR (EC l) h h1)(ff:h1.FunFrames B l)(k:h1.UpToSlots h2):WR (EC l) h h2:=λb o e hb=>by
 obtain⟨s1,q⟩:=sl b o e hb
 obtain⟨_,o1,q1,nf⟩:=ff.mem hb
 rw[q]at q1;cases q1
 obtain⟨s2,q2⟩:=k b _ q nf
 exact⟨s2,q2⟩
theorem wa.hide(ok:wa P w H h)(hf:∀b∈fs,H b=none):wa P w H (fv h fs):=λa o e=>
 (ok a o e).zt (λb u hb q=>d7 _ q λhm=>by
  have z:=hf b hm
  rcases hb with rfl|hb
  ·rw[e]at z;cases z
  ·rw[hb]at z;cases z) (λ_ q=>q) λ_ _ q=>q
end
section
variable{X:Cx}{E:St->XK}{a L:Addr}{cls:Value}{s':Shared}{M:Model}{A:Around}{Q:Unit->Shared->Prop}{E':Value->Shared->Prop}
theorem DN.note(u:DN X E (UD L) a cls s')(hA:A.frames=X.A.frames)(hst:X.stack=X.env::X.outer)(hf:X.env.frame=some L)
  (hQ:∀h',DN X E (Ln L) a cls {s' with heap:=h'}->Q () {s' with heap:=h'}):wpAny M A (noteFrame (.ref a) X.env) Q E' s':=by
 obtain⟨I,os,bare,⟨w1,w2,w3⟩,p,ko,rel,sl,e⟩:=u
 rename_i B s
 have hfr:A.frames=some (X.env::X.outer):=by rw[hA,I.ok.frames,hst]
 have go:∀h' a0,Heap.NotedW B (X.env::X.outer) a cls a0 (rawInt L) s'.heap h'->Q () {s' with heap:=h'}:=λh' a0 ⟨k1,k2,k3,k4⟩=>
  hQ h' ⟨I,os,bare,⟨k1,w2,hst▸k2⟩,⟨a0,k3⟩,ko,rel,sl.up w3 k4,e⟩
 have w3':s'.heap.FunFrames B (X.env::X.outer):=hst▸w3
 rcases p with ⟨oe,vs,a0,he,hc,hd,h0,h1⟩|⟨a0,p⟩|⟨a0,p⟩
 ·subst hc;unfold noteFrame;simp only[hf];refine wpAny_bind (wpAny_field he hd h1 ?_);rw[if_neg (by decide)]
  exact wpAny_entryW hfr w3' hf he w1 w2 hd (Array.getElem?_eq_some_iff.mp h1).1 h0 λh' N=>go h' a0 N
 ·exact wpAny_noteFrame_onW hfr w3' hf p w1 w2 λh' N=>go h' a0 N
 ·exact wpAny_noteFrame_againW hf p (hQ s'.heap ⟨I,os,bare,⟨w1,w2,w3⟩,⟨a0,p⟩,ko,rel,sl,e⟩)
theorem DN.Zp{fl:Value}(u:DN X E (V4 fl) a cls s')(hQ:∀h',DN X E Pe a cls {s' with heap:=h'}->Q () {s' with heap:=h'}):wpAny M A (setFlight (.ref a) none) Q E' s':=by
 obtain⟨I,os,bare,⟨w1,w2,w3⟩,⟨a0,p⟩,ko,rel,sl,e⟩:=u
 exact wpAny_setFlight_noneW w1 w3 p λh' k1 k2 k3 k4=>hQ h' ⟨I,os,bare,⟨k1,w2,k2⟩,⟨a0,k3⟩,ko,rel,sl.up w3 λb o hb hn=>⟨o.slots,k4 b o hb hn⟩,e⟩
theorem DN.hold(u:DN X E (Ln L) a cls s')(hQ:∀h',DN X E (Ln L) a cls {s' with heap:=h'}->Q () {s' with heap:=h'}):
  wpAny M A (do if (←field (.ref a) 1)== .none then unsupported "frame.own-activation:exception-without-traceback"
                setFlight (.ref a) (some L)) Q E' s':=by
 obtain⟨I,os,bare,⟨w1,w2,w3⟩,⟨a0,oe,vs,T,oT,ts,he,hcls,hd,h1,hnT,hTe,hT,hdT,h3⟩,ko,rel,sl,e⟩:=u
 rename_i B s
 have hsz:3<ts.size:=(Array.getElem?_eq_some_iff.mp h3).1
 have oth:∀b,b≠T->(s'.heap.update T (Obj.mapFields (·.setIfInBounds 3 (rawInt L)))).get? b=s'.heap.get? b:=λb hb=>eV _ _ (aC hb)
 have nr:∀b o,s'.heap.get? b=some o->(∀vs,o.data≠ .fields vs)->b≠T:=λb o hb hnf q=>by
  subst q;rw[hT]at hb;cases hb;exact hnf ts hdT
 refine wpAny_bind (wpAny_field he hd h1 ?_)
 rw[if_neg (show¬((aX T==d4)=true) by simp)]
 unfold setFlight
 refine wpAny_bind (wpAny_field he hd h1 ?_)
 rw[if_pos (show(aX T !=d4)=true by simp)]
 refine wpAny_setField hT hdT hsz (hQ _ ⟨I,os,bare,⟨λb o hb=>(oth b λq=>by subst q;rw[hnT]at hb;cases hb).trans (w1 b o hb),w2,
  w3.of_keeps λb o hb hn=>⟨o,(oth b (nr b o hb hn)).trans hb,rfl⟩⟩,⟨a0,oe,vs,T,_,_,(oth a (aC hTe)).trans he,hcls,hd,h1,hnT,hTe,
   gs _ hT (Obj.isFreed_of_fields (hU hdT _)),hU hdT _,by simp[hsz]⟩,ko,rel,sl.up w3 λb o hb hn=>⟨o.slots,(oth b (nr b o hb hn)).trans hb⟩,e⟩)
end
section
variable{X:Cx}{E:St->XK}{a L:Addr}{cls:Value}{s s':Shared}{pins:List (Addr×Obj)}{σ:St}{H H':Hp}{B:Heap}
theorem Inv.adopt{o:HO}(I:Inv X pins σ H s)(hn:H a=none)(new:l9 X.prog X.w (upd H a o) s.heap a o)(h0:X.s₀.heap.get? a=none)(hL:a≠X.env.locals)
  (hc:∀x c,X.env.cells.lookup x=some c->c≠a) (hp:∀p∈X.pn++pins,p.1≠a):Inv X pins σ (upd H a o) s where
 ok:=I.ok
 os:=I.os
 bare:=I.bare
 base:={
  keep:=I.base.keep
  slot:=I.base.slot
  free:=λb ob e n hb=>by
   rw[iW λz=>by subst z;rw[h0]at e;cases e]
   exact I.base.free b ob e n hb
  there:=I.base.there
  AX:=λb xs e=>by
   have q:=I.base.AX b xs e
   rw[iW (iT q hn)];exact q
  xG:=λb ob u e=>by
   have q:=I.base.xG b ob u e
   rw[iW (iT q hn)];exact q
  zv:=λb ps e=>by
   obtain⟨m,q⟩:=I.base.zv b ps e
   exact⟨m,by rw[iW (iT q hn)];exact q⟩}
 loc:=I.loc
 cell:=I.cell
 free:=by rw[iW (aC hL)];exact I.free
 tP:=λx c e=>by rw[iW (hc x c e)];exact I.tP x c e
 pin:=λp m=>by
  obtain⟨p1,p2,p3⟩:=I.pin p m
  exact⟨p1,by rw[iW (hp p m)];exact p2,p3⟩
 ko:=λb u e=>by
  by_cases hb:b=a
  ·subst hb;rw[iS]at e;cases e;exact new
  ·rw[iW hb]at e
   exact(I.ko b u e).zt (λ_ _ _ q=>q) (λc q=>by rw[iW (iT q hn)];exact q) λc xs q=>by rw[iW (iT q hn)];exact q
 len:=I.len
theorem DN.out{E0:XK}(u:DN X (λ_=>E0) Pe a cls s')(hst:X.stack=X.env::X.outer)(hf:X.env.frame=some X.env.locals)(hex:X.ex=[]):
  lG X.prog X.w X.outer X.H₀ X.s₀ E0 (.ref a) s':=by
 obtain⟨I,os,bare,way,p,ko,rel,sl,e⟩:=u
 rename_i pins σ H H' B s
 have GU:∀b,b∉X.ex:=λb=>by rw[hex];simp
 have hfs:∀b,b∈EC X.stack↔b=X.env.locals∨b∈X.fs:=λb=>by
  rw[hst];unfold EC;rw[dI,hf];exact br
 have nloc:∀b o,X.s₀.heap.get? b=some o->b≠X.env.locals:=λb o q z=>by
  have:=aU q
  have h2:=I.ok.above
  rw[z]at this
  exact absurd (aK this h2) (ck _)
 obtain⟨w1,w2,w3⟩:=way
 have w3':s'.heap.FunFrames B X.outer:=by rw[hst]at w3;exact w3.2.2
 refine⟨a,cls,H',B,rfl,os.trans I.os,bare,⟨w1,w2,w3'⟩,p,ko,⟨λb o q n hb=> ?_,λb hb=>rel.fr b ((hfs b).mpr (.inr hb)),λb o q=> ?_,λb xs q=>rel.AX b xs (I.base.AX b xs q),
  λb o u q=>rel.xG b o u (I.base.xG b o u q),λb ps q=> ?_⟩,λb o q hb=> ?_,e⟩
 ·refine rel.keep b o (I.base.keep b o q n hb (GU b)) (I.base.free b o q n (GU b)) λz=> ?_
  rcases (hfs b).mp z with z|z
  ·exact nloc b o q z
  ·exact hb z
 ·obtain⟨o1,q1⟩:=I.base.there b o q (GU b)
  rcases rel.there b o1 q1 with z|z
  ·rcases (hfs b).mp z with z|z
   ·exact absurd z (nloc b o q)
   ·exact .inl z
  ·exact .inr z
 ·obtain⟨m1,q1⟩:=I.base.zv b ps q
  obtain⟨m2,q2⟩:=rel.zv b _ q1
  exact⟨m1++m2,by rw[q2,gY]⟩
 ·obtain⟨s1,q1⟩:=I.base.slot b o q (I.ok.SD b hb) hb (GU b)
  obtain⟨s2,q2⟩:=sl b _ q1 ((hfs b).mpr (.inr hb))
  exact⟨s2,q2⟩
end
structure Exc(X:Cx)(E:St->XK):Prop where
 pass:∀(pins:List (Addr×Obj)) (σ:St) (H:Hp) (s:Shared) (e:Value) (s':Shared),Inv X pins σ H s->lG X.prog X.w X.stack H s (E σ) e s'->X.xe e s'
 XY:∀(pins:List (Addr×Obj)) (σ:St) (H:Hp) (s s':Shared) (a C:Addr) (args:List Value),Inv X pins σ H s->Heap.MadeExcOf s.heap s'.heap a (.ref C) args->s'.os=s.os->s'.gens=s.gens->
  E σ (.ref C) none H->X.xe (.ref a) s'
 own:PassesOwn (model X.prog X.w) X.A X.env X.xe
theorem Q3{X:Cx}{E:St->XK}(hst:X.stack=X.env::X.outer)(hf:X.env.frame=some X.env.locals):Exc (X.Bn (Yn X E X.env.locals)) E where
 pass:=λpins σ H s e s' I ⟨a,cls,H',B,ee,os,bare,way,p,ko,rel,sl,q⟩=>⟨a,cls,ee,⟨I.xB,os,bare,way,.inr (.inl p),ko,rel,sl,q⟩⟩
 XY:=λpins σ H s s' a C args I hm os hg q=>by
  have I:=I.xB
  obtain⟨t,he,htn,ht⟩:=hm.there
  have hB:(fv s.heap (EC X.stack)).get? a=none:=by
   cases z:(fv s.heap (EC X.stack)).get? a with
   |none=>rfl
   |some o=>have:=fH _ z;rw[hm.new]at this;cases this
  refine⟨a,.ref C,rfl,⟨I,os,by rw[hg];exact I.bare,⟨λb o z=>hm.keeps b o (fH _ z),hB,?_⟩,.inl ⟨_,_,_,he,rfl,rfl,rfl,rfl⟩,I.ko.hide I.Bf,⟨λb o z n hb=>⟨d7 _ z hb,n⟩,I.Bf,
   λb o z=> ?_,λ_ _ z=>z,λ_ _ _ z=>z,λ_ ps z=>⟨#[],by rw[dJ];exact z⟩⟩,λb o z _=>⟨o.slots,hm.keeps b o z⟩,q⟩⟩
  ·exact(PySem.W.funFrames_hide I.stack λenv he b hb=>List.mem_filterMap.mpr ⟨env,he,hb⟩).of_keeps λb o z _=>⟨o,hm.keeps b o z,rfl⟩
  ·by_cases hb:b∈EC X.stack
   ·exact .inl hb
   ·exact .inr ⟨o,d7 _ z hb⟩
 own:=λe s' ⟨a,cls,ee,u⟩=>by
  subst ee
  refine u.note rfl hst hf λh' u'=> ?_
  unfold cameBackBy
  rw[show(X.Bn (Yn X E X.env.locals)).env.frame=some X.env.locals from hf]
  refine u'.hold λh2 u2=> ?_
  obtain⟨I,os,bare,way,p,ko,rel,sl,q⟩:=u2
  exact⟨a,cls,rfl,⟨I,os,bare,way,.inr (.inr p),ko,rel,sl,q⟩⟩
theorem NC.Bn{X:Cx}{st:List Stmt}{t:TS}{E:Value->Shared->Prop}(h:NC (X.Bn E) st t)(he:∀e s,E e s->X.xe e s):NC X st t:=λpins s σ H D I hw=>
 wpAny_mono (h pins s σ H D (I.Bn E) hw) (λ_ _ z=>SP.xB z) he
noncomputable abbrev Yd (ca:Bool) (P:Program) (w:World) (K:aA) (mg:Str->Option Value) (base:Heap) (N:List Str) (qual:Str) (scope:Scope) (f:Addr) (cd:Value) (A:Around) (outer:List Env) (s:Shared) (H:Hp) (E:XK):Cx:=
 (Mi (lG P w) ca P w K mg base N qual scope f cd A outer s H E).Bn (Yn (Mi (lG P w) ca P w K mg base N qual scope f cd A outer s H E) (λ_=>E) s.heap.objs.size)
section
variable{P:Program}{w:World}{K:aA}{mg:Str->Option Value}{base:Heap}
theorem mK.nP{x qual:Str}{st:Stmt}{f:Addr}{fd:FuncData}{N ps:List Str}{ca:Bool}{k:Nat}{sp:Sp}(F:mK K x qual st f fd)(S:i7 N ps (iX st))(len:∀vs H Q E,sp vs H Q E->vs.length=ps.length)
  (hbody:∀(cdv:Value) (A:Around) (outer:List Env) (s:Shared) (H:Hp) (vs:List V) (Q:VK) (E:XK),ou ca k (A.deeper (envOfC qual (iX st) s.heap.objs.size f cdv))->
   Exc (Yd ca P w K mg base N qual (iX st) f cdv A outer s H E) (λ_=>E)->sp vs H Q E->
   ∃t,NC (Yd ca P w K mg base N qual (iX st) f cdv A outer s H E) (uB st) t/\t {nx:=λ_ H'=>Q .kT H',rt:=Q} (start N vs) H):jA P w K mg base (lG P w) ca (k+1) f fd ps sp:=by
 obtain⟨oc,od,kV,doc,pm,an,cdv,ct,osl,rfl,lk,hcd⟩:=F.ex
 refine Ux (CX:=lG P w) lk hcd S len λA outer s H vs Q E hr hsp=> ?_
 obtain⟨t,h,q⟩:=hbody cdv A outer s H vs Q E hr (Q3 rfl rfl) hsp
 refine⟨t,h.Bn λe s2 ⟨a,cls,ee,u⟩=> ?_,q⟩
 subst ee
 show wpAny _ _ (leaving _ _) _ _ _
 unfold leaving
 exact wpAny_bind (u.note rfl rfl rfl λh' u'=>u'.Zp λh'' u''=>u''.out rfl rfl rfl)
end
noncomputable def rm (H:Hp) (p:Addr):Hp:=λb=>if b=p then none else H b
end L2
namespace L2
open PySem PySem.Spec PyProof.Rows
section
variable{X:Cx}{pins:List (Addr×Obj)}{σ:St}{H:Hp}{s:Shared}
end
noncomputable def i9 (sp:Sp) (E:St->XK) (t:TA):TE:=λσ H Q=>t σ H λvs H1=>sp vs H1 Q (E σ)
noncomputable def rT (C:Addr) (sp:Sp) (E:St->XK) (t:TA):TE:=λσ H Q=>t σ H λvs H1=>∀x dx,H1 x=none->H1 dx=none->dx≠x->
 sp (.ref x::vs) (upd (upd H1 dx (.own x)) x (.ins C dx [])) (λv H2=>v= .kT/\Q (.ref x) H2) (E σ)
section
variable{X:Cx}{ca:Bool}{k:Nat}{f C:Addr}{fd:FuncData}{ps:List Str}{sp:Sp}{E:St->XK}{x m:Str}{p pos apos:Pos}{e o:Expr}{es:List Expr}{ta:TE}{t:TA}
theorem Lq{pins:List (Addr×Obj)}{σ:St}{H:Hp}{s:Shared}{Q:VK}{us:List Value}{vs:List V}(F:jA X.prog X.w X.K X.mg X.base (lG X.prog X.w) ca k f fd ps sp)(hr:ou ca k X.A)(hb:Binds X.K fd ps [])(hx:Exc X E)
  (I:Inv X pins σ H s) (r:Vals vs us) (h:sp vs H Q (E σ)):wpAny (model X.prog X.w) X.A (call (.ref f) us) (EP X pins σ Q) X.xe s:=by
 have hl:(us++[]).length=ps.length:=by rw[ay,←r.length];exact F.len _ _ _ _ h
 have hb':=hb s us I.CD hl
 rw[ay]at hb'
 refine wpAny_call (codeAny_mono (F.run X.A X.stack s H ⟨us,[]⟩ us vs Q (E σ) hr I.Vc hb' r h) λr s' hq=> ?_)
 cases r with
 |error e=>exact hx.pass pins σ H s e s' I hq
 |ok fl=>
  cases fl with
  |ret u=>exact I.after hq
  |next=>exact bY hq
  |brk=>exact bY hq
  |cont=>exact bY hq
theorem RF(F:jA X.prog X.w X.K X.mg X.base (lG X.prog X.w) ca k f fd ps sp)(hr:ou ca k X.A)(hg:Gl X x)(hm:X.mg x=some (.ref f))(hk:bL X.K (.ref f)=true)(hb:Binds X.K fd ps [])(hx:Exc X E)
  (ha:PA X (e::es) t) (hdb:(x==("__debug__":Str))=false:=by decide) (he:starEach (e::es) X.env=(false,eval e X.env)::starEach es X.env:=by rfl) (hpl:(backTo pos (starEach es X.env)).any (·.1)=false:=by rfl):
  PE X (.Call (.Name x p) (e::es) [] pos) (i9 sp E t):=by
 intro pins s σ H Q I h
 refine wpAny_Call_Name_kw (Di I hg hm ?_ hdb)
 refine eM (h₀:=X.base) I.ok.mod.CF hk (oh (ha pos pins s σ H _ I h) λus s1 ⟨vs,H1,I1,r,q⟩=>⟨I1.CD,?_⟩) he hpl
 exact Lq F hr hb hx I1 r q
theorem JH{pins:List (Addr×Obj)}{σ:St}{H:Hp}{s:Shared}{Q:VK}{us:List Value}{vs:List V}(M:Mk X.K C f)(F:jA X.prog X.w X.K X.mg X.base (lG X.prog X.w) ca k f fd ps sp)(hr:ou ca (k+1) X.A)(hb:Binds X.K fd ps [])
  (hx:Exc X E) (I:Inv X pins σ H s) (r:Vals vs us)
  (h:∀x dx,H x=none->H dx=none->dx≠x->sp (.ref x::vs) (upd (upd H dx (.own x)) x (.ins C dx [])) (λv H2=>v= .kT/\Q (.ref x) H2) (E σ)):
  wpAny (model X.prog X.w) X.A (call (.ref C) us) (EP X pins σ Q) X.xe s:=by
 have hq:=h (s.heap.objs.size+1) s.heap.objs.size (I.ko.fresh (fG _)) (I.ko.fresh (aI _)) (bA (fV _))
 have I2:=Inv.made (C:=C) I
 have r2:Vals (V.ref (s.heap.objs.size+1)::vs) (aX (s.heap.objs.size+1)::us):= .cons rfl r
 have hl:(aX (s.heap.objs.size+1)::us++[]).length=ps.length:=by rw[ay,←r2.length];exact F.len _ _ _ _ hq
 have hb':=hb {s with heap:=(s.heap.push cg).push (cO C s.heap.objs.size)} (aX (s.heap.objs.size+1)::us) I2.CD hl
 rw[ay]at hb'
 refine wpAny_call (Ry (f:=f) I.CD M.makes M.init (beq_iff_eq.mp M.fn) (codeAny_mono (F.run _ X.stack _ _ ⟨aX (s.heap.objs.size+1)::us,[]⟩ (aX (s.heap.objs.size+1)::us) _ _ (E σ) (hr.make C us [])
  (I2.Vc.make C us []) hb' r2 hq) λr s' hq'=> ?_))
 cases r with
 |error e=>exact hx.pass pins σ _ _ e s' I2 hq'
 |ok fl=>
  cases fl with
  |ret u=>
   obtain⟨v,H',I3,rv,ev,q3⟩:=I2.after hq'
   subst ev
   exact⟨rv,⟨V.ref (s.heap.objs.size+1),H',I3,rfl,q3⟩⟩
  |next=>exact bY hq'
  |brk=>exact bY hq'
  |cont=>exact bY hq'
theorem RM(M:Mk X.K C f)(F:jA X.prog X.w X.K X.mg X.base (lG X.prog X.w) ca k f fd ps sp)(hr:ou ca (k+1) X.A)(hg:Gl X x)(hm:X.mg x=some (.ref C))(hb:Binds X.K fd ps [])(hx:Exc X E)
  (ha:PA X (e::es) t) (hdb:(x==("__debug__":Str))=false:=by decide) (he:starEach (e::es) X.env=(false,eval e X.env)::starEach es X.env:=by rfl) (hpl:(backTo pos (starEach es X.env)).any (·.1)=false:=by rfl):
  PE X (.Call (.Name x p) (e::es) [] pos) (rT C sp E t):=by
 intro pins s σ H Q I h
 refine wpAny_Call_Name_kw (Di I hg hm ?_ hdb)
 refine eM (h₀:=X.base) I.ok.mod.CF M.kp (oh (ha pos pins s σ H _ I h) λus s1 ⟨vs,H1,I1,r,q⟩=>⟨I1.CD,?_⟩) he hpl
 exact JH M F hr hb hx I1 r q
theorem Qc(M:Mk X.K C f)(F:jA X.prog X.w X.K X.mg X.base (lG X.prog X.w) ca k f fd ps sp)(hr:ou ca (k+1) X.A)(hg:Gl X x)(hm:X.mg x=some (.ref C))(hb:Binds X.K fd ps [])(hx:Exc X E)
  (hdb:(x==("__debug__":Str))=false:=by decide):PE X (.Call (.Name x p) [] [] pos) (rT C sp E jd):=by
 intro pins s σ H Q I h
 refine wpAny_Call_Name_kw (Di I hg hm ?_ hdb)
 exact gP I.CD M.kp (JH (us:=[]) M F hr hb hx I .nil h)
end
abbrev Sz:List Value:=[.type "ValueError",.type "Exception",.type "BaseException",.type "object"]
noncomputable def CK (K:aA) (C:Addr):Prop:=cU K C Sz "ValueError.__new__"=true
theorem CK.obj{K:aA}{h:Heap}{C:Addr}(X:K.In h)(q:CK K C):∃bm N nm qn bs hd sn sub ab col dd k0 k1 k2 k3 k5 mN,h.get? C=some (excClassObj nm qn C N bs bm hd sn sub ab col dd k0 k1 k2 k3 k5 "ValueError.__new__")/\
  h.Ns N mN/\mN "__init__"=none/\OwnTail h Sz bm:=by
 unfold CK cU at q
 split at q
 ·rename_i dd cd sl ho
  split at q
  ·rename_i C' bm k0 k1 k2 k3 n k5 hm hs
   rw[aQ,aQ,aQ,aQ,aQ,beq_iff_eq,beq_iff_eq,beq_iff_eq,aN]at q
   obtain⟨⟨⟨⟨⟨q1,q2⟩,q3⟩,q4⟩,q5⟩,q6⟩:=q
   subst q1 q2
   obtain⟨nm,bs,mro,ns,qn,hd,sn,sub,ab,col,del⟩:=cd
   have q3:del=false:=q3
   have hm:mro=_:=hm
   subst q3 hm
   obtain⟨l⟩:=sl
   have hs:l=_:=hs
   subst hs
   exact⟨bm,ns,nm,qn,bs,hd,sn,sub,ab,col,dd,k0,k1,k2,k3,k5,_,X _ _ ho,.of_isNs (PySem.W.isNs_of_in X q5),PySem.W.nsMap_none_of_in X q5 q6,PySem.W.tail_of_in X q4⟩
  ·cases q
 ·cases q
noncomputable def kO (C:Addr) (E:St->XK) (t:TA):TS:=λ_ σ H=>t σ H λvs H1=>vs.length<=sizeLine/\E σ (.ref C) none H1
section
variable{X:Cx}{C:Addr}{E:St->XK}{x:Str}{np cpos pos:Pos}{e:Expr}{es:List Expr}{t:TA}
theorem RX(hx:Exc X E)(hg:Gl X x)(hm:X.mg x=some (.ref C))(hq:CK X.K C)(hc:X.calm=true)(ha:PA X (e::es) t)
  (he:starEach (e::es) X.env=(false,eval e X.env)::starEach es X.env:=by rfl) (hpl:(backTo cpos (starEach es X.env)).any (·.1)=false:=by rfl) (hdb:(x==("__debug__":Str))=false:=by decide):
  PS X (.Raise (some (.Call (.Name x np) (e::es) [] cpos)) none pos) (kO C E t):=by
 intro pins s σ H D I h
 obtain⟨bm,N,nm,qn,bs,hd,sn,sub,ab,col,dd,k0,k1,k2,k3,k5,mN,hC,hN,hni,T⟩:=hq.obj I.mod.CF
 refine wpAny_Raise_call_subT (C:=C) (nm:=nm) (q:=qn) (N:=N) (bs:=bs) (bm:=bm) (hdct:=hd) (sn:=sn) (sub:=sub) (ab:=ab) (col:=col) (dd:=dd) (k0:=k0) (k1:=k1) (k2:=k2) (k3:=k3) (k5:=k5)
  PySem.F.excBase_ValueError (mN:=mN) (T.hasType PySem.F.excBase_ValueError.hasBase) (I.ok.hd hc) (by rw[he];show(false ||(backTo cpos (starEach es X.env)).any λx=>x.1)=false;rw[hpl];rfl) hni (Di I hg hm ⟨rfl,?_⟩ hdb)
 have h2:=ha cpos pins s σ H _ I h
 rw[he]at h2⊢
 exact dC (wpAny_mono h2 (λus s2 ⟨vs,H1,I1,r,hl,q⟩=>⟨rfl,by rw[←r.length];exact hl,I1.bk _ _ hC,hN.keeps I1.bk,T.keeps I1.bk,
  λh' e hm'=>hx.XY pins σ H1 s2 {s2 with heap:=h'} e C us I1 hm' rfl rfl q⟩) λ_ _ y=>y)
end
section
variable{X:Cx}{pins pins':List (Addr×Obj)}{σ:St}{H:Hp}{s:Shared}{a:Addr}{E:Value->Shared->Prop}
end
noncomputable abbrev TH:=Ends->St->Hp->Value->Prop
section
variable{X:Cx}{c:Value}{i:Nat}{x n:Str}{np pos:Pos}{b₀:Stmt}{suite:List Stmt}{th:TS}{tr:TH}{rest:List ExceptHandler}
theorem Nk{M:Model}{h:Heap}{a:Addr}{cls:Value}(e:∃o vs,h.get? a=some o/\o.cls=cls/\o.data= .fields vs):dv M h (typeOf (.ref a)) cls:=by
 obtain⟨o,_,ho,hc,_⟩:=e
 subst hc
 exact(PySem.W.Looks.ld ho).andThen .now
end
end L2
namespace L2
open PySem PySem.Spec PyProof.Rows
section
variable{X:Cx}
theorem PE.mono{e:Expr}{t t':TE}(h:PE X e t)(k:∀σ H Q,t' σ H Q->t σ H Q):PE X e t':=λpins s σ H Q I q=>h pins s σ H Q I (k _ _ _ q)
theorem ux.mono{f:Value->Value->Sem Value}{r r':R2}(h:ux X f r)(k:∀x y H Q,r' x y H Q->r x y H Q):ux X f r':=λpins s σ H x y v u Q I rx ry q=>h pins s σ H x y v u Q I rx ry (k _ _ _ _ q)
theorem tN.mono{f:Value}{r r':List V->Hp->VK->Prop}(h:tN X f r)(k:∀xs H Q,r' xs H Q->r xs H Q):tN X f r':=λpins s σ H xs us Q I rx q=>h pins s σ H xs us Q I rx (k _ _ _ q)
end
noncomputable def i3 (i:Nat):TE:=λσ H Q=>match σ[i]? with
 |some (some v)=>Q v H
 |_=>False
section
variable{X:Cx}
theorem cv(i:Nat){x:Str}{pos:Pos}(hN:X.N[i]? =some x:=by rfl)(hv:WB X.env.scope x:=by first|exact gy rfl|exact fu (gy rfl)|exact fu (fu rfl))(hd:(x==("__debug__":Str))=false:=by decide)
  (hcd:(x==("__classdict__":Str))=false:=by decide):PE X (.Name x pos) (i3 i):=(RQ hN hv hd hcd).mono λσ H Q h=>by
 unfold i3 at h
 split at h
 ·rename_i v e;exact⟨v,e,h⟩
 ·exact h.elim
noncomputable def Gv (mg:Str->Option Value) (x:Str) (v:V):Prop:=∃u,mg x=some u/\RelV v u
theorem XN{x:Str}{v:V}{pos:Pos}(h:Gv X.mg x v)(hg:Gl X x:=by rfl)(hd:(x==("__debug__":Str))=false:=by decide):PE X (.Name x pos) (tC v):=by
 obtain⟨u,hm,r⟩:=h
 exact TN hg hm r hd
theorem XR{x:Str}{T:String}{pos:Pos}(hm:X.mg x=none)(hv:bootBuiltins x=some (.type T))(hg:Gl X x:=by rfl)(hn:x≠"__name__":=by decide)(hd:(x==("__debug__":Str))=false:=by decide):
  PE X (.Name x pos) (tC (.ty T)):=TJ hg hm hv rfl hn hd
end
noncomputable def mP:R2:=λx y H Q=>match x,y with
 | .int i,.int j=>Q (.int (i+j)) H
 | .str i,.str j=>i.length+j.length<=sizeLine/\Q (.str (i++j)) H
 |_,_=>False
noncomputable def B0:R2:=λx y H Q=>match x,y with
 | .int i,.int j=>Q (.int (i-j)) H
 |_,_=>False
noncomputable def EX:R2:=λx y H Q=>match x,y with
 | .int i,.int j=>DK i j/\Q (.int (i*j)) H
 | .str z,.int n=>z.length<=1000/\(n=0∨n=1)/\Q (.str (if n=1 then z else dt)) H
 |_,_=>False
noncomputable def m8:R2:=λx y H Q=>match x,y with
 | .int i,.int j=>tU i j/\Q (.int (i/j)) H
 |_,_=>False
noncomputable def rE:R2:=λx y H Q=>match x,y with
 | .int i,.int j=>0<j/\Q (.int (i%j)) H
 |_,_=>False
noncomputable def sJ (p:Int->Int->Bool):R2:=λx y H Q=>match x,y with
 | .int i,.int j=>Q (.bl (p i j)) H
 |_,_=>False
noncomputable abbrev SA:R2:=sJ λi j=>decide (i<j)
noncomputable abbrev UW:R2:=sJ λi j=>decide (i<=j)
noncomputable abbrev OO:R2:=sJ λi j=>decide (j<i)
noncomputable def eqv:V->V->Option Bool
 | .int i,.int j=>some (decide (i=j))
 | .str i,.str j=>some (decide (i=j))
 | .bl i,.bl j=>some (decide (i=j))
 | .kT,.kT=>some true
 | .kT,.int _=>some false| .int _,.kT=>some false| .kT,.bl _=>some false| .bl _,.kT=>some false| .kT,.str _=>some false| .str _,.kT=>some false
 | .int _,.str _=>some false| .str _,.int _=>some false| .bl _,.str _=>some false| .str _,.bl _=>some false
 |_,_=>none
noncomputable def Md:R2:=λx y H Q=>match eqv x y with
 |some b=>Q (.bl b) H
 |none=>False
noncomputable def Uq:R2:=λx y H Q=>match eqv x y with
 |some b=>Q (.bl (!b)) H
 |none=>False
noncomputable def xI:V->Bool
 | .kT=>true
 |_=>false
noncomputable def Up:R2:=λx y H Q=>match y with
 | .kT=>Q (.bl (xI x)) H
 |_=>False
noncomputable def BX:R2:=λx y H Q=>match y with
 | .kT=>Q (.bl (!xI x)) H
 |_=>False
noncomputable def NL:V->Hp->VK->Prop:=λx H Q=>match x with
 | .int i=>Q (.int (-i)) H
 |_=>False
theorem Mn{x y:V}{b:Bool}(h:eqv x y=some b):Wd x y=true/\decide (x=y)=b:=by
 cases x<;>cases y<;>first
  |exact⟨rfl,(decide_eq_decide.mpr ⟨λz=>by cases z;rfl,λz=>by cases z;rfl⟩).trans (bg h)⟩
  |exact⟨rfl,(decide_eq_false λz=>by cases z).trans (bg h)⟩
  |exact⟨rfl,(decide_eq_true rfl).trans (bg h)⟩
  |exact nomatch h
section
variable{X:Cx}
theorem WW:ux X (binaryOp .Add) mP:=by
 intro pins s σ H x y v u Q I rx ry h
 unfold mP at h
 split at h
 ·exact VL pins s σ H _ _ v u Q I rx ry ⟨_,_,rfl,rfl,h⟩
 ·exact Oj pins s σ H _ _ v u Q I rx ry ⟨_,_,rfl,rfl,h.1,h.2⟩
 ·exact h.elim
theorem Xg:ux X (binaryOp .Sub) B0:=VR.mono λx y H Q h=>by
 unfold B0 at h
 split at h
 ·exact⟨_,_,rfl,rfl,h⟩
 ·exact h.elim
theorem W8:ux X (binaryOp .Mult) EX:=by
 intro pins s σ H x y v u Q I rx ry h
 unfold EX at h
 split at h
 ·exact VP pins s σ H _ _ v u Q I rx ry ⟨_,_,rfl,rfl,h.1,h.2⟩
 ·rename_i z n
  obtain⟨t,rfl⟩:=(show∃t,v=fk z t from rx)
  obtain⟨t',rfl⟩:=(show∃t,u=dX n t from ry)
  obtain⟨hz,hn,h⟩:=h
  refine SB.mul (mulOk_of 1000 16 hz (by lia) (by lia) (by decide) (by decide)) λt2 k=> ?_
  rcases hn with rfl|rfl
  ·exact⟨.str dt,H,I.tok _,⟨t2,rfl⟩,h⟩
  ·exact⟨.str z,H,I.tok _,⟨t2,rfl⟩,h⟩
 ·exact h.elim
theorem U1:ux X (binaryOp .FloorDiv) m8:=TB.mono λx y H Q h=>by
 unfold m8 at h
 split at h
 ·exact⟨_,_,rfl,rfl,h.1,h.2⟩
 ·exact h.elim
theorem W7:ux X (binaryOp .Mod) rE:=VO.mono λx y H Q h=>by
 unfold rE at h
 split at h
 ·exact⟨_,_,rfl,rfl,h.1,h.2⟩
 ·exact h.elim
theorem QM{op:CmpOp}{p:Int->Int->Bool}(h:ux X (compareOp op) (UE λi j=> .bl (p i j))):ux X (compareOp op) (sJ p):=h.mono λx y H Q h=>by
 unfold sJ at h
 split at h
 ·exact⟨_,_,rfl,rfl,h⟩
 ·exact h.elim
theorem Yx:ux X (compareOp .Lt) SA:=QM XI
theorem Yw:ux X (compareOp .LtE) UW:=QM XH
theorem Yt:ux X (compareOp .Gt) OO:=QM XG
theorem WZ:ux X (compareOp .Eq) Md:=XF.mono λx y H Q h=>by
 unfold Md at h
 split at h
 ·rename_i b e
  obtain⟨e1,e2⟩:=Mn e
  exact⟨e1,by rw[e2];exact h⟩
 ·exact h.elim
theorem W9:ux X (compareOp .NotEq) Uq:=XJ.mono λx y H Q h=>by
 unfold Uq at h
 split at h
 ·rename_i b e
  obtain⟨e1,e2⟩:=Mn e
  exact⟨e1,by rw[e2];exact h⟩
 ·exact h.elim
theorem Jy(x:V):decide (x= .kT)=xI x:=by cases x<;>simp[xI]
theorem Yu:ux X (compareOp .Is) Up:=VN.mono λx y H Q h=>by
 unfold Up at h
 split at h
 ·exact⟨rfl,by rw[Jy];exact h⟩
 ·exact h.elim
theorem S5:ux X (compareOp .IsNot) BX:=TC.mono λx y H Q h=>by
 unfold BX at h
 split at h
 ·exact⟨rfl,by rw[Jy];exact h⟩
 ·exact h.elim
theorem Xb:WO X (unaryOp .USub) NL:=λpins s σ H x v Q I rx h=>by
 unfold NL at h
 split at h
 ·exact Wq pins s σ H _ v Q I rx ⟨_,rfl,h⟩
 ·exact h.elim
end
end L2
namespace L2
open PySem PySem.Spec PyProof.Rows
section
variable{X:Cx}{es:List Expr}{e:Expr}{t:TA}{ti:TE}{pos p2:Pos}
end
noncomputable def DO:R2:=λx y H Q=>match x,y with
 | .ref p,.int i=>(match H p with
  |some (.lst xs)=>(match HJ xs i with
   |some v=>Q v H
   |none=>False)
  |some (.tup xs)=>(match HJ xs i with
   |some v=>Q v H
   |none=>False)
  |_=>False)
 |_,_=>False
noncomputable def zF:List V->Hp->VK->Prop:=λxs H Q=>match xs with
 | [.ref p]=>(match H p with
  |some (.lst ys)=>Q (.int ys.length) H
  |some (.tup ys)=>Q (.int ys.length) H
  |_=>False)
 |_=>False
noncomputable def SY (K:aA):R2:=λx y H Q=>match x,y with
 | .ref p,.int i=>∃xs,mj K H p xs/\(match HJ xs i with
   |some v=>Q v H
   |none=>False)
 |_,_=>False
noncomputable def OP (K:aA):List V->Hp->VK->Prop:=λxs H Q=>match xs with
 | [.ref p]=>∃ys,mj K H p ys/\Q (.int ys.length) H
 |_=>False
section
variable{X:Cx}
theorem Yv:Wz X DO:=by
 intro value slice pins s σ H x y v u Q I rx ry h hsub
 unfold DO at h
 split at h
 case h_2=>exact h.elim
 split at h
 ·rename_i xs hp
  split at h
  case h_2=>exact h.elim
  rename_i v' ha
  exact O3 value slice pins s σ H _ _ v u Q I rx ry ⟨_,xs,_,v',rfl,rfl,mj.of hp,ha,h⟩ hsub
 ·rename_i xs hp
  split at h
  case h_2=>exact h.elim
  rename_i v' ha
  exact Vj value slice pins s σ H _ _ v u Q I rx ry ⟨_,xs,_,v',rfl,rfl,JV.of hp,ha,h⟩ hsub
 ·exact h.elim
theorem W5:Wz X (SY X.K):=by
 intro value slice pins s σ H x y v u Q I rx ry h hsub
 unfold SY at h
 split at h
 case h_2=>exact h.elim
 obtain⟨xs,hp,h⟩:=h
 split at h
 case h_2=>exact h.elim
 rename_i v' ha
 exact O3 value slice pins s σ H _ _ v u Q I rx ry ⟨_,xs,_,v',rfl,rfl,hp,ha,h⟩ hsub
theorem W6:tN X (.builtin "len") zF:=CU.mono λxs H Q h=>by
 unfold zF at h
 split at h
 case h_2=>exact h.elim
 split at h
 ·rename_i ys hp;exact⟨_,ys,rfl,.inl (mj.of hp),h⟩
 ·rename_i ys hp;exact⟨_,ys,rfl,.inr (JV.of hp),h⟩
 ·exact h.elim
theorem U4:tN X (.builtin "len") (OP X.K):=CU.mono λxs H Q h=>by
 unfold OP at h
 split at h
 case h_2=>exact h.elim
 obtain⟨ys,hp,h⟩:=h
 exact⟨_,ys,rfl,.inl hp,h⟩
end
theorem jb{CX:Qn}{ca:Bool}{P:Program}{w:World}{K:aA}{mg:Str->Option Value}{base:Heap}{N:List Str}{qual:Str}{scope:Scope}{f:Addr}{cd:Value}{A:Around}{outer:List Env}{s:Shared}{H:Hp}{E:XK}:
  (Mi CX ca P w K mg base N qual scope f cd A outer s H E).K=K:=rfl
end L2
namespace L2
open PySem PySem.Spec PyProof.Rows
structure Ul(K:aA)(C:Addr):Prop where
 ga:aB K (.ref C) "__getattribute__"=some (some (.builtin "BaseException.__getattribute__"))
 gt:aB K (.ref C) "__getattr__"=some none
 cl:aB K (.ref C) "__class__"=some (some (.builtin "object.__class__"))
 hn:fP K (.builtin "object.__class__") "__get__"=some (some (.builtin "getset_descriptor.__get__"))
 tk:gf K (.builtin "object.__class__")=some true
 mb:fb K C (.type "BaseException")=some true
 mo:fb K C (.type "object")=some true
section
open Builtin Builtin.ObjectAttr Builtin.Getset_descriptor
variable{prog:Program}{w:World}{A:Around}{E:Value->Shared->Prop}{s:Shared}{K:aA}{a C:Addr}
theorem Ul.cls(ki:Ul K C):∃cd,fK K C=some cd:=by
 have h:=ki.mo
 unfold fb at h
 cases q:fK K C with
 |none=>rw[q]at h;cases h
 |some cd=>exact⟨cd,rfl⟩
theorem Ww{R:Result->Shared->Prop}{tp:Value}(X:K.In s.heap)(I:dv (model prog w) s.heap (typeOf (.ref a)) (.ref C))(ki:Ul K C)(h:R (.ok (.ret (.ref C))) s):
  codeAny (model prog w) A (.call (.builtin "getset_descriptor.__get__") ⟨[.builtin "object.__class__",.ref a,tp],[]⟩) R s:=by
 obtain⟨hh,g,dr,t,os⟩:=s
 have L1:=gR (M:=model prog w) X ki.mo
 refine codeAny_call_builtin PySem.W.KF.slot_gs.plain PySem.W.KF.entry_gs (PySem.W.KF.slot_gs.check _ _ _ _ _ _ _ _ PySem.W.KF.type_class (PySem.W.KF.args_gs _ _ _) ?_)
 unfold Builtin.«getset_descriptor.__get__» descrGet;rw[PySem.W.dga_obj];refine wpAny_bind (wpAny_pure ?_)
 unfold descrGetter descrCheckInstance descrNameAndClass isInstance;simp only[PySem.W.KF.owner_class];repeat lk
 refine⟨Code.quiet_builtin _ (by decide+kernel),codeAny_builtin PySem.W.KF.entry_class ?_⟩;unfold Builtin.«object.__class__» shownTypeOf;repeat lk
 exact h
theorem Sv{tk:Tok}{Q:Fin->Shared->Prop}(X:K.In s.heap)(I:dv (model prog w) s.heap (typeOf (.ref a)) (.ref C))(ki:Ul K C)(h:Q (.done (.ret (.ref C))) s):
  wpAny (model prog w) A (Builtin.«object.__getattribute__» ⟨[.ref a,.str "__class__" tk],[]⟩) Q E s:=by
 obtain⟨hh,g,d,t,os⟩:=s
 have L1:dv (model prog w) hh (find (.ref a) (.ref C) "__class__") (.bind (.builtin "getset_descriptor.__get__") (.builtin "object.__class__")):=by
  have LA:=dZ (M:=model prog w) X ki.cl
  have LB:dv (model prog w) hh (getOf (some (.builtin "object.__class__"))) (some (.builtin "getset_descriptor.__get__")):=PySem.W.looks_specialIn X ki.hn
  have LC:=PySem.W.looks_takesIn (M:=model prog w) X ki.tk
  refine LA.andThen (LB.andThen ?_)
  exact(show dv (model prog w) hh (dataDescriptor? (some (.builtin "object.__class__")) (some (.builtin "getset_descriptor.__get__"))) (some (.builtin "getset_descriptor.__get__",.builtin "object.__class__")) from LC.andThen .now).andThen (PySem.W.Looks.tag .now)
 unfold Builtin.«object.__getattribute__»
 refine wpAny_bind (m:=slotArgs _ _ _) (wpAny_pure ?_)
 refine wpAny_bind (m:=attrName _) (wpAny_pure ?_)
 refine wpAny_bind (I.at (wpAny_bind (L1.at ?_)))
 show wpAny _ _ (bindTo _ _ _ _) _ _ _
 show wpAny _ _ (holding [_] (call _ [_,.ref a,.ref C])>>=ret) _ _ _
 exact wpAny_bind (wpAny_holding (wpAny_call (Ww X I ki (wpAny_pure h))))
theorem Uj{tk:Tok}{R:Result->Shared->Prop}(X:K.In s.heap)(I:dv (model prog w) s.heap (typeOf (.ref a)) (.ref C))(ki:Ul K C)(h:R (.ok (.ret (.ref C))) s):
  codeAny (model prog w) A (.call (.builtin "BaseException.__getattribute__") ⟨[.ref a,.str "__class__" tk],[]⟩) R s:=by
 obtain⟨hh,g,d,t,os⟩:=s
 have L1:=gR (M:=model prog w) X ki.mb
 refine codeAny_call_builtin PySem.F.attr_ValueError.ga.plain PySem.F.entry_bexc_ga ?_
 have hk:builtinKind "BaseException.__getattribute__"=some .slot:=by decide+kernel
 have hsplit:splitId "BaseException.__getattribute__"=some ("BaseException","__getattribute__"):=by decide+kernel
 have ha:=PySem.F.args_bexc_ga (.ref a) (.str "__class__" tk)
 simp only[checkBuiltinCall,hk,hsplit]
 refine wpAny_bind (wpAny_bind (I.at (L1.at ?_)))
 rw[if_neg (by decide)]
 unfold argsOk at ha
 exact wpAny_of_eq (a:=()) ha (Sv X I ki h)
theorem Ui{Q:Option Value->Shared->Prop}(X:K.In s.heap)(I:dv (model prog w) s.heap (typeOf (.ref a)) (.ref C))(ki:Ul K C)(h:Q (some (.ref C)) {s with toks:=s.toks+1}):
  wpAny (model prog w) A (getAttr? (.ref a) "__class__") Q E s:=by
 obtain⟨hh,g,d,t,os⟩:=s
 have L1:=dZ (M:=model prog w) X ki.ga
 have L2:=dZ (M:=model prog w) X ki.gt
 unfold getAttr? getAttrBy? getAttrBy
 refine wpAny_bind (wpAny_mkText (wpAny_bind (wpAny_attempt (wpAny_holding (wpAny_bind (I.at (wpAny_bind (L1.at ?_))))))))
 show wpAny _ _ (getAttrByItsOwn _ _ _ _ _ _) _ _ _
 unfold getAttrByItsOwn
 refine wpAny_bind (m:=hookBefore _) ?_
 show wpAny _ _ (typeLookup (.ref C) "__getattr__") _ _ _
 refine L2.at (wpAny_bind (wpAny_attempt (wpAny_holding ?_)))
 show wpAny _ _ (boundAndCalled _ _ _) _ _ _
 unfold boundAndCalled
 refine wpAny_bind (wpAny_of_eq (PySem.F.attr_ValueError.ga.bind _) ?_)
 refine wpAny_call (Uj X I ki ?_)
 exact PySem.W.handed_on rfl (wpAny_pure h)
theorem Rp(ki:Ul K C):PySem.W.KitX K (.ref a) (.ref C) (λh=>∃o vs,h.get? a=some o/\o.cls= .ref C/\o.data= .fields vs) where
 ty:=λM h _ p=>Nk p
 it:=λ_ _ X _=>by
  obtain⟨cd,hc⟩:=ki.cls
  unfold fK at hc
  split at hc
  ·rename_i c' d' cd' sl' ho
   intro A' Q' E' s' k q;unfold isType loadHead;exact wpAny_bind (wpAny_loadPart (k _ _ (X _ _ ho)) (wpAny_pure q))
  ·cases hc
 ne:=λh tp dd its n sl X htp=>by
  obtain⟨cd,hc⟩:=ki.cls
  refine Bool.eq_false_iff.mpr λq=> ?_
  have e:C=tp:=Value.ref.inj (beq_iff_eq.mp q)
  subst e
  unfold fK at hc
  split at hc
  ·rename_i c' d' cd' sl' ho;have z:=(X _ _ ho).symm.trans htp;cases z
  ·cases hc
 ca:=λX p k=>Ui X (Nk p) ki k
end
structure Zt(K:aA)(C:Addr):Prop where
 cl:Fh K C
 ha:aB K (.ref C) "__class__"=some (some (.builtin "object.__class__"))
 hn:fP K (.builtin "object.__class__") "__get__"=some (some (.builtin "getset_descriptor.__get__"))
 tk:gf K (.builtin "object.__class__")=some true
 hm:fb K C (.type "object")=some true
noncomputable def Wo (H:Hp):V->Option Value
 | .kT=>some (.type "NoneType")
 | .bl _=>some (.type "bool")
 | .int _=>some (.type "int")
 | .str _=>some (.type "str")
 | .ref a=>match H a with
  |some (.lst _)=>some (.type "list")
  |some (.rN _ (.lst _))=>some (.type "list")
  |some (.tup _)=>some (.type "tuple")
  |some (.dK _)=>some (.type "dict")
  |some (.ins C _ _)=>some (.ref C)
  |some (.exc c)=>some c
  |_=>none
 |_=>none
noncomputable def NB (K:aA) (H:Hp):V->Prop
 | .ref a=>match H a with
  |some (.ins C _ _)=>Zt K C
  |some (.exc c)=>∃C,c= .ref C/\Ul K C
  |_=>True
 |_=>True
noncomputable def Vp (K:aA) (t:Value):V->Option Bool
 | .ty n=>bb K t (.type n)
 | .ref C=>bb K t (.ref C)
 |_=>none
noncomputable def R1 (K:aA):List V->Hp->VK->Prop:=λxs H Q=>match xs with
 | [x,c]=>(match Wo H x with
  |some t=>NB K H x/\(match Vp K t c with
   |some b=>Q (.bl b) H
   |none=>False)
  |none=>False)
 |_=>False
theorem QS{X:Cx}:tN X (.builtin "isinstance") (R1 X.K):=by
 intro pins s σ H xs us Q I r h
 unfold R1 at h
 split at h
 case h_2=>exact h.elim
 rename_i x c
 obtain⟨u,w',rfl,rx,rc⟩:=vals2 r
 split at h
 case h_2=>exact h.elim
 rename_i t ht
 obtain⟨ok,h⟩:=h
 split at h
 case h_2=>exact h.elim
 rename_i b hk
 have q:=h
 have hc:bb X.K t w'=some b:=by
  cases c<;>first|(cases (show w'=gJ _ from rc);exact hk)|(cases (show w'=aX _ from rc);exact hk)|cases hk
 have fin:∀tk,EP X pins σ Q (.bool b) {s with toks:=tk}:=λtk=>⟨.bl b,H,I.tok tk,rfl,q⟩
 cases x with
 |kT=>cases ht;exact qP I rx .kT hc fin
 |bl y=>cases ht;exact qP I rx (.bl y) hc fin
 |int i=>cases ht;exact qP I rx (.int i) hc fin
 |str y=>cases ht;exact qP I rx (.str y) hc fin
 |byt y=>cases ht
 |Nu y=>cases ht
 |ty n=>cases ht
 |ref a=>
  unfold Wo at ht
  unfold NB at ok
  dsimp only at ht ok
  cases e:H a with
  |none=>rw[e]at ht;cases ht
  |some o=>
   rw[e]at ht ok
   cases o with
   |lst xs=>cases ht;exact qP I rx (.lst e) hc fin
   |tup xs=>cases ht;exact qP I rx (.tup e) hc fin
   |dK kvs=>cases ht;exact qP I rx (.dK e) hc fin
   |ins C dx fs=>cases ht;exact qP I rx (.ins e ok.cl ok.ha ok.hn ok.tk ok.hm) hc fin
   |rN ob u=>
    cases u with
    |lst xs=>cases ht;exact qP I rx (.rN e) hc fin
    |_=>cases ht
   |exc c=>
    cases ht
    obtain⟨C,rfl,ki⟩:=ok
    cases (show u=aX a from rx)
    exact b7 (Rp ki) I.CD (show l9 X.prog X.w H s.heap a (.exc (.ref C)) from I.ko a _ e) hc (λz=>nomatch z) fin
   |_=>cases ht
theorem Qr:(0<=sizeLine)=True:=eq_true (by decide)
theorem BR:(1<=sizeLine)=True:=eq_true (by decide)
theorem Wl:(2<=sizeLine)=True:=eq_true (by decide)
theorem Yi:(3<=sizeLine)=True:=eq_true (by decide)
theorem Le{a b:String}:(bt a=bt b)=(a=b):=by
 refine propext ⟨λh=> ?_,λh=>by rw[h]⟩
 rw[gr,gr]at h
 have h1:(a.toList.map gD).toArray=(b.toList.map gD).toArray:=congrArg Str.cps h
 have h2:a.toList.map gD=b.toList.map gD:=congrArg Array.toList h1
 have h3:a.toList=b.toList:=by
  refine(List.map_inj_right λx y e=> ?_).mp h2
  exact Char.ext (UInt32.toNat_inj.mp e)
 exact String.toList_inj.mp h3
theorem Ta:dt=bt "":=by decide+kernel
end L2
namespace L2
open PySem PySem.Spec PyProof.Rows
noncomputable def notStar:Expr->Bool
 | .Starred _ _=>false
 |_=>true
theorem qU{e:Expr}{rest:List Expr}{env:Env}(h:notStar e=true):starEach (e::rest) env=(false,eval e env)::starEach rest env:=by
 cases e<;>first|rfl|cases h
theorem tI{env:Env}{pos:Pos}:∀{es:List Expr},es.all notStar=true->(backTo pos (starEach es env)).any (·.1)=false
 | [],_=>rfl
 |e::es,h=>by
  rw[bM,aQ]at h
  rw[qU h.1]
  show(false ||(backTo pos (starEach es env)).any (·.1))=false
  rw[tI h.2];rfl
section
variable{X:Cx}{ca:Bool}{k:Nat}{f C:Addr}{fd:FuncData}{ps:List Str}{sp:Sp}{E:St->XK}{x m:Str}{p pos apos np cpos:Pos}{e o:Expr}{es:List Expr}{te ta:TE}{t:TA}{id T:String}{r:List V->Hp->VK->Prop}
theorem VS(ha:PE X e te)(hr:PA X es t)(h:notStar e=true:=by rfl):PA X (e::es) (iZ te t):=TF ha hr (qU h)
theorem RG(F:jA X.prog X.w X.K X.mg X.base (lG X.prog X.w) ca k f fd ps sp)(hr:ou ca k X.A)(hg:Gl X x)(hm:X.mg x=some (.ref f))(hk:bL X.K (.ref f)=true)(hb:Binds X.K fd ps [])(hx:Exc X E)
  (ha:PA X (e::es) t) (hdb:(x==("__debug__":Str))=false:=by decide) (h:(e::es).all notStar=true:=by rfl):PE X (.Call (.Name x p) (e::es) [] pos) (i9 sp E t):=
 RF F hr hg hm hk hb hx ha hdb (qU (by rw[bM,aQ]at h;exact h.1)) (tI (by rw[bM,aQ]at h;exact h.2))
theorem RN(M:Mk X.K C f)(F:jA X.prog X.w X.K X.mg X.base (lG X.prog X.w) ca k f fd ps sp)(hr:ou ca (k+1) X.A)(hg:Gl X x)(hm:X.mg x=some (.ref C))(hb:Binds X.K fd ps [])(hx:Exc X E)
  (ha:PA X (e::es) t) (hdb:(x==("__debug__":Str))=false:=by decide) (h:(e::es).all notStar=true:=by rfl):PE X (.Call (.Name x p) (e::es) [] pos) (rT C sp E t):=
 RM M F hr hg hm hb hx ha hdb (qU (by rw[bM,aQ]at h;exact h.1)) (tI (by rw[bM,aQ]at h;exact h.2))
theorem Qg(hx:Exc X E)(hg:Gl X x)(hm:X.mg x=some (.ref C))(hq:CK X.K C)(hc:X.calm=true)(ha:PA X (e::es) t)(h:(e::es).all notStar=true:=by rfl)(hdb:(x==("__debug__":Str))=false:=by decide):
  PS X (.Raise (some (.Call (.Name x np) (e::es) [] cpos)) none pos) (kO C E t):=
 RX hx hg hm hq hc ha (qU (by rw[bM,aQ]at h;exact h.1)) (tI (by rw[bM,aQ]at h;exact h.2)) hdb
theorem Qa(hc:tN X (.builtin id) r)(hg:Gl X x)(hm:X.mg x=none)(hv:bootBuiltins x=some (.builtin id))(ha:PA X (e::es) t)(hn:x≠"__name__":=by decide)(hdb:(x==("__debug__":Str))=false:=by decide)
  (h:(e::es).all notStar=true:=by rfl):PE X (.Call (.Name x p) (e::es) [] pos) (Bg r t):=
 RE hc hg hm hv ha hn hdb (qU (by rw[bM,aQ]at h;exact h.1)) (tI (by rw[bM,aQ]at h;exact h.2))
theorem Oq(hc:tN X (.type T) r)(hg:Gl X x)(hm:X.mg x=none)(hv:bootBuiltins x=some (.type T))(ha:PA X (e::es) t)(hn:x≠"__name__":=by decide)(hdb:(x==("__debug__":Str))=false:=by decide)
  (h:(e::es).all notStar=true:=by rfl):PE X (.Call (.Name x p) (e::es) [] pos) (Bg r t):=
 Qb hc hg hm hv ha hn hdb (qU (by rw[bM,aQ]at h;exact h.1)) (tI (by rw[bM,aQ]at h;exact h.2))
end
end L2
namespace L2
open PySem PySem.Spec PyProof.Rows
noncomputable def lA (J:It) (g:TG) (tb:TS) (D:Ends) (σ:St) (H1:Hp):Prop:=∃W:Nat->Nat->St->Hp->Prop,(∃m,W 0 m σ H1)/\∀i m σ H,W i m σ H->
 (J.stop i H/\D.nx σ H)∨(J.go i H/\∃N:St->Hp->Prop,(∀σ' H',N σ' H'->∃m',m'<m/\W (i+1) m' σ' H')/\∀x H',J.UK i H x H'->g x σ H' λσ2 H2=>tb {D with nx:=N,ct:=N,bk:=D.nx} σ2 H2)
theorem lT{wi:TI}{g:TG}{tb:TS}:Wm wi g tb=λD σ H=>wi σ H λJ H1=>lA J g tb D σ H1:=rfl
theorem lA.range{lo:Int}{n:Nat}{g:TG}{tb:TS}{D:Ends}{σ:St}{H:Hp}(Pv:Nat->St->Hp->Prop)(h0:Pv 0 σ H)
  (hs:∀i σ H,i<n->Pv i σ H->g (.int (lo+i)) σ H λσ2 H2=>tb {D with nx:=Pv (i+1),ct:=Pv (i+1),bk:=D.nx} σ2 H2) (hd:∀σ H,Pv n σ H->D.nx σ H):lA (Sw lo n) g tb D σ H:=
 PQ Pv h0 hs hd
theorem lA.list{K:aA}{a:Addr}{xs:List V}{g:TG}{tb:TS}{D:Ends}{σ:St}{H:Hp}(Pv:Nat->St->Hp->Prop)(h0:Pv 0 σ H)(hl:∀i σ H,i<=xs.length->Pv i σ H->mj K H a xs)
  (hs:∀i x σ H,xs[i]? =some x->Pv i σ H->g x σ H λσ2 H2=>tb {D with nx:=Pv (i+1),ct:=Pv (i+1),bk:=D.nx} σ2 H2) (hd:∀σ H,Pv xs.length σ H->D.nx σ H):lA (Qp K a) g tb D σ H:=
 Q7 Pv h0 hl hs hd
theorem zz{α:Type}{xs:List α}{j:Nat}:HJ xs (j:Int)=xs[j]? :=by
 cases h:xs[j]? with
 |some v=>exact OK h
 |none=>
  have hl:xs.length<=j:=List.getElem?_eq_none_iff.mp h
  unfold HJ PX
  rw[if_pos (by lia),if_neg (by lia)]
  rfl
theorem CL{α:Type}{xs:List α}:HJ xs 0=xs[0]? :=zz (j:=0)
theorem zc{α:Type}{xs:List α}:HJ xs 1=xs[1]? :=zz (j:=1)
theorem Uo{α:Type}{xs:List α}:HJ xs 2=xs[2]? :=zz (j:=2)
theorem KR{n:Nat}{i:Int}(h0:0<=i)(h1:i<n):PX n i=some i.toNat:=by
 unfold PX
 rw[if_pos h0,if_pos h1]
theorem QF{α:Type}{xs:List α}{i:Int}(h0:0<=i)(h1:i<xs.length):HJ xs i=xs[i.toNat]? :=by
 unfold HJ
 rw[KR h0 h1];rfl
noncomputable def HW (K:aA) (ta:TE) (f:Str):TE:=λσ H Q=>ta σ H λx H1=>match x with
 | .ref a=>(match H1 a with
  |some (.ins C _ fs)=>Fh K C/\mf K C f/\(match fs.lookup f with
   |some v=>Q v H1
   |none=>False)
  |_=>False)
 |_=>False
noncomputable def rW (K:aA) (ta tv:TE) (f:Str):TS:=λD σ H=>tv σ H λy H1=>ta σ H1 λx H2=>match x with
 | .ref a=>(match H2 a with
  |some (.ins C dx fs)=>Fh K C/\mf K C f/\fs.length<1000/\D.nx σ (upd H2 a (.ins C dx (ly f y fs)))
  |_=>False)
 |_=>False
noncomputable def zG (C:Addr) (m:Str) (sp:Sp) (E:St->XK) (ta:TE) (t:TA):TE:=λσ H Q=>ta σ H λx H1=>match x with
 | .ref a=>(match H1 a with
  |some (.ins C' _ fs)=>C'=C/\fs.lookup m=none/\t σ H1 λvs H2=>sp (x::vs) H2 Q (E σ)
  |_=>False)
 |_=>False
noncomputable def xD:Py:=λo i v H Q=>match o,i with
 | .ref p,.int k=>(match H p with
  |some (.lst xs)=>(match PX xs.length k with
   |some j=>Q (upd H p (.lst (xs.set j v)))
   |none=>False)
  |_=>False)
 |_,_=>False
noncomputable def QK:R2:=λx y H Q=>match x,y with
 | .ref l,.int k=>(match H l with
  |some (.lst xs)=> -(2^63)<=k/\k<2^63/\xs.length*k.toNat<=sizeLine/\∀p,H p=none->Q (.ref p) (upd H p (.lst (ah k.toNat xs).flatten))
  |_=>False)
 |_,_=>False
noncomputable def WV:V->Option Int->Option Int->Hp->VK->Prop:=λx lo hi H Q=>match x with
 | .ref a=>(match H a with
  |some (.lst xs)=>∀p,H p=none->Q (.ref p) (upd H p (.lst (HX xs lo hi)))
  |_=>False)
 |_=>False
noncomputable def S1 (K:aA):V->Option Int->Option Int->Hp->VK->Prop:=λx lo hi H Q=>match x with
 | .ref a=>∃xs,mj K H a xs/\∀p,H p=none->Q (.ref p) (upd H p (.lst (HX xs lo hi)))
 |_=>False
noncomputable def Mf (t:TE):TO:=λσ H Q=>t σ H λx H1=>match x with
 | .int i=>Q (some i) H1
 |_=>False
noncomputable def sL:V->List V->Hp->VK->Prop:=λx vs H Q=>match x,vs with
 | .ref l,[y]=>(match H l with
  |some (.lst xs)=>xs.length<sizeLine/\Q .kT (upd H l (.lst (xs++[y])))
  |_=>False)
 |_,_=>False
noncomputable def Qq (r:V->List V->Hp->VK->Prop) (to:TE) (t:TA):TE:=λσ H Q=>to σ H λx H1=>match x with
 | .ref a=>(match H1 a with
  |some (.lst _)=>t σ H1 λxs H2=>r x xs H2 Q
  |_=>False)
 |_=>False
noncomputable def kJ:V->Option Key
 | .int n=>some (.inl n)
 | .str x=>some (.inr x)
 |_=>none
noncomputable def kL (td ty:TE):TE:=λσ H Q=>td σ H λx H1=>ty σ H1 λy H2=>match x with
 | .ref a=>(match H2 a,kJ y with
  |some (.dK kvs),some k=>(match mX kvs k with
   |some v=>Q v H2
   |none=>False)
  |_,_=>False)
 |_=>False
noncomputable def sN (td ty tv:TE):TS:=λD σ H=>tv σ H λv H1=>td σ H1 λx H2=>ty σ H2 λy H3=>match x with
 | .ref a=>(match H3 a,kJ y with
  |some (.dK kvs),some k=>kvs.length<sizeLine/\D.nx σ (upd H3 a (.dK (putK kvs k v)))
  |_,_=>False)
 |_=>False
theorem yu{y:V}{k:Key}(h:kJ y=some k):y=kV k:=by
 cases y<;>cases h<;>rfl
section
variable{X:Cx}{e o i f' value:Expr}{f m:Str}{pos pos' apos cpos p2:Pos}{ta tv td ty tx te:TE}{t:TA}{lo hi:Option Expr}{tl th:TO}
theorem Um.mono{r r':V->Option Int->Option Int->Hp->VK->Prop}(h:Um X r)(k:∀x lo hi H Q,r' x lo hi H Q->r x lo hi H Q):Um X r':=λpins s σ H x v vl vu lo hi sl Q I rx hs pl pu q=>h pins s σ H x v vl vu lo hi sl Q I rx hs pl pu (k _ _ _ _ _ q)
theorem Ur(he:PE X e ta)(hb:attributeBase e f X.env (eval e X.env)=eval e X.env):PE X (.Attribute e f pos) (HW X.K ta f):=by
 intro pins s σ H Q I h
 refine SJ hb (oh (he pins s σ H _ I h) λu s1 ⟨x,H1,I1,rx,q⟩=> ?_)
 try dsimp only at q
 split at q
 case h_2=>exact q.elim
 rename_i a
 split at q
 case h_2=>exact q.elim
 rename_i C dx fs ea
 obtain⟨c,n,q⟩:=q
 try dsimp only at q
 split at q
 case h_2=>exact q.elim
 rename_i v l
 obtain rfl:u=aX a:=rx
 exact NV I1 ea c n l λu' s2 I2 ru=>⟨v,H1,I2,ru,q⟩
theorem U8(ha:PE X o ta)(hv:PE X value tv)(hs:swapsWith value (some (.Attribute o f pos')) pos.line X.env=pure false):PS X (.Assign [.Attribute o f pos'] value pos) (rW X.K ta tv f):=by
 intro pins s σ H D I h
 refine plainObj_wpAny_Assign_Attribute (oh (hv pins s σ H _ I h) λu s1 ⟨y,H1,I1,ry,q⟩=>oh (ha pins s1 σ H1 _ I1 q) λov s2 ⟨x,H2,I2,rx,q2⟩=> ?_) hs
 try dsimp only at q2
 split at q2
 case h_2=>exact q2.elim
 rename_i a
 split at q2
 case h_2=>exact q2.elim
 rename_i C dx fs ea
 obtain⟨c,n,l,q2⟩:=q2
 obtain rfl:ov=aX a:=rx
 exact OA I2 ea c n l ry λs3 I3=>⟨σ,_,I3,q2⟩
theorem Xe:SG X xD:=by
 intro pins s σ H o i v ov iv u Q I ro ri rv h
 unfold xD at h
 split at h
 case h_2=>exact h.elim
 split at h
 case h_2=>exact h.elim
 rename_i xs hp
 split at h
 case h_2=>exact h.elim
 rename_i j hj
 exact set_list pins s σ H _ _ v ov iv u Q I ro ri rv ⟨_,xs,_,j,rfl,rfl,hp,hj,h⟩
theorem Xd:ux X (binaryOp .Mult) QK:=VQ.mono λx y H Q h=>by
 unfold QK at h
 split at h
 case h_2=>exact h.elim
 split at h
 case h_2=>exact h.elim
 rename_i xs hp
 exact⟨_,_,xs,rfl,rfl,hp,h.1,h.2.1,h.2.2.1,h.2.2.2⟩
theorem Yy:Um X WV:=Po.mono λx lo hi H Q h=>by
 unfold WV at h
 split at h
 case h_2=>exact h.elim
 split at h
 case h_2=>exact h.elim
 rename_i xs hp
 exact⟨_,xs,rfl,mj.of hp,h⟩
theorem Xf:Um X (S1 X.K):=Po.mono λx lo hi H Q h=>by
 unfold S1 at h
 split at h
 case h_2=>exact h.elim
 obtain⟨xs,hp,h⟩:=h
 exact⟨_,xs,rfl,hp,h⟩
theorem U7(h:PE X e te):PO X (some e) (Mf te):=by
 intro pins s σ H Q I hw
 rw[evalPart_some]
 refine oh (h pins s σ H _ I hw) λu s1 ⟨x,H1,I1,r1,q1⟩=> ?_
 try dsimp only at q1
 split at q1
 case h_2=>exact q1.elim
 rename_i i
 obtain⟨t,rfl⟩:=r1
 exact⟨some i,H1,I1,.int i t,q1⟩
theorem QL:WH X "list.append" sL:=λpins s σ H x xs v us Q I rx rxs h=>by
 unfold sL at h
 split at h
 case h_2=>exact h.elim
 split at h
 case h_2=>exact h.elim
 rename_i ys hp
 exact P9 pins s σ H _ _ v us Q I rx rxs ⟨_,ys,_,rfl,rfl,hp,h.1,h.2⟩
theorem NY{H:Hp}{a:Addr}{kvs:List (Key×V)}(e:H a=some (.dK kvs)):Zi H a:= .inl ⟨kvs,.inl e⟩
theorem UY(hu:X.A.units+1<cLine)(ho:PE X o td)(hi:PE X i ty)(hs:Qt i):PE X (.Subscript o i pos) (kL td ty):=by
 intro pins s σ H Q I h
 refine Pq PySem.F.slot_dict_getitem.lookup hs (oh (ho pins s σ H _ I h) λu s1 ⟨x,H1,I1,rx,q1⟩=>oh (hi pins s1 σ H1 _ I1 q1) λiv s2 ⟨y,H2,I2,ry,q2⟩=> ?_)
 try dsimp only at q2
 split at q2
 case h_2=>exact q2.elim
 rename_i a _
 split at q2
 case h_2=>exact q2.elim
 rename_i kvs k ea ek
 split at q2
 case h_2=>exact q2.elim
 rename_i v ev
 have ey:=yu ek
 subst ey
 obtain rfl:u=aX a:=rx
 have g:CJ H2 a (kV k) (some v):=ev▸CJ.k ea
 exact⟨Ez I2 g,Jr hu I2 g ry λw' s3 I3 rw'=>⟨v,H2,I3,rw',q2⟩⟩
theorem U0(hu:X.A.units+1<cLine)(ho:PE X o td)(hi:PE X i ty)(hv:PE X value tv)(hs:swapsWith value (some (.Subscript o i pos')) pos.line X.env=pure false):
  PS X (.Assign [.Subscript o i pos'] value pos) (sN td ty tv):=by
 intro pins s σ H D I h
 refine wpAny_Assign_Subscript (oh (hv pins s σ H _ I h) λr s1 ⟨v,H1,I1,rv,q1⟩=>oh (ho pins s1 σ H1 _ I1 q1) λu s2 ⟨x,H2,I2,rx,q2⟩=>oh (hi pins s2 σ H2 _ I2 q2) λiv s3 ⟨y,H3,I3,ry,q3⟩=> ?_) hs
 try dsimp only at q3
 split at q3
 case h_2=>exact q3.elim
 rename_i a _
 split at q3
 case h_2=>exact q3.elim
 rename_i kvs k ea ek
 have ey:=yu ek
 subst ey
 obtain rfl:u=aX a:=rx
 exact PN hu I3 (SF.k ea q3.1) ry rv λs4 I4=>⟨σ,_,I4,q3.2⟩
end
section
variable{X:Cx}{e o:Expr}{es:List Expr}{to:TE}{t:TA}{apos cpos:Pos}{r:V->List V->Hp->VK->Prop}
theorem Ys{id:String}{name:Str}(slot:Slot "list" name id)(hty:typeOf (.builtin id)=pure (.type "method_descriptor"))(hm:Zk X id r)(ho:PE X o to)(ha:PA X (e::es) t)(hns:(e::es).all notStar=true:=by rfl)
  (hbase:attributeBase o name X.env (eval o X.env)=eval o X.env:=by rfl)
  (hfew:((backTo cpos (starEach (e::es) X.env)).all (λx=> !x.1)&&(backToKw cpos (keywordEach [] X.env)).all (λx=>x.1.isSome)
   &&decide ((e::es).length+([]:List Keyword).length+(if ([]:List Keyword).isEmpty then 0 else 1)<30))=true:=by rfl)
  (hline:(apos.endLine==cpos.line)=true:=by rfl):PE X (.Call (.Attribute o name apos) (e::es) [] cpos) (Qq r to t):=by
 intro pins s σ H Q I h
 have hs:starEach (e::es) X.env=(false,eval e X.env)::starEach es X.env:=qU (by rw[bM,aQ]at hns;exact hns.1)
 have hplain:(backTo cpos (starEach es X.env)).any (·.1)=false:=tI (by rw[bM,aQ]at hns;exact hns.2)
 refine wpAny_Call_method_late hbase hfew hline rfl (oh (ho pins s σ H _ I h) λv s1 ⟨x,H1,I1,r1,q1⟩=> ?_)
 try dsimp only at q1
 split at q1
 case h_2=>exact q1.elim
 rename_i a
 split at q1
 case h_2=>exact q1.elim
 rename_i ys ea
 have ty:Zg X.K "list" (.ref a) H1:= .inl ⟨rfl,ys,mj.of ea⟩
 obtain⟨h1,h2⟩:=Sh I1 r1 ty
 refine⟨"list",id,fZ,slot,hty,h1,h2,?_⟩
 have hA:=ha cpos pins s1 σ H1 _ I1 q1
 rw[hs]at hA⊢
 refine df (by show(false ||(backTo cpos (starEach es X.env)).any (·.1))=false;rw[hplain]<;>rfl) (dC ?_)
 exact oh hA λus s2 ⟨vs,H2,I2,r2,q2⟩=>hm pins s2 σ H2 _ vs v us Q I2 r1 r2 q2
end
section
variable{X:Cx}{ca:Bool}{k:Nat}{f C:Addr}{fd:FuncData}{ps:List Str}{sp:Sp}{E:St->XK}{m:Str}{pos apos:Pos}{e o:Expr}{es:List Expr}{ta:TE}{t:TA}
theorem U6{pl:Sem Bool}(he:PE X o ta)(c:Fh X.K C)(hm:Meth X.K C m f)(F:jA X.prog X.w X.K X.mg X.base (lG X.prog X.w) ca k f fd ps sp)(hr:ou ca k X.A)(hb:Binds X.K fd ps [])(hx:Exc X E)(ha:PA X (e::es) t)
  (hns:(e::es).all notStar=true:=by rfl)
  (ht:eval (.Call (.Attribute o m apos) (e::es) [] pos) X.env=(do
   let ov←eval o X.env
   standAt apos.atName
   let (f,first)←holding [ov] (getMethod ov m pl)
   callWith pos f first (backTo pos (starEach (e::es) X.env)) (backToKw pos (keywordEach [] X.env))):=by rfl):
  PE X (.Call (.Attribute o m apos) (e::es) [] pos) (zG C m sp E ta t):=by
 intro pins s σ H Q I h
 have hst:starEach (e::es) X.env=(false,eval e X.env)::starEach es X.env:=qU (by rw[bM,aQ]at hns;exact hns.1)
 have hpl:(backTo pos (starEach es X.env)).any (·.1)=false:=tI (by rw[bM,aQ]at hns;exact hns.2)
 refine fj (pl:=pl) (oh (he pins s σ H _ I h) λu s1 ⟨x,H1,I1,rx,q⟩=> ?_) ht
 try dsimp only at q
 split at q
 case h_2=>exact q.elim
 rename_i a
 split at q
 case h_2=>exact q.elim
 rename_i C' dx fs ea
 obtain⟨rfl,l,q⟩:=q
 obtain rfl:u=aX a:=rx
 refine B_ I1 ea c hm l ?_
 refine eM (first:=[.ref a]) (h₀:=X.base) I.ok.mod.CF hm.kp (oh (ha pos pins s1 σ H1 _ I1 q) λus s2 ⟨vs,H2,I2,r,q2⟩=>⟨I2.CD,?_⟩) hst hpl
 exact Lq (us:= .ref a::us) (vs:= .ref a::vs) F hr hb hx I2 (.cons rfl r) q2
theorem S6{pl:Sem Bool}(he:PE X o ta)(c:Fh X.K C)(hm:Meth X.K C m f)(F:jA X.prog X.w X.K X.mg X.base (lG X.prog X.w) ca k f fd ps sp)(hr:ou ca k X.A)(hb:Binds X.K fd ps [])(hx:Exc X E)
  (ht:eval (.Call (.Attribute o m apos) [] [] pos) X.env=(do
   let ov←eval o X.env
   standAt apos.atName
   let (f,first)←holding [ov] (getMethod ov m pl)
   callWith pos f first (backTo pos (starEach [] X.env)) (backToKw pos (keywordEach [] X.env))):=by rfl):
  PE X (.Call (.Attribute o m apos) [] [] pos) (zG C m sp E ta jd):=by
 intro pins s σ H Q I h
 refine fj (pl:=pl) (oh (he pins s σ H _ I h) λu s1 ⟨x,H1,I1,rx,q⟩=> ?_) ht
 try dsimp only at q
 split at q
 case h_2=>exact q.elim
 rename_i a
 split at q
 case h_2=>exact q.elim
 rename_i C' dx fs ea
 obtain⟨rfl,l,q⟩:=q
 obtain rfl:u=aX a:=rx
 refine B_ I1 ea c hm l ?_
 exact gP (first:=[.ref a]) I1.CD hm.kp (Lq (us:=[.ref a]) (vs:=[.ref a]) F hr hb hx I1 (.cons rfl .nil) q)
end
theorem ja.upd{H:Hp}{p:Addr}{o:HO}(h:H p=none):ja H (L2.upd H p o):=λb u e=>by rw[iW (iT e h)];exact e
theorem lZ{H:Hp}{p b:Addr}{o:HO}(h:L2.upd H p o b=none):b≠p/\H b=none:=by
 by_cases z:b=p
 ·subst z;rw[iS]at h;cases h
 ·exact⟨z,by rw[iW z]at h;exact h⟩
theorem Q5(n:Nat)(x:V):(ah n [x]).flatten=ah n x:=by
 induction n with
 |zero=>rfl
 |succ n ih=>rw[cf,dA,ih,cf];rfl
theorem QU{ws:List Int}{i k:Int}(h0:0<=i)(h1:0<=k)(h2:i+k<=ws.length):HX (ws.map V.int) (some i) (some (i+k))=((ws.drop i.toNat).take k.toNat).map V.int:=by
 obtain⟨a,rfl⟩:∃a:Nat,i=a:=⟨i.toNat,by lia⟩
 obtain⟨b,rfl⟩:∃b:Nat,k=b:=⟨k.toNat,by lia⟩
 have e:((a:Int)+(b:Int))=((a+b:Nat):Int):=by lia
 unfold HX
 rw[e,HT.FA,HT.FA,aj,iB (by lia),iB (by lia),bU,bU,List.map_take,List.map_drop,show a+b-a=b by lia]
theorem UR{ks:List Int}{t:Nat}(h:t<ks.length):HJ (ks.map V.int) (t:Int)=some (.int (ks.getD t 0)):=by
 rw[zz,aS,au h,az,au h];rfl
theorem ja.put{H H':Hp}{q:Addr}{o:HO}(s:ja H H')(h:H q=none):ja H (L2.upd H' q o):=λb u e=>by rw[iW (iT e h)];exact s b u e
end L2
namespace L2
open PySem PySem.Spec PyProof.Rows
section
variable{prog:Program}{w:World}{A:Around}{R:Result->Shared->Prop}{s:Shared}
theorem zI{elt target iter:Expr}{ifs:List Expr}{scope:Scope}{pos:Pos}{it acc:Value}{env:Env}(I:Nat->Shared->Prop)
  (turn:∀n s,I n s->wpAny (model prog w) A (pyNext it) (λr s₁=>match r with
   |none=>R (.ok .next) s₁
   |some v=>wpAny (model prog w) A (letOwnedTupleGo target it v) (λ_ s₁'=>wpAny (model prog w) A (assign target env v) (λ_ s₂=>
     wpAny (model prog w) A (forIn ifs true λc r=>if r=true then do let ok←isTrue c env (eval c env);pure (dN ok) else pure (dN r)) (λok s₃=>
      if ok=true then wpAny (model prog w) A (eval elt env) (λx s₄=>
       wpAny (model prog w) A (call (.builtin "list.append") [acc,x]) (λ_ s₅=>∃m,m<n/\I m s₅) (λ_ _=>False) s₄) (λ_ _=>False) s₃
      else∃m,m<n/\I m s₃) (λ_ _=>False) s₂) (λ_ _=>False) s₁') (λ_ _=>False) s₁) (λ_ _=>False) s)
  (n:Nat) (h:I n s):
  codeAny (model prog w) A (.compLoop (.ListComp elt [⟨target,iter,ifs,0⟩] scope pos) 0 it acc env) R s:=by
 refine codeAny_loop rfl I (λn s hI=> ?_) n h
 show wpAny _ A ((compTurn (.ListComp elt [⟨target,iter,ifs,0⟩] scope pos) 0 it acc env).onRaise (λx=>do noteFrame x env;theTreesLotGoes x)) _ _ s
 refine wpAny_noted ?_
 rw[compTurn_list]
 refine wpAny_bind (wpAny_standAt (wpAny_bind (wpAny_mono (turn n s hI) (λr s₁ h₁=> ?_) λ_ _ h'=>h'.elim)))
 cases r with
 |none=>exact wpAny_pure h₁
 |some v=>
  refine wpAny_bind (wpAny_mono h₁ (λ_ s₁' h₁'=> ?_) λ_ _ h'=>h'.elim)
  refine wpAny_bind (wpAny_mono h₁' (λ_ s₂ h₂=>wpAny_bind (wpAny_mono h₂ (λok s₃ h₃=> ?_) λ_ _ h'=>h'.elim)) λ_ _ h'=>h'.elim)
  cases ok with
  |false=>exact wpAny_pure ⟨rfl,h₃⟩
  |true=>
   exact wpAny_bind (wpAny_bind (wpAny_mono h₃ (λx s₄ h₄=>wpAny_bind (wpAny_mono h₄ (λ_ s₅ h₅=>wpAny_pure (wpAny_pure ⟨rfl,h₅⟩)) λ_ _ h'=>h'.elim)) λ_ _ h'=>h'.elim))
end
noncomputable def FW (env:Env) (cs:List (Str×Addr)):List (Str×NameKind)->List (Str×Addr)
 | []=>cs
 |(n,k)::r=>FW env (if k== .free then(n,(env.cells.lookup n).getD 0)::cs else cs) r
noncomputable abbrev Ki (scope:Scope) (env:Env):List (Str×Addr):=FW env [] scope.names
theorem FX{scope:Scope}{env:Env}(h:∀y∈scope.names,y.2= .free->∃c,env.cells.lookup y.1=some c):closureFor scope env=pure (Ki scope env):=by
 have go:∀(l:List (Str×NameKind)) (cs:List (Str×Addr)),(∀y∈l,y.2= .free->∃c,env.cells.lookup y.1=some c)->
   (forIn l cs λ(x:Str×NameKind) (r:List (Str×Addr))=>match x with
    |(name,kind)=>if (kind== .free)=true then do let c←cellOf env name;pure (dN ((name,c)::r)) else pure (dN r):Sem (List (Str×Addr)))=pure (FW env cs l):=by
  intro l
  induction l with
  |nil=>intro cs _;rfl
  |cons y l ih=>
   intro cs hy
   obtain⟨n,k⟩:=y
   rw[List.forIn_cons]
   cases hk:(k==cK) with
   |true=>
    obtain⟨c,hc⟩:=hy (n,k) a_ (by simpa using hk)
    have e:cellOf env n=pure c:=by unfold cellOf;rw[show env.cells.lookup n=some c from hc]
    simp only[if_true,e,pure_bind,FW,hk,show env.cells.lookup n=some c from hc,dH]
    exact ih _ λz hz=>hy z (ba _ hz)
   |false=>
    simp only[if_false,aM,pure_bind,FW,hk]
    exact ih _ λz hz=>hy z (ba _ hz)
 unfold closureFor
 have:=go scope.names [] h
 simp only[bind_pure_comp,pure_bind]at this⊢
 first|exact this|(rw[this];rfl)|(simpa using this)
theorem B1{env:Env}{y:Str}{c:Addr}:∀{l:List (Str×NameKind)} {cs:List (Str×Addr)},(FW env cs l).lookup y=some c->cs.lookup y=some c∨((y,cK)∈l/\c=(env.cells.lookup y).getD 0)
 | [],cs,h=> .inl h
 |(n,k)::r,cs,h=>by
  rcases B1 (l:=r) h with h1|⟨h1,e⟩
  ·cases hk:(k==cK) with
   |true=>
    rw[hk,if_pos rfl,cV]at h1
    cases hy:y==n with
    |true=>
     rw[hy]at h1
     have e1:y=n:=by simpa using hy
     have e2:k= .free:=by simpa using hk
     subst e1 e2
     exact .inr ⟨a_,(bg h1).symm⟩
    |false=>rw[hy]at h1;exact .inl h1
   |false=>rw[hk]at h1;exact .inl (by simpa using h1)
  ·exact .inr ⟨ba _ h1,e⟩
theorem DQ{env:Env}{y:Str}:∀{l:List (Str×NameKind)} {cs:List (Str×Addr)},((y,cK)∈l∨∃c,cs.lookup y=some c)->∃c,(FW env cs l).lookup y=some c
 | [],cs,h=>h.elim (λz=>by cases z) id
 |(n,k)::r,cs,h=>by
  refine DQ (l:=r) ?_
  rcases h with h|⟨c,h⟩
  ·rcases List.mem_cons.mp h with e|h
   ·cases e
    exact .inr ⟨(env.cells.lookup y).getD 0,by rw[if_pos (by decide),cV];simp⟩
   ·exact .inl h
  ·refine .inr ?_
   cases hk:(k==cK) with
   |false=>exact⟨c,by simpa using h⟩
   |true=>
    rw[if_pos rfl,cV]
    cases hy:y==n with
    |true=>exact⟨_,rfl⟩
    |false=>exact⟨c,h⟩
theorem lookup_mem{y:Str}{k:NameKind}:∀{l:List (Str×NameKind)},l.lookup y=some k->(y,k)∈l
 | [],h=>by cases h
 |(n,k')::r,h=>by
  rw[cV]at h
  cases hy:y==n with
  |true=>
   rw[hy]at h
   have e1:y=n:=by simpa using hy
   subst e1
   cases h
   exact a_
  |false=>rw[hy]at h;exact ba _ (lookup_mem h)
structure uZ(fsc scope:Scope)(x:List Str)(N2:List Str):Prop where
 kind:scope.kind= .function
 Xk:fsc.kind= .function
 own:∀z∈x,scope.names.lookup z=some .local
 GS:∀y∈scope.names,y.2≠ .cell
 locs:∀y∈scope.names,y.2= .local->scope.names.lookup y.1=some .local
 X5:∀y∈scope.names,y.2= .free->¬y.1∈x
 cells:∀y∈scope.names,y.2= .free->fsc.names.lookup y.1=some .cell
 nd:(x++N2).Nodup
 ya:∀y∈N2,scope.names.lookup y=some .free
theorem Dw{env:Env}(hk:env.scope.kind= .function):∀{names:List (Str×NameKind)} {y:Str},names.lookup y=some .free->env.kindOf y=some .cell->
  (names.map λ(n,k)=>if (k==cK&&env.scope.kind== .function&&env.kindOf n==some .cell) then(n,iI) else(n,k)).lookup y=some .cell
 | [],_,h,_=>by simp at h
 |(n,k)::r,y,h,hc=>by
  have ih:= @Dw env hk r y
  show bu y ((if (k==cK&&env.scope.kind== .function&&env.kindOf n==some .cell)=true then(n,iI) else(n,k))::_)=_
  cases hy:y==n with
  |true=>
   have e1:y=n:=by simpa using hy
   subst e1
   simp only[cV,hy]at h
   cases h
   simp[hk,hc]
  |false=>
   simp only[cV,hy]at h
   by_cases hq:(k==cK&&env.scope.kind== .function&&env.kindOf n==some .cell)=true
   ·rw[if_pos hq];simp only[cV,hy];exact ih h hc
   ·rw[if_neg hq];simp only[cV,hy];exact ih h hc
theorem MX{scope:Scope}{env:Env}{y:Str}(hn:∀z∈scope.names,z.2≠ .cell)(h:(relabel scope env).names.lookup y=some .cell∨(relabel scope env).names.lookup y=some .free):(y,cK)∈scope.names:=by
 have go:∀{k:NameKind},(y,k)∈(relabel scope env).names->k= .cell∨k= .free->(y,cK)∈scope.names:=λ{k} hm hk=>by
  obtain⟨⟨n,k0⟩,hz,e⟩:=List.mem_map.mp hm
  dsimp only at e
  split at e
  ·rename_i hq
   have e1:n=y:=congrArg Prod.fst e
   rw[aQ,aQ]at hq
   have e2:k0= .free:=by simpa using hq.1.1
   rw[←e1,←e2];exact hz
  ·have e1:n=y:=congrArg Prod.fst e
   have e2:k0=k:=congrArg Prod.snd e
   rcases hk with rfl|rfl
   ·exact absurd e2 (hn _ hz)
   ·rw[←e1,←e2];exact hz
 rcases h with h|h
 ·exact go (lookup_mem h) (.inl rfl)
 ·exact go (lookup_mem h) (.inr rfl)
noncomputable def uR (σ:St) (js:List Nat):St:=js.map λj=>(σ[j]?).join
noncomputable abbrev Cx.Fm (X:Cx) (scope:Scope) (N:List Str) (x:List Str) (s:Shared) (H:Hp) (C:Addr) (ex:List Addr):Cx:=
 {X with N:=N,s₀:=s,H₀:=H,env:=compEnvC scope (Ki scope X.env) C X.env,outer:=X.stack,ex:=ex,fn:=λy=>x.contains y,pn:=[],xe:=λ_ _=>False}
noncomputable def uN (J:It) (ya:St) (tt:TT) (te:TE) (H1:Hp) (Q:VK):Prop:=
 ∃W:Nat->Nat->List V->Hp->Prop,(∃m,W 0 m [] H1)/\∀i m ys H,W i m ys H->ys.length<=sizeLine/\
  ((J.stop i H/\∀p,H p=none->Q (.ref p) (upd H p (.lst ys)))∨
   (J.go i H/\∀x H',J.UK i H x H'->tt (some x::ya) H' λb H2=>if b=true then te (some x::ya) H2 λy H3=>∃m',m'<m/\W (i+1) m' (ys++[y]) H3 else∃m',m'<m/\W (i+1) m' ys H2))
noncomputable def tJ (js:List Nat) (wi:TI) (tt:TT) (te:TE):TE:=λσ H Q=>wi σ H λJ H1=>uN J (uR σ js) tt te H1 Q
noncomputable def L3 (X:Cx) (ifs:List Expr) (tt:TT):Prop:=
 ∀(pins:List (Addr×Obj)) (s:Shared) (σ:St) (H:Hp) (Q:Bool->Hp->Prop),Inv X pins σ H s->tt σ H Q->
  wpAny (model X.prog X.w) X.A (forIn ifs true λc r=>if r=true then do let ok←isTrue c X.env (eval c X.env);pure (dN ok) else pure (dN r)) (TP X pins σ Q) X.xe s
noncomputable def OE:TT:=λ_ H Q=>Q true H
theorem RU{X:Cx}:L3 X [] OE:=λpins s σ H Q I h=>wpAny_tests_nil ⟨H,I,h⟩
theorem RV{X:Cx}{c:Expr}{tt:TT}(h:PT X c tt):L3 X [c] tt:=λpins s σ H Q I q=>wpAny_tests_one (h pins s σ H Q I q)
section
variable{X:Cx}{pins:List (Addr×Obj)}{σ:St}{H:Hp}{s:Shared}{scope fsc:Scope}{x:List Str}{N2:List Str}{js:List Nat}{fp:List Addr}{C:Addr}
theorem B2(S:uZ fsc scope x N2)(hf:X.env.scope=fsc)(ok:X.Ok){y:Str}{c:Addr}(e:(Ki scope X.env).lookup y=some c):X.env.cells.lookup y=some c:=by
 rcases B1 e with z|⟨z,e2⟩
 ·cases z
 ·obtain⟨c',hc⟩:=ok.has y (.inl (show X.env.scope.names.lookup y=some .cell by rw[hf];exact S.cells _ z rfl))
  rw[hc]at e2
  rw[hc,e2];rfl
theorem UU(S:uZ fsc scope x N2)(hf:X.env.scope=fsc)(I:Inv X pins σ H s)(hC:s.heap.objs.size<=C)(f:∀b∈fp,DL X pins H b)(ho:∀b∈fp,∃o,s.heap.get? b=some o):(X.Fm scope (x++N2) x s H C fp).Ok where
 mod:=I.ok.mod
 kind:=S.kind
 glob:=I.ok.glob
 blt:=I.ok.blt
 above:=hC
 inj:=λy z c e1 e2=>I.ok.inj y z c (B2 S hf I.ok e1) (B2 S hf I.ok e2)
 has:=λy h=>DQ (.inl (MX S.GS h))
 U9:=λy c h e=>by
  have ey:y∈x:=by simpa using h
  rcases B1 e with z|⟨z,_⟩
  ·cases z
  ·exact absurd ey (S.X5 _ z rfl)
 hd:=I.ok.hd
 frames:=I.ok.frames
 X0:= .inl rfl
 YB:=λb hb=>by
  obtain⟨o,e⟩:=ho b hb
  exact⟨bA (aK (aU e) hC),λy c ec=>(f b hb).2.2.2.2.1 y c (B2 S hf I.ok ec)⟩
 bs:=I.bs
 PF:=aH I.ok.PF I.sz
 GU:=λb o e hb=>by
  rcases (f b hb).2.2.2.1 with z|z
  ·exact I.ok.GU b o e z
  ·exact absurd (aK (aU e) (aH I.ok.PF z)) (ck _)
 Q4:=λb hb hm=>by
  rcases List.mem_cons.mp (I.Ht b hm) with z|z
  ·exact(f b hb).2.1 z
  ·exact(f b hb).2.2.1 z
 Bl:=I.stack
 SD:=I.Bf
theorem SW(S:uZ fsc scope x N2)(hf:X.env.scope=fsc)(hjs:js.map (λj=>X.N[j]?)=N2.map some)(I:Inv X pins σ H s)(hC:s.heap.objs.size<=C)(f:∀b∈fp,DL X pins H b)(ho:∀b∈fp,∃o,s.heap.get? b=some o)
  {h':Heap} {t':Nat} {m:Str->Option Value} (hm:h'.Ns C m) (k:∀b o,s.heap.get? b=some o->h'.get? b=some o):Inv (X.Fm scope (x++N2) x s H C fp) [] (ah x.length none++uR σ js) H {s with heap:=h',toks:=t'} where
 ok:=UU S hf I hC f ho
 os:=rfl
 bare:=I.bare
 base:=Un.kept k
 loc:=⟨m,hm,λi y v e1 e2 e3=>by
  by_cases hi:i<x.length
  ·have e2:(ah x.length none++uR σ js)[i]? =some (some v):=e2
   rw[d9 (by rw[bw];exact hi),eO,if_pos hi]at e2
   cases e2
  ·have e1:(x++N2)[i]? =some y:=e1
   have e2:(ah x.length none++uR σ js)[i]? =some (some v):=e2
   rw[cT (by lia)]at e1
   rw[cT (by rw[bw];lia),bw]at e2
   generalize i-x.length=i at e1 e2
   unfold uR at e2
   rw[aS]at e2
   obtain⟨j,hj,e2⟩:=Option.map_eq_some_iff.mp e2
   have e4:X.N[j]? =some y:=by
    have q:=congrArg (λl=>l[i]?) hjs
    simp only[aS,hj,e1,bG]at q
    exact bg q
   have hy:y∈N2:=cz e1
   have hfree:=S.ya y hy
   have hcell:X.env.scope.names.lookup y=some .cell:=by rw[hf];exact S.cells _ (lookup_mem hfree) rfl
   have e5:σ[j]? =some (some v):=by
    cases q:σ[j]? with
    |none=>rw[q]at e2;cases e2
    |some o=>rw[q]at e2;have:o=some v:=e2;rw[this]
   obtain⟨m0,_,hl⟩:=I.loc
   obtain⟨u,r,l⟩:=hl j y v e4 e5 (.inr (.inl hcell))
   refine⟨u,r,.inr ⟨.inl (Dw (by rw[hf];exact S.Xk) hfree hcell),?_⟩⟩
   rcases l with ⟨z,_⟩|⟨_,c,ec,o,eo,ed⟩
   ·have z':X.env.scope.names.lookup y=some .local:=z
    rw[hcell]at z';cases z'
   ·obtain⟨c',hc'⟩:=DQ (env:=X.env) (cs:=[]) (.inl (lookup_mem hfree))
    have e6:=B2 S hf I.ok hc'
    rw[ec]at e6;cases e6
    exact⟨c,hc',o,k _ _ eo,ed⟩⟩
 cell:=λy c e=>by
  obtain⟨v,o,eo,ed⟩:=I.cell y c (B2 S hf I.ok e)
  exact⟨v,o,k _ _ eo,ed⟩
 free:=I.ko.fresh hC
 tP:=λy c e=>I.tP y c (B2 S hf I.ok e)
 pin:=λp hp=>by simp at hp
 ko:=I.ko.kept k
 len:=by
  have q:=congrArg d6 hjs
  simp only[aj]at q
  simp[uR,q]
noncomputable def Nz (J:It) (k:Nat) (g:TG) (ya:St) (tt:TT) (te:TE) (H1:Hp) (Q:VK):Prop:=
 ∃W:Nat->Nat->List V->Hp->Prop,(∃m,W 0 m [] H1)/\∀i m ys H,W i m ys H->ys.length<=sizeLine/\
  ((J.stop i H/\∀p,H p=none->Q (.ref p) (upd H p (.lst ys)))∨
   (J.go i H/\∀x H',J.UK i H x H'->∀os:St,os.length=k->g x (os++ya) H' λσ2 H2=>(∃os':St,os'.length=k/\σ2=os'++ya)/\
    tt σ2 H2 λb H3=>if b=true then te σ2 H3 λy H4=>∃m',m'<m/\W (i+1) m' (ys++[y]) H4 else∃m',m'<m/\W (i+1) m' ys H3))
theorem OQ{J:It}{ya:St}{tt:TT}{te:TE}{H1:Hp}{Q:VK}(h:uN J ya tt te H1 Q):Nz J 1 (jq 0) ya tt te H1 Q:=by
 obtain⟨W,w0,turn⟩:=h
 refine⟨W,w0,λi m ys H hw=> ?_⟩
 obtain⟨hz,alt⟩:=turn i m ys H hw
 refine⟨hz,alt.imp id λ⟨go,step⟩=>⟨go,λx H' hy os ho=> ?_⟩⟩
 match os,ho with
 | [o],_=>exact⟨⟨[some x],rfl,rfl⟩,step x H' hy⟩
noncomputable def Ny (K:aA) (J:It) (ya:St) (tt:TT) (te:TE) (H1:Hp) (Q:VK):Prop:=
 ∃W:Nat->Nat->List V->Hp->Prop,(∃m,W 0 m [] H1)/\∀i m ys H,W i m ys H->ys.length<=sizeLine/\
  ((J.stop i H/\∀p,H p=none->Q (.ref p) (upd H p (.lst ys)))∨
   (J.go i H/\∀x H',J.UK i H x H'->∃a u v,x= .ref a/\JV K H' a [u,v]/\
    tt (some u::some v::ya) H' λb H3=>if b=true then te (some u::some v::ya) H3 λy H4=>∃m',m'<m/\W (i+1) m' (ys++[y]) H4 else∃m',m'<m/\W (i+1) m' ys H3))
noncomputable abbrev g2 (K:aA):TG:=Te K 2 (Gh (jq 0) (Gh (jq 1) Td))
theorem QT{K:aA}{J:It}{ya:St}{tt:TT}{te:TE}{H1:Hp}{Q:VK}(h:Ny K J ya tt te H1 Q):Nz J 2 (g2 K) ya tt te H1 Q:=by
 obtain⟨W,w0,turn⟩:=h
 refine⟨W,w0,λi m ys H hw=> ?_⟩
 obtain⟨hz,alt⟩:=turn i m ys H hw
 refine⟨hz,alt.imp id λ⟨go,step⟩=>⟨go,λx H' hy os ho=> ?_⟩⟩
 obtain⟨a,u,v,ex,sq,st⟩:=step x H' hy
 match os,ho with
 | [o,o'],_=>exact⟨a,[u,v],ex,sq,rfl,u,[v],rfl,v,[],rfl,rfl,⟨[some u,some v],rfl,rfl⟩,st⟩
noncomputable def OD (K:aA) (js:List Nat) (wi:TI) (tt:TT) (te:TE):TE:=λσ H Q=>wi σ H λJ H1=>Ny K J (uR σ js) tt te H1 Q
theorem Dx{C:Addr}{h h':Heap}(hs:eG C h h'){b:Addr}{o:Obj}(hb:b≠C)(e:h.get? b=some o):h'.get? b=some o:=(hs.2 b hb).trans e
theorem Ke{Y:Cx}{pl:List (Addr×Obj)}{σ':St}{H3:Hp}{s4:Shared}{h':Heap}{D:Addr}{ys:List V}{its:List Value}{n:Nat}(I:Inv X pins σ H s)(f:∀b∈fp,DL X pins H b)
  (hY:Y=X.Fm scope (x++N2) x s H C fp) (hC:s.heap.objs.size<=C) (hD:s.heap.objs.size<=D) (hDC:D≠C) (I4:Inv Y pl σ' H3 s4) (hs:eG C s4.heap h') (hD3:H3 D=none)
  (eD:s4.heap.get? D=some {cls:= .type "list",data:= .seq its.toArray n}) (rv:Vals ys its) (hz:ys.length<=sizeLine):Inv X pins σ (upd H3 D (.lst ys)) {s4 with heap:=h'}:=by
 subst hY
 have ne:∀b o,s.heap.get? b=some o->b≠C:=λb o e=>bA (aK (aU e) hC)
 have neD:∀b o,s.heap.get? b=some o->b≠D:=λb o e=>bA (aK (aU e) hD)
 have fC:H3 C=none:=I4.free
 have un:Un (EC X.stack) fp H H3 s.heap h':=⟨λb o e n hb hx=>Dx hs (ne b o e) (I4.base.keep b o e n hb hx),λb o e n hb hx=>by
   obtain⟨sl,e1⟩:=I4.base.slot b o e n hb hx
   exact⟨sl,Dx hs (ne b o e) e1⟩,I4.base.free,λb o e hx=>by
   obtain⟨o',e1⟩:=I4.base.there b o e hx
   exact⟨o',Dx hs (ne b o e) e1⟩,I4.base.AX,I4.base.xG,I4.base.zv⟩
 have ko:wa X.prog X.w H3 h':=λb ob e=>(I4.ko b ob e).zt (λc w' hc q=>by
  refine(hs.2 c ?_).trans q
  rintro rfl
  rcases hc with rfl|hc
  ·rw[fC]at e;cases e
  ·rw[fC]at hc;cases hc) (λ_ q=>q) λ_ _ q=>q
 have I6:Inv X pins σ H3 {s4 with heap:=h'}:=I.Us (ch:=fp) I4.os un ko I4.bare λb hb=>⟨(f b hb).2.2.2.1,(f b hb).2.1,(f b hb).2.2.2.2.1,(f b hb).2.2.2.2.2⟩
 have h0:X.s₀.heap.get? D=none:=by
  cases z:X.s₀.heap.get? D with
  |none=>rfl
  |some o=>exact absurd (aK (aU z) (aH I.sz hD)) (ck _)
 exact I6.adopt (a:=D) (o:= .lst ys) hD3 ⟨hz,its,n,rv,Dx hs hDC eD⟩ h0 (aC (bA (aK I.lt hD))) (λy c ec z=>by
  obtain⟨v,o,eo,_⟩:=I.cell y c ec
  exact neD c o eo z) λp hp z=>neD p.1 p.2 (I.pin p hp).1 z
theorem DR{elt iter tg:Expr}{pos p0:Pos}{g:TG}{CW:It->Hp->Prop}{ifs:List Expr}{wi:TI}{tt:TT}{te:TE}{use:Option (Value->Sem Unit)}{R:Value->Shared->Prop}{Q:VK}(S:uZ fsc scope x N2)(hf:X.env.scope=fsc)(hjs:js.map (λj=>X.N[j]?)=N2.map some)(hc:X.calm=true)(hi:PI X tg iter wi)(hg:∀s H C ex,PG (X.Fm scope (x++N2) x s H C ex) tg g)
  (ht:∀s H C ex,L3 (X.Fm scope (x++N2) x s H C ex) ifs tt) (he:∀s H C ex,PE (X.Fm scope (x++N2) x s H C ex) elt te) (hs:∀v,foldedSetIterable iter X.env v=pure v) (I:Inv X pins σ H s) (hCW:∀J H1,CW J H1->Nz J x.length g (uR σ js) tt te H1 Q) (h:wi σ H CW)
  (fin:∀(fp:List Addr) (s2 s4:Shared) (H2 H3:Hp) (C D:Addr) (Y:Cx) (pl:List (Addr×Obj)) (σ':St) (ys:List V) (its:List Value) (n:Nat),Inv X pins σ H2 s2->(∀b∈fp,DL X pins H2 b)->Y=X.Fm scope (x++N2) x s2 H2 C fp->s2.heap.objs.size<=C->s2.heap.objs.size<=D->D≠C->
   Inv Y pl σ' H3 s4->H3 D=none->s4.heap.get? D=some {cls:= .type "list",data:= .seq its.toArray n}->Vals ys its->ys.length<=sizeLine->Q (.ref D) (upd H3 D (.lst ys))->compPost (model X.prog X.w) X.A X.xe use R (.ref D) C (.ok .next) s4):
  wpAny (model X.prog X.w) X.A (comprehension (.ListComp elt [⟨tg,iter,ifs,0⟩] scope pos) scope X.env p0 (newList []) false (eval iter X.env) use) R X.xe s:=by
 refine wpAny_comprehension_free (use:=use) (cl:=Ki scope X.env) rfl hs (FX λy hy e=>I.ok.has y.1 (.inl (show X.env.scope.names.lookup y.1=some .cell by rw[hf];exact S.cells y hy e))) S.kind S.locs ?_
 refine wpAny_mono (hi pins s σ H _ I h) (λv s1 h1=>wpAny_mono h1 (λitv s2 h2=> ?_) λ_ _ z=>z) λ_ _ z=>z
 obtain⟨it,fp,tn,J,H2,e,I2,T,st2,f2,hcw⟩:=h2
 obtain⟨W,⟨m0,w0⟩,turn⟩:=hCW _ _ hcw
 subst e
 have ho2:∀b∈fp,∃o,s2.heap.get? b=some o:=λb hb=>let ⟨o,e,_⟩:=T.obj _ _ st2 b hb;⟨o,e⟩
 refine wpAny_newObj_type (wpAny_newFunctionEnv S.GS (by intro y hy;simp at hy) (λh₁ hns₁ hsb₁=> ?_) S.kind)
 dsimp only at hns₁ hsb₁⊢
 generalize hH2:s2.heap.push {cls:= .type "list",dict:=none,data:= .seq ([]:List Value).toArray}=G at hns₁ hsb₁⊢
 have hGs:G.objs.size=s2.heap.objs.size+1:=by rw[←hH2,gu]
 generalize hCe:G.objs.size=C at hns₁ hsb₁⊢
 have hCs:C=s2.heap.objs.size+1:=hCe.symm.trans hGs
 generalize hDe:s2.heap.objs.size=D at*
 have hC:s2.heap.objs.size<=C:=by lia
 have hDC:D≠C:=by lia
 have leDC:D<=C:=by lia
 have old:∀b o,s2.heap.get? b=some o->h₁.get? b=some o:=λb o e=>by
  have hb:b<D:=hDe▸aU e
  exact hsb₁.extBut b o (bA (aK hb leDC)) (aP _ (hH2▸aP _ e))
 have eD1:h₁.get? D=some {cls:= .type "list",data:= .seq ([]:List Value).toArray}:=by
  refine hsb₁.extBut _ _ hDC (aP _ ?_)
  rw[←hH2,←hDe]
  exact bJ _ rfl
 have I4:=SW (C:=C) (h':=h₁) (t':=s2.toks+([]:List (Str×Value)).length) S hf hjs I2 hC f2 ho2 hns₁ old
 generalize hY:X.Fm scope (x++N2) x s2 H2 C fp=Y at I4
 have hYA:Y.A=X.A:=by rw[←hY]
 have hYp:Y.prog=X.prog:=by rw[←hY]
 have hYw:Y.w=X.w:=by rw[←hY]
 have hYK:Y.K=X.K:=by rw[←hY]
 have hYc:Y.calm=true:=by rw[←hY];exact hc
 have hYL:Y.env.locals=C:=hY▸rfl
 have hYx:Y.xe=λ_ _=>False:=by rw[←hY]
 have hYe:Y.env=compEnvC scope (Ki scope X.env) C X.env:=by rw[←hY]
 have hYs:Y.s₀.heap.objs.size=D:=by rw[←hY];exact hDe
 have hYpn:Y.pn=[]:=by rw[←hY]
 have fpD:∀b∈fp,b<D:=λb hb=>by
  obtain⟨o,e⟩:=ho2 b hb
  exact hDe▸aU e
 have cel:∀y c,Y.env.cells.lookup y=some c->X.env.cells.lookup y=some c:=λy c e=>by
  rw[hYe]at e
  exact B2 S hf I2.ok e
 have celD:∀y c,Y.env.cells.lookup y=some c->c≠D:=λy c e z=>by
  obtain⟨v,o,eo,_⟩:=I2.cell y c (cel y c e)
  have q:=aU eo
  rw[hDe,z]at q
  exact ck _ q
 have Qo:D∉Y.fs:=by
  rw[←hY]
  intro hm
  obtain⟨_,o,eo,_⟩:=I2.stack.mem hm
  have q:=aU eo
  rw[hDe]at q
  exact ck _ q
 have stat:∀{H':Hp} {pl:List (Addr×Obj)},(∀b∈fp,H' b=none)->(∀p∈pl,p.1=D)->∀b∈fp,DL Y pl H' b:=λ{H' pl} hn hp b hb=>by
  refine⟨hn b hb,by rw[hYL];exact bA (aK (fpD b hb) leDC),?_,.inl (by rw[←hY];exact hb),λy c e=>(f2 b hb).2.2.2.2.1 y c (cel y c e),λp hm=> ?_⟩
  ·rw[←hY]
   intro hm
   rcases List.mem_cons.mp (I2.Ht b hm) with z|z
   ·exact(f2 b hb).2.1 z
   ·exact(f2 b hb).2.2.1 z
  ·rw[hYpn,bc]at hm
   rw[hp p hm]
   exact(bA (fpD b hb)).symm
 have pinD:∀{σ':St} {H':Hp} {s':Shared} {o:Obj},Inv Y [] σ' H' s'->s'.heap.get? D=some o->(∀v,o.data≠ .cell v)->H' D=none->Inv Y [(D,o)] σ' H' s':=λ{σ' H' s' o} Iy e d n=>
  Iy.Dv λp hp=>by
   rw[bN]at hp
   subst hp
   exact⟨e,n,by rw[hYL];exact hDC,Qo,d⟩
 have pg:PG Y tg g:=by rw[←hY];exact hg _ _ _ _
 have ht':L3 Y ifs tt:=by rw[←hY];exact ht _ _ _ _
 have he':PE Y elt te:=by rw[←hY];exact he _ _ _ _
 have loop:∀s₃:Shared,s₃={s2 with heap:=h₁,toks:=s2.toks+([]:List (Str×Value)).length}->
   codeAny (model X.prog X.w) X.A (.compLoop (.ListComp elt [⟨tg,iter,ifs,0⟩] scope pos) 0 (.ref it) (.ref D) (compEnvC scope (Ki scope X.env) C X.env))
    (compPost (model X.prog X.w) X.A X.xe use R (.ref D) C) s₃:=by
  rintro s₃ rfl
  refine zI (λn s'=>∃i ys os its k H',d6 os=x.length/\Inv Y [] (os++uR σ js) H' s'/\tn i s'.heap/\(∀b∈fp,H' b=none)/\H' D=none/\s'.heap.get? D=some {cls:= .type "list",data:= .seq (its:List Value).toArray k}/\Vals ys its/\W i n ys H') ?_ m0
   ⟨0,[],ah x.length none,[],0,H2,bw,I4,T.keep _ _ _ st2 λb _ o e=>old b o e,λb hb=>(f2 b hb).1,I2.ko.fresh (by lia),eD1,.nil,w0⟩
  rintro n s3 ⟨i,ys,os,its,k,H3,hos,I3,st3,fr3,hD3,eD3,rv3,w3⟩
  obtain⟨hz,alt⟩:=turn i n ys H3 w3
  have I3p:=pinD I3 eD3 (λv z=>by cases z) hD3
  rcases alt with ⟨stop,q⟩|⟨go,step⟩
  ·have h4:=T.done Y hYp hYw hYK hYc i _ s3 _ H3 (λ_ _=>False) I3p (stat fr3 λp hp=>by rw[bN]at hp;subst hp;rfl) st3 stop
   rw[hYA]at h4
   refine wpAny_mono h4 (λr s4 ⟨hr,I4'⟩=> ?_) λ_ _ z=>z
   subst hr
   have pD:=I4'.pin (D,{cls:= .type "list",data:= .seq its.toArray k}) (aO _ (List.mem_singleton.mpr rfl))
   exact fin fp s2 s4 H2 H3 C D Y _ _ ys its k I2 f2 hY.symm hC (by lia) hDC I4' pD.2.1 pD.1 rv3 hz (q D pD.2.1)
  ·have h4:=T.item Y hYp hYw hYK hYc i _ s3 _ H3 (λ_ _=>False) I3p (stat fr3 λp hp=>by rw[bN]at hp;subst hp;rfl) st3 go
   rw[hYA]at h4
   refine wpAny_mono h4 (λr s4 ⟨u,hr,h4'⟩=> ?_) λ_ _ z=>z
   subst hr
   refine wpAny_mono h4' (λ_ s5 ⟨xv,H5,I5,r5,y5,st5,fr5⟩=> ?_) λ_ _ z=>z
   have I5':=I5.pinned (stat fr5 λp hp=>by rw[bN]at hp;subst hp;rfl) (T.obj _ _ st5)
   have keepT:∀{σ7:St} {H7:Hp} {s7:Shared},Inv Y ([(D,{cls:= .type "list",data:= .seq its.toArray k})]++Ha fp s5.heap) σ7 H7 s7->tn (i+1) s7.heap/\(∀b∈fp,H7 b=none)/\H7 D=none/\
     s7.heap.get? D=some {cls:= .type "list",data:= .seq its.toArray k}:=λ{σ7 H7 s7} I7=>by
    have pD:=I7.pin (D,{cls:= .type "list",data:= .seq its.toArray k}) (aO _ (bj _ (List.mem_singleton.mpr rfl)))
    refine⟨T.keep _ _ _ st5 λb hb o e=>(I7.pin (b,o) (aO _ (aO _ (yB hb e)))).1,λb hb=> ?_,pD.2.1,pD.1⟩
    obtain⟨o,e,d⟩:=T.obj _ _ st5 b hb
    exact(I7.pin (b,o) (aO _ (aO _ (yB hb e)))).2.1
   have h6:=pg _ s5 _ H5 xv u _ I5' r5 (step xv H5 y5 os hos)
   rw[hYA,hYe,hYp,hYw,hYx]at h6
   refine wpAny_mono h6 (λ_ s6 ⟨σ6,H6,I6,⟨os',hos',e6⟩,q6⟩=> ?_) λ_ _ z=>z
   subst e6
   have h7:=ht' _ s6 _ H6 _ I6 q6
   rw[hYA,hYe,hYp,hYw,hYx]at h7
   refine wpAny_mono h7 (λb s7 ⟨H7,I7,q7⟩=> ?_) λ_ _ z=>z
   cases b with
   |false=>
    rw[if_neg bp]at q7⊢
    obtain⟨m',hm,w7⟩:=q7
    obtain⟨k1,k2,k3,k4⟩:=keepT I7
    exact⟨m',hm,i+1,ys,os',its,k,H7,hos',I7.Dv λp hp=>by simp at hp,k1,k2,k3,k4,rv3,w7⟩
   |true=>
    rw[if_pos rfl]at q7⊢
    have h8:=he' _ s7 _ H7 _ I7 q7
    rw[hYA,hYe,hYp,hYw,hYx]at h8
    refine wpAny_mono h8 (λy s8 ⟨yv,H8,I8,r8,m',hm,w8⟩=> ?_) λ_ _ z=>z
    obtain⟨k1,k2,k3,k4⟩:=keepT I8
    refine wpAny_list_append_plain (l:=D) (items:=its.toArray) ⟨k,k4⟩ (λh9 pl9 sb9=> ?_) (by rw[aZ,←rv3.length];exact hz)
    obtain⟨k9,e9⟩:=pl9
    have I9:Inv Y [] (os'++uR σ js) H8 {s8 with heap:=h9}:=(I8.Dv (pins':=[]) λp hp=>by simp at hp).turned (it:=D) (t':=s8.toks) (λb o hb e=>(sb9.2 b hb).trans e) k3 (by rw[hYL];exact hDC)
     (.inr (by rw[hYs];exact aI _)) celD (by rw[hYpn];intro p hp;simp at hp)
    exact⟨m',hm,i+1,ys++[yv],os',its++[y],k9,H8,hos',I9,T.keep _ _ _ k1 λb hb o e=>(sb9.2 b (bA (fpD b hb))).trans e,k2,k3,by rw[e9,List.push_toArray],rv3.snoc r8,w8⟩
 exact codeAny_compStart_list (loop _ rfl) (T.self _ 0 _ _ _ (T.keep _ _ _ st2 λb _ o e=>old b o e) (loop _ rfl))
theorem RR{x:Str}{px:Pos}(S:uZ fsc scope [x] N2){s:Shared}{H:Hp}{C:Addr}{ex:List Addr}:PG (X.Fm scope (x::N2) [x] s H C ex) (.Name x px) (jq 0):=
 Fy (i:=0) S.nd rfl (.inl (lookup_relabel_local (S.own x a_))) (.inl (by show [x].contains x=true;simp))
theorem TL{x:Str}{elt iter:Expr}{px pos:Pos}{ifs:List Expr}{wi:TI}{tt:TT}{te:TE}(S:uZ fsc scope [x] N2)(hf:X.env.scope=fsc)(hjs:js.map (λj=>X.N[j]?)=N2.map some)(hc:X.calm=true)(hi:PI X (.Name x px) iter wi)
  (ht:∀s H C ex,L3 (X.Fm scope (x::N2) [x] s H C ex) ifs tt) (he:∀s H C ex,PE (X.Fm scope (x::N2) [x] s H C ex) elt te) (hs:∀v,foldedSetIterable iter X.env v=pure v:=by intro _;rfl):
  PE X (.ListComp elt [⟨.Name x px,iter,ifs,0⟩] scope pos) (tJ js wi tt te):=by
 intro pins s σ H Q I h
 rw[eval_ListComp]
 refine DR (x:=[x]) (g:=jq 0) (use:=none) S hf hjs hc hi (λ_ _ _ _=>RR S) ht he hs I (λ_ _=>OQ) h λfp s2 s4 H2 H3 C D Y pl σ' ys its n I2 f2 hY hC hD hDC I4 hD3 eD rv hz q=> ?_
 obtain⟨m,hn,_⟩:=I4.loc
 rw[show Y.env.locals=C from hY▸rfl]at hn
 exact⟨m,hn,λh' hs'=>⟨.ref D,_,Ke (scope:=scope) (x:=[x]) (N2:=N2) I2 f2 hY hC hD hDC I4 hs' hD3 eD rv hz,rfl,q⟩⟩
theorem TR{x1 x2:Str}{p1 p2 pt:Pos}{k:Nat}(hc:X.calm=true)(S:uZ fsc scope [x1,x2] N2){s:Shared}{H:Hp}{C:Addr}{ex:List Addr}:PG (X.Fm scope (x1::x2::N2) [x1,x2] s H C ex) (.Tuple [.Name x1 p1,.Name x2 p2] k pt) (g2 X.K):=
 RS (X:=X.Fm scope (x1::x2::N2) [x1,x2] s H C ex) hc
  (G_ (Fy (i:=0) S.nd rfl (.inl (lookup_relabel_local (S.own x1 a_))) (.inl (by show [x1,x2].contains x1=true;simp)))
   (G_ (Fy (i:=1) S.nd rfl (.inl (lookup_relabel_local (S.own x2 (ba _ a_)))) (.inl (by show [x1,x2].contains x2=true;simp))) Pd))
theorem RJ{x1 x2:Str}{elt iter:Expr}{p1 p2 pt pos:Pos}{k:Nat}{ifs:List Expr}{wi:TI}{tt:TT}{te:TE}(S:uZ fsc scope [x1,x2] N2)(hf:X.env.scope=fsc)(hjs:js.map (λj=>X.N[j]?)=N2.map some)(hc:X.calm=true)(hi:PI X (.Tuple [.Name x1 p1,.Name x2 p2] k pt) iter wi)
  (ht:∀s H C ex,L3 (X.Fm scope (x1::x2::N2) [x1,x2] s H C ex) ifs tt) (he:∀s H C ex,PE (X.Fm scope (x1::x2::N2) [x1,x2] s H C ex) elt te) (hs:∀v,foldedSetIterable iter X.env v=pure v:=by intro _;rfl):
  PE X (.ListComp elt [⟨.Tuple [.Name x1 p1,.Name x2 p2] k pt,iter,ifs,0⟩] scope pos) (OD X.K js wi tt te):=by
 intro pins s σ H Q I h
 rw[eval_ListComp]
 refine DR (x:=[x1,x2]) (g:=g2 X.K) (use:=none) S hf hjs hc hi (λ_ _ _ _=>TR hc S) ht he hs I (λ_ _=>QT) h λfp s2 s4 H2 H3 C D Y pl σ' ys its n I2 f2 hY hC hD hDC I4 hD3 eD rv hz q=> ?_
 obtain⟨m,hn,_⟩:=I4.loc
 rw[show Y.env.locals=C from hY▸rfl]at hn
 exact⟨m,hn,λh' hs'=>⟨.ref D,_,Ke (scope:=scope) (x:=[x1,x2]) (N2:=N2) I2 f2 hY hC hD hDC I4 hs' hD3 eD rv hz,rfl,q⟩⟩
theorem Ou{x:Str}{elt iter:Expr}{px py pos spos:Pos}{ifs:List Expr}{wi:TI}{tt:TT}{te:TE}{i:Nat}{y:Str}(hN:X.N.Nodup)(hy:X.N[i]? =some y)(hl:Loc X.env.scope y)
  (S:uZ fsc scope [x] N2) (hf:X.env.scope=fsc) (hjs:js.map (λj=>X.N[j]?)=N2.map some) (hc:X.calm=true) (hi:PI X (.Name x px) iter wi)
  (ht:∀s H C ex,L3 (X.Fm scope (x::N2) [x] s H C ex) ifs tt) (he:∀s H C ex,PE (X.Fm scope (x::N2) [x] s H C ex) elt te) (hs:∀v,foldedSetIterable iter X.env v=pure v:=by intro _;rfl)
  (hsw:swapsWith (.ListComp elt [⟨.Name x px,iter,ifs,0⟩] scope pos) (some (.Name y py)) spos.line X.env=pure true:=by rfl)
  (hfn:X.fn y=true∨X.env.scope.names.lookup y=some .local:=by first|exact .inl rfl|exact .inr rfl|assumption):
  PS X (.Assign [.Name y py] (.ListComp elt [⟨.Name x px,iter,ifs,0⟩] scope pos) spos) (jX (tJ js wi tt te) (jq i)):=by
 intro pins s σ H Dn I h
 rw[exec_Assign_Name_used _ _ _ _ hsw]
 refine wpAny_bind (wpAny_standAt (wpAny_bind ?_))
 show wpAny _ _ (do let _←comprehension (.ListComp elt [⟨.Name x px,iter,ifs,0⟩] scope pos) scope X.env _ (newList []) false (eval iter X.env) (some (assign (.Name y py) X.env))) _ _ s
 refine wpAny_bind (wpAny_mono (DR (x:=[x]) (g:=jq 0) (use:=some (assign (.Name y py) X.env)) (R:=λ_ s'=>SP X pins Dn .next s') S hf hjs hc hi (λ_ _ _ _=>RR S) ht he hs I (λ_ _=>OQ) h λfp s2 s4 H2 H3 C D Y pl σ' ys its n I2 f2 hY hC hD hDC I4 hD3 eD rv hz q=> ?_)
  (λ_ s' hq=>wpAny_pure (wpAny_pure hq)) λ_ _ e=>e)
 show wpAny _ _ (assign (.Name y py) X.env (.ref D)) _ _ s4
 have I7:Inv X pins σ (upd H3 D (.lst ys)) s4:=Ke (scope:=scope) (x:=[x]) (N2:=N2) (h':=s4.heap) I2 f2 hY hC hD hDC I4 (Heap.SameBut.refl ..) hD3 eD rv hz
 have nC:∀b o,s2.heap.get? b=some o->b≠C:=λb o e=>bA (aK (aU e) hC)
 have cC:∀z c,X.env.cells.lookup z=some c->c≠C:=λz c e=>by
  obtain⟨v,o,eo,_⟩:=I2.cell z c e
  exact nC c o eo
 have lC:X.env.locals≠C:=bA (aK I2.lt hC)
 obtain⟨m,hn,_⟩:=I4.loc
 have eL:Y.env.locals=C:=hY▸rfl
 have fC:upd H3 D (HO.lst ys) C=none:=by rw[iW (aC hDC)];exact eL▸I4.free
 rw[eL]at hn
 refine wpAny_assign_Name (JN I7 hN hy hl (v:= .ref D) rfl (λs'' I8 ⟨a,sb,ha⟩=> ?_) hfn)
 have na:C≠a:=by
  rcases ha with rfl|ha
  ·exact aC lC
  ·exact aC (cC _ _ ha)
 refine⟨m,hn.sameBut sb na,λh' hs'=>⟨_,_,I8.turned (it:=C) (t':=s''.toks) (λb o hb e=>(hs'.2 b hb).trans e) fC (aC lC) (.inr (aH I2.sz hC)) cC λp hp=> ?_,q⟩⟩
 exact nC p.1 p.2 (I2.pin p hp).1
end
end L2
namespace L2
open PySem PySem.Spec PyProof.Rows
section
variable{X:Cx}{tg:Expr}
end
end L2
namespace L2
open PySem PySem.Spec PyProof.Rows
noncomputable def Bk:List (Option Bool)->Option Bool
 | []=>some true
 |none::_=>none
 |some b::r=>(Bk r).map λc=>b&&c
noncomputable def EZ (H:Hp):Nat->V->V->Option Bool
 |0,x,y=>if qX x=true/\qX y=true then some (Nt x y) else none
 |d+1,x,y=>match x,y with
  | .ref a,.ref b=>(match H a,H b with
   |some (.lst xs),some (.lst ys)=>if xs.length=ys.length then Bk (dg (EZ H d) xs ys) else some false
   |some (.tup xs),some (.tup ys)=>if xs.length=ys.length then Bk (dg (EZ H d) xs ys) else none
   |_,_=>none)
  |x,y=>if qX x=true/\qX y=true then some (Nt x y) else none
theorem A1{l:List (Option Bool)}{b:Bool}:Bk l=some b->∃e:Nat->Bool,(∀j o,l[j]? =some o->o=some (e j))/\(bZ l.length).all e=b:=by
 induction l generalizing b with
 |nil=>intro h;cases h;exact⟨λ_=>true,λj o z=>by simp at z,rfl⟩
 |cons o r ih=>
  intro h
  cases o with
  |none=>cases h
  |some b0=>
   obtain⟨c,hc,rfl⟩:=Option.map_eq_some_iff.mp h
   obtain⟨e,h1,h2⟩:=ih hc
   refine⟨λj=>match j with|0=>b0|j+1=>e j,λj o z=> ?_,?_⟩
   ·cases j with
    |zero=>simp at z;exact z.symm
    |succ j=>exact h1 j o (by simpa using z)
   ·rw[af,gj,bM,List.all_map,←h2]
    rfl
theorem Mm{x:V}(h:qX x=true):Nt x x=true:=by
 cases x<;>first|rfl|exact decide_eq_true rfl|exact nomatch h
theorem FY{H:Hp}:∀(d:Nat) {x:V} {b:Bool},EZ H d x x=some b->b=true
 |0,x,b,h=>by
  unfold EZ at h
  split at h
  ·rename_i z;cases h;exact Mm z.1
  ·cases h
 |d+1,x,b,h=>by
  unfold EZ at h
  split at h
  ·split at h
   ·rename_i xs ys e1 e2
    rw[e1]at e2
    cases e2
    rw[if_pos rfl]at h
    obtain⟨e,h1,h2⟩:=A1 h
    rw[←h2,fT]
    intro j hj
    rw[gx,c_,dW]at hj
    have z:=h1 j (EZ H d xs[j] xs[j]) (by rw[cY,au hj])
    exact FY d z
   ·rename_i xs ys e1 e2
    rw[e1]at e2
    cases e2
    rw[if_pos rfl]at h
    obtain⟨e,h1,h2⟩:=A1 h
    rw[←h2,fT]
    intro j hj
    rw[gx,c_,dW]at hj
    have z:=h1 j (EZ H d xs[j] xs[j]) (by rw[cY,au hj])
    exact FY d z
   ·cases h
  ·split at h
   ·rename_i z;cases h;exact Mm z.1
   ·cases h
section
variable{X:Cx}
theorem C1{pins:List (Addr×Obj)}{σ:St}{H:Hp}{s:Shared}(I:Inv X pins σ H s):∀(d:Nat) (A:Around) {x y:V} {u v:Value} {b:Bool},A.units+d<cLine->RelV x u->RelV y v->EZ H d x y=some b->fR A s u v b
 |0,A,x,y,u,v,b,hu,rx,ry,h=>by
  unfold EZ at h
  split at h
  ·rename_i z;cases h;exact NO rx ry z.1 z.2
  ·cases h
 |d+1,A,x,y,u,v,b,hu,rx,ry,h=>by
  by_cases hs:∃a,x= .ref a/\y= .ref a
  ·obtain⟨a,rfl,rfl⟩:=hs
   cases (show u=aX a from rx)
   cases (show v=aX a from ry)
   rw[FY (d+1) h]
   exact gg _
  ·unfold EZ at h
   split at h
   ·rename_i a c
    split at h
    ·rename_i xs ys e1 e2
     cases (show u=aX a from rx)
     cases (show v=aX c from ry)
     have hne:a≠c:=λz=>hs ⟨a,rfl,by rw[z]⟩
     obtain⟨i1,r1,p1,_⟩:=I.list (mj.of e1)
     obtain⟨i2,r2,p2,_⟩:=I.list (mj.of e2)
     refine h_ hne ?_
     have l1:=r1.length
     have l2:=r2.length
     split at h
     ·rename_i hl
      obtain⟨e,h1,h2⟩:=A1 h
      rw[c_,←hl,dW]at h2
      have z:=SeqAt.RcAt.lists (A:=A) (s:=s) (e:=e) p1.isList p2.isList (by simp;lia) (by lia) λj j1 j2=> ?_
      ·have e3:i1.toArray.size=xs.length:=by simp[l1]
       rw[e3,h2]at z
       exact z
      ·simp only[aZ]at j1 j2
       have k1:j<xs.length:=by lia
       have k2:j<ys.length:=by lia
       obtain⟨w1,g1,q1⟩:=r1.get (au k1)
       obtain⟨w2,g2,q2⟩:=r2.get (au k2)
       have z:=h1 j (EZ H d xs[j] ys[j]) (by rw[cY,au k1,au k2])
       have e4:i1.toArray[j]=w1:=by simpa [j1] using g1
       have e5:i2.toArray[j]=w2:=by simpa [j2] using g2
       rw[e4,e5]
       exact C1 I d A.in1 (by rw[fg];lia) q1 q2 z
     ·rename_i hl
      cases h
      exact SeqAt.RcAt.lists_lengths p1.isList p2.isList (by simp;lia) (by lia)
    ·rename_i xs ys e1 e2
     cases (show u=aX a from rx)
     cases (show v=aX c from ry)
     have hne:a≠c:=λz=>hs ⟨a,rfl,by rw[z]⟩
     obtain⟨i1,r1,p1,_⟩:=I.tuple (.inl (.inl e1))
     obtain⟨i2,r2,p2,_⟩:=I.tuple (.inl (.inl e2))
     refine h_ hne ?_
     have l1:=r1.length
     have l2:=r2.length
     split at h
     ·rename_i hl
      obtain⟨e,h1,h2⟩:=A1 h
      rw[c_,←hl,dW]at h2
      have z:=SeqAt.RcAt.tuples (A:=A) (s:=s) (e:=e) p1 p2 (by lia) λj j1 j2=> ?_
      ·have e3:i1.toArray.size=xs.length:=by simp[l1]
       have e4:i2.toArray.size=xs.length:=by simp[←l2,hl]
       rw[e3,e4,dW,h2,beq_self_eq_true,Bool.and_true]at z
       exact z
      ·simp only[aZ]at j1 j2
       have k1:j<xs.length:=by lia
       have k2:j<ys.length:=by lia
       obtain⟨w1,g1,q1⟩:=r1.get (au k1)
       obtain⟨w2,g2,q2⟩:=r2.get (au k2)
       have z:=h1 j (EZ H d xs[j] ys[j]) (by rw[cY,au k1,au k2])
       have e4:i1.toArray[j]=w1:=by simpa [j1] using g1
       have e5:i2.toArray[j]=w2:=by simpa [j2] using g2
       rw[e4,e5]
       exact C1 I d A.in1 (by rw[fg];lia) q1 q2 z
     ·cases h
    ·cases h
   ·split at h
    ·rename_i z;cases h;exact NO rx ry z.1 z.2
    ·cases h
noncomputable def PJ:R2:=λx y H Q=>match x,y with
 | .ref a,.ref b=>(match H a,H b with
  |some (.lst xs),some (.lst ys)=>if xs.length=ys.length then(match Bk (dg (EZ H 2) xs ys) with
    |some k=>Q (.bl k) H
    |none=>False) else Q (.bl false) H
  |_,_=>False)
 |_,_=>False
noncomputable def BZ:R2:=λx y H Q=>match x,y with
 | .ref a,.ref b=>(match H a,H b with
  |some (.lst xs),some (.lst ys)=>if xs.length=ys.length then(match Bk (dg (EZ H 2) xs ys) with
    |some k=>Q (.bl (!k)) H
    |none=>False) else Q (.bl true) H
  |_,_=>False)
 |_,_=>False
theorem W3(hu:X.A.units+8<cLine):ux X (compareOp .Eq) PJ:=by
 intro pins s σ H x y v u Q I rx ry h
 unfold PJ at h
 split at h
 case h_2=>exact h.elim
 rename_i a b
 split at h
 case h_2=>exact h.elim
 rename_i xs ys e1 e2
 cases (show v=aX a from rx)
 cases (show u=aX b from ry)
 obtain⟨i1,r1,p1,_⟩:=I.list (mj.of e1)
 obtain⟨i2,r2,p2,_⟩:=I.list (mj.of e2)
 have l1:=r1.length
 have l2:=r2.length
 split at h
 ·rename_i hl
  split at h
  case h_2=>exact h.elim
  rename_i k hk
  obtain⟨e,h1,h2⟩:=A1 hk
  rw[c_,←hl,dW]at h2
  refine SeqAt.eq_listAt (e:=e) p1.isList p2.isList (by simp;lia) (by lia) (λj j1 j2=> ?_) ⟨.bl k,H,I,?_,h⟩
  ·simp only[aZ]at j1 j2
   have k1:j<xs.length:=by lia
   have k2:j<ys.length:=by lia
   obtain⟨w1,g1,q1⟩:=r1.get (au k1)
   obtain⟨w2,g2,q2⟩:=r2.get (au k2)
   have z:=h1 j (EZ H 2 xs[j] ys[j]) (by rw[cY,au k1,au k2])
   have e4:i1.toArray[j]=w1:=by simpa [j1] using g1
   have e5:i2.toArray[j]=w2:=by simpa [j2] using g2
   rw[e4,e5]
   exact C1 I 2 X.A.in1 (by rw[fg];lia) q1 q2 z
  ·have e3:i1.toArray.size=xs.length:=by simp[l1]
   rw[e3,h2]
   exact rfl
 ·exact SeqAt.eq_list_lengthsAt p1.isList p2.isList (by simp;lia) (by lia) ⟨.bl false,H,I,rfl,h⟩
end
section
variable{X:Cx}
theorem Xa(hu:X.A.units+8<cLine):ux X (compareOp .NotEq) BZ:=by
 intro pins s σ H x y v u Q I rx ry h
 unfold BZ at h
 split at h
 case h_2=>exact h.elim
 rename_i a b
 split at h
 case h_2=>exact h.elim
 rename_i xs ys e1 e2
 cases (show v=aX a from rx)
 cases (show u=aX b from ry)
 obtain⟨i1,r1,p1,_⟩:=I.list (mj.of e1)
 obtain⟨i2,r2,p2,_⟩:=I.list (mj.of e2)
 have l1:=r1.length
 have l2:=r2.length
 split at h
 ·rename_i hl
  split at h
  case h_2=>exact h.elim
  rename_i k hk
  obtain⟨e,h1,h2⟩:=A1 hk
  rw[c_,←hl,dW]at h2
  refine SeqAt.RcNeAt.lists (e:=e) p1.isList p2.isList (by simp;lia) (by lia) (λj j1 j2=> ?_) X.prog X.w X.xe _ ⟨.bl (!k),H,I,?_,h⟩
  ·simp only[aZ]at j1 j2
   have k1:j<xs.length:=by lia
   have k2:j<ys.length:=by lia
   obtain⟨w1,g1,q1⟩:=r1.get (au k1)
   obtain⟨w2,g2,q2⟩:=r2.get (au k2)
   have z:=h1 j (EZ H 2 xs[j] ys[j]) (by rw[cY,au k1,au k2])
   have e4:i1.toArray[j]=w1:=by simpa [j1] using g1
   have e5:i2.toArray[j]=w2:=by simpa [j2] using g2
   rw[e4,e5]
   exact C1 I 2 X.A.in1 (by rw[fg];lia) q1 q2 z
  ·have e3:i1.toArray.size=xs.length:=by simp[l1]
   rw[e3,h2]
   exact rfl
 ·exact SeqAt.RcNeAt.lists_lengths p1.isList p2.isList (by simp;lia) (by lia) X.prog X.w X.xe _ ⟨.bl true,H,I,rfl,h⟩
end
theorem uN.Mp{K:aA}{a:Addr}{xs:List V}{ya:St}{tt:TT}{te:TE}{H:Hp}{Q:VK}(p:V->Bool)(f:V->V)(hS:mj K H a xs)(hz:xs.length<=sizeLine)
  (ht:∀x∈xs,∀K':Bool->Hp->Prop,K' (p x) H->tt (some x::ya) H K') (he:∀x∈xs,p x=true->∀K':VK,K' (f x) H->te (some x::ya) H K')
  (q:∀l,H l=none->Q (.ref l) (upd H l (.lst ((xs.filter p).map f)))):uN (Qp K a) ya tt te H Q:=by
 refine⟨λi m ys H'=>H'=H/\i<=xs.length/\m=xs.length-i/\ys=((xs.take i).filter p).map f,⟨xs.length,rfl,cD _,rfl,by simp⟩,λi m ys H' ⟨e1,hi,em,ey⟩=> ?_⟩
 subst e1 ey
 refine⟨aH (by rw[aj];exact aH (cI _ _) (by rw[bH];lia)) hz,?_⟩
 by_cases z:i<xs.length
 ·have hx:xs[i]? =some xs[i]:=au z
  refine .inr ⟨⟨xs,xs[i],hS,hx⟩,λx H2 ⟨e2,e3⟩=> ?_⟩
  have ex:x=xs[i]:=by have:=e3 xs hS;rw[hx]at this;exact(bg this).symm
  rw[e2,ex]
  have tk:xs.take (i+1)=xs.take i++[xs[i]]:=by rw[eU,hx];rfl
  refine ht _ (bq z) _ ?_
  cases hp:p xs[i] with
  |true=>
   rw[if_pos rfl]
   refine he _ (bq z) hp _ ⟨xs.length-(i+1),by lia,rfl,z,rfl,?_⟩
   rw[tk,g9,bo];simp[hp]
  |false=>
   rw[if_neg bp]
   refine⟨xs.length-(i+1),by lia,rfl,z,rfl,?_⟩
   rw[tk,g9,bo];simp[hp]
 ·have e:i=xs.length:=by lia
  subst e
  rw[bF]
  exact .inl ⟨⟨xs,hS,aI _⟩,q⟩
theorem wj{X:Cx}{scope:Scope}{N:List Str}{x:List Str}{s:Shared}{H:Hp}{C:Addr}{ex:List Addr}:Exc (X.Fm scope N x s H C ex) (λ_ _ _ _=>False):=
 ⟨λ_ _ _ _ _ _ _ ⟨_,_,_,_,_,_,_,_,_,_,_,_,h⟩=>h,λ_ _ _ _ _ _ _ _ _ _ _ _ h=>h,PassesOwn.never⟩
noncomputable def bools:List V->Option (List Bool)
 | []=>some []
 | .bl b::r=>(bools r).map λbs=>b::bs
 |_::_=>none
noncomputable def Me:List V->Hp->VK->Prop:=λxs H Q=>match xs with
 | [.ref a]=>(match H a with
  |some (.lst ys)=>∀l,H l=none->Q (.ref l) (upd H l (.lst ys))
  |_=>False)
 |_=>False
noncomputable def zE:R2:=λx y H Q=>match eqv x y with
 |some b=>Q (.bl b) H
 |none=>PJ x y H Q
noncomputable def BY:R2:=λx y H Q=>match eqv x y with
 |some b=>Q (.bl (!b)) H
 |none=>BZ x y H Q
section
variable{X:Cx}
theorem U5:tN X (.type "list") Me:=Kh.mono λxs H Q h=>by
 unfold Me at h
 split at h
 case h_2=>exact h.elim
 split at h
 case h_2=>exact h.elim
 rename_i ys e
 exact⟨_,ys,rfl,.inl (mj.of e),h⟩
theorem QO(hu:X.A.units+8<cLine):ux X (compareOp .Eq) zE:=by
 intro pins s σ H x y v u Q I rx ry h
 unfold zE at h
 split at h
 ·rename_i b e
  exact WZ pins s σ H x y v u Q I rx ry (by unfold Md;rw[e];exact h)
 ·exact W3 hu pins s σ H x y v u Q I rx ry h
theorem W_(hu:X.A.units+8<cLine):ux X (compareOp .NotEq) BY:=by
 intro pins s σ H x y v u Q I rx ry h
 unfold BY at h
 split at h
 ·rename_i b e
  exact W9 pins s σ H x y v u Q I rx ry (by unfold Uq;rw[e];exact h)
 ·exact Xa hu pins s σ H x y v u Q I rx ry h
theorem Jw{ca:Bool}{k:Nat}{A:Around}(hr:ou ca k A):A.units+8<cLine:=bO (gO (by decide:8<=64) _) hr.units
end
theorem zJ{K:aA}{a:Addr}{xs:List V}{ya:St}{tt:TT}{te:TE}{H:Hp}{Q:VK}(P:Nat->List V->Hp->Prop)(h0:P 0 [] H)(hS:∀i ys H',P i ys H'->mj K H' a xs)(hz:xs.length<=sizeLine)(hlen:∀i ys H',P i ys H'->ys.length<=i)
  (step:∀i x ys H',xs[i]? =some x->P i ys H'->∀K1:List V->Hp->Prop,(∀ys' H3,P (i+1) ys' H3->K1 ys' H3)->tt (some x::ya) H' λb H2=>if b=true then te (some x::ya) H2 (λy H3=>K1 (ys++[y]) H3) else K1 ys H2)
  (q:∀ys H',P xs.length ys H'->∀l,H' l=none->Q (.ref l) (upd H' l (.lst ys))):uN (Qp K a) ya tt te H Q:=by
 refine⟨λi m ys H'=>P i ys H'/\i<=xs.length/\m=xs.length-i,⟨xs.length,h0,cD _,rfl⟩,λi m ys H' ⟨hP,hi,em⟩=> ?_⟩
 refine⟨aH (aH (hlen _ _ _ hP) hi) hz,?_⟩
 have hS':=hS _ _ _ hP
 by_cases z:i<xs.length
 ·have hx:xs[i]? =some xs[i]:=au z
  refine .inr ⟨⟨xs,xs[i],hS',hx⟩,λx H2 ⟨e2,e3⟩=> ?_⟩
  have ex:x=xs[i]:=by have:=e3 xs hS';rw[hx]at this;exact(bg this).symm
  rw[e2,ex]
  exact step i _ ys H' hx hP (λys' H3=>∃m',m'<m/\(P (i+1) ys' H3/\i+1<=xs.length/\m'=xs.length-(i+1))) λys' H3 h=>⟨_,by omega,h,z,rfl⟩
 ·have e:i=xs.length:=by lia
  subst e
  exact .inl ⟨⟨xs,hS',aI _⟩,q _ _ hP⟩
end L2
namespace L2
open PySem PySem.Spec PyProof.Rows
theorem JM:∀{l1 l2:List Int},l1.Perm l2->l1.Pairwise (·<=·)->l2.Pairwise (·<=·)->l1=l2
 | [],l2,p,_,_=>(List.Perm.nil_eq p)
 |a::r,[],p,_,_=>absurd p.length_eq (by simp)
 |a::r,b::r2,p,h1,h2=>by
  have ha:a∈b::r2:=p.mem_iff.mp a_
  have hb:b∈a::r:=p.mem_iff.mpr a_
  rw[eK]at h1 h2
  have e:a=b:=by
   rcases List.mem_cons.mp ha with e|ha
   ·exact e
   ·rcases List.mem_cons.mp hb with e|hb
    ·exact e.symm
    ·have:=h2.1 a ha
     have:=h1.1 b hb
     lia
  subst e
  rw[JM ((List.perm_cons a).mp p) h1.2 h2.2]
noncomputable def oH (ns:List Int):List Int:=ns.mergeSort (λa b=>decide (a<=b))
theorem ui(ns:List Int):(oH ns).Perm ns:=List.mergeSort_perm ns _
theorem yr(ns:List Int):(oH ns).Pairwise (·<=·):=by
 have h:=List.pairwise_mergeSort (le:=λ(a b:Int)=>decide (a<=b)) (λa b c=>by simp;lia) (λa b=>by simp;lia) ns
 exact h.imp (by simp)
theorem xK{ns ns':List Int}(p:ns'.Perm ns)(h:ns'.Pairwise (·<=·)):ns'=oH ns:=JM (p.trans (ui ns).symm) h (yr ns)
theorem Rk{a b:List Int}(p:a.Perm b):oH a=oH b:=xK ((ui a).trans p) (yr a)
noncomputable def MB:List V->Option (List Int)
 | []=>some []
 | .int i::r=>(MB r).map λns=>i::ns
 |_::_=>none
theorem A_:∀ns:List Int,MB (ns.map V.int)=some ns
 | []=>rfl
 |n::r=>by simp only[ak,MB,A_ r,bG]
theorem MC:∀{ys:List V} {ns:List Int},MB ys=some ns->ys=ns.map V.int
 | [],ns,h=>by cases h;rfl
 |y::r,ns,h=>by
  cases y with
  |int i=>
   obtain⟨cs,hc,rfl⟩:=Option.map_eq_some_iff.mp h
   rw[ak,←MC hc]
  |_=>cases h
section
variable{X:Cx}
noncomputable def A3:List V->Hp->VK->Prop:=λxs H Q=>match xs with
 | [.ref a]=>(match H a with
  |some (.lst ys)=>(match MB ys with
   |some ns=>ns.length<64/\∀l,H l=none->Q (.ref l) (upd H l (.lst ((oH ns).map V.int)))
   |none=>False)
  |_=>False)
 |_=>False
theorem Jx:∀{ns:List Int} {vs:List Value},Vals (ns.map V.int) vs->IntsAre vs ns
 | [],_,.nil=> .nil
 |n::r,_::_,.cons h t=>by obtain⟨k,rfl⟩:=h;exact .cons n k (Jx t)
theorem QR:tN X (.builtin "sorted") A3:=by
 intro pins s σ H xs us Q I r h
 unfold A3 at h
 split at h
 case h_2=>exact h.elim
 rename_i a
 obtain⟨u,rfl,rx⟩:=vals1 r
 cases (show u=aX a from rx)
 split at h
 case h_2=>exact h.elim
 rename_i ys ea
 split at h
 case h_2=>exact h.elim
 rename_i ns hb
 have ey:=MC hb
 subst ey
 obtain⟨hl,h⟩:=h
 obtain⟨its,rv,pl,hz⟩:=I.list (mj.of ea)
 have hlen:=rv.length
 rw[aj]at hlen
 refine sorted_ints pl.isList (Jx rv) (by lia) λout ns' h1 h2 h3=> ?_
 have e:=xK h2 h3
 subst e
 have hln:=h2.length_eq
 have hf:H (s.heap.objs.size+1)=none:=I.ko.fresh (fG _)
 refine⟨.ref (s.heap.objs.size+1),_,I.laid (t':=s.toks) (λb o e=>sortedAll_old e) (fG _) (show l9 X.prog X.w _ _ _ (.lst ((oH ns).map V.int)) from ?_),rfl,h _ hf⟩
 obtain⟨en,he⟩:=sortedAll_at s.heap its out
 exact⟨by rw[aj,hln];exact aH (dU hl) (by decide),out.toList,en,Bi h1,by simpa using he⟩
noncomputable def Gr:List (Key×V)->Option (List Int)
 | []=>some []
 |(.inl i,_)::r=>(Gr r).map λns=>i::ns
 |_::_=>none
theorem MA:∀{kvs:List (Key×V)} {ns:List Int},Gr kvs=some ns->kvs.map (·.1)=ns.map aJ
 | [],ns,h=>by cases h;rfl
 |(k,v)::r,ns,h=>by
  cases k with
  |inl i=>
   obtain⟨cs,hc,rfl⟩:=Option.map_eq_some_iff.mp h
   rw[ak,ak,←MA hc]
  |inr x=>cases h
noncomputable def zH:List V->Hp->VK->Prop:=λxs H Q=>match xs with
 | [.ref a]=>(match H a with
  |some (.dK kvs)=>(match Gr kvs with
   |some ns=>ns.length<64/\∀l,H l=none->Q (.ref l) (upd H l (.lst ((oH ns).map V.int)))
   |none=>False)
  |_=>False)
 |_=>False
theorem Gs:∀{l:List Value} {ns:List Int},l.length=ns.length->(∀(j:Nat) (v:Value),l[j]? =some v->∃t,v= .int (ns.getD j 0) t)->IntsAre l ns
 | [],[],_,_=> .nil
 |v::r,n::m,hl,h=>by
  obtain⟨t,e⟩:=h 0 v rfl
  rw[e]
  exact .cons n t (Gs (by simpa using hl) λj w hw=>h (j+1) w (by simpa using hw))
theorem P2{i:Int}{v:Value}(h:wC (.inl i) v=true):∃t,v= .int i t:=by
 rcases kR h with ⟨k,t,e,rfl⟩|⟨x,t,e,_⟩
 ·cases e;exact⟨t,rfl⟩
 ·cases e
theorem PL(hc:X.calm=true):tN X (.builtin "sorted") zH:=by
 intro pins s σ H xs us Q I r h
 unfold zH at h
 split at h
 case h_2=>exact h.elim
 rename_i a
 obtain⟨u,rfl,rx⟩:=vals1 r
 cases (show u=aX a from rx)
 split at h
 case h_2=>exact h.elim
 rename_i kvs ea
 split at h
 case h_2=>exact h.elim
 rename_i ns hb
 obtain⟨hl,h⟩:=h
 obtain⟨z,hd,vs,rel,o,es,ep,hat⟩:=FZ I.ko ea
 have da:fF (jT X.prog X.w) s.heap a vs ep:=⟨o,es,hat⟩
 have hk1:=MA hb
 have hk2:=rel.keys
 have hlen:vs.length=ns.length:=by
  have:=congrArg d6 (hk2.symm.trans hk1)
  simpa using this
 have h64:64<=sizeLine:=by decide
 refine Calls.call_function_entry kind_sorted plain_sorted entry_sorted (args_sorted1 _) ?_
 refine wpAny_bind (wpAny_pure ?_)
 refine wpAny_bind (PySem.W.kdu_collect (iz hd) (by show X.A.handled=none;exact I.ok.hd hc) da (by lia) λh' tk acc hk hi=> ?_)
 have hal:acc.toList.length=ns.length:=by rw[←hlen];simpa using hi.1
 have hints:IntsAre acc.toList ns:=Gs hal λj v hv=>by
  obtain⟨k,x,e1,e2⟩:=hi.2 j v (by simpa using hv)
  have e3:(vs.map (·.1))[j]? =some k:=by rw[aS,e1];rfl
  rw[←hk2,hk1,aS]at e3
  obtain⟨n,e4,rfl⟩:=Option.map_eq_some_iff.mp e3
  obtain⟨t,rfl⟩:=P2 (show wC (.inl n) v=true from e2)
  exact⟨t,by rw[az,e4];rfl⟩
 refine wpAny_bind (wpAny_newList ?_ (by lia))
 have hgt:(h'.push {cls:= .type "list",data:= .seq acc.toList.toArray}).get? h'.objs.size=some (seqObj "list" acc.toList.toArray 0):=bJ _ rfl
 refine wpAny_bind (wpAny_holding (wpAny_call_entry slot_list_sort ⟨_,hgt,rfl⟩ entry_list_sort (list_sort_tree hgt hints (by lia) λout ns' h1 h2 h3=> ?_) (args_list_sort _)))
 refine⟨_,rfl,wpAny_pure ⟨_,rfl,?_⟩⟩
 have e:=xK h2 h3
 subst e
 have hln:=h2.length_eq
 have I2:Inv X pins σ H {s with heap:=h',toks:=tk}:=I.kept λb o e=>hk b o e
 have hf:H h'.objs.size=none:=I2.ko.fresh (aI _)
 obtain⟨en,he⟩:=sortedHeap_at (h:=h'.push {cls:= .type "list",data:= .seq acc.toList.toArray}) (a:=h'.objs.size) (vs:=acc.toList) (out:=out) hgt
 refine⟨.ref h'.objs.size,_,I2.laid (t':=tk) (λb o e=>(sortedHeap_old (bA (aU e)) (aU (aP _ e))).trans (aP _ e)) (aI _) (show l9 X.prog X.w _ _ _ (.lst ((oH ns).map V.int)) from ?_),rfl,h _ hf⟩
 exact⟨by rw[aj,hln];exact aH (dU hl) (by decide),out.toList,en,Bi h1,by simpa using he⟩
noncomputable def PH:R2:=λx y H Q=>match x,y with
 | .ref l,.ref b=>(match H l,H b with
  |some (.lst xs),some (.lst zs)=>xs.length+zs.length<=sizeLine/\∀p,H p=none->Q (.ref p) (upd H p (.lst (xs++zs)))
  |_,_=>False)
 |_,_=>False
theorem WY:ux X (binaryOp .Add) PH:=VM.mono λx y H Q h=>by
 unfold PH at h
 split at h
 case h_2=>exact h.elim
 split at h
 case h_2=>exact h.elim
 rename_i xs zs e1 e2
 exact⟨_,_,xs,zs,rfl,rfl,e1,e2,h.1,h.2⟩
noncomputable def PK:R2:=λx y H Q=>match y with
 | .ref a=>(match H a,kJ x with
  |some (.dK kvs),some k=>Q (.bl (mX kvs k).isSome) H
  |_,_=>False)
 |_=>False
noncomputable def we:R2:=λx y H Q=>match y with
 | .ref a=>(match H a,kJ x with
  |some (.dK kvs),some k=>Q (.bl (!(mX kvs k).isSome)) H
  |_,_=>False)
 |_=>False
theorem W4(hu:X.A.units+1<cLine):ux X (compareOp .In) PK:=by
 intro pins s σ H x y v u Q I rx ry h
 unfold PK at h
 split at h
 case h_2=>exact h.elim
 rename_i a
 split at h
 case h_2=>exact h.elim
 rename_i kvs k ea ek
 have ey:=yu ek
 subst ey
 cases (show u=aX a from ry)
 exact Yz hu I (CJ.k ea) rx λs' I'=>⟨.bl _,H,I',rfl,h⟩
theorem QP(hu:X.A.units+1<cLine):ux X (compareOp .NotIn) we:=by
 intro pins s σ H x y v u Q I rx ry h
 unfold we at h
 split at h
 case h_2=>exact h.elim
 rename_i a
 split at h
 case h_2=>exact h.elim
 rename_i kvs k ea ek
 have ey:=yu ek
 subst ey
 cases (show u=aX a from ry)
 exact S9 hu I (CJ.k ea) rx λs' I'=>⟨.bl _,H,I',rfl,h⟩
noncomputable def Jo:List V->Hp->VK->Prop:=λxs H Q=>match xs with
 | [.ref a]=>(match H a with
  |some (.dK kvs)=>Q (.int kvs.length) H
  |_=>False)
 |_=>False
theorem U3:tN X (.builtin "len") Jo:=PM.mono λxs H Q h=>by
 unfold Jo at h
 split at h
 case h_2=>exact h.elim
 split at h
 case h_2=>exact h.elim
 rename_i kvs e
 exact⟨_,kvs,rfl,e,h⟩
end
noncomputable def Jn (td ty:TE):TE:=λσ H Q=>td σ H λx H1=>match x with
 | .ref a=>(match H1 a with
  |some (.dK _)=>ty σ H1 λy H2=>(match H2 a,kJ y with
   |some (.dK kvs),some k=>(match mX kvs k with
    |some v=>Q v (upd H2 a (.dK (C0 kvs k)))
    |none=>False)
   |_,_=>False)
  |_=>False)
 |_=>False
section
variable{X:Cx}{o e:Expr}{td ty:TE}{apos cpos:Pos}
theorem UZ(ho:PE X o td)(he:PE X e ty)(m:M1 X o "pop" apos e cpos):PE X (.Call (.Attribute o "pop" apos) [e] [] cpos) (Jn td ty):=by
 intro pins s σ H Q I h
 refine wpAny_Call_method m.base m.YC m.line eQ gz PySem.F.type_dict_pop (oh (ho pins s σ H _ I h) λu s1 ⟨x,H1,I1,rx,q1⟩=> ?_)
 try dsimp only at q1
 split at q1
 case h_2=>exact q1.elim
 rename_i a
 split at q1
 case h_2=>exact q1.elim
 rename_i kvs0 ea0
 obtain rfl:u=aX a:=rx
 obtain⟨t1,t2,_⟩:=NX I1 (NY ea0)
 refine⟨t1,t2,?_⟩
 rw[m.trees]
 refine df rfl (dC (dM (oh (he pins s1 σ H1 _ I1 q1) λiv s2 ⟨y,H2,I2,ry,q2⟩=>dR ?_)))
 try dsimp only at q2
 split at q2
 case h_2=>exact q2.elim
 rename_i kvs k ea ek
 split at q2
 case h_2=>exact q2.elim
 rename_i v l
 have ey:=yu ek
 subst ey
 exact Xi I2 ea ry l (.inl rfl) λw' s3 I3 rw'=>⟨v,_,I3,rw',q2⟩
end
noncomputable def FU (ta:TA):TE:=λσ H Q=>ta σ H λvs H1=>match vs with
 | [.int i,.int j]=> -(2^62)<=i/\i<2^62/\ -(2^62)<=j/\j<2^62/\(j-i).toNat<=sizeLine/\∀p,H1 p=none->Q (.ref p) (upd H1 p (.lst ((bZ (j-i).toNat).map λt:Nat=>V.int (i+(t:Int)))))
 |_=>False
theorem Nl:∀(l:List Value) (a:Int),(∀(j:Nat) (v:Value),l[j]? =some v->∃t,v= .int (a+j) t)->Vals ((bZ l.length).map λt:Nat=>V.int (a+(t:Int))) l
 | [],_,_=> .nil
 |v::r,a,h=>by
  rw[af,gj,ak,bB]
  obtain⟨t,e⟩:=h 0 v rfl
  refine .cons ⟨t,e⟩ ?_
  have z:=Nl r (a+1) λj w hw=>by
   obtain⟨t,e⟩:=h (j+1) w (by simpa using hw)
   exact⟨t,by rw[e];congr 1;lia⟩
  have ef:((λt:Nat=>V.int (a+t))∘Nat.succ)=λt:Nat=>V.int (a+1+t):=by
   funext t
   show V.int (a+((t+1:Nat):Int))=_
   congr 1;lia
  rw[ef]
  exact z
section
variable{X:Cx}{a b:Expr}{ta:TA}{p pos p2 pos2:Pos}
theorem RL(hc:X.calm=true)(hgl:Gl X "list")(hml:X.mg "list"=none)(hgr:Gl X "range")(hmr:X.mg "range"=none)(ha:PA X [a,b] ta)(hs:starEach [a,b] X.env=[(false,eval a X.env),(false,eval b X.env)]:=by rfl)(hs2:starEach [b] X.env=[(false,eval b X.env)]:=by rfl):
  PE X (.Call (.Name "list" p) [.Call (.Name "range" p2) [a,b] [] pos2] [] pos) (FU ta):=by
 intro pins s σ H Q I h
 refine wpAny_Call_Name_kw (z7 I hgl hml PyProof.Rows.Boot.«list» ?_ (by decide) (by decide))
 refine cy ?_ (qU rfl) (tI rfl)
 rw[qU (e:= .Call (.Name "range" p2) [a,b] [] pos2) (rest:=[]) rfl]
 show wpAny _ _ (spliced ((false,eval (.Call (.Name "range" p2) [a,b] [] pos2) X.env)::backTo pos (starEach [] X.env))) _ _ s
 refine dM (Call_ (z7 I hgr hmr boot_range (cy (oh (ha pos2 pins s σ H _ I h) λus s1 ⟨vs,H1,I1,r1,q1⟩=> ?_) (by rw[hs,hs2]) (by rw[hs2];rfl))))
 try dsimp only at q1
 split at q1
 case h_2=>exact q1.elim
 rename_i i j
 obtain⟨q1,q2,q3,q4,q5,q⟩:=q1
 cases r1 with
 |cons r rr=>
  cases rr with
  |cons r' rr=>
   cases rr
   obtain⟨t,rfl⟩:=r
   obtain⟨t',rfl⟩:=r'
   refine call_range_2 (dR ?_)
   refine call_list_range (I1.ok.hd hc) (iM ..) (small_one q1 q2 q3 q4) (n:=(j-i).toNat) (by rw[rangeSize_one];split<;>lia) (aH q5 (by decide)) λh' tk acc' c' hk he hi=> ?_
   have I2:=I1.kept (h':=s1.heap.push {cls:= .type "range",data:= .fields #[.int i t,.int j t',.int 1 s1.toks]}) (t':=s1.toks+1) λb o e=>aP _ e
   have hl:acc'.toList.length=(j-i).toNat:=by simpa using hi.1
   have vr:=Nl acc'.toList i λk v hv=>by
    obtain⟨tt,e⟩:=hi.2 k v (by simpa using hv)
    exact⟨tt,by rw[e];congr 1;lia⟩
   rw[hl]at vr
   have fr:=I2.ko.fresh (aI _)
   exact⟨.ref _,_,I2.laid (t':=tk) hk (aI _) (show l9 X.prog X.w _ h' _ (.lst ((bZ (j-i).toNat).map λt:Nat=>V.int (i+(t:Int)))) from⟨by rw[aj,dB];exact q5,acc'.toList,c',vr,by simpa using he⟩),rfl,q _ fr⟩
end
end L2
namespace L2
open PySem PySem.Spec PyProof.Rows
section
variable{X:Cx}{pins:List (Addr×Obj)}{σ:St}{H:Hp}{s:Shared}{h':Heap}
theorem Inv.Uh{t':Nat}{it jt:Addr}(I:Inv X pins σ H s)(k:∀b o,b≠it->b≠jt->s.heap.get? b=some o->h'.get? b=some o)(f:DL X pins H it)(g:DL X pins H jt):Inv X pins σ H {s with heap:=h',toks:=t'}:=by
 obtain⟨hn,hL,_,h1,h2,h3⟩:=f
 obtain⟨hn',hL',_,h1',h2',h3'⟩:=g
 have nit:∀b u,H b=some u->b≠it:=λb u e z=>by rw[z,hn]at e;cases e
 have njt:∀b u,H b=some u->b≠jt:=λb u e z=>by rw[z,hn']at e;cases e
 have k':∀b o,b∉ [it,jt]->s.heap.get? b=some o->h'.get? b=some o:=λb o hc e=>k b o (λz=>hc (by simp[z])) (λz=>hc (by simp[z])) e
 refine I.step (g':=s.gens) (d':=s.drawn) (ch:=[it,jt]) (λb hb=> ?_) (λb o _ _ hc e _=>k' b o hc e) (λb o _ _ hc e _=>⟨o.slots,k' b o hc e⟩) (λ_ _ _ _ n=>n)
  (λb o hc e=>⟨o,k' b o hc e⟩) (λ_ _ e=>e) (λ_ _ _ e=>e) (λb ps e=>⟨#[],by rw[e];simp⟩) (λm hm=> ?_) (λb u e=> ?_) I.bare
 ·rcases List.mem_cons.mp hb with rfl|hb
  ·exact⟨h1,hL,h2,h3⟩
  ·rw[bN]at hb
   subst hb
   exact⟨h1',hL',h2',h3'⟩
 ·obtain⟨o,es,ep,ho,r⟩:=hm
  exact⟨o,es,ep,k _ o (aC hL) (aC hL') ho,r⟩
 ·refine(I.ko b u e).zt (λc v hc q=>k c v ?_ ?_ q) (λ_ q=>q) λ_ _ q=>q
  ·rcases hc with z|z
   ·rw[z];exact nit b u e
   ·exact nit c _ z
  ·rcases hc with z|z
   ·rw[z];exact njt b u e
   ·exact njt c _ z
end
noncomputable def X9 (K:aA) (a:Addr):It:=
 ⟨λi H=>∃xs x,mj K H a xs/\xs[i]? =some x,λi H x H'=>∃p y,H p=none/\x= .ref p/\H'=upd H p (.tup [.int i,y])/\∀xs,mj K H a xs->xs[i]? =some y,λi H=>∃xs,mj K H a xs/\xs.length<=i⟩
theorem Ql{P:Program}{w:World}{K:aA}{elts:List Expr}{k:Nat}{pos:Pos}(a e it:Addr)(ne:e≠it):Turn P w K (.Tuple elts k pos) (X9 K a) [e,it] e (λi h=>(∃old,IsEnum h e it (i:Int) old)/\h.IsListIter it a i) where
 mem:=by simp
 obj:=λi h st b hb=>by
  obtain⟨⟨old,en⟩,li⟩:=st
  rcases List.mem_cons.mp hb with rfl|hb
  ·exact⟨_,en,λv z=>by cases z⟩
  ·rw[bN]at hb
   subst hb
   obtain⟨o,e,c,d⟩:=li
   exact⟨o,e,λv z=>by rw[d]at z;cases z⟩
 keep:=λi h h' st k=>by
  obtain⟨⟨old,en⟩,li⟩:=st
  exact⟨⟨old,k e (by simp) _ en⟩,li.at λo e=>k it (by simp) o e⟩
 item:=by
  intro X hP hw hK hc i pins s σ H E I hf st hg
  subst hP hw hK
  obtain⟨xs,x,hq,hx⟩:=hg
  obtain⟨its,rv,p,hz⟩:=I.list hq
  obtain⟨u,hu,ru⟩:=rv.get hx
  obtain⟨⟨old,en⟩,li⟩:=st
  have fe:=hf e (by simp)
  have fi:=hf it (by simp)
  refine wpAny_pyNext_enum_item en li p.isList (x:=u) (by simpa using hu) ne λh' out li' tup sz kp=> ?_
  refine⟨_,rfl,wpAny_letOwnedTupleGo_enum out λh2 en2 sb2=> ?_⟩
  have hT:∀b o,s.heap.get? b=some o->s.heap.objs.size≠b:=λb o eb=>fW (aU eb)
  obtain⟨oe,eE⟩:∃o,s.heap.get? e=some o:=⟨_,en⟩
  obtain⟨oi,eI,_⟩:=id li
  have I1:Inv X pins σ H {s with heap:=h2,toks:=s.toks+1}:=I.Uh (λb o n1 n2 eb=>(sb2.2 b n1).trans (kp b o n1 n2 eb)) fe fi
  have hf0:H s.heap.objs.size=none:=I.ko.fresh (aI _)
  have tup2:h2.get? s.heap.objs.size=some {cls:=gJ "tuple",data:=Data.seq #[dX (↑i) s.toks,u]}:=(sb2.2 _ (hT e oe eE)).trans tup
  have h0:X.s₀.heap.get? s.heap.objs.size=none:=by
   cases z:X.s₀.heap.get? s.heap.objs.size with
   |none=>rfl
   |some o=>exact absurd (aK (aU z) I.sz) (ck _)
  have I2:=I1.adopt (a:=s.heap.objs.size) (o:= .tup [.int i,x]) hf0 ⟨show 2<=sizeLine by decide,[dX (↑i) s.toks,u],.cons ⟨_,rfl⟩ (.cons ru .nil),⟨_,tup2,rfl,_,rfl⟩⟩ h0 (fW I.lt) (λy c ec z=>by
    obtain⟨v,o,eo,_⟩:=I.cell y c ec
    exact hT c o eo z.symm) λp hp z=>hT p.1 p.2 (I.pin p hp).1 z.symm
  refine⟨.ref s.heap.objs.size,_,I2,rfl,⟨_,x,hf0,rfl,rfl,λys hy=>by rw[I.MK hy hq];exact hx⟩,⟨⟨_,by exact_mod_cast en2⟩,?_⟩,λb hb=> ?_⟩
  ·exact li'.at λo eo=>(sb2.2 it (aC ne)).trans eo
  ·have nb:b≠s.heap.objs.size:=by
    rcases List.mem_cons.mp hb with rfl|hb
    ·exact aC (hT _ oe eE)
    ·rw[bN]at hb
     subst hb
     exact aC (hT _ oi eI)
   rw[iW nb]
   exact(hf b hb).1
 done:=by
  intro X hP hw hK hc i pins s σ H E I hf st hg
  subst hP hw hK
  obtain⟨xs,hq,hx⟩:=hg
  obtain⟨its,rv,p,hz⟩:=I.list hq
  obtain⟨⟨old,en⟩,li⟩:=st
  obtain⟨f0,f1,f2,f3,f4,f5⟩:=hf it (by simp)
  have hl:=rv.length
  exact wpAny_pyNext_enum_end (I.ok.hd hc) en li p.isList (by simp;lia) λh' eb=>⟨rfl,I.turned (t':=s.toks) (λb o hb e=>eb b o hb e) f0 f1 f3 f4 f5⟩
 self:=λ_ _ _ _ _ st h=>let ⟨⟨_,en⟩,_⟩:=st;wpAny_pyIter_enum en h
noncomputable def OZ (K:aA) (ta:TA):TI:=λσ H R=>ta σ H λvs H1=>match vs with
 | [.ref a]=>(∃xs,mj K H1 a xs)/\R (X9 K a) H1
 |_=>False
section
variable{X:Cx}
theorem TU{elts:List Expr}{k:Nat}{tpos:Pos}{a:Expr}{ta:TA}{p pos:Pos}(hg:Gl X "enumerate")(hm:X.mg "enumerate"=none)(ha:PA X [a] ta)(hs:starEach [a] X.env=[(false,eval a X.env)]:=by rfl):
  PI X (.Tuple elts k tpos) (.Call (.Name "enumerate" p) [a] [] pos) (OZ X.K ta):=by
 intro pins s σ H R I h
 refine Call_ (z7 I hg hm boot_enumerate (cy (oh (ha pos pins s σ H _ I h) λus s1 ⟨vs,H1,I1,r1,q1⟩=> ?_) hs rfl))
 try dsimp only at q1
 split at q1
 case h_2=>exact q1.elim
 rename_i l
 obtain⟨⟨xs,hq⟩,q⟩:=q1
 cases r1 with
 |cons r rr=>
  cases rr
  cases r
  obtain⟨its,rv,pl,hz⟩:=I1.list hq
  refine call_enumerate_list pl.isList λh' en li sz kp=> ?_
  have I2:Inv X pins σ H1 {s1 with heap:=h'}:=I1.kept (t':=s1.toks) kp
  refine wpAny_pyIter_enum en ?_
  refine⟨s1.heap.objs.size+1,[s1.heap.objs.size+1,s1.heap.objs.size],_,_,H1,rfl,I2,Ql l _ _ (fW (fV _)),⟨⟨_,by exact_mod_cast en⟩,li⟩,λb hb=> ?_,q⟩
  rcases List.mem_cons.mp hb with rfl|hb
  ·exact I1.Q8 (fG _) (I1.ko.fresh (fG _))
  ·rw[bN]at hb
   subst hb
   exact I1.Q8 (aI _) (I1.ko.fresh (aI _))
end
theorem Kj{K:aA}{a:Addr}{xs:List V}{ya:St}{tt:TT}{te:TE}{H:Hp}{Q:VK}(P:Nat->List V->Hp->Prop)(h0:P 0 [] H)(hS:∀i ys H',P i ys H'->mj K H' a xs)(hz:xs.length<=sizeLine)(hlen:∀i ys H',P i ys H'->ys.length<=i)
  (step:∀(i:Nat) x ys H',xs[i]? =some x->P i ys H'->∀p,H' p=none->∀K1:List V->Hp->Prop,(∀ys' H3,P (i+1) ys' H3->K1 ys' H3)->tt (some (.int i)::some x::ya) (upd H' p (.tup [.int i,x])) λb H2=>if b=true then te (some (.int i)::some x::ya) H2 (λy H3=>K1 (ys++[y]) H3) else K1 ys H2)
  (q:∀ys H',P xs.length ys H'->∀l,H' l=none->Q (.ref l) (upd H' l (.lst ys))):Ny K (X9 K a) ya tt te H Q:=by
 refine⟨λi m ys H'=>P i ys H'/\i<=xs.length/\m=xs.length-i,⟨xs.length,h0,cD _,rfl⟩,λi m ys H' ⟨hP,hi,em⟩=> ?_⟩
 refine⟨aH (aH (hlen _ _ _ hP) hi) hz,?_⟩
 have hS':=hS _ _ _ hP
 by_cases z:i<xs.length
 ·have hx:xs[i]? =some xs[i]:=au z
  refine .inr ⟨⟨xs,xs[i],hS',hx⟩,λx H2 ⟨p,y,hp,ex,eH,hy⟩=> ?_⟩
  have ey:y=xs[i]:=by have:=hy xs hS';rw[hx]at this;exact(bg this).symm
  subst ex eH ey
  refine⟨p,_,_,rfl,.inl (.inl iS),?_⟩
  exact step i _ ys H' hx hP p hp (λys' H3=>∃m',m'<m/\(P (i+1) ys' H3/\i+1<=xs.length/\m'=xs.length-(i+1))) λys' H3 h=>⟨_,by omega,h,z,rfl⟩
 ·have e:i=xs.length:=by lia
  subst e
  exact .inl ⟨⟨xs,hS',aI _⟩,q _ _ hP⟩
theorem CY{lo:Int}{n:Nat}{ya:St}{tt:TT}{te:TE}{H:Hp}{Q:VK}(P:Nat->List V->Hp->Prop)(h0:P 0 [] H)(hz:n<=sizeLine)(hlen:∀i ys H',P i ys H'->ys.length<=i)
  (step:∀(i:Nat) ys H',i<n->P i ys H'->∀K1:List V->Hp->Prop,(∀ys' H3,P (i+1) ys' H3->K1 ys' H3)->tt (some (.int (lo+i))::ya) H' λb H2=>if b=true then te (some (.int (lo+i))::ya) H2 (λy H3=>K1 (ys++[y]) H3) else K1 ys H2)
  (q:∀ys H',P n ys H'->∀l,H' l=none->Q (.ref l) (upd H' l (.lst ys))):uN (Sw lo n) ya tt te H Q:=by
 refine⟨λi m ys H'=>P i ys H'/\i<=n/\m=n-i,⟨n,h0,cD _,rfl⟩,λi m ys H' ⟨hP,hi,em⟩=> ?_⟩
 refine⟨aH (aH (hlen _ _ _ hP) hi) hz,?_⟩
 by_cases z:i<n
 ·refine .inr ⟨z,λx H2 ⟨e2,e3⟩=> ?_⟩
  rw[e2,e3]
  exact step i ys H' z hP (λys' H3=>∃m',m'<m/\(P (i+1) ys' H3/\i+1<=n/\m'=n-(i+1))) λys' H3 h=>⟨_,by omega,h,z,rfl⟩
 ·have e:i=n:=by lia
  subst e
  exact .inl ⟨aI _,q _ _ hP⟩
section
variable{X:Cx}
noncomputable def ON:R2:=λx y H Q=>match x,y with
 | .ref a,.ref b=>(match H a,H b with
  |some (.tup xs),some (.tup ys)=>xs≠ []/\ys≠ []/\xs.length+ys.length<=sizeLine/\∀p,H p=none->Q (.ref p) (upd H p (.tup (xs++ys)))
  |_,_=>False)
 |_,_=>False
theorem UX:ux X (binaryOp .Add) ON:=Tz.mono λx y H Q h=>by
 unfold ON at h
 split at h
 case h_2=>exact h.elim
 split at h
 case h_2=>exact h.elim
 rename_i xs zs e1 e2
 exact⟨_,_,xs,zs,rfl,rfl,.of e1,.of e2,h.1,h.2.2.1,λz=>absurd z h.2.1,λ_=>h.2.2.2⟩
theorem U2{K:aA}{e:Expr}{f:Str}{pos:Pos}{ta:TE}(hK:X.K=K)(he:PE X e ta)(hb:attributeBase e f X.env (eval e X.env)=eval e X.env):PE X (.Attribute e f pos) (HW K ta f):=hK▸Ur he hb
end
end L2
namespace L2
open PySem PySem.Spec PyProof.Rows
structure JE(X:Cx)(e:Expr)(t:TE):Prop where
 run:PE X e t
structure JT(X:Cx)(e:Expr)(t:TT):Prop where
 run:PT X e t
structure JW(X:Cx)(e:Expr)(t:TT):Prop where
 run:PW X e t
structure JA(X:Cx)(e:List Expr)(t:TA):Prop where
 run:PA X e t
structure JS(X:Cx)(e:Stmt)(t:TS):Prop where
 run:PS X e t
structure mL(X:Cx)(e:List Stmt)(t:TS):Prop where
 run:NC X e t
structure JG(X:Cx)(e:Expr)(t:TG):Prop where
 run:PG X e t
structure X_(X:Cx)(e:List Expr)(t:Sx):Prop where
 run:WJ X e t
structure JI(X:Cx)(tg e:Expr)(t:TI):Prop where
 run:PI X tg e t
structure JO(X:Cx)(e:Option Expr)(t:TO):Prop where
 run:PO X e t
structure Qs(X:Cx)(e:List Expr)(t:TT):Prop where
 run:L3 X e t
structure Er(X:Cx)(f:Value->Value->Sem Value)(r:R2):Prop where
 run:ux X f r
structure Zj(X:Cx)(f:Value->Sem Value)(r:V->Hp->VK->Prop):Prop where
 run:WO X f r
structure Bo(X:Cx)(f:Value)(r:List V->Hp->VK->Prop):Prop where
 run:tN X f r
structure Yj(X:Cx)(r:R2):Prop where
 run:Wz X r
structure Yk(X:Cx)(r:V->Option Int->Option Int->Hp->VK->Prop):Prop where
 run:Um X r
structure WG(X:Cx)(t:Py):Prop where
 run:SG X t
structure Ya(X:Cx)(id:String)(r:V->List V->Hp->VK->Prop):Prop where
 run:Zk X id r
section
variable{X:Cx}{rest:List Expr}{lo hi:Option Expr}{id T:String}{op:Operator}{st:Stmt}{srest:List Stmt}{hrest:List ExceptHandler}
theorem iQ(i:Nat){x:Str}{pos:Pos}(hN:X.N[i]? =some x:=by rfl)(hv:WB X.env.scope x:=by first|exact gy rfl|exact fu (gy rfl)|exact fu (fu rfl))(hd:(x==("__debug__":Str))=false:=by decide)(hcd:(x==("__classdict__":Str))=false:=by decide):JE X (.Name x pos) (i3 i):=⟨cv i hN hv hd hcd⟩
theorem mv{x:Str}{v:V}{pos:Pos}(h:Gv X.mg x v)(hg:Gl X x:=by rfl)(hd:(x==("__debug__":Str))=false:=by decide):JE X (.Name x pos) (tC v):=⟨XN h hg hd⟩
theorem Fx{x:Str}{T:String}{pos:Pos}(hm:X.mg x=none)(hv:bootBuiltins x=some (.type T))(hg:Gl X x:=by rfl)(hn:x≠"__name__":=by decide)(hd:(x==("__debug__":Str))=false:=by decide):JE X (.Name x pos) (tC (.ty T)):=⟨XR hm hv hg hn hd⟩
theorem sS{j pos}:JE X (.Constant .none j pos) (tC .kT):=⟨VY⟩
theorem rA{b j pos}:JE X (.Constant (.bool b) j pos) (tC (.bl b)):=⟨XM⟩
theorem iU{i j pos}:JE X (.Constant (.int i) j pos) (tC (.int i)):=⟨VW⟩
theorem i5{x j pos}:JE X (.Constant (.str x) j pos) (tC (.str x)):=⟨V1⟩
theorem iY{op:Operator}{r:R2}(ho:Er X (binaryOp op) r)(ha:JE X a ta)(hb:JE X b tb):JE X (.BinOp a op b pos) (ke r ta tb):=⟨XQ ho.run ha.run hb.run⟩
theorem KY{op:UnaryOp}{r:V->Hp->VK->Prop}(ho:Zj X (unaryOp op) r)(ha:JE X a ta):JE X (.UnaryOp op a pos) (WD r ta):=⟨XS ho.run ha.run⟩
theorem Rn(ha:JE X a ta):JE X (.UnaryOp .Not a pos) (Sa ta):=⟨VZ ha.run⟩
theorem Gy(ha:JE X a ta)(hb:JE X (.BoolOp .And (b::rest) pos) tb):JE X (.BoolOp .And (a::b::rest) pos) (Nj ta tb):=⟨VU ha.run hb.run⟩
theorem GA{op}{t:TE}(h:JE X a t):JE X (.BoolOp op [a] pos) t:=⟨V0 h.run⟩
theorem D2{op:CmpOp}{r:R2}(ho:Er X (compareOp op) r)(ha:JE X a ta)(hb:JE X b tb)(hm:behindInMarks op b=false):JE X (.Compare a [op] [b] pos) (ke r ta tb):=⟨TK ho.run ha.run hb.run hm⟩
theorem N5{op op':CmpOp}{r r':R2}(ho:Er X (compareOp op) r)(ho':Er X (compareOp op') r')(ha:JE X a ta)(hb:JE X b tb)(hc:JE X c tc)(hm:lastMarks [op,op'] [b,c]=false:=by with_unfolding_all rfl):JE X (.Compare a [op,op'] [b,c] pos) (OC r r' ta tb tc):=⟨RI ho.run ho'.run ha.run hb.run hc.run hm⟩
theorem lu(h:JA X es t):JE X (.List es pos) (xU t):=⟨VX h.run⟩
theorem vK{x1}(h:JA X es t):JE X (.Tuple es x1 pos) (Jg t):=⟨V2 h.run⟩
theorem mU  :JE X (.Dict [] [] pos) uu:=⟨RK⟩
theorem GB{r:V->Option Int->Option Int->Hp->VK->Prop}(hr:Yk X r)(he:JE X e te)(hl:JO X lo tl)(hu:JO X hi th):JE X (.Subscript e (.Slice lo hi none p2) pos) (X2 r te tl th):=⟨RP hr.run he.run hl.run hu.run⟩
theorem jk(hu:X.A.units+1<cLine)(ho:JE X o td)(hi:JE X i ty)(hs:Qt i):JE X (.Subscript o i pos) (kL td ty):=⟨UY hu ho.run hi.run hs⟩
theorem ky{r:R2}(hr:Yj X r)(ha:JE X a ta)(hb:JE X b tb)(hs:OI b):JE X (.Subscript a b pos) (ke r ta tb):=⟨XO hr.run ha.run hb.run hs⟩
theorem iV(F:jA X.prog X.w X.K X.mg X.base (lG X.prog X.w) ca k f fd ps sp)(hr:ou ca k X.A)(hg:Gl X x)(hm:X.mg x=some (.ref f))(hk:bL X.K (.ref f)=true)(hb:Binds X.K fd ps [])(hx:Exc X E)(ha:JA X (e::es) t)(hdb:(x==("__debug__":Str))=false:=by decide)(h:(e::es).all notStar=true:=by rfl):JE X (.Call (.Name x p) (e::es) [] pos) (i9 sp E t):=⟨RG F hr hg hm hk hb hx ha.run hdb h⟩
theorem rR(M:Mk X.K C f)(F:jA X.prog X.w X.K X.mg X.base (lG X.prog X.w) ca k f fd ps sp)(hr:ou ca (k+1) X.A)(hg:Gl X x)(hm:X.mg x=some (.ref C))(hb:Binds X.K fd ps [])(hx:Exc X E)(ha:JA X (e::es) t)(hdb:(x==("__debug__":Str))=false:=by decide)(h:(e::es).all notStar=true:=by rfl):JE X (.Call (.Name x p) (e::es) [] pos) (rT C sp E t):=⟨RN M F hr hg hm hb hx ha.run hdb h⟩
theorem zZ(M:Mk X.K C f)(F:jA X.prog X.w X.K X.mg X.base (lG X.prog X.w) ca k f fd ps sp)(hr:ou ca (k+1) X.A)(hg:Gl X x)(hm:X.mg x=some (.ref C))(hb:Binds X.K fd ps [])(hx:Exc X E)(hdb:(x==("__debug__":Str))=false:=by decide):JE X (.Call (.Name x p) [] [] pos) (rT C sp E jd):=⟨Qc M F hr hg hm hb hx hdb⟩
theorem jy(hc:Bo X (.builtin id) r)(hg:Gl X x)(hm:X.mg x=none)(hv:bootBuiltins x=some (.builtin id))(ha:JA X (e::es) t)(hn:x≠"__name__":=by decide)(hdb:(x==("__debug__":Str))=false:=by decide)(h:(e::es).all notStar=true:=by rfl):JE X (.Call (.Name x p) (e::es) [] pos) (Bg r t):=⟨Qa hc.run hg hm hv ha.run hn hdb h⟩
theorem qS(hc:Bo X (.type T) r)(hg:Gl X x)(hm:X.mg x=none)(hv:bootBuiltins x=some (.type T))(ha:JA X (e::es) t)(hn:x≠"__name__":=by decide)(hdb:(x==("__debug__":Str))=false:=by decide)(h:(e::es).all notStar=true:=by rfl):JE X (.Call (.Name x p) (e::es) [] pos) (Bg r t):=⟨Oq hc.run hg hm hv ha.run hn hdb h⟩
theorem jr{pl:Sem Bool}(he:JE X o ta)(c:Fh X.K C)(hm:Meth X.K C m f)(F:jA X.prog X.w X.K X.mg X.base (lG X.prog X.w) ca k f fd ps sp)(hr:ou ca k X.A)(hb:Binds X.K fd ps [])(hx:Exc X E)(ha:JA X (e::es) t)(hns:(e::es).all notStar=true:=by rfl)(ht:eval (.Call (.Attribute o m apos) (e::es) [] pos) X.env=(do
   let ov←eval o X.env
   standAt apos.atName
   let (f,first)←holding [ov] (getMethod ov m pl)
   callWith pos f first (backTo pos (starEach (e::es) X.env)) (backToKw pos (keywordEach [] X.env))):=by rfl):JE X (.Call (.Attribute o m apos) (e::es) [] pos) (zG C m sp E ta t):=⟨U6 he.run c hm F hr hb hx ha.run hns ht⟩
theorem kr{pl:Sem Bool}(he:JE X o ta)(c:Fh X.K C)(hm:Meth X.K C m f)(F:jA X.prog X.w X.K X.mg X.base (lG X.prog X.w) ca k f fd ps sp)(hr:ou ca k X.A)(hb:Binds X.K fd ps [])(hx:Exc X E)(ht:eval (.Call (.Attribute o m apos) [] [] pos) X.env=(do
   let ov←eval o X.env
   standAt apos.atName
   let (f,first)←holding [ov] (getMethod ov m pl)
   callWith pos f first (backTo pos (starEach [] X.env)) (backToKw pos (keywordEach [] X.env))):=by rfl):JE X (.Call (.Attribute o m apos) [] [] pos) (zG C m sp E ta jd):=⟨S6 he.run c hm F hr hb hx ht⟩
theorem Cb{id:String}{name:Str}(slot:Slot "list" name id)(hty:typeOf (.builtin id)=pure (.type "method_descriptor"))(hm:Ya X id r)(ho:JE X o to)(ha:JA X (e::es) t)(hns:(e::es).all notStar=true:=by rfl)(hbase:attributeBase o name X.env (eval o X.env)=eval o X.env:=by rfl)(hfew:((backTo cpos (starEach (e::es) X.env)).all (λx=> !x.1)&&(backToKw cpos (keywordEach [] X.env)).all (λx=>x.1.isSome)
   &&decide ((e::es).length+([]:List Keyword).length+(if ([]:List Keyword).isEmpty then 0 else 1)<30))=true:=by rfl) (hline:(apos.endLine==cpos.line)=true:=by rfl):JE X (.Call (.Attribute o name apos) (e::es) [] cpos) (Qq r to t):=⟨Ys slot hty hm.run ho.run ha.run hns hbase hfew hline⟩
theorem i8(he:JE X e ta)(hb:attributeBase e f X.env (eval e X.env)=eval e X.env):JE X (.Attribute e f pos) (HW X.K ta f):=⟨Ur he.run hb⟩
theorem MF{K:aA}{e:Expr}{f:Str}{pos:Pos}{ta:TE}(hK:X.K=K)(he:JE X e ta)(hb:attributeBase e f X.env (eval e X.env)=eval e X.env):JE X (.Attribute e f pos) (HW K ta f):=⟨U2 hK he.run hb⟩
theorem Dg(h:JE X e te):JO X (some e) (Mf te):=⟨U7 h.run⟩
theorem iO  :JA X [] jd:=⟨Om⟩
theorem iN(ha:JE X e te)(hr:JA X es t)(h:notStar e=true:=by rfl):JA X (e::es) (iZ te t):=⟨VS ha.run hr.run h⟩
theorem kH(ha:JT X a tA):JT X (.UnaryOp .Not a pos) (q9 tA):=⟨V9 ha.run⟩
theorem mq{X:Cx}{e:Expr}{t:TT}(h:JW X e t):JT X e t:=⟨PW.pt h.run⟩
theorem jc{op:CmpOp}{r:R2}(ho:Er X (compareOp op) r)(ha:JE X a ta)(hb:JE X b tb)(hm:behindInMarks op b=false):JT X (.Compare a [op] [b] pos) (jC (ke r ta tb)):=⟨T4 ho.run ha.run hb.run hm⟩
theorem jz(ha:JE X a ta)(he:∀whole,isTrue a X.env whole=(do let v←whole;standAt a.pos;holding [v] (truthy v))):JT X a (λσ H Q=>ta σ H λx H'=>∃k,pX X.K x H' k/\Q k H'):=⟨R0 ha.run he⟩
theorem pS(ha:JT X a tA):JW X (.BoolOp .And [a] pos) tA:=⟨T5 ha.run⟩
theorem sT(ha:JT X a tA):JW X (.BoolOp .Or [a] pos) tA:=⟨Wa ha.run⟩
theorem pv(ha:JT X a tA)(hb:JW X (.BoolOp .And (b::rest) pos) tB'):JW X (.BoolOp .And (a::b::rest) pos) (zu tA tB'):=⟨V_ ha.run hb.run⟩
theorem uH(ha:JT X a tA)(hb:JW X (.BoolOp .Or (b::rest) pos) tB'):JW X (.BoolOp .Or (a::b::rest) pos) (Pt tA tB'):=⟨XU ha.run hb.run⟩
theorem jh  :mL X [] kj:=⟨T2⟩
theorem iR(h1:JS X st t):mL X [st] t:=⟨T3 h1.run⟩
theorem iP(h1:JS X st t)(h2:mL X srest u):mL X (st::srest) (jM t u):=⟨RZ h1.run h2.run⟩
theorem jO{i:Nat}{x:Str}(hN:X.N.Nodup)(hi:X.N[i]? =some x)(hx:Loc X.env.scope x)(hf:X.fn x=true∨X.env.scope.names.lookup x=some .local:=by first|exact .inl rfl|exact .inr rfl|assumption):JG X (.Name x pos) (jq i):=⟨Fy hN hi hx hf⟩
theorem jf(he:JE X e te):JS X (.Return (some e) pos) (kU te):=⟨V7 he.run⟩
theorem P0  :JS X (.Return none pos) Sb:=⟨T1⟩
theorem i6(he:JE X e te)(hs:swapsWith e none pos.line X.env=pure false:=by rfl):JS X (.Expr e pos) (jB te):=⟨TY he.run hs⟩
theorem jo{c:Expr}{a b:List Stmt}{tc:TT}(hc:JT X c tc)(ha:mL X a t)(hb:mL X b u):JS X (.If c a b pos) (kM tc t u):=⟨XT hc.run ha.run hb.run⟩
theorem ji{i:Nat}{x:Str}{e:Expr}{te:TE}{pos':Pos}(hN:X.N.Nodup)(hi:X.N[i]? =some x)(hx:Loc X.env.scope x)(he:JE X e te)(hs:swapsWith e (some (.Name x pos')) pos.line X.env=pure false:=by rfl)(hf:X.fn x=true∨X.env.scope.names.lookup x=some .local:=by first|exact .inl rfl|exact .inr rfl|assumption):JS X (.Assign [.Name x pos'] e pos) (jX te (jq i)):=⟨V8 hN hi hx he.run hs hf⟩
theorem kG(ha:JE X o ta)(hv:JE X value tv)(hs:swapsWith value (some (.Attribute o f pos')) pos.line X.env=pure false):JS X (.Assign [.Attribute o f pos'] value pos) (rW X.K ta tv f):=⟨U8 ha.run hv.run hs⟩
theorem mi(hu:X.A.units+1<cLine)(ho:JE X o td)(hi:JE X i ty)(hv:JE X value tv)(hs:swapsWith value (some (.Subscript o i pos')) pos.line X.env=pure false):JS X (.Assign [.Subscript o i pos'] value pos) (sN td ty tv):=⟨U0 hu ho.run hi.run hv.run hs⟩
theorem uT{tg e:Expr}{te:TE}{g:TG}(he:JE X e te)(hg:JG X tg g)(hs:swapsWithSole [tg] e pos.line X.env=pure false:=by rfl)(hw:swappedStores [tg] e X.env=pure none:=by rfl)(h1:(assignEach [tg] X.env).map (·.2)=[assign tg X.env]:=by rfl):JS X (.Assign [tg] e pos) (jX te g):=⟨V5 he.run hg.run hs hw h1⟩
theorem uS{o i:Expr}{to ti:TE}{t:Py}(ho:JE X o to)(hi:JE X i ti)(hs:WG X t)(ha:∀v,assign (.Subscript o i pos) X.env v=(do
   let ov←holding [v] (eval o X.env)
   let iv←holding [v,ov] (eval i X.env)
   standAt pos
   holding [v,ov,iv] (setItem ov iv v)
   release [v,ov,iv] []):=by intro _;rfl):JG X (.Subscript o i pos) (E4 to ti t):=⟨V3 ho.run hi.run hs.run ha⟩
theorem jH(hx:Exc X E)(hg:Gl X x)(hm:X.mg x=some (.ref C))(hq:CK X.K C)(hc:X.calm=true)(ha:JA X (e::es) t)(h:(e::es).all notStar=true:=by rfl)(hdb:(x==("__debug__":Str))=false:=by decide):JS X (.Raise (some (.Call (.Name x np) (e::es) [] cpos)) none pos) (kO C E t):=⟨Qg hx hg hm hq hc ha.run h hdb⟩
theorem oY{a:Expr}{ta:TA}{p pos:Pos}(hg:Gl X "range")(hm:X.mg "range"=none)(ha:JA X [a] ta)(hs:starEach [a] X.env=[(false,eval a X.env)]:=by rfl):JI X tg (.Call (.Name "range" p) [a] [] pos) (zY ta):=⟨Qd hg hm ha.run hs⟩
theorem MH{a b:Expr}{ta:TA}{p pos:Pos}(hg:Gl X "range")(hm:X.mg "range"=none)(ha:JA X [a,b] ta)(hs:starEach [a,b] X.env=[(false,eval a X.env),(false,eval b X.env)]:=by rfl)(hs2:starEach [b] X.env=[(false,eval b X.env)]:=by rfl):JI X tg (.Call (.Name "range" p) [a,b] [] pos) (Rj ta):=⟨Qe hg hm ha.run hs hs2⟩
theorem D3  :X_ X [] Td:=⟨Pd⟩
theorem rS{e:Expr}{es:List Expr}{t:TG}{u:Sx}(h1:JG X e t)(h2:X_ X es u)(hs:(assignEach (e::es) X.env).map (·.2)=assign e X.env::(assignEach es X.env).map (·.2):=by rfl):X_ X (e::es) (Gh t u):=⟨G_ h1.run h2.run hs⟩
theorem kx{l:Expr}{tl:TE}(hl:JE X l tl):JI X tg l (qj X.K tl):=⟨TV hl.run⟩
theorem JD{elts:List Expr}{k:Nat}{tpos:Pos}{a:Expr}{ta:TA}{p pos:Pos}(hg:Gl X "enumerate")(hm:X.mg "enumerate"=none)(ha:JA X [a] ta)(hs:starEach [a] X.env=[(false,eval a X.env)]:=by rfl):JI X (.Tuple elts k tpos) (.Call (.Name "enumerate" p) [a] [] pos) (OZ X.K ta):=⟨TU hg hm ha.run hs⟩
theorem k7{iter:Expr}{body:List Stmt}{wi:TI}{g:TG}{tb:TS}{pos:Pos}(hp:PassesOwn (model X.prog X.w) X.A X.env X.xe)(hc:X.calm=true)(hi:JI X tg iter wi)(hg:JG X tg g)(hb:mL X body tb)(hs:∀x,foldedSetIterable iter X.env x=pure x:=by intro _;rfl):JS X (.For tg iter body [] pos) (Wm wi g tb):=⟨V6 hp hc hi.run hg.run hb.run hs⟩
theorem pR{x:Str}{elt iter:Expr}{px pos:Pos}{ifs:List Expr}{wi:TI}{tt:TT}{te:TE}(S:uZ fsc scope [x] N2)(hf:X.env.scope=fsc)(hjs:js.map (λj=>X.N[j]?)=N2.map some)(hc:X.calm=true)(hi:JI X (.Name x px) iter wi)(ht:∀s H C ex,Qs (X.Fm scope (x::N2) [x] s H C ex) ifs tt)(he:∀s H C ex,JE (X.Fm scope (x::N2) [x] s H C ex) elt te)(hs:∀v,foldedSetIterable iter X.env v=pure v:=by intro _;rfl):JE X (.ListComp elt [⟨.Name x px,iter,ifs,0⟩] scope pos) (tJ js wi tt te):=⟨TL S hf hjs hc hi.run (λs H C ex=>(ht s H C ex).run) (λs H C ex=>(he s H C ex).run) hs⟩
theorem N6{x1 x2:Str}{elt iter:Expr}{p1 p2 pt pos:Pos}{k:Nat}{ifs:List Expr}{wi:TI}{tt:TT}{te:TE}(S:uZ fsc scope [x1,x2] N2)(hf:X.env.scope=fsc)(hjs:js.map (λj=>X.N[j]?)=N2.map some)(hc:X.calm=true)(hi:JI X (.Tuple [.Name x1 p1,.Name x2 p2] k pt) iter wi)(ht:∀s H C ex,Qs (X.Fm scope (x1::x2::N2) [x1,x2] s H C ex) ifs tt)(he:∀s H C ex,JE (X.Fm scope (x1::x2::N2) [x1,x2] s H C ex) elt te)(hs:∀v,foldedSetIterable iter X.env v=pure v:=by intro _;rfl):JE X (.ListComp elt [⟨.Tuple [.Name x1 p1,.Name x2 p2] k pt,iter,ifs,0⟩] scope pos) (OD X.K js wi tt te):=⟨RJ S hf hjs hc hi.run (λs H C ex=>(ht s H C ex).run) (λs H C ex=>(he s H C ex).run) hs⟩
theorem vd{x:Str}{elt iter:Expr}{px py pos spos:Pos}{ifs:List Expr}{wi:TI}{tt:TT}{te:TE}{i:Nat}{y:Str}(hN:X.N.Nodup)(hy:X.N[i]? =some y)(hl:Loc X.env.scope y)(S:uZ fsc scope [x] N2)(hf:X.env.scope=fsc)(hjs:js.map (λj=>X.N[j]?)=N2.map some)(hc:X.calm=true)(hi:JI X (.Name x px) iter wi)(ht:∀s H C ex,Qs (X.Fm scope (x::N2) [x] s H C ex) ifs tt)(he:∀s H C ex,JE (X.Fm scope (x::N2) [x] s H C ex) elt te)(hs:∀v,foldedSetIterable iter X.env v=pure v:=by intro _;rfl)(hsw:swapsWith (.ListComp elt [⟨.Name x px,iter,ifs,0⟩] scope pos) (some (.Name y py)) spos.line X.env=pure true:=by rfl)(hfn:X.fn y=true∨X.env.scope.names.lookup y=some .local:=by first|exact .inl rfl|exact .inr rfl|assumption):JS X (.Assign [.Name y py] (.ListComp elt [⟨.Name x px,iter,ifs,0⟩] scope pos) spos) (jX (tJ js wi tt te) (jq i)):=⟨Ou hN hy hl S hf hjs hc hi.run (λs H C ex=>(ht s H C ex).run) (λs H C ex=>(he s H C ex).run) hs hsw hfn⟩
theorem GC{es:List Expr}{k:Nat}{t:Sx}{n:Nat}(hc:X.calm=true)(h:X_ X es t)(hn:(assignEach es X.env).length=n:=by rfl)(hst:(assignEach es X.env).findIdx? (·.1)=none:=by rfl):JG X (.Tuple es k pos) (Te X.K n t):=⟨RS hc h.run hn hst⟩
theorem uk{X:Cx}:Qs X [] OE:=⟨RU⟩
theorem pe{X:Cx}{c:Expr}{tt:TT}(h:JT X c tt):Qs X [c] tt:=⟨RV h.run⟩
theorem jv  :Er X (binaryOp .Add) mP:=⟨WW⟩
theorem qR  :Er X (binaryOp .Sub) B0:=⟨Xg⟩
theorem uG  :Er X (binaryOp .Mult) EX:=⟨W8⟩
theorem j3  :Er X (binaryOp .FloorDiv) m8:=⟨U1⟩
theorem kf  :Er X (binaryOp .Mod) rE:=⟨W7⟩
theorem Gx  :Er X (compareOp .Lt) SA:=⟨Yx⟩
theorem Cd  :Er X (compareOp .LtE) UW:=⟨Yw⟩
theorem Cc  :Er X (compareOp .Gt) OO:=⟨Yt⟩
theorem rQ  :Er X (compareOp .Eq) Md:=⟨WZ⟩
theorem N3  :Er X (compareOp .NotEq) Uq:=⟨W9⟩
theorem N1  :Er X (compareOp .Is) Up:=⟨Yu⟩
theorem JC  :Er X (compareOp .IsNot) BX:=⟨S5⟩
theorem KW  :Zj X (unaryOp .USub) NL:=⟨Xb⟩
theorem O5  :Er X (binaryOp .Mult) QK:=⟨Xd⟩
theorem lP  :Yj X DO:=⟨Yv⟩
theorem Tn  :Yj X (SY X.K):=⟨W5⟩
theorem qQ  :Bo X (.builtin "len") zF:=⟨W6⟩
theorem Rm  :Bo X (.builtin "len") (OP X.K):=⟨U4⟩
theorem yt{X:Cx}:Bo X (.builtin "isinstance") (R1 X.K):=⟨QS⟩
theorem Vk  :Yk X WV:=⟨Yy⟩
theorem Tp  :Yk X (S1 X.K):=⟨Xf⟩
theorem wA  :WG X xD:=⟨Xe⟩
theorem rP  :Ya X "list.append" sL:=⟨QL⟩
theorem MG  :Bo X (.type "list") Me:=⟨U5⟩
theorem Ba(hu:X.A.units+8<cLine):Er X (compareOp .Eq) zE:=⟨QO hu⟩
theorem sR(hu:X.A.units+8<cLine):Er X (compareOp .NotEq) BY:=⟨W_ hu⟩
theorem Cg{c:Expr}{body:List Stmt}{tc:TT}{tb:TS}(hp:PassesOwn (model X.prog X.w) X.A X.env X.xe)(hc:JT X c tc)(hb:mL X body tb):JS X (.While c body [] pos) (Se tc tb):=⟨RY hp hc.run hb.run⟩
theorem KS  :Er X (binaryOp .Add) PH:=⟨WY⟩
theorem N7(hc:X.calm=true)(hgl:Gl X "list")(hml:X.mg "list"=none)(hgr:Gl X "range")(hmr:X.mg "range"=none)(ha:JA X [a,b] ta)(hs:starEach [a,b] X.env=[(false,eval a X.env),(false,eval b X.env)]:=by rfl)(hs2:starEach [b] X.env=[(false,eval b X.env)]:=by rfl):JE X (.Call (.Name "list" p) [.Call (.Name "range" p2) [a,b] [] pos2] [] pos) (FU ta):=⟨RL hc hgl hml hgr hmr ha.run hs hs2⟩
theorem O4(hu:X.A.units+1<cLine):Er X (compareOp .In) PK:=⟨W4 hu⟩
theorem Ce(hu:X.A.units+1<cLine):Er X (compareOp .NotIn) we:=⟨QP hu⟩
theorem ME(ho:JE X o td)(he:JE X e ty)(m:M1 X o "pop" apos e cpos):JE X (.Call (.Attribute o "pop" apos) [e] [] cpos) (Jn td ty):=⟨UZ ho.run he.run m⟩
theorem Gw  :Bo X (.builtin "len") Jo:=⟨U3⟩
theorem Cf  :Bo X (.builtin "sorted") A3:=⟨QR⟩
theorem ED(hc:X.calm=true):Bo X (.builtin "sorted") zH:=⟨PL hc⟩
theorem Rl  :Er X (binaryOp .Add) ON:=⟨UX⟩
end
section
variable{X:Cx}{scope:Scope}{N2:List Str}{x:List Str}{s:Shared}{Hb:Hp}{C:Addr}{ex:List Addr}
end
end L2
namespace L2
open PySem PySem.Spec PyProof.Rows
variable{X:Cx}
noncomputable def Kf (td ty:TE):TE:=λσ H Q=>td σ H λx H1=>match x with
 | .ref a=>(match H1 a with
  |some (.dK _)=>ty σ H1 λy H2=>(match H2 a,kJ y with
   |some (.dK kvs),some k=>Q ((mX kvs k).getD .kT) H2
   |_,_=>False)
  |_=>False)
 |_=>False
theorem S2{o e:Expr}{apos cpos:Pos}{td ty:TE}(hu:X.A.units+1<cLine)(ho:PE X o td)(he:PE X e ty)(m:M1 X o "get" apos e cpos):PE X (.Call (.Attribute o "get" apos) [e] [] cpos) (Kf td ty):=by
 intro pins s σ H Q I h
 refine wpAny_Call_method m.base m.YC m.line eQ du gA (oh (ho pins s σ H _ I h) λu s1 ⟨x,H1,I1,rx,q1⟩=> ?_)
 try dsimp only at q1
 split at q1
 case h_2=>exact q1.elim
 rename_i a
 split at q1
 case h_2=>exact q1.elim
 rename_i kvs0 ea
 obtain rfl:u=aX a:=rx
 obtain⟨t1,t2,_⟩:=NX I1 (NY ea)
 refine⟨t1,t2,?_⟩
 rw[m.trees]
 refine df rfl (dC (dM (oh (he pins s1 σ H1 _ I1 q1) λiv s2 ⟨y,H2,I2,ry,q2⟩=>dR ?_)))
 try dsimp only at q2
 split at q2
 case h_2=>exact q2.elim
 rename_i kvs k e2 ek
 have ey:=yu ek
 subst ey
 exact QV hu I2 (CJ.k e2) ry λw' s3 I3 rw'=>⟨_,H2,I3,rw',q2⟩
theorem JB{o e:Expr}{apos cpos:Pos}{td ty:TE}(hu:X.A.units+1<cLine)(ho:JE X o td)(he:JE X e ty)(m:M1 X o "get" apos e cpos):JE X (.Call (.Attribute o "get" apos) [e] [] cpos) (Kf td ty):=⟨S2 hu ho.run he.run m⟩
end L2
namespace L2
open PySem PySem.Spec PyProof.Rows
section
variable{X:Cx}{pins:List (Addr×Obj)}{σ:St}{H:Hp}{s:Shared}{h':Heap}
end
section
variable{X:Cx}
end
noncomputable def NK:R2:=λx y H Q=>match x,y with
 | .ref a,.ref b=>(match H a,H b with
  |some (.dK ka),some (.dK [])=>Q (.bl ka.isEmpty) H
  |_,_=>zE (.ref a) (.ref b) H Q)
 | .bl a,.int b=>Q (.bl ((if a then 1 else 0)==b)) H
 |x,y=>zE x y H Q
theorem W2{X:Cx}(hu:X.A.units+8<cLine):ux X (compareOp .Eq) NK:=by
 intro pins s σ H x y v u Q I rx ry h
 unfold NK at h
 split at h
 ·rename_i a b
  split at h
  ·rename_i ka ea eb
   cases (show v=aX a from rx)
   cases (show u=aX b from ry)
   obtain⟨z,hd,vs,rel,dd⟩:=FZ I.ko ea
   obtain⟨z2,hd2,vs2,rel2,dd2⟩:=FZ I.ko eb
   have l1:=rel.length
   have l2:=rel2.length
   have e2:vs2=[]:=List.length_eq_zero_iff.mp l2.symm
   subst e2
   refine PySem.W.keq_eq (r:=true) hd hd2 dd dd2 (by lia) (λe=> ?_) ⟨.bl _,H,I,rfl,?_⟩
   ·have:vs=[]:=List.length_eq_zero_iff.mp e
    subst this;exact .nil
   ·have e:(vs.length==([]:List (Key×Value)).length&&true)=ka.isEmpty:=by
     rw[←l1,Bool.and_true];cases ka<;>rfl
    rw[e];exact h
  ·exact QO hu pins s σ H _ _ v u Q I rx ry h
 ·obtain⟨t,rfl⟩:=ry
  cases rx
  exact iH ⟨.bl _,H,I,rfl,h⟩
 ·exact QO hu pins s σ H _ _ v u Q I rx ry h
theorem KU{X:Cx}(hu:X.A.units+8<cLine):Er X (compareOp .Eq) NK:=⟨W2 hu⟩
end L2
namespace L2
open PySem PySem.Spec PyProof.Rows
section
variable{X:Cx}{pins:List (Addr×Obj)}{σ:St}{H:Hp}{s:Shared}{d:Addr}{kvs:List (Key×V)}
theorem Wr{fs ex:List Addr}{H0 H:Hp}{h h':Heap}{u v:HO}(n:Un fs ex H0 H h h')(e:H d=some u)(h1:∀xs,u≠ .tup xs)(h2:∀o x,H0 d≠some (.rN o x))(h3:∀ps,u≠ .CB ps):Un fs ex H0 (upd H d v) h h' where
 keep:=n.keep
 slot:=n.slot
 there:=n.there
 free:=λb o e1 e2 e3=>by
  have:=n.free b o e1 e2 e3
  rw[iW (aC (iT e this))];exact this
 AX:=λb xs e1=>by
  have:=n.AX b xs e1
  rw[iW (λz=>by subst z;rw[e]at this;exact h1 _ (bg this))];exact this
 xG:=λb o x e1=>by
  have:=n.xG b o x e1
  rw[iW (λz=>by subst z;exact h2 _ _ e1)];exact this
 zv:=λb ps e1=>by
  obtain⟨m,this⟩:=n.zv b ps e1
  exact⟨m,by rw[iW (λz=>by subst z;rw[e]at this;exact h3 _ (bg this))];exact this⟩
theorem O1{u v:HO}(I:Inv X pins σ H s)(e:H d=some u)(h1:∀xs,u≠ .tup xs)(h2:∀o x,X.H₀ d≠some (.rN o x))(h3:∀ps,u≠ .CB ps)(h4:∀a,u≠ .own a)
  (ok:l9 X.prog X.w (upd H d v) s.heap d v):Inv X pins σ (upd H d v) s where
 ok:=I.ok
 os:=I.os
 bare:=I.bare
 base:=Wr I.base e h1 h2 h3
 loc:=I.loc
 cell:=I.cell
 free:=by rw[iW (aC (iT e I.free))];exact I.free
 tP:=λx c hc=>by rw[iW (aC (iT e (I.tP x c hc)))];exact I.tP x c hc
 pin:=λp hp=>by
  obtain⟨a1,a2,a3⟩:=I.pin p hp
  exact⟨a1,by rw[iW (aC (iT e a2))];exact a2,a3⟩
 len:=I.len
 ko:=λb o eb=>by
  by_cases z:b=d
  ·subst z;rw[iS]at eb;cases eb;exact ok
  ·rw[iW z]at eb
   exact(I.ko b o eb).zt (λ_ _ _ q=>q) (λc q=>by rw[iW (λz=>by subst z;rw[e]at q;exact h4 _ (bg q))];exact q) λc xs q=>by rw[iW (λz=>by subst z;rw[e]at q;exact h1 _ (bg q))];exact q
theorem Tg(I:Inv X pins σ H s)(e:H d=some (.dK kvs)):(∀o x,X.H₀ d≠some (.rN o x))/\∃o,Inv X pins σ (upd H d (.rN o (.dK kvs))) s:=by
 have h2:∀o x,X.H₀ d≠some (.rN o x):=λo x z=>by have:=I.base.xG d o x z;rw[e]at this;cases this
 have ok:l9 X.prog X.w H s.heap d (.dK kvs):=I.ko d _ e
 obtain⟨z,y,vs,r,ob,es,ep,q0⟩:=id ok
 refine⟨h2,ob,O1 I e (λ_ z=>by cases z) h2 (λ_ z=>by cases z) (λ_ z=>by cases z) ⟨q0.1,?_⟩⟩
 exact ok.zt (λ_ _ _ q=>q) (λc q=>by rw[iW (λz=>by subst z;rw[e]at q;cases q)];exact q) λc xs q=>by rw[iW (λz=>by subst z;rw[e]at q;cases q)];exact q
theorem Df{o:Obj}(I:Inv X pins σ H s)(h2:∀o x,X.H₀ d≠some (.rN o x))(e:H d=some (.rN o (.dK kvs))):Inv X pins σ (upd H d (.dK kvs)) s:=by
 have ok:=(I.ko d _ e).2
 exact O1 I e (λ_ z=>by cases z) h2 (λ_ z=>by cases z) (λ_ z=>by cases z) (ok.zt (λ_ _ _ q=>q) (λc q=>by rw[iW (λz=>by subst z;rw[e]at q;cases q)];exact q) λc xs q=>by rw[iW (λz=>by subst z;rw[e]at q;cases q)];exact q)
end
section
variable{X:Cx}
noncomputable def WE (d:Addr) (o:Obj) (kvs:List (Key×V)):It:=
 ⟨λi H=>H d=some (.rN o (.dK kvs))/\i<kvs.length,λi H x H'=>H'=H/\∃kv,kvs[i]? =some kv/\x=kV kv.1,λi H=>H d=some (.rN o (.dK kvs))/\kvs.length<=i⟩
theorem Vi{P:Program}{w:World}{k:Key}{u:Value}(h:(jT P w).is k u=true):RelV (kV k) u:=by
 rcases kR (show wC k u=true from h) with ⟨i,t,rfl,rfl⟩|⟨x,t,rfl,rfl⟩
 ·exact⟨t,rfl⟩
 ·exact⟨t,rfl⟩
theorem Qk{P:Program}{w:World}{K:aA}{tg:Expr}{o:Obj}{kvs:List (Key×V)}{n ep:Nat}(d it:Addr)(hn:n=kvs.length)(hep:∃es,o.data= .dict es ep):Turn P w K tg (WE d o kvs) [it] it (λi h=>h.IsKeyIter it d i n ep) where
 mem:=by simp
 obj:=λi h st b hb=>by
  have e:b=it:=by simpa using hb
  subst e
  obtain⟨o,e,c,d⟩:=st
  exact⟨o,e,λv z=>by rw[d]at z;cases z⟩
 keep:=λi h h' st k=>by
  obtain⟨o,e,c⟩:=st
  exact⟨o,k it (by simp) o e,c⟩
 item:=by
  intro X hP hw hK hc i pins s σ H E I hf st hg
  subst hP hw hK
  obtain⟨e,hi⟩:=hg
  obtain⟨g0,z,y,vs,r,ob,es,ep',g1,g2,g3,g4⟩:=I.ko d _ e
  rw[g0]at g1
  cases g1
  obtain⟨es0,he0⟩:=hep
  rw[he0]at g3
  cases g3
  have hl:=r.length
  have da:fF (jT X.prog X.w) s.heap d vs ep:=⟨o,_,g0,g2,he0,g4⟩
  obtain⟨f0,f1,f2,f3,f4,f5⟩:=hf it (by simp)
  have ev:vs[i]? =some (vs[i]'(by lia)):=au (by lia)
  have ek:kvs[i]? =some (kvs[i]'(by omega)):=au (by omega)
  have hk:(kvs[i]'(by omega)).1=(vs[i]'(by lia)).1:=by
   have:=congrArg (λl=>l[i]?) r.keys
   simp only[aS,ev,ek,bG]at this
   exact bg this
  refine wpAny_pyNext_dict_item (knd:=jT X.prog X.w) (k:=(vs[i]'(by lia)).1) (v:=(vs[i]'(by lia)).2) (by rw[←hl,←hn];exact st) da ev λkey h' hkey st' sb=> ?_
  have I1:Inv X pins σ H {s with heap:=h'}:=I.turned (t':=s.toks) (λb o hb e=>(sb.2 b hb).trans e) f0 f1 f3 f4 f5
  obtain⟨o',e',c',d'⟩:=id st'
  exact⟨key,rfl,Rf (s:={s with heap:=h'}) e' c' d' (by decide) ⟨_,H,I1,Vi (P:=X.prog) (w:=X.w) hkey,⟨rfl,_,ek,by rw[hk]⟩,by rw[hn,hl];exact st',λb hb=>(hf b hb).1⟩⟩
 done:=by
  intro X hP hw hK hc i pins s σ H E I hf st hg
  subst hP hw hK
  obtain⟨e,hi⟩:=hg
  obtain⟨g0,z,y,vs,r,ob,es,ep',g1,g2,g3,g4⟩:=I.ko d _ e
  rw[g0]at g1
  cases g1
  obtain⟨es0,he0⟩:=hep
  rw[he0]at g3
  cases g3
  have hl:=r.length
  have da:fF (jT X.prog X.w) s.heap d vs ep:=⟨o,_,g0,g2,he0,g4⟩
  obtain⟨f0,f1,f2,f3,f4,f5⟩:=hf it (by simp)
  exact wpAny_pyNext_dict_end (knd:=jT X.prog X.w) (I.ok.hd hc) (by rw[←hl,←hn];exact st) da (bQ (by lia)) λh' eb=>⟨rfl,I.turned (t':=s.toks) (λb o hb e=>eb b o hb e) f0 f1 f3 f4 f5⟩
 self:=λ_ _ _ _ _ st h=>wpAny_pyIter_keyiter st h
noncomputable def Ca (tl:TE):TI:=λσ H R=>tl σ H λx H1=>match x with
 | .ref d=>(match H1 d with
  |some (.rN o (.dK kvs))=>R (WE d o kvs) H1
  |_=>False)
 |_=>False
theorem RT{tg l:Expr}{tl:TE}(hl:PE X l tl):PI X tg l (Ca tl):=by
 intro pins s σ H R I h
 refine oh (hl pins s σ H _ I h) λv s1 ⟨x,H1,I1,r1,q1⟩=> ?_
 try dsimp only at q1
 split at q1
 case h_2=>exact q1.elim
 rename_i d
 split at q1
 case h_2=>exact q1.elim
 rename_i o kvs e
 cases (show v=aX d from r1)
 obtain⟨g0,z,y,vs,r,ob,es,ep,g1,g2,g3,g4⟩:=I1.ko d _ e
 rw[g0]at g1
 cases g1
 have hl':=r.length
 have da:fF (jT X.prog X.w) s1.heap d vs ep:=⟨o,es,g0,g2,g3,g4⟩
 refine wpAny_pyIter_dict (knd:=jT X.prog X.w) y da ?_
 refine⟨s1.heap.objs.size,[s1.heap.objs.size],_,_,H1,rfl,I1.kept (t':=s1.toks) λb o e=>aP _ e,Qk (n:=vs.length) d _ hl'.symm ⟨es,g3⟩,⟨_,bJ _ rfl,rfl,rfl⟩,λb hb=> ?_,q1⟩
 have e:b=s1.heap.objs.size:=by simpa using hb
 subst e
 exact I1.Q8 (aI _) (I1.ko.fresh (aI _))
theorem lA.dict{d:Addr}{o:Obj}{kvs:List (Key×V)}{g:TG}{tb:TS}{D:Ends}{σ:St}{H:Hp}(Pv:Nat->St->Hp->Prop)(h0:Pv 0 σ H)(hl:∀i σ H,i<=kvs.length->Pv i σ H->H d=some (.rN o (.dK kvs)))
  (hs:∀i kv σ H,kvs[i]? =some kv->Pv i σ H->g (kV kv.1) σ H λσ2 H2=>tb {D with nx:=Pv (i+1),ct:=Pv (i+1),bk:=D.nx} σ2 H2) (hd:∀σ H,Pv kvs.length σ H->D.nx σ H):lA (WE d o kvs) g tb D σ H:=by
 refine⟨λi m σ H=>m+i=kvs.length/\Pv i σ H,⟨kvs.length,by lia,h0⟩,?_⟩
 rintro i m σ H ⟨hm,hP⟩
 by_cases z:i<kvs.length
 ·refine .inr ⟨⟨hl i σ H (by lia) hP,z⟩,Pv (i+1),λσ' H' hN=>⟨kvs.length-(i+1),by omega,by omega,hN⟩,?_⟩
  rintro x H' ⟨rfl,kv,hkv,rfl⟩
  exact hs i kv σ _ hkv hP
 ·have e:i=kvs.length:=by lia
  subst e
  exact .inl ⟨⟨hl _ σ H (aI _) hP,aI _⟩,hd σ H hP⟩
noncomputable def zD (td ty:TE):TE:=λσ H Q=>td σ H λx H1=>ty σ H1 λy H2=>match x with
 | .ref a=>(match H2 a,kJ y with
  |some (.rN _ (.dK kvs)),some k=>(match mX kvs k with
   |some v=>Q v H2
   |none=>False)
  |_,_=>False)
 |_=>False
theorem S4{o i:Expr}{td ty:TE}{pos:Pos}(hu:X.A.units+1<cLine)(ho:PE X o td)(hi:PE X i ty)(hs:Qt i):PE X (.Subscript o i pos) (zD td ty):=by
 intro pins s σ H Q I h
 refine Pq PySem.F.slot_dict_getitem.lookup hs (oh (ho pins s σ H _ I h) λu s1 ⟨x,H1,I1,rx,q1⟩=>oh (hi pins s1 σ H1 _ I1 q1) λiv s2 ⟨y,H2,I2,ry,q2⟩=> ?_)
 try dsimp only at q2
 split at q2
 case h_2=>exact q2.elim
 rename_i a _
 split at q2
 case h_2=>exact q2.elim
 rename_i ob kvs k ea ek
 split at q2
 case h_2=>exact q2.elim
 rename_i v ev
 have ey:=yu ek
 subst ey
 obtain rfl:u=aX a:=rx
 have g:CJ H2 a (kV k) (some v):= .inl ⟨kvs,k,.inr ⟨_,ea⟩,rfl,ev.symm⟩
 exact⟨Ez I2 g,Jr hu I2 g ry λw' s3 I3 rw'=>⟨v,H2,I3,rw',q2⟩⟩
theorem uj{o i:Expr}{td ty:TE}{pos:Pos}(hu:X.A.units+1<cLine)(ho:JE X o td)(hi:JE X i ty)(hs:Qt i):JE X (.Subscript o i pos) (zD td ty):=⟨S4 hu ho.run hi.run hs⟩
theorem vL{tg l:Expr}{tl:TE}(hl:JE X l tl):JI X tg l (Ca tl):=⟨RT hl.run⟩
end
end L2
namespace L2
open PySem PySem.Spec PyProof.Rows
section
variable{X:Cx}
structure Yb(X:Cx)(pos:Pos)(keys:List (Option Expr))(values:List Expr)(trs:List (TE×TE)):Prop where
 run:WK X pos keys values trs
theorem PZ{pos:Pos}:Yb X pos [] [] []:=⟨TX⟩
theorem vM{pos:Pos}{k v:Expr}{ks:List (Option Expr)}{vs:List Expr}{tk tv:TE}{trs:List (TE×TE)}(hk:JE X k tk)(hv:JE X v tv)(hr:Yb X pos ks vs trs):Yb X pos (some k::ks) (v::vs) ((tk,tv)::trs):=⟨RW hk.run hv.run hr.run⟩
theorem PY{pos:Pos}{keys:List (Option Expr)}{values:List Expr}{trs:List (TE×TE)}(h:Yb X pos keys values trs)(hall:keys.all (·.isSome)=true:=by rfl)(hl:keys.length=values.length:=by rfl)(h0:keys≠ []:=by simp)(h15:keys.length<=15:=by decide):JE X (.Dict keys values pos) (R9 trs):=⟨TM h.run hall hl h0 h15⟩
end
end L2
namespace L2
open PySem PySem.Spec PyProof.Rows
section
variable{X:Cx}
end
end L2
namespace L2
open PySem PySem.Spec PyProof.Rows
section
variable{X:Cx}
noncomputable def QJ (neg:Bool):R2:=λx y H Q=>match y with
 | .ref p=>(match H p with
  |some (.lst xs)=>qX x=true/\xs.all qX=true/\Q (.bl (if neg then !UA x xs else UA x xs)) H
  |some (.tup xs)=>qX x=true/\xs.all qX=true/\Q (.bl (if neg then !UA x xs else UA x xs)) H
  |_=>False)
 |_=>False
theorem SX{K:aA}{neg:Bool}{x y:V}{H:Hp}{Q:VK}(h:QJ neg x y H Q):Zs K neg x y H Q:=by
 unfold QJ at h
 split at h
 case h_2=>exact h.elim
 split at h
 ·rename_i xs e
  exact⟨_,xs,rfl,.inl (mj.of e),h⟩
 ·rename_i xs e
  exact⟨_,xs,rfl,.inr (JV.of e),h⟩
 ·exact h.elim
theorem QQ:ux X (compareOp .NotIn) (QJ true):=Lm.mono λ_ _ _ _=>SX
noncomputable abbrev g3 (K:aA):TG:=Te K 3 (Gh (jq 0) (Gh (jq 1) (Gh (jq 2) Td)))
section
variable{fsc scope:Scope}{N2:List Str}{js:List Nat}
end
theorem N4:Er X (compareOp .NotIn) (QJ true):=⟨QQ⟩
end
theorem lA.GG{K:aA}{a:Addr}{xs:List V}{g:TG}{tb:TS}{D:Ends}{σ:St}{H:Hp}(Pv:Nat->St->Hp->Prop)(h0:Pv 0 σ H)(hl:∀i σ H,i<=xs.length->Pv i σ H->mj K H a xs)
  (hs:∀i x σ H,xs[i]? =some x->Pv i σ H->∀R:St->Hp->Prop,(∀σ' H',Pv (i+1) σ' H'->R σ' H')->g x σ H λσ2 H2=>tb {D with nx:=R,ct:=R,bk:=D.nx} σ2 H2) (hd:∀σ H,Pv xs.length σ H->D.nx σ H):lA (Qp K a) g tb D σ H:=
 lA.list Pv h0 hl (λi x σ H hx hp=>hs i x σ H hx hp _ λ_ _ h=>h) hd
theorem lA.Hc{lo:Int}{n:Nat}{g:TG}{tb:TS}{D:Ends}{σ:St}{H:Hp}(Pv:Nat->St->Hp->Prop)(h0:Pv 0 σ H)
  (hs:∀i σ H,i<n->Pv i σ H->∀R:St->Hp->Prop,(∀σ' H',Pv (i+1) σ' H'->R σ' H')->g (.int (lo+i)) σ H λσ2 H2=>tb {D with nx:=R,ct:=R,bk:=D.nx} σ2 H2) (hd:∀σ H,Pv n σ H->D.nx σ H):lA (Sw lo n) g tb D σ H:=
 lA.range Pv h0 (λi σ H hi hp=>hs i σ H hi hp _ λ_ _ h=>h) hd
theorem ints_get{ks:List Int}{i:Nat}{x:V}(h:(ks.map V.int)[i]? =some x):∃hi:i<ks.length,x= .int ks[i]/\ks.take (i+1)=ks.take i++[ks[i]]:=by
 have hi:i<ks.length:=by have:=(List.getElem?_eq_some_iff.mp h).1;rw[aj]at this;exact this
 rw[aS,au hi]at h
 exact⟨hi,(bg h).symm,bC hi⟩
theorem uN.YG{K:aA}{a:Addr}{xs:List V}{ya:St}{te:TE}{H:Hp}{Q:VK}(f:V->V)(hS:mj K H a xs)(hz:xs.length<=sizeLine)(he:∀x∈xs,∀K':VK,K' (f x) H->te (some x::ya) H K')(q:∀l,H l=none->Q (.ref l) (upd H l (.lst (xs.map f)))):uN (Qp K a) ya OE te H Q:=
 uN.Mp (λ_=>true) f hS hz (λ_ _ _ h=>h) (λx hx _ K' h=>he x hx K' h) λl hl=>by rw[List.filter_eq_self.mpr λ_ _=>rfl];exact q l hl
theorem Ju{l:List Int}:(l.map V.int).all qX=true:=List.all_eq_true.mpr λx hx=>by obtain⟨_,_,rfl⟩:=List.mem_map.mp hx;rfl
theorem fsc{N P:List Str}{sc:Scope}(a:sc.kind= .function:=by rfl)(b:sc.isCoroutine=false:=by rfl)(c:sc.isGenerator=false:=by rfl)(d:N.Nodup:=by decide+kernel)(e:N.take P.length=P:=by rfl)(f:∀x∈P,sc.names.lookup x=some .local∨sc.names.lookup x=some .cell:=by decide+kernel)(g:∀y∈sc.names,y.2≠ .free:=by decide+kernel):i7 N P sc:=⟨a,b,c,d,e,f,g⟩
theorem lo{sc:Scope}{x:Str}(h:Loc sc x:=by first|exact gy rfl|exact fu rfl):Loc sc x:=h
noncomputable def ql (C:Addr) (m:Str) (x:V) (H:Hp):Prop:=match x with
 | .ref a=>(match H a with
  |some (.ins C' _ fs)=>C'=C/\fs.lookup m=none
  |_=>False)
 |_=>False
theorem jg{C:Addr}{m:Str}{sp:Sp}{E:St->XK}{ta:TE}{t:TA}{σ:St}{H:Hp}{Q:VK}:zG C m sp E ta t σ H Q=ta σ H λx H1=>ql C m x H1/\t σ H1 λvs H2=>sp (x::vs) H2 Q (E σ):=by
 unfold zG
 congr
 funext x H1
 unfold ql
 cases x with
 |ref a=>
  dsimp only
  rcases H1 a with _|o
  ·simp
  ·cases o<;>dsimp only<;>try simp
   simp[and_assoc]
 |_=>simp
theorem jD{b:Bool}{P:Bool->Prop}:(∃k,V.bl b=V.bl k/\P k)=P b:=propext ⟨λ⟨_,e,p⟩=>by cases e;exact p,λp=>⟨b,rfl,p⟩⟩
noncomputable def jU (f:Str) (x:V) (H:Hp):Option V:=match x with
 | .ref a=>(match H a with
  |some (.ins _ _ fs)=>fs.lookup f
  |_=>none)
 |_=>none
noncomputable def oq (K:aA) (f:Str) (x:V) (H:Hp):Prop:=match x with
 | .ref a=>(match H a with
  |some (.ins C _ _)=>Fh K C/\mf K C f
  |_=>False)
 |_=>False
theorem jj{K:aA}{ta:TE}{f:Str}{σ:St}{H:Hp}{Q:VK}:HW K ta f σ H Q=ta σ H λx H1=>oq K f x H1/\(match jU f x H1 with
  |some v=>Q v H1
  |none=>False):=by
 unfold HW
 congr
 funext x H1
 unfold jU oq
 cases x with
 |ref a=>
  dsimp only
  rcases H1 a with _|o
  ·simp
  ·cases o<;>dsimp only<;>try simp
   rename_i C dx fs
   cases bu f fs<;>simp[and_assoc]
 |_=>simp
theorem Fj{a0 a1 q:Prop}(h:a0/\a1/\q):q/\a0/\a1:=⟨h.2.2,h.1,h.2.1⟩
theorem Qx{a0 a1 a2 q:Prop}(h:a0/\a1/\a2/\q):q/\a0/\a1/\a2:=⟨h.2.2.2,h.1,h.2.1,h.2.2.1⟩
theorem UN{a0 a1 a2 a3 q:Prop}(h:a0/\a1/\a2/\a3/\q):q/\a0/\a1/\a2/\a3:=⟨h.2.2.2.2,h.1,h.2.1,h.2.2.1,h.2.2.2.1⟩
theorem Zn{a0 a1 a2 a3 a4 q:Prop}(h:a0/\a1/\a2/\a3/\a4/\q):q/\a0/\a1/\a2/\a3/\a4:=⟨h.2.2.2.2.2,h.1,h.2.1,h.2.2.1,h.2.2.2.1,h.2.2.2.2.1⟩
theorem Yc{a0 a1 a2 a3 a4 a5 q:Prop}(h:a0/\a1/\a2/\a3/\a4/\a5/\q):q/\a0/\a1/\a2/\a3/\a4/\a5:=⟨h.2.2.2.2.2.2,h.1,h.2.1,h.2.2.1,h.2.2.2.1,h.2.2.2.2.1,h.2.2.2.2.2.1⟩
theorem Zu{a0 a1 a2 a3 a4 a5 a6 q:Prop}(h:a0/\a1/\a2/\a3/\a4/\a5/\a6/\q):q/\a0/\a1/\a2/\a3/\a4/\a5/\a6:=⟨h.2.2.2.2.2.2.2,h.1,h.2.1,h.2.2.1,h.2.2.2.1,h.2.2.2.2.1,h.2.2.2.2.2.1,h.2.2.2.2.2.2.1⟩
theorem Zo{a0 a1 a2 a3 a4 a5 a6 a7 q:Prop}(h:a0/\a1/\a2/\a3/\a4/\a5/\a6/\a7/\q):q/\a0/\a1/\a2/\a3/\a4/\a5/\a6/\a7:=⟨h.2.2.2.2.2.2.2.2,h.1,h.2.1,h.2.2.1,h.2.2.2.1,h.2.2.2.2.1,h.2.2.2.2.2.1,h.2.2.2.2.2.2.1,h.2.2.2.2.2.2.2.1⟩
theorem WT{a0 a1 a2 a3 a4 a5 a6 a7 a8 a9 q:Prop}(h:a0/\a1/\a2/\a3/\a4/\a5/\a6/\a7/\a8/\a9/\q):q/\a0/\a1/\a2/\a3/\a4/\a5/\a6/\a7/\a8/\a9:=⟨h.2.2.2.2.2.2.2.2.2.2,h.1,h.2.1,h.2.2.1,h.2.2.2.1,h.2.2.2.2.1,h.2.2.2.2.2.1,h.2.2.2.2.2.2.1,h.2.2.2.2.2.2.2.1,h.2.2.2.2.2.2.2.2.1,h.2.2.2.2.2.2.2.2.2.1⟩
theorem Yp{a0 a1 a2 a3 a4 a5 a6 a7 a8 a9 a10 q:Prop}(h:a0/\a1/\a2/\a3/\a4/\a5/\a6/\a7/\a8/\a9/\a10/\q):q/\a0/\a1/\a2/\a3/\a4/\a5/\a6/\a7/\a8/\a9/\a10:=⟨h.2.2.2.2.2.2.2.2.2.2.2,h.1,h.2.1,h.2.2.1,h.2.2.2.1,h.2.2.2.2.1,h.2.2.2.2.2.1,h.2.2.2.2.2.2.1,h.2.2.2.2.2.2.2.1,h.2.2.2.2.2.2.2.2.1,h.2.2.2.2.2.2.2.2.2.1,h.2.2.2.2.2.2.2.2.2.2.1⟩
theorem Yq{a0 a1 a2 a3 a4 a5 a6 a7 a8 a9 a10 a11 q:Prop}(h:a0/\a1/\a2/\a3/\a4/\a5/\a6/\a7/\a8/\a9/\a10/\a11/\q):q/\a0/\a1/\a2/\a3/\a4/\a5/\a6/\a7/\a8/\a9/\a10/\a11:=⟨h.2.2.2.2.2.2.2.2.2.2.2.2,h.1,h.2.1,h.2.2.1,h.2.2.2.1,h.2.2.2.2.1,h.2.2.2.2.2.1,h.2.2.2.2.2.2.1,h.2.2.2.2.2.2.2.1,h.2.2.2.2.2.2.2.2.1,h.2.2.2.2.2.2.2.2.2.1,h.2.2.2.2.2.2.2.2.2.2.1,h.2.2.2.2.2.2.2.2.2.2.2.1⟩
theorem DV{α:Type}{C:List α->Prop}(h:∀a0,C [a0]):∀us:List α,us.length=1->C us
 | [a0],_=>h a0
theorem xW{α:Type}{C:List α->Prop}(h:∀a0 a1,C [a0,a1]):∀us:List α,us.length=2->C us
 | [a0,a1],_=>h a0 a1
theorem F1{α:Type}{C:List α->Prop}(h:∀a0 a1 a2,C [a0,a1,a2]):∀us:List α,us.length=3->C us
 | [a0,a1,a2],_=>h a0 a1 a2
theorem Vb{α:Type}{C:List α->Prop}(h:∀a0 a1 a2 a3,C [a0,a1,a2,a3]):∀us:List α,us.length=4->C us
 | [a0,a1,a2,a3],_=>h a0 a1 a2 a3
theorem Ye{α:Type}{C:List α->Prop}(h:∀a0 a1 a2 a3 a4,C [a0,a1,a2,a3,a4]):∀us:List α,us.length=5->C us
 | [a0,a1,a2,a3,a4],_=>h a0 a1 a2 a3 a4
theorem Zw{α:Type}{C:List α->Prop}(h:∀a0 a1 a2 a3 a4 a5,C [a0,a1,a2,a3,a4,a5]):∀us:List α,us.length=6->C us
 | [a0,a1,a2,a3,a4,a5],_=>h a0 a1 a2 a3 a4 a5
theorem YA{α:Type}{C:List α->Prop}(h:∀a0 a1 a2 a3 a4 a5 a6,C [a0,a1,a2,a3,a4,a5,a6]):∀us:List α,us.length=7->C us
 | [a0,a1,a2,a3,a4,a5,a6],_=>h a0 a1 a2 a3 a4 a5 a6
end L2
namespace L2
open PySem PySem.Spec PyProof.Rows
section
variable{X:Cx}{r:V->List V->Hp->VK->Prop}{o:Expr}{to:TE}{apos cpos:Pos}
noncomputable def S0:V->List V->Hp->VK->Prop:=λx vs H Q=>match x,vs with
 | .ref l,[]=>(match H l with
  |some (.lst xs)=>(match xs[xs.length-1]? with
   |some y=>Q y (upd H l (.lst xs.dropLast))
   |none=>False)
  |_=>False)
 |_,_=>False
theorem Xc:WH X "list.pop" S0:=λpins s σ H x xs v us Q I rx rxs h=>by
 unfold S0 at h
 split at h
 case h_2=>exact h.elim
 split at h
 case h_2=>exact h.elim
 rename_i l _ ys hp
 split at h
 case h_2=>exact h.elim
 rename_i y hy
 exact Vw pins s σ H _ _ v us Q I rx rxs ⟨_,ys,y,rfl,rfl,hp,hy,h⟩
theorem WX{id:String}{name:Str}(slot:Slot "list" name id)(hty:typeOf (.builtin id)=pure (.type "method_descriptor"))(hm:WH X id r)(ho:PE X o to)
  (hbase:attributeBase o name X.env (eval o X.env)=eval o X.env:=by rfl)
  (hfew:((backTo cpos (starEach [] X.env)).all (λx=> !x.1)&&(backToKw cpos (keywordEach [] X.env)).all (λx=>x.1.isSome)
   &&decide (([]:List Expr).length+([]:List Keyword).length+(if ([]:List Keyword).isEmpty then 0 else 1)<30))=true:=by rfl)
  (hline:(apos.endLine==cpos.line)=true:=by rfl):PE X (.Call (.Attribute o name apos) [] [] cpos) (Qq r to jd):=by
 intro pins s σ H Q I h
 refine wpAny_Call_method_late hbase hfew hline rfl (oh (ho pins s σ H _ I h) λv s1 ⟨x,H1,I1,r1,q1⟩=> ?_)
 try dsimp only at q1
 split at q1
 case h_2=>exact q1.elim
 rename_i a
 split at q1
 case h_2=>exact q1.elim
 rename_i ys ea
 have ty:Zg X.K "list" (.ref a) H1:= .inl ⟨rfl,ys,mj.of ea⟩
 obtain⟨h1,h2⟩:=Sh I1 r1 ty
 refine⟨"list",id,fZ,slot,hty,h1,h2,?_⟩
 exact df rfl (PyProof.Rows.evalArgs_empty (hm pins s1 σ H1 _ [] v [] Q I1 r1 .nil q1))
end
section
variable{X:Cx}
end
end L2
namespace L2
open PySem PySem.Spec PyProof.Rows
section
variable{P:Program}{w:World}{A:Around}{E:Value->Shared->Prop}{s:Shared}
end
end L2
namespace L2
open PySem PySem.Spec PyProof.Rows
section
variable{P:Program}{w:World}{A:Around}{E:Value->Shared->Prop}{s:Shared}{z TI TO i1 i2 l1 l2:Addr}{k1 k2:Nat}{xs ys:Array Value}{x y a b:Value}{J1 J2:Heap->Nat->Prop}
end
end L2
namespace L2
open PySem PySem.Spec PyProof.Rows
end L2
namespace L2
open PySem PySem.Spec PyProof.Rows
section
variable{X:Cx}{pins:List (Addr×Obj)}{σ:St}{H:Hp}{s:Shared}{k:Bool}{a:Addr}{xs ys:List V}
end
section
variable{X:Cx}
end
section
variable{X:Cx}{r:V->List V->Hp->VK->Prop}{o i:Expr}{to td ty:TE}{apos cpos pos:Pos}
theorem To:Ya X "list.pop" S0:=⟨Xc⟩
theorem Tj{id:String}{name:Str}(slot:Slot "list" name id)(hty:typeOf (.builtin id)=pure (.type "method_descriptor"))(hm:Ya X id r)(ho:JE X o to)
  (hbase:attributeBase o name X.env (eval o X.env)=eval o X.env:=by rfl)
  (hfew:((backTo cpos (starEach [] X.env)).all (λx=> !x.1)&&(backToKw cpos (keywordEach [] X.env)).all (λx=>x.1.isSome)
   &&decide (([]:List Expr).length+([]:List Keyword).length+(if ([]:List Keyword).isEmpty then 0 else 1)<30))=true:=by rfl)
  (hline:(apos.endLine==cpos.line)=true:=by rfl):JE X (.Call (.Attribute o name apos) [] [] cpos) (Qq r to jd):=⟨WX slot hty hm.run ho.run hbase hfew hline⟩
end
end L2
namespace L2
open PySem PySem.Spec PyProof.Rows
section
variable{X:Cx}{E:St->XK}{a L:Addr}{cls:Value}{s':Shared}{M:Model}{A:Around}{Q:Unit->Shared->Prop}{E':Value->Shared->Prop}
end
section
variable{M:Model}{A:Around}{E:Value->Shared->Prop}{s:Shared}{env:Env}
end
section
variable{prog:Program}{w:World}{A:Around}{R:Result->Shared->Prop}{s:Shared}
end
section
variable{X:Cx}{pins:List (Addr×Obj)}{σ:St}{H:Hp}{s:Shared}{scope fsc:Scope}{x:List Str}{N2:List Str}{js:List Nat}{fp:List Addr}{C:Addr}
noncomputable def DP:List V->Hp->VK->Prop:=λxs H Q=>match xs with
 | [.ref a]=>(match H a with
  |some (.dK kvs)=>∀l,H l=none->Q (.ref l) (upd H l (.lst (kvs.map λp=>kV p.1)))
  |_=>False)
 |_=>False
theorem JP:∀{ks:List Key} {us:List Value},us.length=ks.length->(∀(j:Nat) (k:Key) (v:Value),ks[j]? =some k->us[j]? =some v->wC k v=true)->Vals (ks.map kV) us
 | [],[],_,_=> .nil
 |k::ks,u::us,h,f=>by
  refine .cons ?_ (JP (by simpa using h) λj k' v h1 h2=>f (j+1) k' v (by simpa using h1) (by simpa using h2))
  rcases kR (f 0 k u rfl rfl) with ⟨i,t,rfl,rfl⟩|⟨x,t,rfl,rfl⟩
  ·exact⟨t,rfl⟩
  ·exact⟨t,rfl⟩
 | [],_::_,h,_=>by cases h
 |_::_,[],h,_=>by cases h
theorem Bb(hc:X.calm=true):Bo X (.type "list") DP:=⟨by
 intro pins s σ H xs us Q I r h
 unfold DP at h
 split at h
 case h_2=>exact h.elim
 rename_i a
 obtain⟨u,rfl,rx⟩:=vals1 r
 cases (show u=aX a from rx)
 split at h
 case h_2=>exact h.elim
 rename_i kvs ea
 obtain⟨z,hd,vs,rel,o,es,ep,hat⟩:=FZ I.ko ea
 have da:fF (jT X.prog X.w) s.heap a vs ep:=⟨o,es,hat⟩
 have hk2:=rel.keys
 have hlen:vs.length=kvs.length:=by
  have:=congrArg d6 hk2
  simpa using this.symm
 refine PySem.W.kdl_call (iz hd) (by show X.A.handled=none;exact I.ok.hd hc) da (by lia) λh' tk acc c' hk hS hi=> ?_
 have hal:acc.toList.length=kvs.length:=by rw[←hlen];simpa using hi.1
 have hf:H s.heap.objs.size=none:=I.ko.fresh (aI _)
 refine⟨.ref s.heap.objs.size,_,I.laid (t':=tk) hk (aI _) (show l9 X.prog X.w _ h' _ (.lst (kvs.map λp=>kV p.1)) from ?_),rfl,h _ hf⟩
 refine⟨by rw[aj];omega,acc.toList,c',?_,by simpa using hS⟩
 have e:(kvs.map λp=>kV p.1)=(kvs.map (·.1)).map kV:=by rw[bB];rfl
 rw[e]
 refine JP (by rw[aj];exact hal) λj k v h1 h2=> ?_
 obtain⟨k',x,e1,e2⟩:=hi.2 j v (by simpa using h2)
 have e3:(vs.map (·.1))[j]? =some k':=by rw[aS,e1];rfl
 rw[←hk2,h1]at e3
 cases e3
 exact e2⟩
end
end L2
namespace L2
open PySem PySem.Spec PyProof.Rows
section
variable{X:Cx}{pins:List (Addr×Obj)}{σ:St}{H:Hp}{s:Shared}
theorem Wu{H:Hp}{a:Addr}{o:HO}(h:H a=some o):upd H a o=H:=by
 funext b
 by_cases e:b=a
 ·subst e;rw[iS,h]
 ·rw[iW e]
theorem Inv.tabs{P:Addr}{ps more:Array Value}{h':Heap}{t':Nat}(I:Inv X pins σ H s)(hP:H P=some (.CB ps))(ext:∀b o,b≠P->s.heap.get? b=some o->h'.get? b=some o)(hP':h'.get? P=some {cls:= .none,data:= .fields (ps++more)}):
  Inv X pins σ (upd H P (.CB (ps++more))) {s with heap:=h',toks:=t'}:=by
 have ne:∀b,H b=none->b≠P:=λb n z=>by rw[z,hP]at n;cases n
 refine I.step (g':=s.gens) (d':=s.drawn) (ch:=[]) (λ_ z=>nomatch z) (λb o _ _ _ e n=>ext b o (ne b n) e) (λb o _ _ _ e n=>⟨o.slots,ext b o (ne b n) e⟩) (λb o _ e n=>by rw[iW (ne b n)];exact n) (λb o _ e=> ?_) (λb xs e=>by rw[iW λz=>by rw[z,hP]at e;cases e];exact e) (λb o u e=>by rw[iW λz=>by rw[z,hP]at e;cases e];exact e) (λb qs e=> ?_) (λm hm=> ?_) (λb u e=> ?_) I.bare
 ·by_cases hb:b=P
  ·exact⟨_,by rw[hb];exact hP'⟩
  ·exact⟨o,ext b o hb e⟩
 ·by_cases hb:b=P
  ·subst hb
   rw[hP]at e;cases e
   exact⟨more,iS⟩
  ·exact⟨#[],by rw[iW hb,e];simp⟩
 ·obtain⟨o,es,ep,e,r⟩:=hm
  exact⟨o,es,ep,ext _ o (ne _ I.free) e,r⟩
 ·by_cases hb:b=P
  ·subst hb
   rw[iS]at e;cases e
   exact hP'
  ·rw[iW hb]at e
   refine(I.ko b u e).zt (λc v hc q=>ext c v ?_ q) (λc q=>by rw[iW λz=>by rw[z,hP]at q;cases q];exact q) (λc xs q=>by rw[iW λz=>by rw[z,hP]at q;cases q];exact q)
   rcases hc with rfl|hc
   ·exact hb
   ·exact λz=>by rw[z,hP]at hc;cases hc
end
noncomputable def OH (ts:List Addr) (H:Hp):Prop:=(∀b,b∉ts->H b=none∨∃o xs,H b=some (.rN o (.lst xs)))/\∀b∈ts,H b=some (.CB #[])
theorem P6{ts:List Addr}{P:Program}{w:World}{K:aA}{mg mb:Str->Option Value}{CX:Qn}{ca:Bool}{k:Nat}{fa a:Addr}{fd:FuncData}{x:Str}{sp:Sp}{s₁:Shared}{vs:List Value}{ns:List Int}
  (KX:K.In s₁.heap) (hns:s₁.heap.Ns mainGlobals mg) (hb:s₁.heap.Ns builtinsNs mb) (hbb:∀x:Str,x≠"__name__"->mb x=bootBuiltins x) (hlim:s₁.heap.NoLimit) (hbm:BMain mg s₁.heap) (hts:∀p∈ts,s₁.heap.get? p=some {cls:= .none,data:= .fields #[]}) (hKt:∀p∈ts,K.lookup p=none) (hct:∀p∈ts,isCodeTable s₁.heap p) (hg:s₁.gens= #[])
  (ha:s₁.heap.get? a=some {cls:= .type "list",data:= .seq vs.toArray}) (hi:IntsAre vs ns) (hl:ns.length<=sizeLine) (hr:ou ca k callerA)
  (F:∀base:Heap,K.In base->base.Ns mainGlobals mg->jA P w K mg base CX ca k fa fd [x] sp) (hbind:∀(s:Shared) (u:Value),BindsTo s fd ⟨[u],[]⟩ [(x,u)])
  (hsp:∀H:Hp,OH ts H->mj K H a (ns.map V.int)->sp [.ref a] H (λv _=>v= .bl true) λ_ _ _=>False)
  (hCX:∀H e s',CX [] H s₁ (λ_ _ _=>False) e s'->False):
  codeAny (model P w) callerA (.call (.ref fa) ⟨[.ref a],[]⟩) (λr s'=>r= .ok (.ret (.bool true))/\OldK s₁.heap s'.heap/\s'.os=s₁.os/\AllBare s'.gens) s₁:=by
 have rv:=Bi hi
 have lenV:=hi.length
 have hat:a∉ts:=λh=>by
  have:=hts a h
  rw[ha]at this
  injection this with this
  injection this with h1
  cases h1
 have core:∀H:Hp,OH ts H->mj K H a (ns.map V.int)->wa P w H s₁.heap->(∀b,H b≠none->b=a∨b∈ts)->(a∉ts->H a≠none->K.lookup a=none)->
   codeAny (model P w) callerA (.call (.ref fa) ⟨[.ref a],[]⟩) (λr s'=>r= .ok (.ret (.bool true))/\OldK s₁.heap s'.heap/\s'.os=s₁.os/\AllBare s'.gens) s₁:=by
  intro H hO hS ko hA hK
  have base_of:∀{b:Addr} {o:Obj},s₁.heap.get? b=some o->H b=none->(KQ s₁.heap H).get? b=some o:=λe n=>Ri e n
  have noA:∀{b:Addr} {o:Obj} {es:Array DictEntry} {ep:Nat},s₁.heap.get? b=some o->o.data= .dict es ep->H b=none:=λ{b o es ep} e d=>by
   cases q:H b with
   |none=>rfl
   |some u=>
    rcases hA b (by rw[q];simp) with e'|e'
    ·subst e'
     rw[ha]at e;cases e
     have d':Data.seq vs.toArray _=Data.dict es ep:=d
     cases d'
    ·rw[hts b e']at e;cases e
     have d':ip #[]=Data.dict es ep:=d
     cases d'
  have nsK:∀{b:Addr} {m:Str->Option Value},s₁.heap.Ns b m->(KQ s₁.heap H).Ns b m:=λ{b m} ⟨o,es,ep,e,d,r⟩=>⟨o,es,ep,base_of e (noA e d),d,r⟩
  have hKb:K.In (KQ s₁.heap H):=λb o e=>base_of (KX b o e) (by
   cases q:H b with
   |none=>rfl
   |some u=>
    rcases hA b (by rw[q];simp) with e'|e'
    ·subst e'
     rw[hK hat (by rw[q];simp)]at e;cases e
    ·rw[hKt b e']at e;cases e)
  have hM:Mod K mg (KQ s₁.heap H):=⟨hKb,nsK hns,⟨mb,nsK hb,hbb⟩,let ⟨mc,h1,h2⟩:=hlim;⟨mc,nsK h1,h2⟩,let ⟨bm,ob,b1,b2,b3,b4⟩:=hbm;⟨bm,ob,b1,b2,base_of b3 (by
   cases q:H bm with
   |none=>rfl
   |some u=>
    rcases hA bm (by rw[q];simp) with e'|e'
    ·subst e'
     rw[ha]at b3;cases b3
     have d':Data.seq vs.toArray _=Data.plain:=b4.2.2
     cases d'
    ·rw[hts bm e']at b3;cases b3
     have d':ip #[]=Data.plain:=b4.2.2
     cases d'),b4⟩⟩
  have e0:HI P w K mg (KQ s₁.heap H) callerA [] s₁ H:=⟨rfl,hM,λb o e=>Tx e,Nat.le_of_eq (PU _ _),trivial,λb hb=>absurd (show b∈([]:List Addr) from hb) (by simp),ko,.of_eq hg⟩
  refine codeAny_mono ((F _ hKb (nsK hns)).run callerA [] s₁ H ⟨[.ref a],[]⟩ [.ref a] [.ref a] _ _ hr e0 (hbind s₁ (.ref a)) (.cons rfl .nil) (hsp H hO hS)) λr s' h=> ?_
  cases r with
  |error e=>exact(hCX H e s' h).elim
  |ok fl=>
   cases fl with
   |next=>exact bY h
   |brk=>exact bY h
   |cont=>exact bY h
   |ret u=>
    obtain⟨v,H',os,bare,un,hok',r',q⟩:=h
    have q':v= .bl true:=q
    subst q'
    obtain rfl:u=gI true:=r'
    have key:∀b o,s₁.heap.get? b=some o->asItWas s₁.heap s'.heap b o/\∃o',s'.heap.get? b=some o':=λb o e=>by
     by_cases hb:b∈ts
     ·obtain⟨more,z2⟩:=un.zv b #[] (hO.2 b hb)
      have e2:s'.heap.get? b=some {cls:= .none,data:= .fields (#[]++more)}:=hok' b _ z2
      rw[hts b hb]at e;cases e
      exact⟨.inr (.inl ⟨hct b hb,rfl,#[],more,rfl,e2⟩),_,e2⟩
     ·have k:s'.heap.get? b=some o:=by
       rcases hO.1 b hb with z|⟨ob,xs,z⟩
       ·exact un.keep b o e z (by intro z;exact absurd (show b∈([]:List Addr) from z) (by simp)) (by simp)
       ·have z2:=un.xG b ob _ z
        obtain⟨e1,_⟩:=ko b _ z
        obtain⟨e2,_⟩:=hok' b _ z2
        rw[e]at e1;cases e1
        exact e2
      exact⟨.inl k,o,k⟩
    exact⟨rfl,⟨λb o e=>(key b o e).1,λb o e=>(key b o e).2⟩,os,bare⟩
 cases hk:K.lookup a with
 |some o=>
  have e:=KX a o hk
  rw[ha]at e
  cases e
  refine core (λb=>if b∈ts then some (.CB #[]) else none) ⟨λb hb=> .inl (if_neg hb),λb hb=>if_pos hb⟩ (.inr ⟨_,vs.toArray,_,hk,rfl,rfl,rfl,by rw[aZ,lenV];exact hl,by simpa using rv⟩) (λb u z=> ?_) (λb z=> ?_) λh z=>absurd (if_neg h) z
  ·by_cases hb:b∈ts
   ·have z':=(if_pos hb).symm.trans z
    cases z'
    exact hts b hb
   ·have z':=(if_neg hb).symm.trans z
    cases z'
  ·by_cases hb:b∈ts
   ·exact .inr hb
   ·exact absurd (if_neg hb) z
 |none=>
  refine core (λb=>if b∈ts then some (.CB #[]) else if b=a then some (.rN {cls:= .type "list",data:= .seq vs.toArray} (.lst (ns.map V.int))) else none) ⟨λb hb=> ?_,λb hb=>if_pos hb⟩ (.inl (.inr ⟨{cls:= .type "list",data:= .seq vs.toArray},(if_neg hat).trans (if_pos rfl)⟩)) (λb u z=> ?_) (λb z=> ?_) λ_ _=>hk
  ·by_cases hba:b=a
   ·exact .inr ⟨_,_,(if_neg hb).trans (if_pos hba)⟩
   ·exact .inl ((if_neg hb).trans (if_neg hba))
  ·by_cases hb:b∈ts
   ·have z':=(if_pos hb).symm.trans z
    cases z'
    exact hts b hb
   ·have z:=(if_neg hb).symm.trans z
    by_cases hba:b=a
    ·have z':=(if_pos hba).symm.trans z
     cases z'
     subst hba
     exact⟨ha,by rw[aj];exact hl,vs,_,rv,ha⟩
    ·have z':=(if_neg hba).symm.trans z
     cases z'
  ·by_cases hb:b∈ts
   ·exact .inr hb
   ·by_cases hba:b=a
    ·exact .inl hba
    ·exact absurd ((if_neg hb).trans (if_neg hba)) z
theorem Sk{ts:List Addr}{l:gb}{n k:Nat}{q:Program}{loose:List Str}{XP:(Str->Option Value)->Heap->Prop}{YP:World->Heap->Prop}{d:DefRec}{K:Params->aA}{CX:World->Qn}{ca:Bool}{sp:World->Sp}{x:Str}
  (hn:l.most=some n) (hn2:n<=sizeLine) (hdf:d.params.defaults=[]) (hr:ou ca k callerA)
  (hY:∀(w:World) (h:Heap),YP w h->(K w.params).In h) (hT:∀(w:World) (h:Heap),YP w h->∀p∈ts,h.get? p=some {cls:= .none,data:= .fields #[]}) (hKt:∀(w:World),∀p∈ts,(K w.params).lookup p=none) (hct:∀(w:World),∀p∈ts,∃c,de (K w.params) c p=true)
  (F:∀(w:World) (mg:Str->Option Value) (fa:Addr) (h:Heap),(K w.params).In h->h.Ns mainGlobals mg->mg d.name=some (.ref fa)->
   ∃fd:FuncData,(∀(s:Shared) (u:Value),BindsTo s fd ⟨[u],[]⟩ [(x,u)])/\
    ∀base:Heap,(K w.params).In base->base.Ns mainGlobals mg->jA l.prog w (K w.params) mg base (CX w) ca k fa fd [x] (sp w))
  (hsp:∀(w:World) (H:Hp) (a:Addr) (ns:List Int),ns.length<=n->OH ts H->mj (K w.params) H a (ns.map V.int)->sp w [.ref a] H (λv _=>v= .bl true) λ_ _ _=>False)
  (hCX:∀(w:World) (H:Hp) (s:Shared) (e:Value) (s':Shared),CX w [] H s (λ_ _ _=>False) e s'->False):
  iK q loose XP YP l.row.toRowW d [] (λf vs=>iC f vs):=by
 refine Att.L6 hn hdf λw s₀ s₁ mg mb fa o pm cd doc a vs ns G Y ho hd hcd hmg hobj hints hlen hg=> ?_
 have KX:=hY w _ Y
 obtain⟨fd,hb,hF⟩:=F w mg fa _ KX G.T.g hmg
 exact P6 (ts:=ts) KX G.T.g G.T.b G.T.builtins G.T.nolimit G.T.bmain (hT w _ Y) (hKt w) (λp hp=>by
  obtain⟨c,hc⟩:=hct w p hp
  exact((gQ KX hc).tab (hT w _ Y p hp)).isCodeTable) hg hobj hints (aH hlen hn2) hr hF hb (λH hO hS=>hsp w H a ns hlen hO hS) λH e s'=>hCX w H s₁ e s'
section
variable{P:Program}{w:World}{K:aA}{mg:Str->Option Value}{base:Heap}
theorem mK.YS{x qual:Str}{st:Stmt}{f:Addr}{fd:FuncData}{N ps:List Str}{ca:Bool}{k:Nat}{sp:Sp}(F:mK K x qual st f fd)(S:i7 N ps (iX st))(len:∀vs H Q E,sp vs H Q E->vs.length=ps.length)
  (hbody:∀(cdv:Value) (A:Around) (outer:List Env) (s:Shared) (H:Hp) (vs:List V) (Q:VK) (E:XK),fd.code=cdv->ou ca k (A.deeper (envOfC qual (iX st) s.heap.objs.size f cdv))->
   Exc (Yd ca P w K mg base N qual (iX st) f cdv A outer s H E) (λ_=>E)->sp vs H Q E->
   ∃t,NC (Yd ca P w K mg base N qual (iX st) f cdv A outer s H E) (uB st) t/\t {nx:=λ_ H'=>Q .kT H',rt:=Q} (start N vs) H):jA P w K mg base (lG P w) ca (k+1) f fd ps sp:=by
 obtain⟨oc,od,kV,doc,pm,an,cdv,ct,osl,rfl,lk,hcd⟩:=F.ex
 refine Ux (CX:=lG P w) lk hcd S len λA outer s H vs Q E hr hsp=> ?_
 obtain⟨t,h,q⟩:=hbody cdv A outer s H vs Q E rfl hr (Q3 rfl rfl) hsp
 refine⟨t,h.Bn λe s2 ⟨a,cls,ee,u⟩=> ?_,q⟩
 subst ee
 show wpAny _ _ (leaving _ _) _ _ _
 unfold leaving
 exact wpAny_bind (u.note rfl rfl rfl λh' u'=>u'.Zp λh'' u''=>u''.out rfl rfl rfl)
end
end L2
namespace L2
open PySem PySem.Spec PyProof.Rows
section
variable{prog:Program}{w:World}{A:Around}{E:Value->Shared->Prop}{s:Shared}{κ:SortKind}{r:Value->Int}{a₀:Array Keyed}{st:SortSt}
noncomputable def rk (r:Value->Int) (xs:Array Keyed) (i:Nat):Int:=(xs[i]?.map λp=>r p.1).getD 0
structure SB(κ:SortKind)(a₀:Array Keyed)(st:SortSt):Prop where
 pm:(arrOf st).Perm a₀
 kd:kindOf st=κ
 fl:failedOf st=none
 pd:pendingOf st= #[]
noncomputable def Cm (prog:Program) (w:World) (A:Around) (s:Shared) (κ:SortKind) (r:Value->Int) (a₀:Array Keyed):Prop:=
 ∀(E:Value->Shared->Prop) (Q:Bool->Shared->Prop) (p q:Keyed),p∈a₀.toList->q∈a₀.toList->r p.1≠r q.1->Q (decide (r p.1<r q.1)) s->wpAny (model prog w) A (keyLt' κ p.1 q.1) Q E s
end
section
variable{X:Cx}
end
end L2
namespace L2
open PySem PySem.Spec PyProof.Rows
noncomputable abbrev CG (o:Obj):HO:= .rN o (.own 0)
noncomputable def qW (H:Hp) (c:Addr):Hp:=λb=>if b=c then none else H b
theorem uf{H:Hp}{c:Addr}:qW H c c=none:=if_pos rfl
theorem mQ{H:Hp}{b c:Addr}(h:b≠c):qW H c b=H b:=if_neg h
section
variable{P:Program}{w:World}{K:aA}{mg:Str->Option Value}{base:Heap}{A:Around}{outer:List Env}{s s':Shared}{H H':Hp}{c:Addr}{o:Obj}
theorem wa.CG(h:wa P w H s.heap)(n:H c=none)(e:s.heap.get? c=some o):wa P w (upd H c (L2.CG o)) s.heap:=λb u q=>by
 by_cases hb:b=c
 ·subst hb
  rw[iS]at q;cases q
  exact⟨e,o,e⟩
 ·rw[iW hb]at q
  refine(h b u q).zt (λ_ _ _ z=>z) (λd z=> ?_) λd xs z=> ?_
  ·rw[iW (iT z n)];exact z
  ·rw[iW (iT z n)];exact z
theorem wa.drop(h:wa P w H s.heap)(e:H c=some (L2.CG o)):wa P w (qW H c) s.heap:=λb u q=>by
 by_cases hb:b=c
 ·subst hb;rw[uf]at q;cases q
 ·rw[mQ hb]at q
  refine(h b u q).zt (λ_ _ _ z=>z) (λd z=> ?_) λd xs z=> ?_
  ·rw[mQ];exact z
   rintro rfl;rw[e]at z;cases z
  ·rw[mQ];exact z
   rintro rfl;rw[e]at z;cases z
theorem HI.CG(E:HI P w K mg base A outer s H)(n:H c=none)(e:s.heap.get? c=some o)(hb:base.get? c=none)(hf:c∉EC outer):HI P w K mg base A outer s (upd H c (L2.CG o)):=
 ⟨E.frames,E.mod,λb u q=>⟨(E.bs b u q).1,by rw[iW λz=>by subst z;rw[hb]at q;cases q];exact(E.bs b u q).2⟩,E.PF,E.Bl,λb q=>by rw[iW λz=>by subst z;exact hf q];exact E.SD b q,E.ko.CG n e,E.bare⟩
theorem CE.drop{Q:VK}{u:Value}(n:H c=none)(e:s.heap.get? c=some o)(h:CE outer P w (upd H c (L2.CG o)) s (λv H2=>Q v (qW H2 c)) u s'):CE outer P w H s Q u s':=by
 obtain⟨v,H',os,bare,un,ko,r,q⟩:=h
 have k:H' c=some (L2.CG o):=un.xG c o _ iS
 have kc:s'.heap.get? c=some o:=(ko c _ k).1
 refine⟨v,qW H' c,os,bare,⟨λb ob q1 q2 q3 q4=> ?_,λb ob q1 q2 q3 q4=> ?_,λb ob q1 q2 q3=> ?_,λb ob q1 q2=>un.there b ob q1 q2,λb xs q1=> ?_,λb ob z q1=> ?_,λb xs q1=> ?_⟩,ko.drop k,r,q⟩
 ·by_cases hb:b=c
  ·subst hb;rw[e]at q1;cases q1;exact kc
  ·exact un.keep b ob q1 (by rw[iW hb];exact q2) q3 q4
 ·by_cases hb:b=c
  ·subst hb;rw[e]at q1;cases q1;exact⟨o.slots,kc⟩
  ·exact un.slot b ob q1 (by rw[iW hb];exact q2) q3 q4
 ·by_cases hb:b=c
  ·subst hb;exact uf
  ·rw[mQ hb];exact un.free b ob q1 (by rw[iW hb];exact q2) q3
 ·have hb:=iT q1 n
  rw[mQ hb];exact un.AX b xs (by rw[iW hb];exact q1)
 ·have hb:=iT q1 n
  rw[mQ hb];exact un.xG b ob z (by rw[iW hb];exact q1)
 ·have hb:=iT q1 n
  rw[mQ hb];exact un.zv b xs (by rw[iW hb];exact q1)
end
structure LZ where
 qual:Str
 params:Arguments
 body:Expr
 scope:Scope
 pos:Pos
 x:Str
 y:Str
noncomputable def SE (H:Hp) (L:LZ) (c':Addr):Prop:=∃oc vs t,H c'=some (L2.CG oc)/\oc.data= .fields vs/\vs[1]? =some (.str L.qual t)
noncomputable def Uk (mg:Str->Option Value) (L:LZ) (H:Hp) (l c:Addr) (v:V):Prop:=∃c' ctv oz u,H l=some (L2.CG (d_ "<lambda>" L.qual L.params L.body L.scope [(L.x,c)] ((mg "__name__").getD .none) c' ctv))/\SE H L c'/\H c=some (L2.CG oz)/\oz.data= .cell (some u)/\RelV v u
noncomputable def DM (H:Hp) (L:LZ) (P:Addr):Prop:=∃ps,H P=some (.CB ps)/\TriplesOk ps.toList/\∀cv,codeAmong L.pos ps.toList=some cv->∃c',cv= .ref c'/\SE H L c'
theorem DM.new{H:Hp}{L:LZ}{P:Addr}(h:H P=some (.CB #[])):DM H L P:=⟨#[],h,trivial,λ_ z=>nomatch z⟩
theorem DM.to{H H':Hp}{L:LZ}{P:Addr}(h:DM H L P)(e:H' P=H P)(k:∀b o,H b=some (L2.CG o)->H' b=some (L2.CG o)):DM H' L P:=by
 obtain⟨ps,h1,h2,h3⟩:=h
 exact⟨ps,e.trans h1,h2,λcv z=>let ⟨c',e,oc,vs,t,q,r⟩:=h3 cv z;⟨c',e,oc,vs,t,k _ _ q,r⟩⟩
theorem Uk.to{mg:Str->Option Value}{H H':Hp}{L:LZ}{l c:Addr}{v:V}(h:Uk mg L H l c v)(k:∀b o,H b=some (L2.CG o)->H' b=some (L2.CG o)):Uk mg L H' l c v:=by
 obtain⟨c',ctv,oz,u,h1,⟨oc,vs,t,q,r⟩,h3,h4⟩:=h
 exact⟨c',ctv,oz,u,k _ _ h1,⟨oc,vs,t,k _ _ q,r⟩,k _ _ h3,h4⟩
section
variable{X:Cx}{pins:List (Addr×Obj)}{σ:St}{H:Hp}{s:Shared}
theorem Inv.UB{b:Addr}(I:Inv X pins σ H s)(hb:s.heap.objs.size<=b):(b∈X.ex∨X.s₀.heap.objs.size<=b)/\b≠X.env.locals/\(∀x c,X.env.cells.lookup x=some c->c≠b)/\∀p∈X.pn++pins,p.1≠b:=by
 have lt:∀{a:Addr} {o:Obj},s.heap.get? a=some o->a≠b:=λe z=>absurd (aK (aU e) hb) (by rw[z];exact ck _)
 refine⟨.inr (aH I.sz hb),?_,λx c e=> ?_,λp hp=>lt (I.pin p hp).1⟩
 ·obtain⟨m,⟨o,es,ep,ho,_⟩,_⟩:=I.loc
  exact(lt ho).symm
 ·obtain⟨v,o,ho,_⟩:=I.cell x c e
  exact lt ho
theorem Inv.Bm{b:Addr}{o:Obj}(I:Inv X pins σ H s)(n:H b=none)(e:s.heap.get? b=some o)(hb:(b∈X.ex∨X.s₀.heap.objs.size<=b)/\b≠X.env.locals/\(∀x c,X.env.cells.lookup x=some c->c≠b)/\∀p∈X.pn++pins,p.1≠b):
  Inv X pins σ (upd H b (L2.CG o)) s:=by
 have ne:∀{a:Addr} {u:HO},H a=some u->a≠b:=λh z=>by rw[z,n]at h;cases h
 have J:=I.step (h':=s.heap) (H':=upd H b (L2.CG o)) (g':=s.gens) (t':=s.toks) (d':=s.drawn) (ch:=[b]) (λa ha=>by rw[bN]at ha;subst ha;exact hb) (λ_ _ _ _ _ h _=>h) (λ_ u _ _ _ h _=>⟨u.slots,h⟩)
  (λa u ha _ h=>by rw[iW (λz=>ha (List.mem_singleton.mpr z))];exact h) (λ_ u _ h=>⟨u,h⟩) (λa xs h=>by rw[iW (ne h)];exact h) (λa u z h=>by rw[iW (ne h)];exact h) (λa xs h=>⟨#[],by rw[iW (ne h),dJ];exact h⟩) (λ_ h=>h) (I.ko.CG n e) I.bare
 exact J
theorem Inv.lam{P l c':Addr}{ps more:Array Value}{h':Heap}{t':Nat}{fo oc:Obj}(I:Inv X pins σ H s)(hP:H P=some (.CB ps))(ext:∀b o,b≠P->s.heap.get? b=some o->h'.get? b=some o)(hP':h'.get? P=some {cls:= .none,data:= .fields (ps++more)})
  (hl:s.heap.objs.size<=l) (el:h'.get? l=some fo) (hlc:c'≠l) (hc:(s.heap.objs.size<=c'/\h'.get? c'=some oc)∨H c'=some (L2.CG oc)):
  Inv X pins σ (upd (upd (upd H P (.CB (ps++more))) c' (L2.CG oc)) l (L2.CG fo)) {s with heap:=h',toks:=t'}:=by
 have J:=I.tabs (t':=t') hP ext hP'
 have nw:∀{b:Addr},s.heap.objs.size<=b->b≠P/\H b=none:=λ{b} hb=>by
  have n:=I.ko.fresh hb
  exact⟨(λz=>by rw[z,hP]at n;cases n),n⟩
 have J2:Inv X pins σ (upd (upd H P (.CB (ps++more))) c' (L2.CG oc)) {s with heap:=h',toks:=t'}:=by
  rcases hc with ⟨hc,ec⟩|hc
  ·exact J.Bm (by rw[iW (nw hc).1];exact(nw hc).2) ec (I.UB hc)
  ·rw[Wu (by rw[iW (λz=>by rw[z,hP]at hc;cases hc)];exact hc)];exact J
 exact J2.Bm (by rw[iW hlc.symm,iW (nw hl).1];exact(nw hl).2) el (I.UB hl)
end
noncomputable def X1 (mg:Str->Option Value) (L:LZ) (P cc:Addr):TE:=λ_ H Q=>DM H L P/\∀(H2:Hp) (l:Addr),(∀b o,b≠P->H b=some o->H2 b=some o)->DM H2 L P->H l=none->
 (∃c' ctv,H2 l=some (L2.CG (d_ "<lambda>" L.qual L.params L.body L.scope [(L.x,cc)] ((mg "__name__").getD .none) c' ctv))/\SE H2 L c')->Q (.ref l) H2
noncomputable def R_ (mg:Str->Option Value) (C:Addr) (m:Str) (sp:Sp) (P:Addr) (i:Nat) (L:LZ) (ta:TE):TE:=λσ H Q=>ta σ H λx H1=>∃a dx fs v,x= .ref a/\H1 a=some (.ins C dx fs)/\fs.lookup m=none/\σ[i]? =some (some v)/\DM H1 L P/\
 ∀(H2:Hp) (l c:Addr),(∀b o,b≠P->H1 b=some o->H2 b=some o)->DM H2 L P->H1 l=none->H1 c=none->Uk mg L H2 l c v->sp [x,.ref l] H2 (λr H3=>Q r (qW H3 c)) λ_ _ _=>False
section
variable{X:Cx}{ca:Bool}{k:Nat}{f C:Addr}{fd:FuncData}{ps:List Str}{sp:Sp}{m:Str}{pos apos:Pos}{o:Expr}{ta:TE}
theorem TQ{L:LZ}{P c cc:Addr}(hcode:X.env.code= .ref c)(hK:de X.K c P=true)(hq:X.env.qual++"<lambda>"=L.qual)(hcc:X.env.cells.lookup L.x=some cc)(hcl:∀env:Env,Ki L.scope env=[(L.x,(env.cells.lookup L.x).getD 0)])
  (hfr:∀y∈L.scope.names,y.2= .free->y.1=L.x) (hdef:defaultsOf L.params X.env=([],[])):PE X (.Lambda L.params L.body L.scope L.pos) (X1 X.mg L P cc):=by
 intro pins s σ H Q I ⟨⟨ps,hP,ht,hc⟩,q⟩
 have hPs:s.heap.get? P=some (PySem.W.tabObj ps):=I.ko P _ hP
 have CH:PySem.W.CodeHd s.heap c P:=gQ I.CD hK
 have hg:s.heap.Ns mainGlobals X.mg:=I.mod.glob.keeps I.bk
 have hgP:mainGlobals≠P:=λz=>by
  obtain⟨o,es,ep,e,d,_⟩:=hg
  rw[z,hPs]at e;cases e;cases d
 obtain⟨bm,ob,b1,b2,b3,b4,b5,b6⟩:=I.mod.bmain
 have b3:=I.bk _ _ b3
 have hb:s.heap.BuiltinsAt X.mg P:=⟨bm,ob,b1,b2,(λz=>by
   obtain⟨o,es,ep,e,d,_⟩:=hg
   rw[z,e]at b3;cases b3;rw[d]at b6;cases b6),(λz=>by rw[z,hPs]at b3;cases b3;cases b4),b3,b4,b5,b6⟩
 have hclo:closureFor L.scope X.env=pure [(L.x,cc)]:=by
  rw[FX (scope:=L.scope) (env:=X.env) λy hy e=>by rw[hfr y hy e];exact⟨cc,hcc⟩,hcl,hcc];rfl
 refine PySem.W.kla_eval hdef ?_
 rw[hq]
 cases hnf:codeAmong L.pos ps.toList with
 |none=>
  refine PySem.W.kla_makeFunction hclo I.ok.glob hg hcode CH hPs ht hnf hgP hb λc' ctv h' tk ext hge hlt hrec htab=> ?_
  obtain⟨c2,oc,vs,t,e2,hoc,hd,hv⟩:=hrec
  cases e2
  have hle:P<h'.objs.size:=aU htab
  have hl:s.heap.objs.size<=h'.objs.size:=dU (bO hge hlt)
  have n1:=I.ko.fresh hl
  have n2:=I.ko.fresh hge
  have J:=I.lam (t':=tk) (l:=h'.objs.size) (c':=c') (oc:=oc) (fo:=d_ "<lambda>" L.qual L.params L.body L.scope [(L.x,cc)] ((X.mg "__name__").getD .none) c' ctv) (more:= #[rawInt L.pos.line,rawInt L.pos.col,.ref c']) hP (λb o hb e=>aP _ (ext b o hb e)) (aP _ htab) hl (bJ _ rfl) (bA hlt) (.inl ⟨hge,aP _ hoc⟩)
  refine⟨.ref h'.objs.size,_,J,rfl,q _ _ (λb o hb e=> ?_) ⟨ps++ #[rawInt L.pos.line,rawInt L.pos.col,.ref c'],?_,?_,λcv z=> ?_⟩ n1 ⟨c',ctv,iS,oc,vs,t,?_,hd,hv⟩⟩
  ·rw[iW (iT e n1),iW (iT e n2),iW hb];exact e
  ·rw[iW (bA hle),iW (λz=>by rw[←z,hP]at n2;cases n2),iS]
  ·rw[gM];exact TriplesOk_snoc _ _ _ _ ht
  ·rw[gM]at z
   rw[show(#[rawInt L.pos.line,rawInt L.pos.col,aX c']:Array Value).toList=[rawInt L.pos.line,rawInt L.pos.col,aX c'] from rfl,codeAmong_snoc _ ht hnf]at z
   cases z
   exact⟨c',rfl,oc,vs,t,by rw[iW (bA hlt),iS],hd,hv⟩
  ·rw[iW (bA hlt),iS]
 |some cv=>
  obtain⟨c',rfl,oc,vs,t,ec,hd,hv⟩:=hc cv hnf
  refine PySem.W.kla_makeFunctionHit hclo I.ok.glob hg hcode CH hPs ht hnf hb λctv h' tk ext hge=> ?_
  have n1:=I.ko.fresh hge
  have ncl:c'≠h'.objs.size:=iT ec n1
  have J:=I.lam (t':=tk) (l:=h'.objs.size) (c':=c') (oc:=oc) (more:= #[]) hP (λb o _ e=>aP {cls:= .type "function",data:= .func (gB "<lambda>" L.qual L.params L.body L.scope [(L.x,cc)] ((X.mg "__name__").getD .none) (.ref c') ctv)} (ext b o e)) (by rw[dJ];exact aP _ (ext _ _ hPs)) hge (bJ _ rfl) ncl (.inr ec)
  have sm:∀b o,H b=some o->upd (upd (upd H P (.CB (ps++ #[]))) c' (L2.CG oc)) h'.objs.size (L2.CG (d_ "<lambda>" L.qual L.params L.body L.scope [(L.x,cc)] ((X.mg "__name__").getD .none) c' ctv)) b=some o:=λb o e=>by
   rw[iW (iT e n1)]
   by_cases h1:b=c'
   ·rw[h1,iS,←ec,←h1,e]
   ·rw[iW h1]
    by_cases h2:b=P
    ·rw[h2,iS,dJ,←hP,←h2,e]
    ·rw[iW h2];exact e
  exact⟨.ref h'.objs.size,_,J,rfl,q _ _ (λb o _ e=>sm b o e) ⟨ps,sm _ _ hP,ht,λcv z=>by rw[hnf]at z;cases z;exact⟨c',rfl,oc,vs,t,sm _ _ ec,hd,hv⟩⟩ n1 ⟨c',ctv,iS,oc,vs,t,sm _ _ ec,hd,hv⟩⟩
theorem RO{pl:Sem Bool}{L:LZ}{P c:Addr}{i:Nat}(he:PE X o ta)(cl:Fh X.K C)(hm:Meth X.K C m f)(F:jA X.prog X.w X.K X.mg X.base (lG X.prog X.w) ca k f fd ps sp)(hr:ou ca k X.A)(hb:Binds X.K fd ps [])
  (hcode:X.env.code= .ref c) (hK:de X.K c P=true) (hq:X.env.qual++"<lambda>"=L.qual) (hN:X.N[i]? =some L.x) (hk:X.env.kindOf L.x=some .cell) (hfn:X.fn L.x=true) (hcl:∀env:Env,Ki L.scope env=[(L.x,(env.cells.lookup L.x).getD 0)])
  (hfr:∀y∈L.scope.names,y.2= .free->y.1=L.x) (hdef:defaultsOf L.params X.env=([],[]))
  (ht:eval (.Call (.Attribute o m apos) [.Lambda L.params L.body L.scope L.pos] [] pos) X.env=(do
   let ov←eval o X.env
   standAt apos.atName
   let (f,first)←holding [ov] (getMethod ov m pl)
   callWith pos f first (backTo pos (starEach [.Lambda L.params L.body L.scope L.pos] X.env)) (backToKw pos (keywordEach [] X.env))):=by rfl):
  PE X (.Call (.Attribute o m apos) [.Lambda L.params L.body L.scope L.pos] [] pos) (R_ X.mg C m sp P i L ta):=by
 intro pins s σ H Q I h
 refine fj (pl:=pl) (oh (he pins s σ H _ I h) λu s1 ⟨x,H1,I1,rx,a,dx,fs,v,ex,ea,l,hv,tb,q⟩=> ?_) ht
 subst ex
 obtain rfl:u=aX a:=rx
 refine B_ I1 ea cl hm l ?_
 obtain⟨cc,hcc⟩:=I1.ok.has L.x (.inl hk)
 have nC:=I1.tP _ _ hcc
 refine eM (first:=[.ref a]) (h₀:=X.base) I.ok.mod.CF hm.kp (oh ((VS (TQ (cc:=cc) hcode hK hq hcc hcl hfr hdef) Om) pos pins s1 σ H1 (λvs H2=>∃lf,vs=[.ref lf]/\(∀b o,b≠P->H1 b=some o->H2 b=some o)/\DM H2 L P/\H1 lf=none/\
  ∃c' ctv,H2 lf=some (L2.CG (d_ "<lambda>" L.qual L.params L.body L.scope [(L.x,cc)] ((X.mg "__name__").getD .none) c' ctv))/\SE H2 L c') I1 ⟨tb,λH2 lf sm tb nl z=>⟨lf,rfl,sm,tb,nl,z⟩⟩) λus s2 ⟨vs,H2,J,r,lf,ev,sm,tb,nl,c',ctv,el,oc,ws,t,q1,q2⟩=>⟨J.CD,?_⟩) (qU rfl) rfl
 subst ev
 obtain⟨u2,rfl,ru⟩:=vals1 r
 obtain rfl:u2=aX lf:=ru
 have hcell:∃oz u,s2.heap.get? cc=some oz/\oz.data= .cell (some u)/\RelV v u:=by
  obtain⟨mm,_,hl⟩:=J.loc
  obtain⟨u,r,lk⟩:=hl i L.x v hN hv (.inr (.inl hk))
  rcases lk with ⟨z,_⟩|⟨_,c2,e2,oz,z1,z2⟩
  ·rw[hk]at z;cases z
  ·rw[hcc]at e2;cases e2
   exact⟨oz,u,z1,z2,r⟩
 obtain⟨oz,uz,ec,dz,rz⟩:=hcell
 have nc:=J.tP _ _ hcc
 have ne:∀{b:Addr} {u:HO},H2 b=some u->b≠cc:=λe z=>by rw[z,nc]at e;cases e
 have hsp:=q (upd H2 cc (L2.CG oz)) lf cc (λb o hb e=>by rw[iW (ne (sm b o hb e))];exact sm b o hb e) (by
   obtain⟨ps',e1,e2,e3⟩:=tb
   exact⟨ps',by rw[iW (ne e1)];exact e1,e2,λcv z=>let ⟨c'',z1,oc,vs,t,z2,z3⟩:=e3 cv z;⟨c'',z1,oc,vs,t,by rw[iW (ne z2)];exact z2,z3⟩⟩) nl nC
  ⟨c',ctv,oz,uz,by rw[iW (ne el)];exact el,⟨oc,ws,t,by rw[iW (ne q1)];exact q1,q2⟩,iS,dz,rz⟩
 have hge:X.s₀.heap.objs.size<=cc:=I1.ok.U9 _ _ hfn hcc
 have hbase:X.base.get? cc=none:=gE (aH I1.ok.PF hge)
 have hfs:cc∉EC X.stack:=λz=>by
  rcases List.mem_cons.mp (J.Ht _ z) with z|z
  ·exact J.Ut _ _ hcc z
  ·obtain⟨_,o,ho,_⟩:=J.ok.Bl.mem z
   exact absurd (aK (aU ho) hge) (ck _)
 have e0:=J.Vc.CG nc ec hbase hfs
 have r2:Vals [V.ref a,V.ref lf] [aX a,aX lf]:= .cons rfl (.cons rfl .nil)
 refine wpAny_call (codeAny_mono (F.run X.A X.stack s2 _ ⟨[.ref a,.ref lf],[]⟩ [.ref a,.ref lf] [.ref a,.ref lf] _ _ hr e0 (by
  have:=hb s2 [.ref a,.ref lf] J.CD (by rw[ay,←F.len _ _ _ _ hsp];rfl)
  rw[ay]at this;exact this) r2 hsp) λr s' hq=> ?_)
 cases r with
 |error e=>obtain⟨_,_,_,_,_,_,_,_,_,_,_,_,h⟩:=hq;exact h.elim
 |ok fl=>
  cases fl with
  |ret u=>exact J.after (CE.drop nc ec hq)
  |next=>exact bY hq
  |brk=>exact bY hq
  |cont=>exact bY hq
end
noncomputable def Uw (ca:Bool) (X:Cx) (L:LZ) (l c c':Addr) (s:Shared) (H:Hp):Cx where
 prog:=X.prog
 w:=X.w
 K:=X.K
 mg:=X.mg
 base:=X.base
 A:=X.A.deeper (hV L.qual L.scope s.heap.objs.size l (.ref c') [(L.x,c)])
 N:=[L.y,L.x]
 s₀:=s
 H₀:=H
 env:=hV L.qual L.scope s.heap.objs.size l (.ref c') [(L.x,c)]
 outer:=X.stack
 stack:=hV L.qual L.scope s.heap.objs.size l (.ref c') [(L.x,c)]::X.stack
 ex:=[]
 calm:=ca
 fn:=λ_=>false
 pn:=[]
 xe:=λ_ _=>False
structure UL(L:LZ):Prop where
 kind:L.scope.kind= .function
 co:L.scope.isCoroutine=false
 gen:L.scope.isGenerator=false
 GS:∀x∈L.scope.names,x.2≠ .cell
 par:L.scope.names.lookup L.y=some .local
 free:L.scope.names.lookup L.x=some .free
 one:∀y,L.scope.names.lookup y=some .free->y=L.x
 bind:∀(cl:List (Str×Addr)) (pm cdv ct u:Value),bindArgs (gB "<lambda>" L.qual L.params L.body L.scope cl pm cdv ct) ⟨[u],[]⟩=pure [(L.y,u)]
noncomputable def OB (mg:Str->Option Value) (L:LZ) (i:Nat) (t te:TE):TE:=λσ H Q=>∃l c v,σ[i]? =some (some (.ref l))/\Uk mg L H l c v/\te σ H λa H1=>H1=H/\∃r,t [some a,some v] (qW H c) (λr' H2=>r'=r/\H2=qW H c)/\Q r H
theorem wa.Ws{P:Program}{w:World}{H:Hp}{h:Heap}{c:Addr}{o:Obj}(x:wa P w (qW H c) h)(e:H c=some (L2.CG o))(eh:h.get? c=some o):wa P w H h:=λb u q=>by
 by_cases hb:b=c
 ·subst hb;rw[e]at q;cases q;exact⟨eh,o,eh⟩
 ·have back:∀{d:Addr} {z:HO},qW H c d=some z->H d=some z:=λ{d z} q=>by
   by_cases hd:d=c
   ·rw[hd,uf]at q;cases q
   ·rw[mQ hd]at q;exact q
  exact(x b u (by rw[mQ hb];exact q)).zt (λ_ _ _ z=>z) (λd z=>back z) λd xs z=>back z
section
variable{X:Cx}{ca:Bool}{k:Nat}{pos p:Pos}{e:Expr}{te t:TE}
theorem RH{L:LZ}{i:Nat}{y:Str}(S:UL L)(hN:X.N[i]? =some y)(hv:WB X.env.scope y)(hr:ou ca (k+1) X.A)(he:PE X e te)
  (hbody:∀(l c c':Addr) (s:Shared) (H:Hp),ou ca k (Uw ca X L l c c' s H).A->PE (Uw ca X L l c c' s H) L.body t)
  (hns:notStar e=true:=by rfl) (hd:(y==("__debug__":Str))=false:=by decide) (hcd:(y==("__classdict__":Str))=false:=by decide):
  PE X (.Call (.Name y p) [e] [] pos) (OB X.mg L i t te):=by
 intro pins s σ H Q I h
 obtain⟨l,c,v,hσ,⟨c',ctv,oz,uz,el,⟨oc,ws,tq,ec,q1,q2⟩,ez,dz,rz⟩,h⟩:=h
 refine wpAny_Call_Name_kw (oh (RQ (X:=X) hN hv hd hcd pins s σ H (λv H1=>v= .ref l/\H1=H) I ⟨_,hσ,rfl,rfl⟩) λu s0 ⟨v0,H0,I0,rv,ev,eH⟩=> ?_)
 subst ev eH
 obtain rfl:u=aX l:=rv
 refine PySem.W.callWith_F (first:=[]) ⟨_,_,_,_,(I0.ko l _ el).1⟩ (oh ((VS he Om hns) pos pins s0 σ H0 (λvs H1=>match vs with| [a]=>H1=H0/\∃r,t [some a,some v] (qW H0 c) (λr' H2=>r'=r/\H2=qW H0 c)/\Q r H0|_=>False) I0 h)
  λus s1 ⟨vs,H1,I1,r1,hh⟩=> ?_) (qU hns) rfl
 obtain⟨a,rfl⟩:∃a,vs=[a]:=by
  rcases vs with _|⟨a,_|⟨b,z⟩⟩
  ·exact hh.elim
  ·exact⟨a,rfl⟩
  ·exact hh.elim
 obtain⟨eH,r,ht,hq⟩:=hh
 subst eH
 refine⟨⟨_,_,_,_,(I1.ko l _ el).1⟩,?_⟩
 obtain⟨u,rfl,ru⟩:=vals1 r1
 have hl:=(I1.ko l _ el).1
 have hz:=(I1.ko c _ ez).1
 have ncs:c∉EC X.stack:=λz=>by rw[I1.Bf c z]at ez;cases ez
 refine wpAny_call (codeAny_mono (PySem.W.kla_callFunE (R:=λr s'=>match r with| .ok (.ret u)=>EP X pins σ Q u s'|_=>False) hr.depth hl rfl S.co S.gen rfl ⟨c',oc,ws,tq,rfl,(I1.ko c' _ ec).1,q1,q2⟩ ?_) λr s' hq=> ?_)
 ·show wpAny _ _ (bindArgs (gB "<lambda>" L.qual L.params L.body L.scope [(L.x,c)] ((X.mg "__name__").getD .none) (.ref c') ctv) ⟨[u],[]⟩) _ _ _
  rw[S.bind]
  refine wpAny_pure (wpAny_newFunctionEnv S.GS (λx hx=> ?_) (λh₁ hn hsb=>⟨((I1.mod.nolimit).keeps I1.bk).fresh _ hsb,PySem.W.kla_codeExpr ?_⟩) S.kind)
  ·rw[bN]at hx;subst hx;exact S.par
  have hk₁:∀b o,s1.heap.get? b=some o->h₁.get? b=some o:=λb o e=>hsb.extBut b o (bA (aU e)) (aP _ e)
  have dr:∀b,H1 b=none->qW H1 c b=none:=λb n=>by
   by_cases hb:b=c
   ·rw[hb];exact uf
   ·rw[mQ hb];exact n
  have no:∀b:Addr,b∉(Uw ca X L l c c' s1 (qW H1 c)).ex:=λb z=>absurd (show b∈([]:List Addr) from z) (by simp)
  have lk:∀{y:Str} {d:Addr},(Uw ca X L l c c' s1 (qW H1 c)).env.cells.lookup y=some d->y=L.x/\d=c:=λ{y d} e=>by
   have m:(y,d)∈ [(L.x,c)]:=cF e
   rw[bN]at m;cases m;exact⟨rfl,rfl⟩
  have lx:(Uw ca X L l c c' s1 (qW H1 c)).env.cells.lookup L.x=some c:=by
   show [(L.x,c)].lookup L.x=some c
   simp
  have J:Inv (Uw ca X L l c c' s1 (qW H1 c)) [] [some a,some v] (qW H1 c) {s1 with heap:=h₁,toks:=s1.toks+[(L.y,u)].length}:=by
   refine⟨⟨I1.ok.mod,S.kind,rfl,rfl,aI _,λy z d h1 h2=>(lk h1).1.trans (lk h2).1.symm,λy hy=> ?_,λy d z=>Bool.noConfusion z,λz=>hr.hd z,gC I1.ok.frames,.inr ⟨rfl,rfl⟩,λb z=>absurd z (no b),λb o e=>⟨(I1.bs b o e).1,dr _ (I1.bs b o e).2⟩,aH I1.ok.PF I1.sz,λb _ _=>no b,λb z=>absurd z (no b),I1.stack,λb z=>dr _ (I1.Bf b z)⟩,
    rfl,I1.bare,Un.kept hk₁,⟨_,hn,λi y w h1 h2 h3=> ?_⟩,λy d e=> ?_,dr _ (I1.ko.fresh (aI _)),λy d e=> ?_,λp hp=>absurd (show p∈([]:List (Addr×Obj)) from hp) (by simp),(I1.ko.drop ez).kept hk₁,rfl⟩
   ·have hy:L.scope.names.lookup y=some .cell∨L.scope.names.lookup y=some .free:=hy
    rcases hy with hy|hy
    ·exact absurd rfl (S.GS _ (cF hy))
    ·rw[S.one y hy];exact⟨c,lx⟩
   ·have h1: [L.y,L.x][i]? =some y:=h1
    match i,h1,h2 with
    |0,h1,h2=>
     cases h1;cases h2
     refine⟨u,ru,.inl ⟨S.par,?_⟩⟩
     show [(L.y,u)].reverse.lookup L.y=some u
     simp
    |1,h1,h2=>
     cases h1;cases h2
     exact⟨uz,rz,.inr ⟨.inr S.free,c,lx,oz,hk₁ _ _ hz,dz⟩⟩
    |n+2,h1,_=>cases h1
   ·obtain⟨rfl,rfl⟩:=lk e
    exact⟨_,oz,hk₁ _ _ hz,dz⟩
   ·rw[(lk e).2];exact uf
  refine wpAny_mono (hbody l c c' s1 (qW H1 c) (hr.deeper _) [] _ _ _ _ J ht) (λu' s' ⟨r',H2,J',rv,er,eH⟩=> ?_) λe' s' z=>z.elim
  subst er eH
  have kc:s'.heap.get? c=some oz:=J'.base.keep c oz hz uf ncs (no c)
  exact⟨r',H1,I1.Us (ch:=[]) J'.os ⟨λb o e n hb hx=>J'.base.keep b o e (dr b n) hb (no b),λb o e n hb hx=>J'.base.slot b o e (dr b n) hb (no b),λb o e n _=>n,λb o e _=>J'.base.there b o e (no b),λ_ _ z=>z,λ_ _ _ z=>z,λ_ _ z=>⟨#[],by rw[dJ];exact z⟩⟩
   (J'.ko.Ws ez kc) J'.bare (λb z=>absurd z (by simp)),rv,hq⟩
 ·cases r with
  |error e=>exact hq.elim
  |ok fl=>
   cases fl with
   |ret u=>exact hq
   |next=>exact bY hq
   |brk=>exact bY hq
   |cont=>exact bY hq
end
section
variable{X:Cx}{ca:Bool}{k:Nat}{pos p:Pos}{e:Expr}{te t:TE}{f C:Addr}{fd:FuncData}{ps:List Str}{sp:Sp}{m:Str}{apos:Pos}{o:Expr}{ta:TE}
theorem Gz{L:LZ}{i:Nat}{y:Str}(S:UL L)(hN:X.N[i]? =some y)(hr:ou ca (k+1) X.A)(he:JE X e te)
  (hbody:∀(l c c':Addr) (s:Shared) (H:Hp),ou ca k (Uw ca X L l c c' s H).A->JE (Uw ca X L l c c' s H) L.body t)
  (hv:WB X.env.scope y:=by first|exact gy rfl|exact fu (gy rfl)|exact fu (fu rfl)) (hns:notStar e=true:=by rfl) (hd:(y==("__debug__":Str))=false:=by decide) (hcd:(y==("__classdict__":Str))=false:=by decide):
  JE X (.Call (.Name y p) [e] [] pos) (OB X.mg L i t te):=⟨RH S hN hv hr he.run (λl c c' s H h=>(hbody l c c' s H h).run) hns hd hcd⟩
theorem N8{pl:Sem Bool}{L:LZ}{P c:Addr}{i:Nat}(he:JE X o ta)(cl:Fh X.K C)(hm:Meth X.K C m f)(F:jA X.prog X.w X.K X.mg X.base (lG X.prog X.w) ca k f fd ps sp)(hr:ou ca k X.A)(hb:Binds X.K fd ps [])
  (hcode:X.env.code= .ref c) (hK:de X.K c P=true) (hq:X.env.qual++"<lambda>"=L.qual) (hN:X.N[i]? =some L.x) (hk:X.env.kindOf L.x=some .cell) (hfn:X.fn L.x=true) (hcl:∀env:Env,Ki L.scope env=[(L.x,(env.cells.lookup L.x).getD 0)])
  (hfr:∀y∈L.scope.names,y.2= .free->y.1=L.x) (hdef:defaultsOf L.params X.env=([],[]))
  (ht:eval (.Call (.Attribute o m apos) [.Lambda L.params L.body L.scope L.pos] [] pos) X.env=(do
   let ov←eval o X.env
   standAt apos.atName
   let (f,first)←holding [ov] (getMethod ov m pl)
   callWith pos f first (backTo pos (starEach [.Lambda L.params L.body L.scope L.pos] X.env)) (backToKw pos (keywordEach [] X.env))):=by rfl):
  JE X (.Call (.Attribute o m apos) [.Lambda L.params L.body L.scope L.pos] [] pos) (R_ X.mg C m sp P i L ta):=⟨RO he.run cl hm F hr hb hcode hK hq hN hk hfn hcl hfr hdef ht⟩
end
noncomputable def Xo (q x y:Str) (sc:Scope):Stmt->LZ
 | .Expr (.Call _ (.Lambda p b s pos::_) _ _) _=>⟨q,p,b,s,pos,x,y⟩
 |_=>⟨q,⟨[],[],none,[],[],none,[]⟩,.Name "" ⟨0,0,0,0⟩,sc,⟨0,0,0,0⟩,x,y⟩
end L2
namespace L2
open PySem PySem.Spec PyProof.Rows
noncomputable def VD:Option Key->Value->Bool
 |some k,v=>wC k v
 |none,.none=>true
 |none,_=>false
theorem qm{k:Option Key}{v:Value}(h:VD k v=true):(k=none/\v= .none)∨∃k',k=some k'/\wC k' v=true:=by
 cases k with
 |some k=>exact .inr ⟨k,rfl,h⟩
 |none=>cases v<;>first|exact .inl ⟨rfl,rfl⟩|cases h
theorem Ci{k:Key}(h:wC k .none=true):False:=by
 rcases kR h with ⟨_,_,_,e⟩|⟨_,_,_,e⟩<;>cases e
theorem EA{A:Around}{s:Shared}{k:Key}{v:Value}(h:wC k v=true):fR A s .none v false/\fR A s v .none false:=by
 rcases kR h with ⟨i,t,rfl,rfl⟩|⟨x,t,rfl,rfl⟩
 ·exact⟨gT _ _,gS _ _⟩
 ·exact⟨gU _ _,gW _ _⟩
noncomputable def Xt (prog:Program) (w:World):iJ prog w (Option Key) where
 is:=VD
 hash:=λk=>match k with
  |some k=>Xm w k
  |none=>reduceHash 0xFCA86420
 inj:=λv a b ha hb=>by
  rcases qm ha with ⟨rfl,rfl⟩|⟨a',rfl,ha⟩<;>rcases qm hb with ⟨rfl,e⟩|⟨b',rfl,hb⟩
  ·rfl
  ·exact(Ci hb).elim
  ·subst e;exact(Ci ha).elim
  ·rw[(jT prog w).inj v a' b' ha hb]
 byValue:=λk v h=>by
  rcases qm h with ⟨rfl,rfl⟩|⟨k',rfl,h⟩
  ·rfl
  ·exact(jT prog w).byValue k' v h
 pyHash:=λhv h=>by
  rcases qm hv with ⟨rfl,rfl⟩|⟨k',rfl,hv⟩
  ·exact PySem.W.pyHash_slot (T:="NoneType") rfl PySem.F.slot_NoneType_hash PySem.F.entry_NoneType_hash (PySem.F.args_NoneType_hash_1 _) (beq_builtin_none _) (.inl rfl) (wpAny_bind (wpAny_pure (wpAny_bind (wpAny_mkInt (wpAny_pure ⟨_,_,rfl,h⟩)))))
  ·exact(jT prog w).pyHash hv h
 eqBool:=λhu hv h=>by
  rcases qm hu with ⟨rfl,rfl⟩|⟨a',rfl,hu⟩<;>rcases qm hv with ⟨rfl,rfl⟩|⟨b',rfl,hv⟩
  ·exact gg _ _ _ _ _ h
  ·exact(EA hv).1 _ _ _ _ h
  ·exact(EA hu).2 _ _ _ _ h
  ·refine(jT prog w).eqBool hu hv ?_
   rw[show decide (a'=b')=decide (some a'=some b') by simp];exact h
 «strs»:=λk x t v h=>by
  rcases qm h with ⟨rfl,e⟩|⟨k',rfl,h⟩
  ·cases e
  ·exact(jT prog w).strs k' x t v h
theorem Of{prog:Program}{w:World}{h:Heap}{a:Addr}{f:Key->Option Value}(m:h.MapOf (jT prog w) a f):∃g,h.MapOf (Xt prog w) a g/\g none=none:=by
 obtain⟨o,es,ep,h1,h2,h3,hk,h4⟩:=m
 refine⟨λk=>findBy VD es k,⟨o,es,ep,h1,h2,h3,λe he=> ?_,λ_=>rfl⟩,?_⟩
 ·obtain⟨k,q1,q2⟩:=hk e he
  exact⟨some k,q1,q2⟩
 ·unfold findBy
  rw[Option.map_eq_none_iff,Array.find?_eq_none]
  intro e he z
  obtain⟨k,q1,_⟩:=hk e he
  rcases qm z with ⟨_,e2⟩|⟨_,e2,_⟩
  ·rw[e2]at q1;exact Ci q1
  ·cases e2
section
variable{X:Cx}
noncomputable def Kg (td ty:TE):TE:=λσ H Q=>td σ H λx H1=>match x with
 | .ref a=>(match H1 a with
  |some (.dK _)=>ty σ H1 λy H2=>(match H2 a with
   |some (.dK kvs)=>(y= .kT/\Q .kT H2)∨∃k,y=kV k/\Q ((mX kvs k).getD .kT) H2
   |_=>False)
  |_=>False)
 |_=>False
theorem QN{o e:Expr}{apos cpos:Pos}{td ty:TE}(hu:X.A.units+1<cLine)(ho:PE X o td)(he:PE X e ty)(m:M1 X o "get" apos e cpos):PE X (.Call (.Attribute o "get" apos) [e] [] cpos) (Kg td ty):=by
 intro pins s σ H Q I h
 refine wpAny_Call_method m.base m.YC m.line eQ du gA (oh (ho pins s σ H _ I h) λu s1 ⟨x,H1,I1,rx,q1⟩=> ?_)
 try dsimp only at q1
 split at q1
 case h_2=>exact q1.elim
 rename_i a
 split at q1
 case h_2=>exact q1.elim
 rename_i kvs0 ea
 obtain rfl:u=aX a:=rx
 obtain⟨t1,t2,_⟩:=NX I1 (NY ea)
 refine⟨t1,t2,?_⟩
 rw[m.trees]
 refine df rfl (dC (dM (oh (he pins s1 σ H1 _ I1 q1) λiv s2 ⟨y,H2,I2,ry,q2⟩=>dR ?_)))
 try dsimp only at q2
 split at q2
 case h_2=>exact q2.elim
 rename_i kvs e2
 rcases q2 with ⟨rfl,q2⟩|⟨k,rfl,q2⟩
 ·obtain rfl:iv=d4:=ry
  obtain⟨z,hd,vs,rel,dd⟩:=CZ I2.ko (.inl e2)
  obtain⟨g,mg,hg⟩:=Of dd.mapOf
  refine call_meetsIn du dd.typeIs eZ (eP _ _) (meets_dict_get (Xt X.prog X.w) (k:=none) (key:=d4) a rfl hd) ⟨_,mg,?_⟩
  rw[hg]
  exact⟨.kT,H2,I2.tok _,rfl,q2⟩
 ·exact QV hu I2 (CJ.k e2) ry λw' s3 I3 rw'=>⟨_,H2,I3,rw',q2⟩
theorem N0{o e:Expr}{apos cpos:Pos}{td ty:TE}(hu:X.A.units+1<cLine)(ho:JE X o td)(he:JE X e ty)(m:M1 X o "get" apos e cpos):JE X (.Call (.Attribute o "get" apos) [e] [] cpos) (Kg td ty):=⟨QN hu ho.run he.run m⟩
end
noncomputable def UI (t:TS):TS:=λD σ H=>∃d kvs,H d=some (.dK kvs)/\∀o,t {nx:=λσ' H'=>H' d=some (.rN o (.dK kvs))/\D.nx σ' (upd H' d (.dK kvs)),rt:=λv H'=>H' d=some (.rN o (.dK kvs))/\D.rt v (upd H' d (.dK kvs)),bk:=λσ' H'=>H' d=some (.rN o (.dK kvs))/\D.bk σ' (upd H' d (.dK kvs)),ct:=λσ' H'=>H' d=some (.rN o (.dK kvs))/\D.ct σ' (upd H' d (.dK kvs))} σ (upd H d (.rN o (.dK kvs)))
theorem TZ{X:Cx}{st:Stmt}{t:TS}(h:PS X st t):PS X st (UI t):=by
 intro pins s σ H D I ⟨d,kvs,e,q⟩
 obtain⟨h2,o,I2⟩:=Tg I e
 refine oh (h pins s σ _ _ I2 (q o)) λf s' sp=> ?_
 cases f with
 |next=>obtain⟨σ',H',I',e',q'⟩:=sp;exact⟨σ',_,Df I' h2 e',q'⟩
 |brk=>obtain⟨σ',H',I',e',q'⟩:=sp;exact⟨σ',_,Df I' h2 e',q'⟩
 |cont=>obtain⟨σ',H',I',e',q'⟩:=sp;exact⟨σ',_,Df I' h2 e',q'⟩
 |ret u=>obtain⟨v,σ',H',I',r',e',q'⟩:=sp;exact⟨v,σ',_,Df I' h2 e',r',q'⟩
theorem xM{X:Cx}{st:Stmt}{t:TS}(h:JS X st t):JS X st (UI t):=⟨TZ h.run⟩
theorem lA.QY{d:Addr}{o:Obj}{kvs:List (Key×V)}{g:TG}{tb:TS}{D:Ends}{σ:St}{H:Hp}(Pv:Nat->St->Hp->Prop)(h0:Pv 0 σ H)(hl:∀i σ H,i<=kvs.length->Pv i σ H->H d=some (.rN o (.dK kvs)))
  (hs:∀i kv σ H,kvs[i]? =some kv->Pv i σ H->∀R:St->Hp->Prop,(∀σ' H',Pv (i+1) σ' H'->R σ' H')->g (kV kv.1) σ H λσ2 H2=>tb {D with nx:=R,ct:=R,bk:=D.nx} σ2 H2) (hd:∀σ H,Pv kvs.length σ H->D.nx σ H):lA (WE d o kvs) g tb D σ H:=
 lA.dict Pv h0 hl (λi kv σ H hk hP=>hs i kv σ H hk hP _ λ_ _ h=>h) hd
theorem Ey{d:Addr}{o:Obj}{kvs:List (Key×V)}{ya:St}{tt:TT}{te:TE}{H:Hp}{Q:VK}(P:Nat->List V->Hp->Prop)(h0:P 0 [] H)(hS:∀i ys H',P i ys H'->H' d=some (.rN o (.dK kvs)))(hz:kvs.length<=sizeLine)(hlen:∀i ys H',P i ys H'->ys.length<=i)
  (step:∀i kv ys H',kvs[i]? =some kv->P i ys H'->∀K1:List V->Hp->Prop,(∀ys' H3,P (i+1) ys' H3->K1 ys' H3)->tt (some (kV kv.1)::ya) H' λb H2=>if b=true then te (some (kV kv.1)::ya) H2 (λy H3=>K1 (ys++[y]) H3) else K1 ys H2)
  (q:∀ys H',P kvs.length ys H'->∀l,H' l=none->Q (.ref l) (upd H' l (.lst ys))):uN (WE d o kvs) ya tt te H Q:=by
 refine⟨λi m ys H'=>P i ys H'/\i<=kvs.length/\m=kvs.length-i,⟨kvs.length,h0,cD _,rfl⟩,λi m ys H' ⟨hP,hi,em⟩=> ?_⟩
 refine⟨aH (aH (hlen _ _ _ hP) hi) hz,?_⟩
 have hS':=hS _ _ _ hP
 by_cases z:i<kvs.length
 ·refine .inr ⟨⟨hS',z⟩,?_⟩
  rintro x H2 ⟨rfl,kv,hk,rfl⟩
  exact step i kv ys _ hk hP (λys' H3=>∃m',m'<m/\(P (i+1) ys' H3/\i+1<=kvs.length/\m'=kvs.length-(i+1))) λys' H3 h=>⟨_,by lia,h,z,rfl⟩
 ·have e:i=kvs.length:=by lia
  subst e
  exact .inl ⟨⟨hS',aI _⟩,q _ _ hP⟩
end L2
namespace L2
theorem pY{H:Hp}{a b:PySem.Addr}{o u:HO}(e:H b=some u)(n:b≠a):upd H a o b=some u:=by rw[iW n];exact e
end L2
namespace K16
open L2.V renaming int->Z_,ref->Z9
open PySem L2
noncomputable def top (i:Nat):Stmt:=PySem.Challenge.pw_cellkeep_k16_whole_slid.main.body.getD i (.Pass ⟨0,0,0,0⟩)
noncomputable abbrev Cs:Stmt:=top 12
noncomputable abbrev Ct:Stmt:=top 42
noncomputable abbrev yS:Stmt:=inClass (top 53) 0
noncomputable abbrev yT:Stmt:=inClass (top 53) 1
noncomputable abbrev yV:Stmt:=inClass (top 53) 2
noncomputable abbrev xh:Stmt:=inClass (top 53) 6
noncomputable abbrev yI:Stmt:=inClass (top 59) 1
noncomputable abbrev Al:Stmt:=inClass (top 61) 0
noncomputable abbrev xa:Stmt:=inClass (top 61) 4
noncomputable abbrev yK:Stmt:=inClass (top 61) 5
noncomputable abbrev An:Stmt:=inClass (top 64) 3
noncomputable abbrev yO:Stmt:=inClass (top 66) 0
noncomputable abbrev rD:Stmt:=inClass (top 66) 2
noncomputable abbrev yQ:Stmt:=inClass (top 66) 5
noncomputable abbrev Ar:Stmt:=inClass (top 68) 0
noncomputable abbrev vh:Stmt:=inClass (top 68) 5
noncomputable abbrev vT:Stmt:=top 72
noncomputable abbrev Aw:Stmt:=top 73
noncomputable abbrev AB:Stmt:=top 13
noncomputable abbrev yU:Stmt:=inClass (top 53) 5
noncomputable abbrev qo:Stmt:=inClass (top 66) 7
noncomputable abbrev AA:Stmt:=top 18
noncomputable abbrev Cr:Stmt:=top 19
noncomputable abbrev y2:Stmt:=top 29
noncomputable abbrev Ee:Stmt:=top 38
noncomputable abbrev Ow:Stmt:=top 39
noncomputable abbrev xc:Stmt:=inClass (top 51) 0
noncomputable abbrev q8:Stmt:=inClass (top 51) 4
noncomputable abbrev pU:Stmt:=inClass (top 51) 5
noncomputable abbrev Ap:Stmt:=inClass (top 53) 4
noncomputable abbrev yM:Stmt:=inClass (top 64) 0
noncomputable abbrev sZ:Stmt:=inClass (top 64) 4
noncomputable abbrev Ao:Stmt:=inClass (top 66) 4
noncomputable abbrev Ed:Stmt:=inClass (top 68) 2
noncomputable abbrev xt:Stmt:=top 20
noncomputable abbrev yZ:Stmt:=top 21
noncomputable abbrev Ox:Stmt:=top 24
noncomputable abbrev xf:Stmt:=inClass (top 51) 1
noncomputable abbrev xb:Stmt:=inClass (top 51) 3
noncomputable abbrev u1:Stmt:=inClass (top 59) 2
noncomputable abbrev qp:Stmt:=inClass (top 68) 7
noncomputable abbrev xo:Stmt:=top 22
noncomputable abbrev yY:Stmt:=top 23
noncomputable abbrev Lv:Stmt:=top 25
noncomputable abbrev vR:Stmt:=inClass (top 51) 2
noncomputable abbrev yJ:Stmt:=inClass (top 59) 0
noncomputable abbrev yL:Stmt:=inClass (top 61) 1
noncomputable abbrev Cp:Stmt:=inClass (top 61) 3
noncomputable abbrev Am:Stmt:=inClass (top 64) 2
noncomputable abbrev yN:Stmt:=inClass (top 66) 1
noncomputable abbrev yP:Stmt:=inClass (top 66) 3
noncomputable abbrev Au:Stmt:=inClass (top 68) 1
noncomputable abbrev As:Stmt:=inClass (top 68) 3
noncomputable abbrev Aq:Stmt:=inClass (top 68) 4
noncomputable abbrev yR:Stmt:=inClass (top 70) 0
noncomputable abbrev Az:Stmt:=top 36
noncomputable abbrev xn:Stmt:=top 37
noncomputable abbrev Cq:Stmt:=inClass (top 61) 2
noncomputable abbrev s_:Stmt:=inClass (top 70) 1
noncomputable abbrev R4:Stmt:=top 30
noncomputable abbrev Cu:Stmt:=top 31
noncomputable abbrev Cv:Stmt:=top 32
noncomputable abbrev Ov:Stmt:=top 33
noncomputable abbrev xp:Stmt:=top 34
noncomputable abbrev vU:Stmt:=top 35
noncomputable abbrev Lr:Stmt:=top 44
noncomputable abbrev xg:Stmt:=inClass (top 53) 8
noncomputable abbrev uo:Stmt:=inClass (top 59) 5
noncomputable abbrev Ef:Stmt:=top 41
noncomputable abbrev sY:Stmt:=inClass (top 59) 3
noncomputable abbrev u3:Stmt:=inClass (top 59) 4
noncomputable abbrev xu:Stmt:=top 48
noncomputable abbrev Ay:Stmt:=top 76
noncomputable abbrev qq:Stmt:=top 80
noncomputable abbrev xm:Stmt:=top 81
noncomputable abbrev Ls:Stmt:=top 46
noncomputable abbrev Lu:Stmt:=top 47
noncomputable abbrev vS:Stmt:=inClass (top 70) 2
noncomputable abbrev yW:Stmt:=top 74
noncomputable abbrev yX:Stmt:=top 77
noncomputable abbrev xj:Stmt:=top 79
noncomputable abbrev pf:Stmt:=top 82
noncomputable abbrev rh:Stmt:=top 83
noncomputable abbrev rj:Stmt:=top 45
noncomputable abbrev Av:Stmt:=top 75
noncomputable abbrev xi:Stmt:=top 78
noncomputable abbrev tf:Stmt:=top 85
noncomputable abbrev uq:Stmt:=top 84
noncomputable abbrev JJ:Stmt:=top 86
theorem i4{s t:TS}{D:Ends}{σ:St}{H:Hp}(P:St->Hp->Prop)(h1:∀R:St->Hp->Prop,(∀σ' H',P σ' H'->R σ' H')->s {D with nx:=R} σ H)(h2:∀σ' H',P σ' H'->t D σ' H'):jM s t D σ H:=h1 (t D) h2
theorem pV{s t:TS}{D:Ends}{σ:St}{H:Hp}(P:St->Hp->Prop)(h1:∀R:St->Hp->Prop,(∀σ' H',P σ' H'->R σ' H')->s {D with nx:=R} σ H)(h2:∀G:St->Hp->Prop,G=t D->∀σ' H',P σ' H'->G σ' H'):jM s t D σ H:=h1 (t D) (h2 (t D) rfl)
theorem lA.enum{K:aA}{a:Addr}{xs:List V}{g:TG}{tb:TS}{D:Ends}{σ:St}{H:Hp}(Pv:Nat->St->Hp->Prop)(h0:Pv 0 σ H)(hl:∀i σ H,i<=xs.length->Pv i σ H->mj K H a xs)
  (hs:∀(i:Nat) x σ H p,xs[i]? =some x->Pv i σ H->H p=none->∀R:St->Hp->Prop,(∀σ' H',Pv (i+1) σ' H'->R σ' H')->g (.ref p) σ (upd H p (.tup [.int i,x])) λσ2 H2=>tb {D with nx:=R,ct:=R,bk:=D.nx} σ2 H2) (hd:∀σ H,Pv xs.length σ H->D.nx σ H):lA (X9 K a) g tb D σ H:=by
 refine⟨λi m σ H=>Pv i σ H/\i<=xs.length/\m=xs.length-i,⟨_,h0,cD _,rfl⟩,λi m σ H ⟨hP,hi,hm⟩=> ?_⟩
 have sa:=hl i σ H hi hP
 by_cases z:i<xs.length
 ·refine .inr ⟨⟨xs,_,sa,au z⟩,Pv (i+1),λσ' H' hN=>⟨xs.length-(i+1),by lia,hN,z,rfl⟩,?_⟩
  rintro x H' ⟨p,y,hp,rfl,rfl,hy⟩
  exact hs i y σ H p (hy xs sa) hP hp _ λ_ _ h=>h
 ·obtain rfl:i=xs.length:=by lia
  exact .inl ⟨⟨xs,sa,aI _⟩,hd σ H hP⟩
theorem Gp{tc:TT}{t u:TS}{D:Ends}{σ:St}{H:Hp}(h:∀K:Bool->Hp->Prop,K true H->tc σ H K)(ht:t D σ H):kM tc t u D σ H:=h _ (by rw[if_pos rfl];exact ht)
theorem Mz{tc:TT}{t u:TS}{D:Ends}{σ:St}{H:Hp}(h:∀K:Bool->Hp->Prop,K false H->tc σ H K)(ht:u D σ H):kM tc t u D σ H:=h _ (by rw[if_neg (by intro z;cases z)];exact ht)
inductive C3 (p0 p1 p2:Prop):Prop
 |mk (h0:p0) (h1:p1) (h2:p2):C3 p0 p1 p2
inductive C4 (p0 p1 p2 p3:Prop):Prop
 |mk (h0:p0) (h1:p1) (h2:p2) (h3:p3):C4 p0 p1 p2 p3
inductive C5 (p0 p1 p2 p3 p4:Prop):Prop
 |mk (h0:p0) (h1:p1) (h2:p2) (h3:p3) (h4:p4):C5 p0 p1 p2 p3 p4
inductive C6 (p0 p1 p2 p3 p4 p5:Prop):Prop
 |mk (h0:p0) (h1:p1) (h2:p2) (h3:p3) (h4:p4) (h5:p5):C6 p0 p1 p2 p3 p4 p5
inductive C7 (p0 p1 p2 p3 p4 p5 p6:Prop):Prop
 |mk (h0:p0) (h1:p1) (h2:p2) (h3:p3) (h4:p4) (h5:p5) (h6:p6):C7 p0 p1 p2 p3 p4 p5 p6
inductive C8 (p0 p1 p2 p3 p4 p5 p6 p7:Prop):Prop
 |mk (h0:p0) (h1:p1) (h2:p2) (h3:p3) (h4:p4) (h5:p5) (h6:p6) (h7:p7):C8 p0 p1 p2 p3 p4 p5 p6 p7
inductive C9 (p0 p1 p2 p3 p4 p5 p6 p7 p8:Prop):Prop
 |mk (h0:p0) (h1:p1) (h2:p2) (h3:p3) (h4:p4) (h5:p5) (h6:p6) (h7:p7) (h8:p8):C9 p0 p1 p2 p3 p4 p5 p6 p7 p8
inductive X7 (p0 p1 p2 p3 p4 p5 p6 p7 p8 p9:Prop):Prop
 |mk (h0:p0) (h1:p1) (h2:p2) (h3:p3) (h4:p4) (h5:p5) (h6:p6) (h7:p7) (h8:p8) (h9:p9):X7 p0 p1 p2 p3 p4 p5 p6 p7 p8 p9
inductive X8 (p0 p1 p2 p3 p4 p5 p6 p7 p8 p9 p10 p11:Prop):Prop
 |mk (h0:p0) (h1:p1) (h2:p2) (h3:p3) (h4:p4) (h5:p5) (h6:p6) (h7:p7) (h8:p8) (h9:p9) (h10:p10) (h11:p11):X8 p0 p1 p2 p3 p4 p5 p6 p7 p8 p9 p10 p11
inductive Zh (p0 p1 p2 p3 p4 p5 p6 p7 p8 p9 p10 p11 p12:Prop):Prop
 |mk (h0:p0) (h1:p1) (h2:p2) (h3:p3) (h4:p4) (h5:p5) (h6:p6) (h7:p7) (h8:p8) (h9:p9) (h10:p10) (h11:p11) (h12:p12):Zh p0 p1 p2 p3 p4 p5 p6 p7 p8 p9 p10 p11 p12
inductive Y2 {t0:Type} {t1:Type} (p:t0->t1->Prop):Prop
 |mk (x0:t0) (x1:t1) (h:p x0 x1):Y2 p
inductive Y3 {t0:Type} {t1:Type} {t2:Type} (p:t0->t1->t2->Prop):Prop
 |mk (x0:t0) (x1:t1) (x2:t2) (h:p x0 x1 x2):Y3 p
inductive Y4 {t0:Type} {t1:Type} {t2:Type} {t3:Type} (p:t0->t1->t2->t3->Prop):Prop
 |mk (x0:t0) (x1:t1) (x2:t2) (x3:t3) (h:p x0 x1 x2 x3):Y4 p
inductive Y5 {t0:Type} {t1:Type} {t2:Type} {t3:Type} {t4:Type} (p:t0->t1->t2->t3->t4->Prop):Prop
 |mk (x0:t0) (x1:t1) (x2:t2) (x3:t3) (x4:t4) (h:p x0 x1 x2 x3 x4):Y5 p
inductive Y6 {t0:Type} {t1:Type} {t2:Type} {t3:Type} {t4:Type} {t5:Type} (p:t0->t1->t2->t3->t4->t5->Prop):Prop
 |mk (x0:t0) (x1:t1) (x2:t2) (x3:t3) (x4:t4) (x5:t5) (h:p x0 x1 x2 x3 x4 x5):Y6 p
inductive Y7 {t0:Type} {t1:Type} {t2:Type} {t3:Type} {t4:Type} {t5:Type} {t6:Type} (p:t0->t1->t2->t3->t4->t5->t6->Prop):Prop
 |mk (x0:t0) (x1:t1) (x2:t2) (x3:t3) (x4:t4) (x5:t5) (x6:t6) (h:p x0 x1 x2 x3 x4 x5 x6):Y7 p
inductive Y8 {t0:Type} {t1:Type} {t2:Type} {t3:Type} {t4:Type} {t5:Type} {t6:Type} {t7:Type} (p:t0->t1->t2->t3->t4->t5->t6->t7->Prop):Prop
 |mk (x0:t0) (x1:t1) (x2:t2) (x3:t3) (x4:t4) (x5:t5) (x6:t6) (x7:t7) (h:p x0 x1 x2 x3 x4 x5 x6 x7):Y8 p
inductive Y9 {t0:Type} {t1:Type} {t2:Type} {t3:Type} {t4:Type} {t5:Type} {t6:Type} {t7:Type} {t8:Type} (p:t0->t1->t2->t3->t4->t5->t6->t7->t8->Prop):Prop
 |mk (x0:t0) (x1:t1) (x2:t2) (x3:t3) (x4:t4) (x5:t5) (x6:t6) (x7:t7) (x8:t8) (h:p x0 x1 x2 x3 x4 x5 x6 x7 x8):Y9 p
inductive Zm {t0:Type} {t1:Type} {t2:Type} {t3:Type} {t4:Type} {t5:Type} {t6:Type} {t7:Type} {t8:Type} {t9:Type} (p:t0->t1->t2->t3->t4->t5->t6->t7->t8->t9->Prop):Prop
 |mk (x0:t0) (x1:t1) (x2:t2) (x3:t3) (x4:t4) (x5:t5) (x6:t6) (x7:t7) (x8:t8) (x9:t9) (h:p x0 x1 x2 x3 x4 x5 x6 x7 x8 x9):Zm p
noncomputable abbrev lm:LZ:=Xo (("collect_all":Str)++".<locals>."++"<lambda>") "where" "at" (iX rj) ((uB rj).getD 4 (.Pass ⟨0,0,0,0⟩))
theorem Zr:UL lm:=⟨rfl,rfl,rfl,by decide+kernel,rfl,rfl,λy h=>(by decide+kernel:∀p∈lm.scope.names,p.2=cK->p.1=lm.x) (y,.free) (cF h) rfl,λ_ _ _ _ _=>rfl⟩
noncomputable def MD:V->Bool
 | .int _=>true
 |_=>false
noncomputable def YD:V->Bool
 | .bl _=>true
 |_=>false
noncomputable def Kn (H:Hp):V->Prop
 | .kT=>True
 | .bl _=>True
 | .int _=>True
 | .str _=>True
 | .ref a=>(∃xs,H a=some (.lst xs))∨(∃xs,H a=some (.tup xs))∨∃kvs,H a=some (.dK kvs)
 |_=>False
theorem Kn.same{H H':Hp}{v:V}(s:ja H H')(h:Kn H v):Kn H' v:=by
 cases v with
 |ref a=>
  rcases h with ⟨xs,e⟩|⟨xs,e⟩|⟨xs,e⟩
  ·exact .inl ⟨xs,s _ _ e⟩
  ·exact .inr (.inl ⟨xs,s _ _ e⟩)
  ·exact .inr (.inr ⟨xs,s _ _ e⟩)
 |_=>exact h
noncomputable def wi (v:V) (a b:Int):Bool:=match v with
 | .int i=>decide (a<=i)&&decide (i<=b)
 |_=>false
theorem DI{i a b:Int}(h1:a<=i)(h2:i<=b):wi (.int i) a b=true:=by simp[wi,h1,h2]
noncomputable def iv:V->Int
 | .int i=>i
 |_=>0
noncomputable def kd (v:V):Option Str:=match v with
 | .int w=>if w= -1 then some "nothing" else if w%2=0/\wi (.int (w/2)) (-1000000000000) 1000000000000=true then some "number" else if w%2=1/\wi (.int (w/2)) 0 9999=true then some "place" else none
 |_=>none
noncomputable def wo (v:V):V:=match v with
 | .int w=>if w= -1 then .kT else .int (w/2)
 |_=> .kT
theorem wB{i:Int}:kd (.int i)=if i= -1 then some (bt "nothing") else if i%2=0/\ -2000000000000<=i/\i<=2000000000000 then some (bt "number") else if i%2=1/\1<=i/\i<=19999 then some (bt "place") else none:=by
 have e1:(i%2=0/\wi (.int (i/2)) (-1000000000000) 1000000000000=true)↔(i%2=0/\ -2000000000000<=i/\i<=2000000000000):=by
  simp only[wi,aQ,decide_eq_true_eq];constructor<;>intro h<;>lia
 have e2:(i%2=1/\wi (.int (i/2)) 0 9999=true)↔(i%2=1/\1<=i/\i<=19999):=by
  simp only[wi,aQ,decide_eq_true_eq];constructor<;>intro h<;>lia
 simp only[kd,e1,e2]
theorem Th{i:Int}:MD (.int i)=true:=rfl
theorem Zq{H:Hp}{i:Int}:Kn H (.int i)=True:=rfl
theorem Fv{v:V}(h:MD v=true):∃i,v= .int i:=by cases v<;>first|exact⟨_,rfl⟩|cases h
theorem A2{ws:List Int}{i:Int}(h0:0<=i)(h1:i<=ws.length-1):HJ (ws.map Z_) i=some (.int (ws.getD i.toNat 0)):=by
 rw[QF h0 (by rw[aj];lia),aS,au (by lia),az,au (show i.toNat<ws.length by lia)]
 rfl
theorem Fw{ws:List Int}{i:Int}(h0:0<=i)(h1:i<=ws.length-1):PX (ws.map Z_).length i=some i.toNat:=KR h0 (by rw[aj];lia)
theorem l8{v:V}{a b:Int}(h:wi v a b=true):∃i,v= .int i/\a<=i/\i<=b:=by
 cases v with
 |int i=>simp[wi]at h;exact⟨i,rfl,h.1,h.2⟩
 |_=>cases h
theorem Ro{v:V}{x:Str}(h:kd v=some x):∃i,v= .int i:=by
 cases v with
 |int i=>exact⟨i,rfl⟩
 |_=>cases h
theorem AI{ws:List Int}{i:Nat}{x:Int}:(ws.map Z_).set i (.int x)=(ws.set i x).map Z_:=by rw[List.map_set]
theorem Y1:¬(("size":Str)="words"):=by decide+kernel
noncomputable def O7 (n:Int) (q:Addr):List (Str×V):=[("size",Z_ n),("words",Z9 q)]
theorem GL{n:Int}{q:Addr}:(O7 n q).lookup ("size":Str)=some (.int n):=by
 simp[O7,bu]
theorem Bd{n:Int}{q:Addr}:(O7 n q).lookup ("words":Str)=some (.ref q):=by
 simp[O7,bu,show(("words":Str)=="size")=false by decide+kernel]
theorem GK{n:Int}{q:Addr}{m:Str}(h1:(m==("size":Str))=false)(h2:(m==("words":Str))=false):(O7 n q).lookup m=none:=by
 simp[O7,bu,h1,h2]
theorem Rz{n:Int}{q:Addr}:(O7 n q).lookup ("want_place":Str)=none:=GK (by decide+kernel) (by decide+kernel)
theorem Vv{n:Int}{q:Addr}:(O7 n q).lookup ("want_stretch":Str)=none:=GK (by decide+kernel) (by decide+kernel)
theorem K9{n:Int}{q:Addr}:(O7 n q).lookup ("read":Str)=none:=GK (by decide+kernel) (by decide+kernel)
theorem GN{n:Int}{q:Addr}:(O7 n q).lookup ("write":Str)=none:=GK (by decide+kernel) (by decide+kernel)
theorem Vt{n:Int}{q:Addr}:(O7 n q).lookup ("copy":Str)=none:=GK (by decide+kernel) (by decide+kernel)
theorem Vu{n:Int}{q:Addr}:ly "words" (.ref q) (ly "size" (.int n) [])=O7 n q:=by
 simp[ly,Y1,O7]
structure kz(c:Addr)(H:Hp)(p q:Addr)(ws:List Int):Prop where
 ob:∃dx,H p=some (.ins c dx (O7 ws.length q))
 ls:H q=some (.lst (ws.map Z_))
section
variable{c p q:Addr}{H H':Hp}{ws:List Int}
theorem kz.ne(m:kz c H p q ws):p≠q:=by
 obtain⟨⟨dx,e⟩,l⟩:=m
 intro z;subst z;rw[e]at l;cases l
theorem kz.keep(m:kz c H p q ws)(h:∀b o,H b=some o->b=p∨b=q->H' b=some o):kz c H' p q ws:=
 ⟨let ⟨dx,e⟩:=m.ob;⟨dx,h _ _ e (.inl rfl)⟩,h _ _ m.ls (.inr rfl)⟩
theorem kz.same(m:kz c H p q ws)(s:ja H H'):kz c H' p q ws:=m.keep λb o e _=>s b o e
theorem kz.put(m:kz c H p q ws)(i:Nat)(x:Int):kz c (upd H q (.lst ((ws.set i x).map Z_))) p q (ws.set i x):=by
 refine⟨?_,iS⟩
 obtain⟨dx,e⟩:=m.ob
 refine⟨dx,?_⟩
 rw[iW m.ne,bf];exact e
end
noncomputable def jJ (ws:List Int):Prop:=∀w∈ws,(kd (.int w)).isSome=true
noncomputable def hd (w:Int):Option Int:=if w%2=0/\0<=w/\w<=68/\w/2%4<=2 then some (w/2) else none
noncomputable def l_ (ws:List Int) (i:Nat):Option Int:=match hd (ws.getD i 0) with
 |some n=>if (i:Int)+n/4<=ws.length-1 then some n else none
 |none=>none
theorem Xl{w n:Int}(h:hd w=some n):w=2*n/\0<=n/\n<=34/\n%4<=2:=by
 unfold hd at h
 split at h
 ·cases h;lia
 ·cases h
theorem O6{ws:List Int}(h:jJ ws){i:Nat}(hi:i<ws.length):∃x,kd (.int (ws.getD i 0))=some x:=by
 have:ws.getD i 0∈ws:=by rw[az,au hi];exact bq hi
 exact Option.isSome_iff_exists.mp (h _ this)
theorem CV{ws:List Int}{i:Nat}{n:Int}(h:l_ ws i=some n):ws.getD i 0=2*n/\0<=n/\n<=34/\n%4<=2/\(i:Int)+n/4<=ws.length-1:=by
 unfold l_ at h
 split at h
 ·rename_i m e
  split at h
  ·cases h
   obtain⟨a,b,c,d⟩:=Xl e
   exact⟨a,b,c,d,by assumption⟩
  ·cases h
 ·cases h
theorem GD{i:Int}{x:Str}(h:kd (.int i)=some x):(x=bt "nothing"/\i= -1)∨(x=bt "number"/\i%2=0/\ -2000000000000<=i/\i<=2000000000000)∨(x=bt "place"/\i%2=1/\1<=i/\i<=19999):=by
 rw[wB]at h
 split at h
 ·cases h;exact .inl ⟨rfl,by assumption⟩
 ·split at h
  ·cases h;exact .inr (.inl ⟨rfl,by assumption⟩)
  ·split at h
   ·cases h;exact .inr (.inr ⟨rfl,by assumption⟩)
   ·cases h
theorem YL:¬(bt "nothing"=bt "number"):=by decide+kernel
theorem YM:¬(bt "place"=bt "number"):=by decide+kernel
theorem Xx:¬(bt "number"=bt "place"):=by decide+kernel
theorem Xy:¬(bt "nothing"=bt "place"):=by decide+kernel
theorem OG{w:Int}(h:w≠ -1):wo (.int w)= .int (w/2):=by simp[wo,h]
theorem rg{ws:List Int}{i:Nat}:l_ ws i=if ws.getD i 0%2=0/\0<=ws.getD i 0/\ws.getD i 0<=68/\ws.getD i 0/2%4<=2/\(i:Int)+ws.getD i 0/2/4<=ws.length-1 then some (ws.getD i 0/2) else none:=by
 unfold l_ hd
 generalize ws.getD i 0=W
 by_cases c:W%2=0/\0<=W/\W<=68/\W/2%4<=2
 ·rw[if_pos c]
  by_cases d:(i:Int)+W/2/4<=ws.length-1
  ·rw[if_pos ⟨c.1,c.2.1,c.2.2.1,c.2.2.2,d⟩];exact if_pos d
  ·rw[if_neg λz=>d z.2.2.2.2];exact if_neg d
 ·rw[if_neg c,if_neg λz=>c ⟨z.1,z.2.1,z.2.2.1,z.2.2.2.1⟩]
noncomputable def ot (w:Int):Bool:=decide (w%2=1/\0<w)
noncomputable def kids (ws:List Int) (i:Nat) (n:Int):List Int:=(((ws.drop (i+1)).take (n/4).toNat).filter ot).map (· /2)
theorem Tv{ws:List Int}{i n:Nat}(h:i+n<=ws.length):(bZ n).map (λt=>Z_ (ws.getD (i+t) 0))=((ws.drop i).take n).map Z_:=by
 refine eR λt=> ?_
 rw[aS,aS,List.getElem?_take]
 by_cases z:t<n
 ·rw[if_pos z,fw z,g_,bG,az,au (by lia)]
  rfl
 ·rw[if_neg z,bQ (by rw[dB];lia)]
  rfl
noncomputable def blank (ws:List Int) (i:Nat):Nat->List Int
 |0=>ws
 |k+1=>(blank ws i k).set (i+k) (-1)
theorem vo{ws:List Int}{i:Nat}:∀k,(blank ws i k).length=ws.length
 |0=>rfl
 |k+1=>by rw[blank,bf,vo k]
theorem zC{ws:List Int}{i j:Nat}:∀k,(blank ws i k)[j]? =if i<=j/\j<i+k then ws[j]?.map (λ_=> -1) else ws[j]?
 |0=>by rw[if_neg (by lia)];rfl
 |k+1=>by
  rw[blank,bE,vo]
  by_cases z:i+k=j
  ·subst z
   have c:i<=i+k/\i+k<i+(k+1):=by lia
   rw[if_pos rfl,if_pos c]
   by_cases y:i+k<ws.length
   ·rw[if_pos y,au y];rfl
   ·rw[if_neg y,bQ (by lia)];rfl
  ·rw[if_neg z,zC k]
   by_cases y:i<=j/\j<i+k
   ·rw[if_pos y,if_pos (by lia)]
   ·rw[if_neg y,if_neg (by lia)]
noncomputable def laid (ws:List Int) (i s:Nat):List Int:=(blank ws i (s+1)).set i (8*s)
theorem Dh{ws:List Int}{i s:Nat}:(laid ws i s).length=ws.length:=by rw[laid,bf,vo]
theorem Tr{ws:List Int}{i s:Nat}:blank (ws.set i (8*s)) (i+1) s=laid ws i s:=by
 refine eR λj=> ?_
 rw[zC,laid,bE,bE,zC,vo]
 by_cases z:i=j
 ·subst z
  rw[if_neg (by lia),if_pos rfl,if_pos rfl]
 ·rw[if_neg z,if_neg z]
  by_cases y:i+1<=j/\j<i+1+s
  ·rw[if_pos y,if_pos (by lia)]
  ·rw[if_neg y,if_neg (by lia)]
theorem jJ.set{ws:List Int}{i:Nat}{x:Int}(h:jJ ws)(hx:(kd (.int x)).isSome=true):jJ (ws.set i x):=λw hw=>by
 rcases dD hw with z|rfl
 ·exact h w z
 ·exact hx
theorem jJ.blank{ws:List Int}{i:Nat}(h:jJ ws):∀k,jJ (blank ws i k)
 |0=>h
 |k+1=>(jJ.blank h k).set (by rw[wB,if_pos rfl];rfl)
theorem Ts{ws:List Int}{i s j:Nat}(h:j<i∨i+s<j):(laid ws i s).getD j 0=ws.getD j 0:=by
 rw[laid,az,bE,if_neg (by lia),zC,if_neg (by lia),←az]
theorem Tq{ws:List Int}{i s:Nat}(h:i<ws.length):(laid ws i s).getD i 0=8*s:=by
 rw[laid,az,bE,if_pos rfl,if_pos (by rw[vo];exact h)];rfl
theorem NM{ws:List Int}{i s:Nat}(hs:s<=8)(h:i+s<ws.length):l_ (laid ws i s) i=some (4*s):=by
 rw[rg,Tq (by lia),Dh,if_pos (by lia)]
 congr 1;lia
theorem jJ.laid{ws:List Int}{i s:Nat}(h:jJ ws)(hs:s<=8):jJ (laid ws i s):=
 (h.blank _).set (by rw[wB,if_neg (by lia),if_pos (by lia)];rfl)
theorem YI:¬(("begin":Str)="top"):=by decide+kernel
theorem YJ:¬(("end":Str)="top"):=by decide+kernel
noncomputable def uK (b e t:Int):List (Str×V):=[("begin",Z_ b),("end",Z_ e),("top",Z_ t)]
section
variable{b e t x:Int}{m:Str}
theorem Na:(uK b e t).lookup ("begin":Str)=some (.int b):=by simp[uK,bu]
theorem XZ:(uK b e t).lookup ("end":Str)=some (.int e):=by
 simp[uK,bu,show(("end":Str)=="begin")=false by decide+kernel]
theorem JL:(uK b e t).lookup ("top":Str)=some (.int t):=by
 simp[uK,bu,show(("top":Str)=="begin")=false by decide+kernel,show(("top":Str)=="end")=false by decide+kernel]
theorem Ek(h1:(m==("begin":Str))=false)(h2:(m==("end":Str))=false)(h3:(m==("top":Str))=false):(uK b e t).lookup m=none:=by
 simp[uK,bu,h1,h2,h3]
theorem Nb:(uK b e t).lookup ("room":Str)=none:=Ek (by decide+kernel) (by decide+kernel) (by decide+kernel)
theorem Dz:(uK b e t).lookup ("used":Str)=none:=Ek (by decide+kernel) (by decide+kernel) (by decide+kernel)
theorem Uc:(uK b e t).lookup ("has":Str)=none:=Ek (by decide+kernel) (by decide+kernel) (by decide+kernel)
theorem Nc:(uK b e t).lookup ("take":Str)=none:=Ek (by decide+kernel) (by decide+kernel) (by decide+kernel)
theorem Ej:(uK b e t).lookup ("empty":Str)=none:=Ek (by decide+kernel) (by decide+kernel) (by decide+kernel)
theorem Qi:(uK b e t).lookup ("cells":Str)=none:=Ek (by decide+kernel) (by decide+kernel) (by decide+kernel)
theorem Pm:ly "top" (.int x) (uK b e t)=uK b e x:=by simp[ly,uK,YI,YJ]
theorem Pl:(uK b e t).length=3:=rfl
end
noncomputable def walks (ws:List Int):Int->List Int->Int->Prop
 |a,[],t=>a=t
 |a,s::r,t=>(0<=a/\a<ws.length/\∃n,l_ ws a.toNat=some n/\n/4+1=s)/\walks ws (a+s) r t
noncomputable def D_:Int->List Int->List Int
 |_,[]=>[]
 |a,s::r=>a::D_ (a+s) r
theorem Jq{ws:List Int}{a:Int}{n s:Int}(hc:l_ ws a.toNat=some n)(hs:n/4+1=s):1<=s/\s<=9:=by
 obtain⟨_,h0,h1,_,_⟩:=CV hc
 lia
theorem JQ{ws:List Int}:∀{sz:List Int} {a t:Int},walks ws a sz t->a+sz.length<=t
 | [],a,t,h=>by have:a=t:=h;simp[this]
 |s::r,a,t,h=>by
  have h1:=JQ h.2
  obtain⟨_,_,n,hc,hn⟩:=h.1
  have:=Jq hc hn
  rw[af]
  lia
theorem Ea:∀{xs:List Int} {a s:Int},D_ a (xs++[s])=D_ a xs++[a+xs.sum]
 | [],a,s=>by simp[D_]
 |x::r,a,s=>by
  rw[aL]
  simp only[D_,d5,aL]
  rw[Ea,show a+x+r.sum=a+(x+r.sum) by lia]
theorem MV:∀{xs:List Int} {a:Int},(D_ a xs).length=xs.length
 | [],_=>rfl
 |x::r,a=>by simp only[D_,af,MV]
theorem Hz{ws:List Int}:∀{sz:List Int} {a t n s:Int},walks ws a sz t->0<=t->t<ws.length->l_ ws t.toNat=some n->n/4+1=s->walks ws a (sz++[s]) (t+s)
 | [],a,t,n,s,h,h0,h1,hc,hn=>by
  have e:a=t:=h
  subst e
  exact⟨⟨h0,h1,n,hc,hn⟩,rfl⟩
 |x::r,a,t,n,s,h,h0,h1,hc,hn=>⟨h.1,Hz h.2 h0 h1 hc hn⟩
theorem VA:¬(("memory":Str)="old"):=by decide+kernel
theorem VB:¬(("memory":Str)="young"):=by decide+kernel
theorem Xw:¬(("memory":Str)="spare"):=by decide+kernel
theorem VC:¬(("old":Str)="young"):=by decide+kernel
theorem Xz:¬(("old":Str)="spare"):=by decide+kernel
theorem XA:¬(("young":Str)="spare"):=by decide+kernel
noncomputable def zy (m o y s:Addr):List (Str×V):=[("memory",Z9 m),("old",Z9 o),("young",Z9 y),("spare",Z9 s)]
section
variable{m o y s x:Addr}{f:Str}
theorem Bp:(zy m o y s).lookup ("memory":Str)=some (.ref m):=by simp[zy,bu]
theorem Bq:(zy m o y s).lookup ("old":Str)=some (.ref o):=by
 simp[zy,bu,show(("old":Str)=="memory")=false by decide+kernel]
theorem L4:(zy m o y s).lookup ("young":Str)=some (.ref y):=by
 simp[zy,bu,show(("young":Str)=="memory")=false by decide+kernel,show(("young":Str)=="old")=false by decide+kernel]
theorem QD:(zy m o y s).lookup ("spare":Str)=some (.ref s):=by
 simp[zy,bu,show(("spare":Str)=="memory")=false by decide+kernel,show(("spare":Str)=="old")=false by decide+kernel,show(("spare":Str)=="young")=false by decide+kernel]
theorem FJ(h1:(f==("memory":Str))=false)(h2:(f==("old":Str))=false)(h3:(f==("young":Str))=false)(h4:(f==("spare":Str))=false):(zy m o y s).lookup f=none:=by
 simp[zy,bu,h1,h2,h3,h4]
theorem Qz:(zy m o y s).lookup ("flip":Str)=none:=FJ (by decide+kernel) (by decide+kernel) (by decide+kernel) (by decide+kernel)
theorem Qy:(zy m o y s).lookup ("area_of":Str)=none:=FJ (by decide+kernel) (by decide+kernel) (by decide+kernel) (by decide+kernel)
theorem UP:(zy m o y s).lookup ("lay_young":Str)=none:=FJ (by decide+kernel) (by decide+kernel) (by decide+kernel) (by decide+kernel)
theorem UO:(zy m o y s).lookup ("lay_old":Str)=none:=FJ (by decide+kernel) (by decide+kernel) (by decide+kernel) (by decide+kernel)
theorem QA:(zy m o y s).lookup ("lay_into":Str)=none:=FJ (by decide+kernel) (by decide+kernel) (by decide+kernel) (by decide+kernel)
theorem UQ:ly "spare" (.ref s) (ly "young" (.ref y) (ly "old" (.ref o) (ly "memory" (.ref m) [])))=zy m o y s:=by simp[ly,zy,VA,VB,Xw,VC,Xz,XA]
theorem QC:ly "young" (.ref x) (zy m o y s)=zy m o x s:=by simp[ly,zy,VB,VC]
theorem QB:ly "spare" (.ref x) (zy m o y s)=zy m o y x:=by simp[ly,zy,Xw,Xz,XA]
theorem SH:(zy m o y s).length=4:=rfl
end
structure S3 where
 b:Int
 e:Int
 t:Int
noncomputable def zx (c:Addr) (H:Hp) (p:Addr) (x:S3):Prop:=∃dx,H p=some (.ins c dx (uK x.b x.e x.t))
structure pZ(cA cM cS:Addr)(H:Hp)(p m q o y s:Addr)(ws:List Int)(so sy ss:S3):Prop where
 ob:∃dx,H p=some (.ins cA dx (zy m o y s))
 mem:kz cM H m q ws
 old:zx cS H o so
 Fg:zx cS H y sy
 HH:zx cS H s ss
 oy:o≠y
 os:o≠s
 ys:y≠s
 pd:p≠m/\p≠o/\p≠y/\p≠s
 md:m≠o/\m≠y/\m≠s
section
variable{cA cM cS:Addr}{H H':Hp}{p m q o y s:Addr}{ws ws':List Int}{so sy ss:S3}
theorem zx.ne{c x q':Addr}{xs:List V}{z:S3}(h:zx c H x z)(hq:H q'=some (.lst xs)):x≠q':=by
 obtain⟨dx,e⟩:=h
 intro w;subst w;rw[e]at hq;cases hq
theorem zx.same{c x:Addr}{z:S3}(h:zx c H x z)(k:ja H H'):zx c H' x z:=let ⟨dx,e⟩:=h;⟨dx,k _ _ e⟩
theorem pZ.same(a:pZ cA cM cS H p m q o y s ws so sy ss)(h:ja H H'):pZ cA cM cS H' p m q o y s ws so sy ss:=
 {a with ob:=let ⟨dx,e⟩:=a.ob;⟨dx,h _ _ e⟩,mem:=a.mem.same h,old:=a.old.same h,Fg:=a.Fg.same h,HH:=a.HH.same h}
theorem pZ.flip(a:pZ cA cM cS H p m q o y s ws so sy ss){dx:Addr}(e:H' p=some (.ins cA dx (zy m o s y)))(k:∀b x,H b=some x->b≠p->H' b=some x):pZ cA cM cS H' p m q o s y ws so ss sy where
 ob:=⟨dx,e⟩
 mem:=a.mem.keep λb x eb hb=>k b x eb (by
  rcases hb with rfl|rfl
  ·exact aC a.pd.1
  ·obtain⟨dz,ez⟩:=a.ob
   intro z;rw[z,ez]at eb;have:=a.mem.ls;rw[z,ez]at this;cases this)
 old:=let ⟨dx,e⟩:=a.old;⟨dx,k _ _ e (aC a.pd.2.1)⟩
 Fg:=let ⟨dx,e⟩:=a.HH;⟨dx,k _ _ e (aC a.pd.2.2.2)⟩
 HH:=let ⟨dx,e⟩:=a.Fg;⟨dx,k _ _ e (aC a.pd.2.2.1)⟩
 oy:=a.os
 os:=a.oy
 ys:=aC a.ys
 pd:=⟨a.pd.1,a.pd.2.1,a.pd.2.2.2,a.pd.2.2.1⟩
 md:=⟨a.md.1,a.md.2.2,a.md.2.1⟩
theorem pZ.VI(a:pZ cA cM cS H p m q o y s ws so sy ss){z:S3}(mem:kz cM H' m q ws')(e:zx cS H' o z)(k:∀b x,H b=some x->b≠q->b≠o->H' b=some x):pZ cA cM cS H' p m q o y s ws' z sy ss:=
 {a with
  ob:=let ⟨dx,e⟩:=a.ob;⟨dx,k _ _ e (λz=>by rw[z,a.mem.ls]at e;cases e) a.pd.2.1⟩
  mem:=mem
  old:=e
  Fg:=let ⟨dx,e⟩:=a.Fg;⟨dx,k _ _ e (zx.ne ⟨dx,e⟩ a.mem.ls) (aC a.oy)⟩
  HH:=let ⟨dx,e⟩:=a.HH;⟨dx,k _ _ e (zx.ne ⟨dx,e⟩ a.mem.ls) (aC a.os)⟩}
theorem pZ.X6(a:pZ cA cM cS H p m q o y s ws so sy ss){z:S3}(mem:kz cM H' m q ws')(e:zx cS H' y z)(k:∀b x,H b=some x->b≠q->b≠y->H' b=some x):pZ cA cM cS H' p m q o y s ws' so z ss:=
 {a with
  ob:=let ⟨dx,e⟩:=a.ob;⟨dx,k _ _ e (λz=>by rw[z,a.mem.ls]at e;cases e) a.pd.2.2.1⟩
  mem:=mem
  old:=let ⟨dx,e⟩:=a.old;⟨dx,k _ _ e (zx.ne ⟨dx,e⟩ a.mem.ls) a.oy⟩
  Fg:=e
  HH:=let ⟨dx,e⟩:=a.HH;⟨dx,k _ _ e (zx.ne ⟨dx,e⟩ a.mem.ls) (aC a.ys)⟩}
theorem pZ.Ze(a:pZ cA cM cS H p m q o y s ws so sy ss){z:S3}(e:zx cS H' s z)(k:∀b x,H b=some x->b≠s->H' b=some x):pZ cA cM cS H' p m q o y s ws so sy z:=
 {a with
  ob:=let ⟨dx,e⟩:=a.ob;⟨dx,k _ _ e a.pd.2.2.2⟩
  mem:=a.mem.keep λb x eb hb=>k b x eb (by
   rcases hb with rfl|rfl
   ·exact a.md.2.2
   ·exact aC (a.HH.ne a.mem.ls))
  old:=let ⟨dx,e⟩:=a.old;⟨dx,k _ _ e a.os⟩
  Fg:=let ⟨dx,e⟩:=a.Fg;⟨dx,k _ _ e a.ys⟩
  HH:=e}
end
noncomputable def tQ (ws:List Int) (i s:Nat) (g:Int):List Int:=(laid ws i s).set i (2*(4*s+g))
theorem Bc{ws:List Int}{i s:Nat}{g:Int}:(tQ ws i s g).length=ws.length:=by rw[tQ,bf,Dh]
theorem jJ.tQ{ws:List Int}{i s:Nat}{g:Int}(h:jJ ws)(hs:s<=8)(g0:0<=g)(g2:g<=2):jJ (tQ ws i s g):=
 (h.laid hs).set (by rw[wB,if_neg (by lia),if_pos (by lia)];rfl)
theorem MI{ws:List Int}{i s j:Nat}{g:Int}(h:j<i∨i+s<j):(tQ ws i s g).getD j 0=ws.getD j 0:=by
 rw[tQ,az,bE,if_neg (by lia),←az,Ts h]
theorem Rq{ws:List Int}{i s:Nat}{g:Int}(h:i<ws.length):(tQ ws i s g).getD i 0=2*(4*s+g):=by
 rw[tQ,az,bE,if_pos rfl,if_pos (by rw[Dh];exact h)];rfl
theorem N_{ws:List Int}{i s j:Nat}{g:Int}(h:i<j)(h1:j<=i+s)(h2:j<ws.length):(tQ ws i s g).getD j 0= -1:=by
 rw[tQ,az,bE,if_neg (by lia),laid,bE,if_neg (by lia),zC,if_pos (by lia),au h2];rfl
theorem Ex{ws:List Int}{i s:Nat}{g:Int}(hs:s<=8)(h:i+s<ws.length)(g0:0<=g)(g2:g<=2):l_ (tQ ws i s g) i=some (4*s+g):=by
 rw[rg,Rq (by lia),Bc,if_pos (by lia)]
 congr 1;lia
noncomputable def Sy (v:V) (so sy:S3):V:=if wi v so.b (so.t-1)=true then .str (bt "old") else if wi v sy.b (sy.t-1)=true then .str (bt "young") else .kT
noncomputable def cp (ws ks:List Int) (g:Nat):Nat->List Int
 |0=>ws
 |k+1=>(cp ws ks g k).set (g+k) (ks.getD k 0)
theorem Kk{ws ks:List Int}{g:Nat}:∀k,(cp ws ks g k).length=ws.length
 |0=>rfl
 |k+1=>by rw[cp,bf,Kk k]
noncomputable def Yf (v:V) (n m:Int):Bool:=wi v 0 (n-m)
noncomputable def NI (d:Addr):List (Str×V):=[("written",Z9 d)]
section
variable{d d':Addr}{f:Str}
theorem OM:(NI d).lookup ("written":Str)=some (.ref d):=by simp[NI,bu]
theorem FT(h:(f==("written":Str))=false):(NI d).lookup f=none:=by simp[NI,bu,h]
theorem PD:(NI d).lookup ("write":Str)=none:=FT (by decide+kernel)
theorem SS:(NI d).lookup ("rub":Str)=none:=FT (by decide+kernel)
theorem OL:(NI d).lookup ("has":Str)=none:=FT (by decide+kernel)
theorem NJ:(NI d).lookup ("places":Str)=none:=FT (by decide+kernel)
theorem PC:(NI d).lookup ("clear":Str)=none:=FT (by decide+kernel)
theorem US:ly "written" (.ref d) []=NI d:=rfl
theorem SR:ly "written" (.ref d') (NI d)=NI d':=by simp[ly,NI]
theorem SQ:(NI d).length=1:=rfl
end
noncomputable def Kc (ks:List Int):List (Key×V):=ks.map λk=>(aJ k,V.bl true)
theorem SU{ks:List Int}:(Kc ks).length=ks.length:=aj ..
theorem Kd{k:Int}:∀{ks:List Int},mX (Kc ks) (aJ k)=if k∈ks then some (.bl true) else none
 | []=>rfl
 |x::r=>by
  by_cases e:x=k
  ·subst e
   rw[if_pos a_]
   exact tM rfl
  ·have e':¬((aJ x:Key)=aJ k):=λz=>e (cE z)
   show mX ((aJ x,V.bl true)::Kc r) (aJ k)=_
   rw[tL e',Kd]
   by_cases m:k∈r
   ·rw[if_pos m,if_pos (ba _ m)]
   ·rw[if_neg m,if_neg (by simp;exact⟨λz=>e z.symm,m⟩)]
theorem SV{k:Int}{ks:List Int}:putK (Kc ks) (aJ k) (.bl true)=Kc (if k∈ks then ks else ks++[k]):=by
 have ha:((Kc ks).any λkv=>decide (kv.1=(aJ k:Key)))=decide (k∈ks):=by
  induction ks with
  |nil=>rfl
  |cons x r ih=>
   show(decide ((aJ x:Key)=aJ k) ||(Kc r).any _)=_
   rw[ih]
   by_cases e:x=k
   ·subst e;simp
   ·have e':¬((aJ x:Key)=aJ k):=λz=>e (cE z)
    simp[e']
    intro z;exact absurd z.symm e
 unfold putK
 rw[ha]
 by_cases m:k∈ks
 ·rw[if_pos (by simpa using m),if_pos m]
  unfold Kc
  rw[bB]
  refine b_ λx _=> ?_
  show(if (aJ x:Key)=aJ k then(aJ x,V.bl true) else(aJ x,V.bl true))=_
  split<;>rfl
 ·rw[if_neg (by simpa using m),if_neg m]
  unfold Kc
  rw[bo];rfl
theorem QI{k:Int}{ks:List Int}:C0 (Kc ks) (aJ k)=Kc (ks.filter λx=>decide (x≠k)):=by
 unfold C0 Kc
 rw[dP]
 congr 1
 refine fL λx _=> ?_
 show decide ((aJ x:Key)≠aJ k)=decide (x≠k)
 by_cases e:x=k
 ·subst e;simp
 ·simp[e,show¬((aJ x:Key)=aJ k) from λz=>e (cE z)]
structure u9(c:Addr)(H:Hp)(p d:Addr)(ks:List Int):Prop where
 ob:∃dx,H p=some (.ins c dx (NI d))
 dc:H d=some (.dK (Kc ks))
noncomputable def WC (ks:List Int) (k:Int):List Int:=if k∈ks then ks else ks++[k]
noncomputable def IJ (ks:List Int) (k:Int):List Int:=ks.filter λx=>decide (x≠k)
section
variable{c p d:Addr}{H H':Hp}{ks ks':List Int}
theorem u9.ne(m:u9 c H p d ks):p≠d:=by
 obtain⟨⟨dx,e⟩,l⟩:=m
 intro z;subst z;rw[e]at l;cases l
theorem u9.keep(m:u9 c H p d ks)(h:∀b o,H b=some o->b=p∨b=d->H' b=some o):u9 c H' p d ks:=
 ⟨let ⟨dx,e⟩:=m.ob;⟨dx,h _ _ e (.inl rfl)⟩,h _ _ m.dc (.inr rfl)⟩
theorem u9.same(m:u9 c H p d ks)(s:ja H H'):u9 c H' p d ks:=m.keep λb o e _=>s b o e
theorem u9.put(m:u9 c H p d ks):u9 c (upd H d (.dK (Kc ks'))) p d ks':=by
 refine⟨?_,iS⟩
 obtain⟨dx,e⟩:=m.ob
 exact⟨dx,by rw[iW m.ne];exact e⟩
end
noncomputable def Uz (q:Addr):List (Str×V):=[("words",Z9 q)]
section
variable{q:Addr}{f:Str}
theorem Rg:(Uz q).lookup ("words":Str)=some (.ref q):=by simp[Uz,bu]
theorem NW(h:(f==("words":Str))=false):(Uz q).lookup f=none:=by simp[Uz,bu,h]
theorem KO:(Uz q).lookup ("put":Str)=none:=NW (by decide+kernel)
theorem KP:(Uz q).lookup ("row":Str)=none:=NW (by decide+kernel)
theorem Rh:(Uz q).lookup ("want_hand":Str)=none:=NW (by decide+kernel)
end
structure xY(c:Addr)(H:Hp)(p q:Addr)(ws:List Int):Prop where
 ob:∃dx,H p=some (.ins c dx (Uz q))
 ls:H q=some (.lst (ws.map Z_))
section
variable{c p q:Addr}{H H':Hp}{ws:List Int}
theorem xY.ne(m:xY c H p q ws):p≠q:=by
 obtain⟨⟨dx,e⟩,l⟩:=m
 intro z;subst z;rw[e]at l;cases l
theorem xY.keep(m:xY c H p q ws)(h:∀b o,H b=some o->b=p∨b=q->H' b=some o):xY c H' p q ws:=
 ⟨let ⟨dx,e⟩:=m.ob;⟨dx,h _ _ e (.inl rfl)⟩,h _ _ m.ls (.inr rfl)⟩
theorem xY.same(m:xY c H p q ws)(s:ja H H'):xY c H' p q ws:=m.keep λb o e _=>s b o e
theorem xY.put(m:xY c H p q ws)(i:Nat)(x:Int):xY c (upd H q (.lst ((ws.set i x).map Z_))) p q (ws.set i x):=by
 refine⟨?_,iS⟩
 obtain⟨dx,e⟩:=m.ob
 exact⟨dx,by rw[iW m.ne];exact e⟩
end
noncomputable def Nn (q:Addr):List (Str×V):=[("told",Z9 q)]
section
variable{q:Addr}{f:Str}
theorem JU:(Nn q).lookup ("told":Str)=some (.ref q):=by simp[Nn,bu]
theorem Ep(h:(f==("told":Str))=false):(Nn q).lookup f=none:=by simp[Nn,bu,h]
theorem Sq:(Nn q).lookup ("name":Str)=none:=Ep (by decide+kernel)
theorem Sn:(Nn q).lookup ("at":Str)=none:=Ep (by decide+kernel)
theorem So:(Nn q).lookup ("move":Str)=none:=Ep (by decide+kernel)
theorem Np:(Nn q).lookup ("gone":Str)=none:=Ep (by decide+kernel)
theorem JR:(Nn q).lookup ("names":Str)=none:=Ep (by decide+kernel)
theorem AY:(Nn q).lookup ("want_standing":Str)=none:=Ep (by decide+kernel)
theorem Wv:ly "told" (.ref q) []=Nn q:=rfl
end
noncomputable def tv:Option Int->V
 |some i=> .int i
 |none=> .kT
theorem En{os:List (Option Int)}:(os.map tv).length=os.length:=aj ..
theorem X4{os:List (Option Int)}{i:Int}(h0:0<=i)(h1:i<=os.length-1):HJ (os.map tv) i=some (tv (os.getD i.toNat none)):=by
 rw[QF h0 (by rw[aj];lia),aS,au (by lia),az,au (show i.toNat<os.length by lia)]
 rfl
theorem UJ{os:List (Option Int)}{i:Int}(h0:0<=i)(h1:i<=os.length-1):PX (os.map tv).length i=some i.toNat:=KR h0 (by rw[aj];lia)
theorem Sg{os:List (Option Int)}{i:Nat}{x:Option Int}:(os.map tv).set i (tv x)=(os.set i x).map tv:=by rw[List.map_set]
structure tV(c:Addr)(H:Hp)(p q:Addr)(os:List (Option Int)):Prop where
 ob:∃dx,H p=some (.ins c dx (Nn q))
 ls:H q=some (.lst (os.map tv))
section
variable{c p q:Addr}{H H':Hp}{os os':List (Option Int)}
theorem tV.ne(m:tV c H p q os):p≠q:=by
 obtain⟨⟨dx,e⟩,l⟩:=m
 intro z;subst z;rw[e]at l;cases l
theorem tV.keep(m:tV c H p q os)(h:∀b o,H b=some o->b=p∨b=q->H' b=some o):tV c H' p q os:=
 ⟨let ⟨dx,e⟩:=m.ob;⟨dx,h _ _ e (.inl rfl)⟩,h _ _ m.ls (.inr rfl)⟩
theorem tV.same(m:tV c H p q os)(s:ja H H'):tV c H' p q os:=m.keep λb o e _=>s b o e
theorem tV.put(m:tV c H p q os):tV c (upd H q (.lst (os'.map tv))) p q os':=by
 refine⟨?_,iS⟩
 obtain⟨dx,e⟩:=m.ob
 exact⟨dx,by rw[iW m.ne];exact e⟩
end
noncomputable def stN (os:List (Option Int)) (v:V):Bool:=wi v 0 (os.length-1)&&(os.getD (iv v).toNat none).isSome
noncomputable def Nx:Nat->List (Option Int)->List (Int×Int)
 |_,[]=>[]
 |k,some p::r=>((k:Int),p)::Nx (k+1) r
 |k,none::r=>Nx (k+1) r
noncomputable def sI (H:Hp):List V->List (Int×Int)->Prop
 | [],[]=>True
 | .ref a::as,x::xs=>H a=some (.tup [.int x.1,.int x.2])/\sI H as xs
 |_,_=>False
theorem sI.same{H H':Hp}(s:ja H H'):∀{as:List V} {xs:List (Int×Int)},sI H as xs->sI H' as xs
 | [],[],h=>h
 | .ref a::as,x::xs,h=>⟨s _ _ h.1,sI.same s h.2⟩
 | [],_::_,h=>h.elim
 | .kT::_,_,h=>by cases h
 | .bl _::_,_,h=>by cases h
 | .int _::_,_,h=>by cases h
 | .str _::_,_,h=>by cases h
 | .byt _::_,_,h=>by cases h
 | .Nu _::_,_,h=>by cases h
 | .ty _::_,_,h=>by cases h
 | .ref _::_,[],h=>h.elim
theorem sI.len{H:Hp}:∀{as:List V} {xs:List (Int×Int)},sI H as xs->as.length=xs.length
 | [],[],_=>rfl
 | .ref a::as,x::xs,h=>by rw[af,af,sI.len h.2]
 | [],_::_,h=>h.elim
 | .kT::_,_,h=>by cases h
 | .bl _::_,_,h=>by cases h
 | .int _::_,_,h=>by cases h
 | .str _::_,_,h=>by cases h
 | .byt _::_,_,h=>by cases h
 | .Nu _::_,_,h=>by cases h
 | .ty _::_,_,h=>by cases h
 | .ref _::_,[],h=>h.elim
theorem sI.snoc{H:Hp}{a:Addr}{x:Int×Int}(ha:H a=some (.tup [.int x.1,.int x.2])):∀{as:List V} {xs:List (Int×Int)},sI H as xs->sI H (as++[.ref a]) (xs++[x])
 | [],[],_=>⟨ha,aD⟩
 | .ref b::as,y::ys,h=>⟨h.1,sI.snoc ha h.2⟩
 | [],_::_,h=>h.elim
 | .kT::_,_,h=>by cases h
 | .bl _::_,_,h=>by cases h
 | .int _::_,_,h=>by cases h
 | .str _::_,_,h=>by cases h
 | .byt _::_,_,h=>by cases h
 | .Nu _::_,_,h=>by cases h
 | .ty _::_,_,h=>by cases h
 | .ref _::_,[],h=>h.elim
theorem sI.eq{H:Hp}:∀{as bs:List V} {xs:List (Int×Int)},sI H as xs->sI H bs xs->Bk (dg (EZ H 2) as bs)=some true
 | [],[],[],_,_=>rfl
 | .ref a::as,.ref b::bs,x::xs,h,k=>by
  have e:EZ H 2 (.ref a) (.ref b)=some true:=by
   simp only[EZ,h.1,k.1,af,ai]
   rw[if_pos trivial]
   simp[Bk,qX,Nt]
  simp only[eY,e,Bk,sI.eq h.2 k.2]
  rfl
 | .ref _::_,[],_::_,_,k=>k.elim
 | [],_,_::_,h,_=>h.elim
 | .ref _::_,_,[],h,_=>h.elim
 | [],.ref _::_,[],_,k=>k.elim
 | .kT::_,_,_,h,_=>by cases h
 | .bl _::_,_,_,h,_=>by cases h
 | .int _::_,_,_,h,_=>by cases h
 | .str _::_,_,_,h,_=>by cases h
 | .byt _::_,_,_,h,_=>by cases h
 | .Nu _::_,_,_,h,_=>by cases h
 | .ty _::_,_,_,h,_=>by cases h
 |_,.kT::_,_,_,k=>by cases k
 |_,.bl _::_,_,_,k=>by cases k
 |_,.int _::_,_,_,k=>by cases k
 |_,.str _::_,_,_,k=>by cases k
 |_,.byt _::_,_,_,k=>by cases k
 |_,.Nu _::_,_,_,k=>by cases k
 |_,.ty _::_,_,_,k=>by cases k
theorem xR{o:Option Int}:∀{os:List (Option Int)} {k:Nat},Nx k (os++[o])=Nx k os++(match o with|some p=>[(((k+os.length:Nat):Int),p)]|none=>[])
 | [],k=>by cases o<;>rfl
 |some p::r,k=>by
  rw[aL]
  simp only[Nx,xR,af,aL]
  rw[show k+1+r.length=k+(r.length+1) by lia]
 |none::r,k=>by
  rw[aL]
  simp only[Nx,xR,af]
  rw[show k+1+r.length=k+(r.length+1) by lia]
theorem YO:¬(("waiting":Str)="spoken"):=by decide+kernel
noncomputable def Nv (d q:Addr):List (Str×V):=[("waiting",Z9 d),("spoken",Z9 q)]
section
variable{d q:Addr}{f:Str}
theorem Dj:(Nv d q).lookup ("waiting":Str)=some (.ref d):=by simp[Nv,bu]
theorem Ru:(Nv d q).lookup ("spoken":Str)=some (.ref q):=by
 simp[Nv,bu,show(("spoken":Str)=="waiting")=false by decide+kernel]
theorem D6(h1:(f==("waiting":Str))=false)(h2:(f==("spoken":Str))=false):(Nv d q).lookup f=none:=by simp[Nv,bu,h1,h2]
theorem Rr:(Nv d q).lookup ("give":Str)=none:=D6 (by decide+kernel) (by decide+kernel)
theorem EG:(Nv d q).lookup ("pending":Str)=none:=D6 (by decide+kernel) (by decide+kernel)
theorem Rt:(Nv d q).lookup ("move":Str)=none:=D6 (by decide+kernel) (by decide+kernel)
theorem Tu:(Nv d q).lookup ("say":Str)=none:=D6 (by decide+kernel) (by decide+kernel)
theorem Rv:(Nv d q).lookup ("said":Str)=none:=D6 (by decide+kernel) (by decide+kernel)
theorem z9:(Nv d q).lookup ("want_pending":Str)=none:=D6 (by decide+kernel) (by decide+kernel)
theorem Vq:ly "spoken" (.ref q) (ly "waiting" (.ref d) [])=Nv d q:=by simp[ly,Nv,YO]
end
structure We where
 t:Int
 a:Addr
 p:Int
 n:Int
noncomputable def We.x (e:We):Int×Int×Int:=(e.t,e.p,e.n)
noncomputable def BS (es:List We):List (Key×V):=es.map λe=>(aJ e.t,Z9 e.a)
theorem LX{es:List We}:(BS es).length=es.length:=aj ..
theorem Nr:∀{es:List We},Gr (BS es)=some (es.map We.t)
 | []=>rfl
 |e::r=>by show(Gr (BS r)).map _=_;rw[Nr];rfl
theorem LY{k:Int}:∀{es:List We},mX (BS es) (aJ k)=(es.find? λe=>decide (e.t=k)).map λe=>Z9 e.a
 | []=>rfl
 |e::r=>by
  by_cases h:e.t=k
  ·show mX ((aJ e.t,Z9 e.a)::BS r) (aJ k)=_
   rw[tM (by rw[h]),bK,decide_eq_true h];rfl
  ·show mX ((aJ e.t,Z9 e.a)::BS r) (aJ k)=_
   rw[tL (λz=>h (cE z)),LY,bK,decide_eq_false h]
noncomputable def j4:Nat->List (Option (Int×Int))->List (Int×Int×Int)
 |_,[]=>[]
 |k,some x::r=>((k:Int),x.1,x.2)::j4 (k+1) r
 |k,none::r=>j4 (k+1) r
theorem y9:∀{ws:List (Option (Int×Int))} {k:Nat},∀x∈j4 k ws,(k:Int)<=x.1
 | [],_,x,h=>by cases h
 |some y::r,k,x,h=>by
  rcases List.mem_cons.mp h with rfl|h
  ·exact eW _
  ·have:=y9 x h;lia
 |none::r,k,x,h=>by have:=y9 (ws:=r) x h;lia
theorem LU:∀{ws:List (Option (Int×Int))} {k:Nat},((j4 k ws).map (·.1)).Pairwise (·<=·)
 | [],_=> .nil
 |some y::r,k=>by
  refine List.pairwise_cons.mpr ⟨λz hz=> ?_,LU⟩
  obtain⟨x,hx,rfl⟩:=List.mem_map.mp hz
  have:=y9 (ws:=r) x hx
  show(k:Int)<=x.1
  lia
 |none::r,k=>LU (ws:=r)
theorem xV:∀{ws:List (Option (Int×Int))} {k:Nat},(j4 k ws).length<=ws.length
 | [],_=>aI _
 |some _::r,k=>by simp only[j4,af];have:=xV (ws:=r) (k:=k+1);lia
 |none::r,k=>by simp only[j4,af];have:=xV (ws:=r) (k:=k+1);lia
theorem Bh{o:Option (Int×Int)}:∀{ws:List (Option (Int×Int))} {k:Nat},j4 k (ws++[o])=j4 k ws++(match o with|some x=>[(((k+ws.length:Nat):Int),x.1,x.2)]|none=>[])
 | [],k=>by cases o<;>rfl
 |some p::r,k=>by
  rw[aL]
  simp only[j4,Bh,af,aL]
  rw[show k+1+r.length=k+(r.length+1) by lia]
 |none::r,k=>by
  rw[aL]
  simp only[j4,Bh,af]
  rw[show k+1+r.length=k+(r.length+1) by lia]
theorem El:∀{ws:List (Option (Int×Int))} {k j:Nat},(j4 k ws).find? (λx=>decide (x.1=((k+j:Nat):Int)))=(ws.getD j none).map λy=>(((k+j:Nat):Int),y.1,y.2)
 | [],k,j=>by cases j<;>rfl
 |some y::r,k,0=>by simp[j4]
 |none::r,k,0=>by
  show(j4 (k+1) r).find? _=none
  rw[List.find?_eq_none]
  intro x hx
  have:=y9 x hx
  simp;lia
 |some y::r,k,j+1=>by
  simp only[j4,bK]
  rw[decide_eq_false (by lia)]
  have:=El (ws:=r) (k:=k+1) (j:=j)
  rw[show k+1+j=k+(j+1) by lia]at this
  exact this
 |none::r,k,j+1=>by
  have:=El (ws:=r) (k:=k+1) (j:=j)
  rw[show k+1+j=k+(j+1) by lia]at this
  exact this
theorem Em:∀{ws:List (Option (Int×Int))} {k:Nat} {i:Int},i<k∨(k:Int)+ws.length<=i->(j4 k ws).find? (λx=>decide (x.1=i))=none
 | [],k,i,_=>rfl
 |some y::r,k,i,h=>by
  simp only[j4,bK]
  rw[af]at h
  rw[decide_eq_false (by lia)]
  exact Em (by lia)
 |none::r,k,i,h=>by
  rw[af]at h
  exact Em (ws:=r) (k:=k+1) (by lia)
theorem Hx:∀{ws:List (Option (Int×Int))} {k j:Nat} {y y':Int×Int},ws.getD j none=some y->j4 k (ws.set j (some y'))=(j4 k ws).map λx=>if x.1=((k+j:Nat):Int) then(((k+j:Nat):Int),y'.1,y'.2) else x
 | [],k,j,y,y',h=>by cases j<;>cases h
 |some z::r,k,0,y,y',h=>by
  show((k:Int),y'.1,y'.2)::j4 (k+1) r=_
  simp only[j4,ak,fU,if_pos]
  congr 1
  have e:(j4 (k+1) r).map (λx=>if x.1=(k:Int) then((k:Int),y'.1,y'.2) else x)=(j4 (k+1) r).map id:=b_ λx hx=>by
   have:=y9 x hx
   rw[if_neg (by lia)];rfl
  rw[e,List.map_id]
 |none::r,k,0,y,y',h=>by cases h
 |some z::r,k,j+1,y,y',h=>by
  have:=Hx (ws:=r) (k:=k+1) (j:=j) (y':=y') h
  rw[show k+1+j=k+(j+1) by lia]at this
  show((k:Int),z.1,z.2)::j4 (k+1) (r.set j (some y'))=_
  simp only[j4,ak]
  rw[if_neg (by lia),this]
 |none::r,k,j+1,y,y',h=>by
  have:=Hx (ws:=r) (k:=k+1) (j:=j) (y':=y') h
  rw[show k+1+j=k+(j+1) by lia]at this
  exact this
theorem Hu:∀{ws:List (Option (Int×Int))} {k j:Nat} {y:Int×Int},ws.getD j none=some y->j4 k (ws.set j none)=(j4 k ws).filter λx=>decide (x.1≠((k+j:Nat):Int))
 | [],k,j,y,h=>by cases j<;>cases h
 |some z::r,k,0,y,h=>by
  show j4 (k+1) r=_
  simp only[j4,fh,fU]
  rw[if_neg (by simp),List.filter_eq_self.mpr]
  intro x hx
  have:=y9 x hx
  simp;lia
 |none::r,k,0,y,h=>by cases h
 |some z::r,k,j+1,y,h=>by
  have:=Hu (ws:=r) (k:=k+1) (j:=j) h
  rw[show k+1+j=k+(j+1) by lia]at this
  show((k:Int),z.1,z.2)::j4 (k+1) (r.set j none)=_
  simp only[j4,fh]
  rw[if_pos (by simp;lia),this]
 |none::r,k,j+1,y,h=>by
  have:=Hu (ws:=r) (k:=k+1) (j:=j) h
  rw[show k+1+j=k+(j+1) by lia]at this
  exact this
theorem FF:∀{ws:List (Option (Int×Int))} {k:Nat},((j4 k ws).map (·.1)).Pairwise (·<·)
 | [],_=> .nil
 |some y::r,k=>by
  refine List.pairwise_cons.mpr ⟨λz hz=> ?_,FF⟩
  obtain⟨x,hx,rfl⟩:=List.mem_map.mp hz
  have:=y9 (ws:=r) x hx
  show(k:Int)<x.1
  lia
 |none::r,k=>FF (ws:=r)
theorem Jt{x:Int×Int×Int}:∀{l:List (Int×Int×Int)},(l.map (·.1)).Pairwise (·<·)->x∈l->l.find? (λz=>decide (z.1=x.1))=some x
 |y::r,h,hx=>by
  rcases List.mem_cons.mp hx with rfl|hx'
  ·rw[bK,decide_eq_true rfl]
  ·rw[ak,eK]at h
   have:=h.1 x.1 (cb hx')
   rw[bK,decide_eq_false (by lia)]
   exact Jt h.2 hx'
theorem Qj{ws:List (Option (Int×Int))}{es:List We}(h:es.map We.x=j4 0 ws){e:We}(he:e∈es):(es.map We.x).find? (λx=>decide (x.1=e.t))=some e.x:=by
 refine Jt (x:=e.x) ?_ (cb he)
 rw[h];exact FF
noncomputable def pd (ws:List (Option (Int×Int))):V->Option (Int×Int)
 | .int i=>if 0<=i then ws.getD i.toNat none else none
 |_=>none
theorem Pc{ws:List (Option (Int×Int))}{i:Int}:(j4 0 ws).find? (λx=>decide (x.1=i))=(pd ws (.int i)).map λy=>(i,y.1,y.2):=by
 unfold pd
 dsimp only
 by_cases h:0<=i
 ·rw[if_pos h]
  have:=El (ws:=ws) (k:=0) (j:=i.toNat)
  rw[show((0+i.toNat:Nat):Int)=i by lia]at this
  exact this
 ·rw[if_neg h]
  exact Em (.inl (by lia))
theorem Km{ws:List (Option (Int×Int))}{es:List We}{i:Int}(h:es.map We.x=j4 0 ws):(es.find? λe=>decide (e.t=i)).map (λe=>(e.p,e.n))=pd ws (.int i):=by
 have e:=congrArg (λl=>l.find? λx=>decide (x.1=i)) h
 rw[Pc,List.find?_map]at e
 have e2:=congrArg (Option.map λx:Int×Int×Int=>x.2) e
 rw[iG,iG]at e2
 have e3:(es.find? ((λx=>decide (x.1=i))∘We.x))=es.find? λe=>decide (e.t=i):=rfl
 rw[e3]at e2
 refine Eq.trans ?_ (e2.trans ?_)
 ·rfl
 ·cases pd ws (.int i)<;>rfl
theorem Pw{k:Int}:∀{es:List We},((BS es).any λkv=>decide (kv.1=(aJ k:Key)))=es.any λe=>decide (e.t=k)
 | []=>rfl
 |e::r=>by
  show(decide ((aJ e.t:Key)=aJ k) ||(BS r).any _)=(decide (e.t=k) ||r.any _)
  rw[Pw]
  by_cases z:e.t=k
  ·rw[z];simp
  ·simp[z,show¬((aJ e.t:Key)=aJ k) from λy=>z (cE y)]
noncomputable def Fe (es:List We) (x:We):List We:=if (es.any λe=>decide (e.t=x.t))=true then es.map λe=>if e.t=x.t then x else e else es++[x]
theorem Px{es:List We}{x:We}:putK (BS es) (aJ x.t) (.ref x.a)=BS (Fe es x):=by
 unfold putK Fe
 rw[Pw]
 split
 ·unfold BS
  rw[bB,bB]
  refine b_ λe _=> ?_
  show(if (aJ e.t:Key)=aJ x.t then(aJ e.t,Z9 x.a) else(aJ e.t,Z9 e.a))=((aJ (if e.t=x.t then x else e).t:Key),Z9 (if e.t=x.t then x else e).a)
  by_cases z:e.t=x.t
  ·rw[if_pos z,if_pos (by rw[z]),z]
  ·rw[if_neg z,if_neg (λy=>z (cE y))]
 ·unfold BS
  rw[bo];rfl
theorem Ss{k:Int}{es:List We}:C0 (BS es) (aJ k)=BS (es.filter λe=>decide (e.t≠k)):=by
 unfold C0 BS
 rw[dP]
 congr 1
 refine fL λe _=> ?_
 show decide ((aJ e.t:Key)≠aJ k)=decide (e.t≠k)
 by_cases z:e.t=k
 ·rw[z];simp
 ·simp[z,show¬((aJ e.t:Key)=aJ k) from λy=>z (cE y)]
structure lN(c:Addr)(H:Hp)(p d q:Addr)(ws:List (Option (Int×Int)))(sp:List Int)(es:List We):Prop where
 ob:∃dx,H p=some (.ins c dx (Nv d q))
 dc:H d=some (.dK (BS es))
 sq:H q=some (.lst (sp.map Z_))
 xs:es.map We.x=j4 0 ws
 tp:∀e∈es,H e.a=some (.tup [.int e.p,.int e.n])
 ln:es.length+sp.length=ws.length
noncomputable def Out (d q:Addr) (H H':Hp):Prop:=∀y o,y≠d->y≠q->H y=some o->H' y=some o
section
variable{c p d q:Addr}{H H':Hp}{ws ws':List (Option (Int×Int))}{sp sp':List Int}{es es':List We}
theorem lN.pd(m:lN c H p d q ws sp es):p≠d:=by
 obtain⟨dx,e⟩:=m.ob
 intro z;subst z;have:=m.dc;rw[e]at this;cases this
theorem lN.pq(m:lN c H p d q ws sp es):p≠q:=by
 obtain⟨dx,e⟩:=m.ob
 intro z;subst z;have:=m.sq;rw[e]at this;cases this
theorem lN.dq(m:lN c H p d q ws sp es):d≠q:=by
 intro z;subst z;have:=m.sq;rw[m.dc]at this;cases this
theorem lN.ta(m:lN c H p d q ws sp es){e:We}(h:e∈es):e.a≠d/\e.a≠q:=by
 have t:=m.tp e h
 exact⟨(λz=>by rw[z,m.dc]at t;cases t),(λz=>by rw[z,m.sq]at t;cases t)⟩
theorem lN.same(m:lN c H p d q ws sp es)(s:ja H H'):lN c H' p d q ws sp es:=
 ⟨let ⟨dx,e⟩:=m.ob;⟨dx,s _ _ e⟩,s _ _ m.dc,s _ _ m.sq,m.xs,λe h=>s _ _ (m.tp e h),m.ln⟩
theorem Tc(m:lN c H p d q ws sp es):(es.map We.t).Pairwise (·<=·):=by
 have:es.map We.t=(es.map We.x).map (·.1):=by rw[bB];rfl
 rw[this,m.xs];exact LU
theorem lN.sorted(m:lN c H p d q ws sp es):oH (es.map We.t)=es.map We.t:=(xK (gw _) (Tc m)).symm
theorem lN.find(m:lN c H p d q ws sp es){i:Int}{y:Int×Int}(h:K16.pd ws (.int i)=some y):∃e∈es,e.t=i/\e.p=y.1/\e.n=y.2/\mX (BS es) (aJ i)=some (.ref e.a):=by
 have f:=Km (i:=i) m.xs
 rw[h]at f
 obtain⟨e,he,hy⟩:=Option.map_eq_some_iff.mp f
 refine⟨e,List.mem_of_find?_eq_some he,by simpa using List.find?_some he,congrArg (·.1) hy,congrArg (·.2) hy,?_⟩
 rw[LY,he];rfl
theorem lN.YF(m:lN c H p d q ws sp es){i:Int}(h:K16.pd ws (.int i)=none):mX (BS es) (aJ i)=none:=by
 have f:=Km (i:=i) m.xs
 rw[h]at f
 rw[LY,Option.map_eq_none_iff.mp f];rfl
theorem lN.has(m:lN c H p d q ws sp es){i:Int}:(mX (BS es) (aJ i)).isSome=(K16.pd ws (.int i)).isSome:=by
 cases h:K16.pd ws (.int i) with
 |none=>rw[m.YF h];rfl
 |some y=>obtain⟨e,_,_,_,_,h⟩:=m.find h;rw[h];rfl
end
theorem UC{ws:List (Option (Int×Int))}{i:Int}{y:Int×Int}(h:pd ws (.int i)=some y):0<=i/\i<ws.length/\ws.getD i.toNat none=some y:=by
 unfold pd at h
 dsimp only at h
 by_cases z:0<=i
 ·rw[if_pos z]at h
  refine⟨z,?_,h⟩
  by_cases w:i<ws.length
  ·exact w
  ·rw[az,bQ (by lia)]at h;cases h
 ·rw[if_neg z]at h;cases h
theorem Oo{ws:List (Option (Int×Int))}{v:V}(h:MD v=false):pd ws v=none:=by cases v<;>first|rfl|cases h
inductive qZ (H:Hp):List V->List (Int×Int×Int)->Prop
 |nil:qZ H [] []
 |cons {a:Addr} {as:List V} {x:Int×Int×Int} {xs:List (Int×Int×Int)}:H a=some (.tup [.int x.1,.int x.2.1,.int x.2.2])->qZ H as xs->qZ H (.ref a::as) (x::xs)
theorem qZ.same{H H':Hp}{as:List V}{xs:List (Int×Int×Int)}(s:ja H H')(h:qZ H as xs):qZ H' as xs:=by
 induction h with
 |nil=>exact .nil
 |cons e _ ih=>exact .cons (s _ _ e) ih
theorem qZ.len{H:Hp}{as:List V}{xs:List (Int×Int×Int)}(h:qZ H as xs):as.length=xs.length:=by
 induction h with
 |nil=>rfl
 |cons _ _ ih=>rw[af,af,ih]
theorem qZ.snoc{H:Hp}{as:List V}{xs:List (Int×Int×Int)}{a:Addr}{x:Int×Int×Int}(h:qZ H as xs)(ha:H a=some (.tup [.int x.1,.int x.2.1,.int x.2.2])):qZ H (as++[.ref a]) (xs++[x]):=by
 induction h with
 |nil=>exact .cons ha .nil
 |cons e _ ih=>exact .cons e ih
theorem qZ.eq{H:Hp}{as bs:List V}{xs:List (Int×Int×Int)}(h:qZ H as xs)(k:qZ H bs xs):Bk (dg (EZ H 2) as bs)=some true:=by
 induction h generalizing bs with
 |nil=>cases k;rfl
 |cons e _ ih=>
  cases k with
  |cons e' k'=>
   rename_i a1 _ _ _ _ b1 _
   have z:=ih k'
   have w:EZ H 2 (.ref a1) (.ref b1)=some true:=by
    simp only[EZ,e,e',af,ai]
    rw[if_pos trivial]
    simp[Bk,qX,Nt]
   simp only[eY,w,Bk,z]
   rfl
theorem y8:∀{ws:List (Option (Int×Int))} {k j:Nat} {y:Int×Int},ws.getD j none=some y->(j4 k (ws.set j none)).length+1=(j4 k ws).length
 | [],k,j,y,h=>by cases j<;>cases h
 |some z::r,k,0,y,h=>by show(j4 (k+1) r).length+1=_;simp only[j4,af]
 |none::r,k,0,y,h=>by cases h
 |some z::r,k,j+1,y,h=>by
  show(((k:Int),z.1,z.2)::j4 (k+1) (r.set j none)).length+1=_
  simp only[j4,af]
  rw[y8 (ws:=r) (k:=k+1) (j:=j) h]
 |none::r,k,j+1,y,h=>y8 (ws:=r) (k:=k+1) (j:=j) h
theorem VT{ws:List (Option (Int×Int))}:pd ws (.int ws.length)=none:=by
 unfold pd
 dsimp only
 rw[if_pos (by lia),az,bQ (by lia)]
 rfl
section
variable{c p d q:Addr}{H H':Hp}{ws ws':List (Option (Int×Int))}{sp sp':List Int}{es es':List We}{b:Addr}{x y:Int×Int}{i:Int}
theorem lN.XD(m:lN c H p d q ws sp es)(h:K16.pd ws (.int i)=none):(es.any λe=>decide (e.t=i))=false:=by
 have f:=Km (i:=i) m.xs
 rw[h]at f
 have f:=List.find?_eq_none.mp (Option.map_eq_none_iff.mp f)
 rw[ic]
 exact f
theorem lN.Wy(m:lN c H p d q ws sp es)(h:K16.pd ws (.int i)=some y):(es.any λe=>decide (e.t=i))=true:=by
 obtain⟨e,he,ht,_⟩:=m.find h
 rw[ir]
 exact⟨e,he,by simpa using ht⟩
theorem lN.lay(m:lN c H p d q ws sp es)(hb:H b=none)(x':es'.map We.x=j4 0 ws')(l':es'.length+sp.length=ws'.length)(h:∀e∈es',e∈es∨e.a=b/\e.p=x.1/\e.n=x.2):
  lN c (upd (upd H b (.tup [.int x.1,.int x.2])) d (.dK (BS es'))) p d q ws' sp es'/\Out d q H (upd (upd H b (.tup [.int x.1,.int x.2])) d (.dK (BS es'))):=by
 have o:Out d q H (upd (upd H b (.tup [.int x.1,.int x.2])) d (.dK (BS es'))):=λz o h1 h2 e=>by rw[iW h1,iW (iT e hb)];exact e
 have nb:b≠d:=aC (iT m.dc hb)
 refine⟨⟨?_,iS,?_,x',λe he=> ?_,l'⟩,o⟩
 ·obtain⟨dx,e⟩:=m.ob
  exact⟨dx,o _ _ m.pd m.pq e⟩
 ·rw[iW (aC m.dq),iW (iT m.sq hb)];exact m.sq
 ·rcases h e he with h|⟨h1,h2,h3⟩
  ·exact o _ _ (m.ta h).1 (m.ta h).2 (m.tp e h)
  ·rw[h1,h2,h3,iW nb,iS]
theorem lN.give(m:lN c H p d q ws sp es)(hb:H b=none):
  lN c (upd (upd H b (.tup [.int x.1,.int x.2])) d (.dK (BS (Fe es ⟨ws.length,b,x.1,x.2⟩)))) p d q (ws++[some x]) sp (Fe es ⟨ws.length,b,x.1,x.2⟩)/\Out d q H (upd (upd H b (.tup [.int x.1,.int x.2])) d (.dK (BS (Fe es ⟨ws.length,b,x.1,x.2⟩)))):=by
 have es':Fe es ⟨ws.length,b,x.1,x.2⟩=es++[⟨ws.length,b,x.1,x.2⟩]:=by
  unfold Fe
  rw[if_neg (by rw[m.XD VT];intro z;cases z)]
 rw[es']
 refine m.lay hb ?_ ?_ λe he=> ?_
 ·rw[bo,m.xs,Bh,bS];rfl
 ·have:=m.ln
  rw[aY,aY,cm,cm];lia
 ·rcases List.mem_append.mp he with h|h
  ·exact .inl h
  ·rw[List.mem_singleton.mp h];exact .inr ⟨rfl,rfl,rfl⟩
theorem lN.move(m:lN c H p d q ws sp es)(hb:H b=none)(hp:K16.pd ws (.int i)=some y):
  lN c (upd (upd H b (.tup [.int x.1,.int x.2])) d (.dK (BS (Fe es ⟨i,b,x.1,x.2⟩)))) p d q (ws.set i.toNat (some x)) sp (Fe es ⟨i,b,x.1,x.2⟩)/\Out d q H (upd (upd H b (.tup [.int x.1,.int x.2])) d (.dK (BS (Fe es ⟨i,b,x.1,x.2⟩)))):=by
 obtain⟨h0,h1,h2⟩:=UC hp
 have es':Fe es ⟨i,b,x.1,x.2⟩=es.map λe=>if e.t=i then⟨i,b,x.1,x.2⟩ else e:=by
  unfold Fe
  rw[if_pos (m.Wy hp)]
 rw[es']
 refine m.lay hb ?_ ?_ λe he=> ?_
 ·rw[Hx h2,←m.xs,bB,bB]
  refine b_ λe _=> ?_
  show We.x (if e.t=i then⟨i,b,x.1,x.2⟩ else e)=if e.t=((0+i.toNat:Nat):Int) then(((0+i.toNat:Nat):Int),x.1,x.2) else We.x e
  rw[show((0+i.toNat:Nat):Int)=i by lia]
  by_cases z:e.t=i
  ·rw[if_pos z,if_pos z];rfl
  ·rw[if_neg z,if_neg z]
 ·rw[aj,bf];exact m.ln
 ·obtain⟨e',h,rfl⟩:=List.mem_map.mp he
  by_cases z:e'.t=i
  ·rw[if_pos z];exact .inr ⟨rfl,rfl,rfl⟩
  ·rw[if_neg z];exact .inl h
theorem lN.say(m:lN c H p d q ws sp es)(hp:K16.pd ws (.int i)=some y):
  lN c (upd (upd H q (.lst (sp.map Z_++[.int y.2]))) d (.dK (BS (es.filter λe=>decide (e.t≠i))))) p d q (ws.set i.toNat none) (sp++[y.2]) (es.filter λe=>decide (e.t≠i))/\Out d q H (upd (upd H q (.lst (sp.map Z_++[.int y.2]))) d (.dK (BS (es.filter λe=>decide (e.t≠i))))):=by
 obtain⟨h0,h1,h2⟩:=UC hp
 have o:Out d q H (upd (upd H q (.lst (sp.map Z_++[.int y.2]))) d (.dK (BS (es.filter λe=>decide (e.t≠i))))):=λz o h1 h2 e=>by rw[iW h1,iW h2];exact e
 have x':(es.filter λe=>decide (e.t≠i)).map We.x=j4 0 (ws.set i.toNat none):=by
  rw[Hu h2,←m.xs,dP]
  congr 1
  refine fL λe _=> ?_
  show decide (e.t≠i)=decide (e.t≠((0+i.toNat:Nat):Int))
  rw[show((0+i.toNat:Nat):Int)=i by lia]
 refine⟨⟨?_,iS,?_,x',λe he=> ?_,?_⟩,o⟩
 ·obtain⟨dx,e⟩:=m.ob
  exact⟨dx,o _ _ m.pd m.pq e⟩
 ·rw[iW (aC m.dq),iS,bo];rfl
 ·have h:=(List.mem_filter.mp he).1
  exact o _ _ (m.ta h).1 (m.ta h).2 (m.tp e h)
 ·have l1:=congrArg d6 x'
  have l2:=congrArg d6 m.xs
  have l3:=y8 (k:=0) h2
  have l4:=m.ln
  rw[aj]at l1 l2
  rw[aY,cm,bf]
  lia
end
theorem Tt{d:Addr}:(ly "waiting" (Z9 d) []).length<1000:=by simp[ly]
theorem Vz:¬(("hands":Str)="book"):=by decide+kernel
theorem Xv:¬(("hands":Str)="weaks"):=by decide+kernel
theorem YK:¬(("hands":Str)="lasts"):=by decide+kernel
theorem Xu:¬(("book":Str)="weaks"):=by decide+kernel
theorem YH:¬(("book":Str)="lasts"):=by decide+kernel
theorem YN:¬(("weaks":Str)="lasts"):=by decide+kernel
noncomputable def yH (h b w l:Addr):List (Str×V):=[("hands",Z9 h),("book",Z9 b),("weaks",Z9 w),("lasts",Z9 l)]
section
variable{h b w l:Addr}{f:Str}
theorem Eb:(yH h b w l).lookup ("hands":Str)=some (.ref h):=by simp[yH,bu]
theorem Lp:(yH h b w l).lookup ("book":Str)=some (.ref b):=by simp[yH,bu,show(("book":Str)=="hands")=false by decide+kernel]
theorem Co:(yH h b w l).lookup ("weaks":Str)=some (.ref w):=by simp[yH,bu,show(("weaks":Str)=="hands")=false by decide+kernel,show(("weaks":Str)=="book")=false by decide+kernel]
theorem Ec:(yH h b w l).lookup ("lasts":Str)=some (.ref l):=by simp[yH,bu,show(("lasts":Str)=="hands")=false by decide+kernel,show(("lasts":Str)=="book")=false by decide+kernel,show(("lasts":Str)=="weaks")=false by decide+kernel]
theorem T8(h1:(f==("hands":Str))=false)(h2:(f==("book":Str))=false)(h3:(f==("weaks":Str))=false)(h4:(f==("lasts":Str))=false):(yH h b w l).lookup f=none:=by
 simp[yH,bu,h1,h2,h3,h4]
theorem MY:(yH h b w l).lookup ("starts":Str)=none:=T8 (by decide+kernel) (by decide+kernel) (by decide+kernel) (by decide+kernel)
theorem T7:ly "lasts" (.ref l) (ly "weaks" (.ref w) (ly "book" (.ref b) (ly "hands" (.ref h) [])))=yH h b w l:=by simp[ly,yH,Vz,Xv,YK,Xu,YH,YN]
end
structure WM(cR cH cB:Addr)(H:Hp)(r h q b d:Addr)(ws ks:List Int):Prop where
 ob:∃dx w l,H r=some (.ins cR dx (yH h b w l))
 hd:xY cH H h q ws
 bk:u9 cB H b d ks
section
variable{cR cH cB r h q b d:Addr}{H H':Hp}{ws ks:List Int}
end
noncomputable def Yg (ws:List Int):List Int:=(ws.filter ot).map (· /2)
structure WA where
 w:Addr
 wq:Addr
 l:Addr
 ld:Addr
 lq:Addr
structure Yo(cR cW cL:Addr)(H:Hp)(r h b:Addr)(W:WA)(os:List (Option Int))(ts:List (Option (Int×Int)))(sd:List Int):Prop where
 ob:∃dx,H r=some (.ins cR dx (yH h b W.w W.l))
 wk:tV cW H W.w W.wq os
 ls:∃es,lN cL H W.l W.ld W.lq ts sd es
 ne:W.wq≠W.lq
section
variable{cR cW cL r h b:Addr}{H H':Hp}{W:WA}{os:List (Option Int)}{ts:List (Option (Int×Int))}{sd:List Int}
end
theorem Ti{w:Int}(h:ot w=true)(k:(kd (.int w)).isSome=true):kd (.int w)=some (bt "place")/\w/2<=9999/\0<=w/2/\wo (.int w)= .int (w/2):=by
 simp only[ot,decide_eq_true_eq]at h
 rw[wB,if_neg (by lia),if_neg (by lia)]at k⊢
 by_cases c:w%2=1/\1<=w/\w<=19999
 ·rw[if_pos c];exact⟨rfl,by lia,by lia,by show(if w= -1 then V.kT else Z_ (w/2))=_;rw[if_neg (by lia)]⟩
 ·rw[if_neg c]at k;cases k
theorem Vy{w:Int}(h:ot w=false)(k:(kd (.int w)).isSome=true):∃x,kd (.int w)=some x/\x≠bt "place":=by
 simp only[ot,decide_eq_false_iff_not]at h
 rw[wB]at k⊢
 by_cases c:w= -1
 ·rw[if_pos c];exact⟨_,rfl,by decide+kernel⟩
 rw[if_neg c]at k⊢
 by_cases c2:w%2=0/\ -2000000000000<=w/\w<=2000000000000
 ·rw[if_pos c2];exact⟨_,rfl,by decide+kernel⟩
 rw[if_neg c2]at k⊢
 rw[if_neg (by lia)]at k;cases k
theorem Kl{ws ks:List Int}{g j:Nat}:∀k,(j<g∨g+k<=j)->(cp ws ks g k).getD j 0=ws.getD j 0
 |0,_=>rfl
 |k+1,h=>by
  rw[cp,az,bE,if_neg (by lia),←az]
  exact Kl k (by lia)
theorem Uu{ws ks:List Int}{g j:Nat}:∀k,g<=j->j<g+k->j<ws.length->(cp ws ks g k).getD j 0=ks.getD (j-g) 0
 |0,h1,h2,_=>by lia
 |k+1,h1,h2,h3=>by
  rw[cp,az,bE]
  by_cases c:g+k=j
  ·rw[if_pos c,if_pos (by rw[Kk];lia),←c,show g+k-g=k by lia];rfl
  ·rw[if_neg c,←az]
   exact Uu k h1 (by lia) h3
theorem Uv{ws ks:List Int}{g:Nat}(h:jJ ws)(h2:∀x∈ks,(kd (.int x)).isSome=true):∀k,jJ (cp ws ks g k)
 |0=>h
 |k+1=>by
  refine(Uv h h2 k).set ?_
  by_cases c:k<ks.length
  ·rw[az,au c];exact h2 _ (bq c)
  ·rw[az,bQ (by lia)];decide
noncomputable def xE (F:List Int):List Int->List Int
 | []=>[]
 |a::W=>if a∈F then xE F W else a::xE (F++[a]) W
theorem B3{C:List Int}:∀{W F:List Int},xE F (W++C)=xE F W++xE (F++xE F W) C
 | [],F=>by simp[xE]
 |a::W,F=>by
  simp only[aL,xE]
  by_cases h:a∈F
  ·rw[if_pos h,if_pos h,B3]
  ·rw[if_neg h,if_neg h,B3,aL]
   simp
theorem A8{x:Int}:∀{W F:List Int},x∈xE F W->x∈W
 | [],F,h=>by cases h
 |a::W,F,h=>by
  simp only[xE]at h
  by_cases z:a∈F
  ·rw[if_pos z]at h;exact ba _ (A8 h)
  ·rw[if_neg z]at h
   rcases List.mem_cons.mp h with rfl|h
   ·exact a_ ..
   ·exact ba _ (A8 h)
theorem vv:∀{W F:List Int},F.Nodup->(F++xE F W).Nodup
 | [],F,h=>by simpa [xE] using h
 |a::W,F,h=>by
  simp only[xE]
  by_cases z:a∈F
  ·rw[if_pos z];exact vv h
  ·rw[if_neg z]
   have:(F++[a]).Nodup:=by
    rw[bV]
    exact⟨h,by simp,λx hx y hy=>by rw[List.mem_singleton.mp hy];intro e;rw[e]at hx;exact z hx⟩
   have r:=vv (W:=W) this
   rwa[c8]at r
inductive Reach (ch:Int->List Int):List Int->Nat->List Int->Prop
 |done {M:List Int} {d:Nat}:M.length<=d->Reach ch M d M
 |step {M:List Int} {d:Nat} {res:List Int} (h:d<M.length):Reach ch (M++xE M (ch M[d])) (d+1) res->Reach ch M d res
theorem sG{M ks:List Int}(nd:M.Nodup)(sub:∀x∈M,x∈ks):M.length<=ks.length:=by
 induction M generalizing ks with
 |nil=>exact cD _
 |cons a r ih=>
  rw[bP]at nd
  have ha:=sub a (a_ ..)
  have:=ih (ks:=ks.erase a) nd.2 λx hx=>(List.mem_erase_of_ne (λe=>nd.1 (by rw[←e];exact hx))).mpr (sub x (ba _ hx))
  rw[List.length_erase_of_mem ha]at this
  have:0<ks.length:=List.length_pos_of_mem ha
  rw[af];lia
structure Cl where
 p:Int
 r:Addr
 w:List Int
noncomputable def va (cs:List Cl):List (Key×V):=cs.map λc=>(aJ c.p,Z9 c.r)
noncomputable def fd (cs:List Cl) (p:Int):Option Cl:=cs.find? λc=>decide (c.p=p)
theorem NR{c:Cl}{r:List Cl}{p:Int}(e:c.p=p):fd (c::r) p=some c:=by simp[fd,bK,e]
theorem NQ{c:Cl}{r:List Cl}{p:Int}(e:¬c.p=p):fd (c::r) p=fd r p:=by simp[fd,bK,e]
theorem sP{p:Int}:∀{cs:List Cl},mX (va cs) (aJ p)=(fd cs p).map λc=>Z9 c.r
 | []=>rfl
 |c::r=>by
  by_cases e:c.p=p
  ·rw[NR e];exact tM (by show(aJ c.p:Key)=_;rw[e])
  ·rw[NQ e,←sP (cs:=r)];exact tL (λz=>e (cE z))
theorem F3{p:Int}{c:Cl}:∀{cs:List Cl},fd cs p=some c->c∈cs/\c.p=p
 | [],h=>by cases h
 |d::r,h=>by
  by_cases e:d.p=p
  ·rw[NR e]at h;cases h;exact⟨a_ ..,e⟩
  ·rw[NQ e]at h;obtain⟨h1,h2⟩:=F3 h;exact⟨ba _ h1,h2⟩
theorem Fs{p:Int}:∀{cs:List Cl},p∈cs.map Cl.p->∃c,fd cs p=some c
 | [],h=>by cases h
 |d::r,h=>by
  by_cases e:d.p=p
  ·exact⟨d,NR e⟩
  ·rw[NQ e]
   rw[ak,br]at h
   exact Fs (h.resolve_left λz=>e z.symm)
noncomputable def oI (w:List Int):List Int:=(w.filter ot).map (· /2)
noncomputable def EY (cs:List Cl) (p:Int):List Int:=match fd cs p with
 |some c=>oI c.w
 |none=>[]
theorem Ju{is:List Int}:(is.map Z_).all qX=true:=by
 rw[fT];intro x hx;obtain⟨i,_,rfl⟩:=List.mem_map.mp hx;rfl
theorem O0{x:Int}{F:List Int}:UA (Z_ x) (F.map Z_)=true↔x∈F:=by
 unfold UA
 rw[ir]
 constructor
 ·rintro⟨y,hy,e⟩
  obtain⟨z,hz,rfl⟩:=List.mem_map.mp hy
  have:z=x:=by simpa [Nt] using e
  rw[←this];exact hz
 ·intro h;exact⟨.int x,List.mem_map.mpr ⟨x,h,rfl⟩,by simp[Nt]⟩
structure Mr(ws:List Int)(cs:List Cl):Prop where
 cl:∀c∈cs,0<=c.p/\c.p+1+c.w.length<=ws.length/\c.w.length<=8/\∃n,l_ ws c.p.toNat=some n/\n/4=c.w.length
 wd:∀c∈cs,∀k,k<c.w.length->ws.getD (c.p.toNat+1+k) 0=c.w.getD k 0
 sep:∀a∈cs,∀b∈cs,a.p<b.p->a.p+1+a.w.length<=b.p
 nd:(cs.map Cl.p).Nodup
 ok:jJ ws
theorem wg{ws ws':List Int}{i:Nat}(hl:ws'.length=ws.length)(h:ws'.getD i 0=ws.getD i 0):l_ ws' i=l_ ws i:=by
 rw[rg,rg,h,hl]
theorem Mr.add{ws:List Int}{cs:List Cl}(h:Mr ws cs){t g:Int}{n:Nat}{r:Addr}(t0:0<=t)(n8:n<=8)(g0:0<=g)(g2:g<=2)(tl:t+1+n<=ws.length)(dj:∀d∈cs,d.p+1+d.w.length<=t∨t+1+n<=d.p):
  Mr (tQ ws t.toNat n g) (cs++[⟨t,r,ah n (-1)⟩]):=by
 have ni:t∉cs.map Cl.p:=λz=>by
  obtain⟨d,hd,e⟩:=List.mem_map.mp z
  rcases dj d hd with h2|h2<;>lia
 refine⟨λc hc=> ?_,λc hc k hk=> ?_,λa ha b hb hab=> ?_,?_,h.ok.tQ n8 g0 g2⟩
 ·rw[Bc]
  rcases List.mem_append.mp hc with hc|hc
  ·obtain⟨c0,c1,c2,m,c3,c4⟩:=h.cl c hc
   refine⟨c0,c1,c2,m,?_,c4⟩
   rw[wg Bc (MI (by rcases dj c hc with h2|h2<;>lia))]
   exact c3
  ·rw[List.mem_singleton.mp hc]
   refine⟨t0,by rw[bw];exact tl,by rw[bw];exact n8,_,Ex n8 (by lia) g0 g2,?_⟩
   rw[bw];lia
 ·rcases List.mem_append.mp hc with hc|hc
  ·obtain⟨c0,c1,c2,_⟩:=h.cl c hc
   rw[MI (by rcases dj c hc with h2|h2<;>lia)]
   exact h.wd c hc k hk
  ·rw[List.mem_singleton.mp hc]at hk⊢
   dsimp only at hk⊢
   rw[bw]at hk
   rw[N_ (by lia) (by lia) (by lia),az,eO,if_pos hk]
   rfl
 ·rcases List.mem_append.mp ha with ha|ha<;>rcases List.mem_append.mp hb with hb|hb
  ·exact h.sep a ha b hb hab
  ·rw[List.mem_singleton.mp hb]at hab⊢
   rcases dj a ha with h2|h2<;>dsimp only at hab⊢<;>lia
  ·rw[List.mem_singleton.mp ha]at hab⊢
   dsimp only at hab⊢
   rw[bw]
   rcases dj b hb with h2|h2<;>lia
  ·rw[List.mem_singleton.mp ha,List.mem_singleton.mp hb]at hab;exact absurd hab (by lia)
 ·rw[bo,bV]
  refine⟨h.nd,by simp,λa ha b hb=> ?_⟩
  simp only[ak,av,bN]at hb
  rw[hb];intro z;rw[z]at ha;exact ni ha
noncomputable def zw (cs:List Cl) (p:Int) (k:Nat) (v:Int):List Cl:=cs.map λd=>if d.p=p then{d with w:=d.w.set k v} else d
theorem LV{cs:List Cl}{p:Int}{k:Nat}{v:Int}:(zw cs p k v).map Cl.p=cs.map Cl.p:=by
 rw[zw,bB];exact b_ λd _=>by show(if d.p=p then _ else d:Cl).p=d.p;split<;>rfl
theorem Wt{cs:List Cl}{p:Int}{k:Nat}{v:Int}:(zw cs p k v).map Cl.r=cs.map Cl.r:=by
 rw[zw,bB];exact b_ λd _=>by show(if d.p=p then _ else d:Cl).r=d.r;split<;>rfl
theorem v9{cs:List Cl}{p:Int}{k:Nat}{v:Int}{c:Cl}(h:c∈zw cs p k v):∃d∈cs,c.p=d.p/\c.r=d.r/\c.w.length=d.w.length/\((d.p=p/\c.w=d.w.set k v)∨(d.p≠p/\c.w=d.w)):=by
 obtain⟨d,hd,rfl⟩:=List.mem_map.mp h
 refine⟨d,hd,?_⟩
 by_cases e:d.p=p
 ·rw[if_pos e];exact⟨rfl,rfl,bf ..,.inl ⟨e,rfl⟩⟩
 ·rw[if_neg e];exact⟨rfl,rfl,rfl,.inr ⟨e,rfl⟩⟩
theorem Va{cs:List Cl}{p:Int}{k:Nat}{v:Int}:va (zw cs p k v)=va cs:=by
 rw[va,va,zw,bB]
 exact b_ λd _=>by show(aJ (if d.p=p then _ else d:Cl).p,Z9 (if d.p=p then _ else d:Cl).r)=_;split<;>rfl
theorem Mr.set{ws:List Int}{cs:List Cl}(h:Mr ws cs){c:Cl}(hc:c∈cs){k:Nat}(hk:k<c.w.length){v:Int}(hv:(kd (.int v)).isSome=true):Mr (ws.set (c.p.toNat+1+k) v) (zw cs c.p k v):=by
 obtain⟨p0,p1,p2,_⟩:=h.cl c hc
 have ne:∀d∈cs,d.p≠c.p->∀j,j<=d.w.length->c.p.toNat+1+k≠d.p.toNat+j:=λd hd hn j hj=>by
  obtain⟨q0,q1,q2,_⟩:=h.cl d hd
  rcases g8 hn with z|z
  ·have:=h.sep d hd c hc z;lia
  ·have:=h.sep c hc d hd z;lia
 have uniq:∀d∈cs,d.p=c.p->d=c:=λd hd e=>by
  have nd:=h.nd
  obtain⟨i,hi,rfl⟩:=List.mem_iff_getElem.mp hd
  obtain⟨j,hj,rfl⟩:=List.mem_iff_getElem.mp hc
  by_cases z:i=j
  ·subst z;rfl
  ·exact absurd e (by
    have nd2:=List.pairwise_iff_getElem.mp nd
    rcases hE z with y|y
    ·have:=nd2 i j (by rw[aj];exact hi) (by rw[aj];exact hj) y
     rw[b8,b8]at this;exact this
    ·have:=nd2 j i (by rw[aj];exact hj) (by rw[aj];exact hi) y
     rw[b8,b8]at this;exact aC this)
 have gd:∀j,j≠c.p.toNat+1+k->(ws.set (c.p.toNat+1+k) v).getD j 0=ws.getD j 0:=λj hj=>by
  rw[az,bE,if_neg (aC hj),←az]
 refine⟨λx hx=> ?_,λx hx j hj=> ?_,λa ha b hb hab=> ?_,by rw[LV];exact h.nd,h.ok.set hv⟩
 ·obtain⟨d,hd,e1,_,e3,_⟩:=v9 hx
  obtain⟨q0,q1,q2,n,q3,q4⟩:=h.cl d hd
  rw[e1,e3,bf]
  refine⟨q0,q1,q2,n,?_,q4⟩
  rw[wg (bf ..) (gd _ (by
   by_cases z:d.p=c.p
   ·rw[z];lia
   ·exact aC (by simpa using ne d hd z 0 (cD _))))]
  exact q3
 ·obtain⟨d,hd,e1,_,e3,e4⟩:=v9 hx
  rw[e1]
  rw[e3]at hj
  rcases e4 with ⟨e4,e5⟩|⟨e4,e5⟩
  ·have:=uniq d hd e4
   subst this
   rw[e5]
   by_cases z:j=k
   ·subst z
    rw[az,bE,if_pos rfl,if_pos (by lia),az,bE,if_pos rfl,if_pos hj]
   ·rw[gd _ (by lia),h.wd d hd j hj,az (l:=d.w.set k v),bE,if_neg (aC z),←az]
  ·rw[e5,gd _ (by have:=ne d hd e4 (1+j) (by lia);lia)]
   exact h.wd d hd j hj
 ·obtain⟨d,hd,e1,_,e3,_⟩:=v9 ha
  obtain⟨d2,hd2,f1,_,_,_⟩:=v9 hb
  rw[e1,e3,f1];rw[e1,f1]at hab
  exact h.sep d hd d2 hd2 hab
theorem xO{α β:Type}{f:α->β}{cs:List α}(nd:(cs.map f).Nodup){a b:α}(ha:a∈cs)(hb:b∈cs)(e:f a=f b):a=b:=by
 obtain⟨i,hi,rfl⟩:=List.mem_iff_getElem.mp ha
 obtain⟨j,hj,rfl⟩:=List.mem_iff_getElem.mp hb
 by_cases z:i=j
 ·subst z;rfl
 ·exact absurd e (by
   have nd2:=List.pairwise_iff_getElem.mp nd
   rcases hE z with y|y
   ·have:=nd2 i j (by rw[aj];exact hi) (by rw[aj];exact hj) y
    rw[b8,b8]at this;exact this
   ·have:=nd2 j i (by rw[aj];exact hj) (by rw[aj];exact hi) y
    rw[b8,b8]at this;exact aC this)
theorem pZ.Vx{cA cM cS p m q o y s:Addr}{ws ws':List Int}{so sy ss:S3}{H H':Hp}(a:pZ cA cM cS H p m q o y s ws so sy ss)(hl:ws'.length=ws.length)(e:H' q=some (.lst (ws'.map Z_)))(k:∀b u,H b=some u->(∃c dx fs,u= .ins c dx fs)->H' b=some u):pZ cA cM cS H' p m q o y s ws' so sy ss:=
 {a with
  ob:=let ⟨d,e⟩:=a.ob;⟨d,k _ _ e ⟨_,_,_,rfl⟩⟩
  mem:=⟨let ⟨d,e⟩:=a.mem.ob;⟨d,by rw[hl];exact k _ _ e ⟨_,_,_,rfl⟩⟩,e⟩
  old:=let ⟨d,e⟩:=a.old;⟨d,k _ _ e ⟨_,_,_,rfl⟩⟩
  Fg:=let ⟨d,e⟩:=a.Fg;⟨d,k _ _ e ⟨_,_,_,rfl⟩⟩
  HH:=let ⟨d,e⟩:=a.HH;⟨d,k _ _ e ⟨_,_,_,rfl⟩⟩}
noncomputable def dk (cs:List (Int×Int)):List (Key×V):=cs.map λc=>(aJ c.1,Z_ c.2)
noncomputable def lk (cs:List (Int×Int)) (p:Int):Option Int:=(cs.find? λc=>decide (c.1=p)).map (·.2)
theorem QZ{cs:List (Int×Int)}:(dk cs).length=cs.length:=aj ..
theorem Rw{c:Int×Int}{r:List (Int×Int)}{p:Int}(e:c.1=p):lk (c::r) p=some c.2:=by simp[lk,bK,e]
theorem Oa{c:Int×Int}{r:List (Int×Int)}{p:Int}(e:¬c.1=p):lk (c::r) p=lk r p:=by simp[lk,bK,e]
theorem wL{p:Int}:∀{cs:List (Int×Int)},mX (dk cs) (aJ p)=(lk cs p).map Z_
 | []=>rfl
 |c::r=>by
  by_cases e:c.1=p
  ·rw[Rw e];exact tM (by show(aJ c.1:Key)=_;rw[e])
  ·rw[Oa e,←wL (cs:=r)];exact tL (λz=>e (cE z))
theorem KZ{p:Int}:∀{cs:List (Int×Int)},p∉cs.map (·.1)->lk cs p=none
 | [],_=>rfl
 |c::r,h=>by
  rw[ak,br,not_or]at h
  rw[Oa (λz=>h.1 z.symm)];exact KZ h.2
theorem Q0{cs:List (Int×Int)}{p w:Int}(h:p∉cs.map (·.1)):putK (dk cs) (aJ p) (Z_ w)=dk (cs++[(p,w)]):=by
 have e:mX (dk cs) (aJ p)=none:=by rw[wL,KZ h];rfl
 unfold putK
 rw[v_,e]
 simp[dk]
noncomputable def gl (f:Int->Int):List Int->Int->List (Int×Int)
 | [],_=>[]
 |p::r,g=>(p,g)::gl f r (g+f p)
theorem De{f:Int->Int}:∀{S:List Int} {g:Int},(gl f S g).map (·.1)=S
 | [],_=>rfl
 |p::r,g=>by rw[gl,ak,De]
theorem Rb{f:Int->Int}{S:List Int}{g:Int}:(gl f S g).length=S.length:=by rw[←aj (f:=(·.1)),De]
theorem KN{f:Int->Int}{p:Int}:∀{S:List Int} {g:Int},gl f (S++[p]) g=gl f S g++[(p,g+(S.map f).sum)]
 | [],g=>by simp[gl]
 |q::r,g=>by simp only[aL,gl,KN,ak,d5];rw[show g+f q+(r.map f).sum=g+(f q+(r.map f).sum) by lia]
theorem Ra{f:Int->Int}:∀{S:List Int} {g:Int},S.Nodup->∀{i:Nat} (h:i<S.length),lk (gl f S g) S[i]=some (g+((S.take i).map f).sum)
 | [],_,_,i,h=>by cases h
 |p::r,g,nd,0,h=>by rw[gl,List.getElem_cons_zero,Rw rfl];simp
 |p::r,g,nd,i+1,h=>by
  rw[bP]at nd
  have hi:i<r.length:=gm h
  rw[gl,eX,Oa (λz=>nd.1 (by rw[show p=r[i] from z];exact bq hi)),Ra nd.2 hi]
  simp only[gN,ak,d5]
  rw[show g+f p+((r.take i).map f).sum=g+(f p+((r.take i).map f).sum) by lia]
theorem Pk{f:Int->Int}:∀{S:List Int} {g:Int},(∀x∈S,g<=x)->S.Pairwise (λa b=>a+f a<=b)->(∀x∈S,0<=f x)->∀{i:Nat} (h:i<S.length),g+((S.take i).map f).sum<=S[i]
 | [],_,_,_,_,i,h=>by cases h
 |p::r,g,hg,hp,hf,0,h=>by simpa using hg p (a_ ..)
 |p::r,g,hg,hp,hf,i+1,h=>by
  rw[eK]at hp
  have hi:i<r.length:=gm h
  have h1:=hg p (a_ ..)
  have z:=Pk (f:=f) (S:=r) (g:=g+f p) (λx hx=>by have:=hp.1 x hx;lia) hp.2 (λx hx=>hf x (ba _ hx)) hi
  simp only[gN,ak,d5,eX]
  lia
set_option genInjectivity false in
structure Ad where
 rJ:Addr
 ub:FuncData
 rK:Addr
 uc:FuncData
 nH:Addr
 qF:FuncData
 nI:Addr
 qG:FuncData
 nK:Addr
 qI:FuncData
 mG:Addr
 pH:FuncData
 ng:Addr
 qv:FuncData
 oO:Addr
 rX:FuncData
 mB:Addr
 pB:FuncData
 nj:Addr
 qx:FuncData
 oQ:Addr
 rZ:FuncData
 nD:Addr
 qB:FuncData
 lJ:Addr
 m6:FuncData
 nF:Addr
 qD:FuncData
 oV:Addr
 se:FuncData
 nL:Addr
 qJ:FuncData
 mR:Addr
 oC:FuncData
 qe:Addr
 si:FuncData
 qi:Addr
 su:FuncData
 nJ:Addr
 qH:FuncData
 j5:Addr
 lj:FuncData
 qh:Addr
 sr:FuncData
 rH:Addr
 ua:FuncData
 o_:Addr
 qO:FuncData
 ug:Addr
 vq:FuncData
 B5:Addr
 DT:FuncData
 mD:Addr
 pE:FuncData
 j_:Addr
 lF:FuncData
 jV:Addr
 kW:FuncData
 oS:Addr
 r9:FuncData
 nA:Addr
 qz:FuncData
 kQ:Addr
 me:FuncData
 oR:Addr
 r6:FuncData
 sv:Addr
 vp:FuncData
 nZ:Addr
 pP:FuncData
 o9:Addr
 qN:FuncData
 B6:Addr
 DU:FuncData
 mE:Addr
 pF:FuncData
 mC:Addr
 pC:FuncData
 lH:Addr
 mY:FuncData
 j6:Addr
 lp:FuncData
 nX:Addr
 pN:FuncData
 o8:Addr
 qM:FuncData
 yf:Addr
 A7:FuncData
 lU:Addr
 ox:FuncData
 nh:Addr
 qw:FuncData
 nz:Addr
 qy:FuncData
 qb:Addr
 tX:FuncData
 oP:Addr
 rY:FuncData
 nB:Addr
 qA:FuncData
 nE:Addr
 qC:FuncData
 oX:Addr
 sg:FuncData
 oW:Addr
 sf:FuncData
 oU:Addr
 r_:FuncData
 nG:Addr
 qE:FuncData
 qg:Addr
 sk:FuncData
 nW:Addr
 pM:FuncData
 qc:Addr
 tY:FuncData
 lW:Addr
 oB:FuncData
 F2:Addr
 Js:FuncData
 rL:Addr
 ud:FuncData
 rM:Addr
 ue:FuncData
 B4:Addr
 DS:FuncData
 nY:Addr
 pO:FuncData
 rG:Addr
 t_:FuncData
 yc:Addr
 A4:FuncData
 mF:Addr
 pG:FuncData
 lr:Addr
 mM:FuncData
 uh:Addr
 vt:FuncData
 kP:Addr
 ma:FuncData
 lI:Addr
 mZ:FuncData
 n9:Addr
 pQ:FuncData
 qf:Addr
 sj:FuncData
 mT:Addr
 oF:FuncData
 nU:Addr
 pL:FuncData
 yd:Addr
 A5:FuncData
 ye:Addr
 A6:FuncData
 lV:Addr
 oA:FuncData
 rF:Addr
 tZ:FuncData
 o7:Addr
 qL:FuncData
 nT:Addr
 pK:FuncData
 o2:Addr
 qK:FuncData
 nR:Addr
 pJ:FuncData
 nV:Addr
 mz:FuncData
 qd:Addr
 sh:FuncData
 nQ:Addr
 pI:FuncData
 mS:Addr
 oE:FuncData
 lO:Addr
 mO:FuncData
 Mo:Addr
 OS:FuncData
 pT:Addr
 jN:Addr
 m9:Addr
 pA:Addr
 kb:Addr
 jI:Addr
 rb:Addr
 pj:Addr
 uQ:Addr
 ow:Addr
 i_:Addr
 je:Addr
 jm:Addr
 jY:Addr
 j8:Addr
 ju:Addr
 jE:Addr
 jK:Addr
structure Txt(K:aA)(mg:Str->Option Value)(A:Ad):Prop where
 sx:mK K "is_whole" "is_whole" Cs A.rJ A.ub
 vz:Binds K A.ub ["thing"] []
 rO:mg "is_whole"=some (.ref A.rJ)
 zS:mK K "meet_new" "meet_new" Ct A.rK A.uc
 FR:Binds K A.uc ["places","met","seen"] []
 yn:mg "meet_new"=some (.ref A.rK)
 Ij:mK K "__init__" "Space.__init__" yS A.nH A.qF
 x_:Binds K A.qF ["self","begin","end"] []
 Ik:mK K "room" "Space.room" yT A.nI A.qG
 J_:Binds K A.qG ["self"] []
 K8:Meth K A.je "room" A.nI
 Im:mK K "used" "Space.used" yV A.nK A.qI
 u_:Binds K A.qI ["self"] []
 ve:Meth K A.je "used" A.nK
 Ge:mK K "empty" "Space.empty" xh A.mG A.pH
 wK:Binds K A.pH ["self"] []
 wZ:Meth K A.je "empty" A.mG
 HY:mK K "flip" "Areas.flip" yI A.ng A.qv
 JY:Binds K A.qv ["self"] []
 K0:Meth K A.jm "flip" A.ng
 Ko:mK K "__init__" "Book.__init__" Al A.oO A.rX
 L7:Binds K A.rX ["self"] []
 F7:mK K "places" "Book.places" xa A.mB A.pB
 HK:Binds K A.pB ["self"] []
 Ip:Meth K A.jY "places" A.mB
 H_:mK K "clear" "Book.clear" yK A.nj A.qx
 J0:Binds K A.qx ["self"] []
 K3:Meth K A.jY "clear" A.nj
 Kr:mK K "row" "Hands.row" An A.oQ A.rZ
 zB:Binds K A.rZ ["self"] []
 Aa:Meth K A.j8 "row" A.oQ
 Ie:mK K "__init__" "Lasts.__init__" yO A.nD A.qB
 J6:Binds K A.qB ["self"] []
 DY:mK K "pending" "Lasts.pending" rD A.lJ A.m6
 ze:Binds K A.m6 ["self"] []
 zi:Meth K A.ju "pending" A.lJ
 Ih:mK K "said" "Lasts.said" yQ A.nF A.qD
 J8:Binds K A.qD ["self"] []
 K7:Meth K A.ju "said" A.nF
 Kv:mK K "__init__" "Weak.__init__" Ar A.oV A.se
 L9:Binds K A.se ["self"] []
 Io:mK K "names" "Weak.names" vh A.nL A.qJ
 CP:Binds K A.qJ ["self"] []
 Dp:Meth K A.jE "names" A.nL
 kI:mK K "_law_cell_at" "_law_cell_at" vT A.mR A.oC
 lB:Binds K A.oC ["_law_script","_law_k"] []
 kF:mg "_law_cell_at"=some (.ref A.mR)
 ml:mK K "_law_next" "_law_next" Aw A.qe A.si
 oN:Binds K A.si ["_law_seed"] []
 mI:mg "_law_next"=some (.ref A.qe)
 jW:mK K "is_within" "is_within" AB A.qi A.su
 kD:Binds K A.su ["thing","least","most"] []
 j7:mg "is_within"=some (.ref A.qi)
 Il:mK K "take" "Space.take" yU A.nJ A.qH
 CO:Binds K A.qH ["self","many"] []
 Dm:Meth K A.je "take" A.nJ
 zm:mK K "want_pending" "Lasts.want_pending" qo A.j5 A.lj
 uO:Binds K A.lj ["self","ticket"] []
 uU:Meth K A.ju "want_pending" A.j5
 yi:mK K "is_number" "is_number" AA A.qh A.sr
 Ew:Binds K A.sr ["thing"] []
 wz:mg "is_number"=some (.ref A.qh)
 zR:mK K "is_place" "is_place" Cr A.rH A.ua
 FQ:Binds K A.ua ["thing"] []
 yl:mg "is_place"=some (.ref A.rH)
 wN:mK K "want_slots" "want_slots" y2 A.o_ A.qO
 CS:Binds K A.qO ["slots"] []
 vc:mg "want_slots"=some (.ref A.o_)
 Gf:mK K "is_head" "is_head" Ee A.ug A.vq
 Pz:Binds K A.vq ["number"] []
 D0:mg "is_head"=some (.ref A.ug)
 Ky:mK K "fits" "fits" Ow A.B5 A.DT
 QH:Binds K A.DT ["memory","at","slots"] []
 KH:mg "fits"=some (.ref A.B5)
 Ga:mK K "__init__" "Memory.__init__" xc A.mD A.pE
 HM:Binds K A.pE ["self","size"] []
 zK:mK K "want_place" "Memory.want_place" q8 A.j_ A.lF
 u5:Binds K A.lF ["self","at"] []
 u6:Meth K A.i_ "want_place" A.j_
 yg:mK K "want_stretch" "Memory.want_stretch" pU A.jV A.kW
 tO:Binds K A.kW ["self","begin","many"] []
 tR:Meth K A.i_ "want_stretch" A.jV
 Kt:mK K "has" "Space.has" Ap A.oS A.r9
 Es:Binds K A.r9 ["self","at"] []
 EI:Meth K A.je "has" A.oS
 Ib:mK K "__init__" "Hands.__init__" yM A.nA A.qz
 J4:Binds K A.qz ["self","many"] []
 B8:mK K "want_hand" "Hands.want_hand" sZ A.kQ A.me
 CN:Binds K A.me ["self","hand"] []
 Dl:Meth K A.j8 "want_hand" A.kQ
 Ks:mK K "say" "Lasts.say" Ao A.oR A.r6
 L8:Binds K A.r6 ["self","ticket"] []
 ML:Meth K A.ju "say" A.oR
 NS:mK K "at" "Weak.at" Ed A.sv A.vp
 Jh:Binds K A.vp ["self","name"] []
 JF:Meth K A.jE "at" A.sv
 vC:mK K "want_number" "want_number" xt A.nZ A.pP
 Bt:Binds K A.pP ["thing"] []
 uE:mg "want_number"=some (.ref A.nZ)
 mH:mK K "want_place" "want_place" yZ A.o9 A.qN
 oZ:Binds K A.qN ["thing"] []
 mn:mg "want_place"=some (.ref A.o9)
 wm:mK K "kind" "kind" Ox A.B6 A.DU
 BU:Binds K A.DU ["word"] []
 ym:mg "kind"=some (.ref A.B6)
 Gb:mK K "read" "Memory.read" xf A.mE A.pF
 uA:Binds K A.pF ["self","at"] []
 uI:Meth K A.i_ "read" A.mE
 F_:mK K "copy" "Memory.copy" xb A.mC A.pC
 HL:Binds K A.pC ["self","start","goal","many"] []
 Iq:Meth K A.i_ "copy" A.mC
 DW:mK K "area_of" "Areas.area_of" u1 A.lH A.mY
 zd:Binds K A.mY ["self","at"] []
 zh:Meth K A.jm "area_of" A.lH
 zo:mK K "want_standing" "Weak.want_standing" qp A.j6 A.lp
 uP:Binds K A.lp ["self","name"] []
 uV:Meth K A.jE "want_standing" A.j6
 zT:mK K "number_word" "number_word" xo A.nX A.pN
 HV:Binds K A.pN ["n"] []
 wW:mg "number_word"=some (.ref A.nX)
 Bw:mK K "place_word" "place_word" yY A.o8 A.qM
 Kb:Binds K A.qM ["at"] []
 yo:mg "place_word"=some (.ref A.o8)
 xF:mK K "worth" "worth" Lv A.yf A.A7
 CT:Binds K A.A7 ["word"] []
 yp:mg "worth"=some (.ref A.yf)
 E1:mK K "write" "Memory.write" vR A.lU A.ox
 p_:Binds K A.ox ["self","at","word"] []
 qk:Meth K A.i_ "write" A.lU
 HZ:mK K "__init__" "Areas.__init__" yJ A.nh A.qw
 JZ:Binds K A.qw ["self","old_words","young_words"] []
 Ia:mK K "write" "Book.write" yL A.nz A.qy
 J3:Binds K A.qy ["self","place"] []
 K4:Meth K A.jY "write" A.nz
 Mq:mK K "has" "Book.has" Cp A.qb A.tX
 ND:Binds K A.tX ["self","place"] []
 Ob:Meth K A.jY "has" A.qb
 Kq:mK K "put" "Hands.put" Am A.oP A.rY
 zA:Binds K A.rY ["self","hand","word"] []
 z_:Meth K A.j8 "put" A.oP
 Ic:mK K "give" "Lasts.give" yN A.nB A.qA
 J5:Binds K A.qA ["self","at","number"] []
 K5:Meth K A.ju "give" A.nB
 Ig:mK K "move" "Lasts.move" yP A.nE A.qC
 J7:Binds K A.qC ["self","ticket","at"] []
 K6:Meth K A.ju "move" A.nE
 Kx:mK K "name" "Weak.name" Au A.oX A.sg
 Ma:Binds K A.sg ["self","at"] []
 MN:Meth K A.jE "name" A.oX
 Kw:mK K "move" "Weak.move" As A.oW A.sf
 L_:Binds K A.sf ["self","name","at"] []
 MM:Meth K A.jE "move" A.oW
 Ku:mK K "gone" "Weak.gone" Aq A.oU A.r_
 Et:Binds K A.r_ ["self","name"] []
 EJ:Meth K A.jE "gone" A.oU
 Ii:mK K "__init__" "Roots.__init__" yR A.nG A.qE
 J9:Binds K A.qE ["self","many"] []
 yh:mK K "head_word" "head_word" Az A.qg A.sk
 Eu:Binds K A.sk ["slots","age"] []
 wy:mg "head_word"=some (.ref A.qg)
 zQ:mK K "head_number" "head_number" xn A.nW A.pM
 HU:Binds K A.pM ["memory","at"] []
 wV:mg "head_number"=some (.ref A.nW)
 Mt:mK K "rub" "Book.rub" Cq A.qc A.tY
 NF:Binds K A.tY ["self","place"] []
 Oc:Meth K A.jY "rub" A.qc
 E3:mK K "starts" "Roots.starts" s_ A.lW A.oB
 FL:Binds K A.oB ["self"] []
 GI:Meth K A.jK "starts" A.lW
 Q6:mK K "lay" "lay" R4 A.F2 A.Js
 WU:Binds K A.Js ["memory","at","slots"] []
 Q9:mg "lay"=some (.ref A.F2)
 wt:mK K "slots_of" "slots_of" Cu A.rL A.ud
 BV:Binds K A.ud ["memory","at"] []
 vG:mg "slots_of"=some (.ref A.rL)
 wu:mK K "words_of" "words_of" Cv A.rM A.ue
 BW:Binds K A.ue ["memory","at"] []
 vH:mg "words_of"=some (.ref A.rM)
 Ft:mK K "aged" "aged" Ov A.B4 A.DS
 NG:Binds K A.DS ["memory","at","age"] []
 Gm:mg "aged"=some (.ref A.B4)
 vB:mK K "slot_places" "slot_places" xp A.nY A.pO
 Bs:Binds K A.pO ["memory","at"] []
 uD:mg "slot_places"=some (.ref A.nY)
 EB:mK K "children" "children" vU A.rG A.t_
 NH:Binds K A.t_ ["memory","at"] []
 B9:mg "children"=some (.ref A.rG)
 Mu:mK K "goals" "goals" Lr A.yc A.A4
 SK:Binds K A.A4 ["areas","kept"] []
 KI:mg "goals"=some (.ref A.yc)
 Gd:mK K "cells" "Space.cells" xg A.mF A.pG
 HN:Binds K A.pG ["self","memory"] []
 Ir:Meth K A.je "cells" A.mF
 C2:mK K "lay_into" "Areas.lay_into" uo A.lr A.mM
 xC:Binds K A.mM ["self","space","slots","age"] []
 xN:Meth K A.jm "lay_into" A.lr
 Gg:mK K "reached" "reached" Ef A.uh A.vt
 PB:Binds K A.vt ["memory","starts"] []
 D1:mg "reached"=some (.ref A.uh)
 B7:mK K "lay_young" "Areas.lay_young" sY A.kP A.ma
 CM:Binds K A.ma ["self","slots"] []
 Dk:Meth K A.jm "lay_young" A.kP
 DX:mK K "lay_old" "Areas.lay_old" u3 A.lI A.mZ
 EW:Binds K A.mZ ["self","slots"] []
 E6:Meth K A.jm "lay_old" A.lI
 vD:mK K "word_behind" "word_behind" xu A.n9 A.pQ
 Bu:Binds K A.pQ ["where","word"] []
 uF:mg "word_behind"=some (.ref A.n9)
 sQ:mK K "_law_word" "_law_word" Ay A.qf A.sj
 wc:Binds K A.sj ["_law_cells","_law_seed"] []
 sE:mg "_law_word"=some (.ref A.qf)
 zg:mK K "_law_reached" "_law_reached" qq A.mT A.oF
 FP:Binds K A.oF ["_law_cells","_law_hands"] []
 vF:mg "_law_reached"=some (.ref A.mT)
 vA:mK K "_law_turned" "_law_turned" xm A.nU A.pL
 Br:Binds K A.pL ["_law_word_here","_law_where"] []
 uC:mg "_law_turned"=some (.ref A.nU)
 Mw:mK K "renew" "renew" Ls A.yd A.A5
 SM:Binds K A.A5 ["memory","where","at"] []
 KJ:mg "renew"=some (.ref A.yd)
 Mx:mK K "slide" "slide" Lu A.ye A.A6
 SO:Binds K A.A6 ["areas","at","goal"] []
 KL:mg "slide"=some (.ref A.ye)
 E2:mK K "follow" "Roots.follow" vS A.lV A.oA
 FK:Binds K A.oA ["self","goal_of"] []
 GH:Meth K A.jK "follow" A.lV
 zM:mK K "_law_lay" "_law_lay" yW A.rF A.tZ
 FO:Binds K A.tZ ["_law_areas","_law_side","_law_slots","_law_cells"] []
 yj:mg "_law_lay"=some (.ref A.rF)
 wM:mK K "_law_write" "_law_write" yX A.o7 A.qL
 CQ:Binds K A.qL ["_law_areas","_law_roots","_law_cells","_law_at","_law_slot","_law_word_here"] []
 vb:mg "_law_write"=some (.ref A.o7)
 zO:mK K "_law_tabled" "_law_tabled" xj A.nT A.pK
 HR:Binds K A.pK ["_law_roots","_law_cells","_law_script","_law_names","_law_tickets"] []
 wR:mg "_law_tabled"=some (.ref A.nT)
 Bv:mK K "_law_moved" "_law_moved" pf A.o2 A.qK
 Ka:Binds K A.qK ["_law_s"] []
 yk:mg "_law_moved"=some (.ref A.o2)
 zN:mK K "_law_stands" "_law_stands" rh A.nR A.pJ
 HQ:Binds K A.pJ ["_law_areas","_law_roots","_law_s","_law_top"] []
 wQ:mg "_law_stands"=some (.ref A.nR)
 zP:mK K "collect_all" "collect_all" rj A.nV A.mz
 HS:Binds K A.mz ["areas","roots"] []
 vN:A.mz.code= .ref A.pT
 vJ:de K A.pT A.jN=true
 wU:mg "collect_all"=some (.ref A.nV)
 C_:mK K "_law_laid" "_law_laid" Av A.qd A.sh
 Mb:Binds K A.sh ["_law_areas","_law_rooms","_law_script"] []
 zW:mg "_law_laid"=some (.ref A.qd)
 zL:mK K "_law_filled" "_law_filled" xi A.nQ A.pI
 HP:Binds K A.pI ["_law_areas","_law_roots","_law_cells","_law_seed"] []
 wO:mg "_law_filled"=some (.ref A.nQ)
 zf:mK K "_law_changed" "_law_changed" tf A.mS A.oE
 FN:Binds K A.oE ["_law_areas","_law_roots","_law_s","_law_cell","_law_rooms"] []
 vE:mg "_law_changed"=some (.ref A.mS)
 pW:mK K "_law_collected" "_law_collected" uq A.lO A.mO
 tW:Binds K A.mO ["_law_areas","_law_roots","_law_s"] []
 oG:mg "_law_collected"=some (.ref A.lO)
 Ve:mK K "law" "law" JJ A.Mo A.OS
 Gi:mg "Memory"=some (.ref A.i_)
 jZ:Fh K A.i_
 D8:Mk K A.i_ A.mD
 oM:mf K A.i_ "size"
 mh:mf K A.i_ "words"
 Dd:mg "Space"=some (.ref A.je)
 kE:Fh K A.je
 Ab:Mk K A.je A.nH
 lY:mf K A.je "begin"
 vf:mf K A.je "end"
 lQ:mf K A.je "top"
 KA:mg "Areas"=some (.ref A.jm)
 jF:Fh K A.jm
 GO:Mk K A.jm A.nh
 jP:mf K A.jm "memory"
 kK:mf K A.jm "old"
 lX:mf K A.jm "young"
 oJ:mf K A.jm "spare"
 NT:mg "Book"=some (.ref A.jY)
 sO:Fh K A.jY
 K_:Mk K A.jY A.oO
 lK:mf K A.jY "written"
 KC:mg "Hands"=some (.ref A.j8)
 qa:Fh K A.j8
 GP:Mk K A.j8 A.nA
 oK:mf K A.j8 "words"
 KD:mg "Lasts"=some (.ref A.ju)
 lh:Fh K A.ju
 GQ:Mk K A.ju A.nD
 jQ:mf K A.ju "waiting"
 m7:mf K A.ju "spoken"
 NU:mg "Weak"=some (.ref A.jE)
 m_:Fh K A.jE
 La:Mk K A.jE A.oV
 mw:mf K A.jE "told"
 KG:mg "Roots"=some (.ref A.jK)
 jR:Fh K A.jK
 GR:Mk K A.jK A.nG
 lD:mf K A.jK "hands"
 oa:mf K A.jK "book"
 k_:mf K A.jK "weaks"
 lE:mf K A.jK "lasts"
 vx:Gv mg "NOTHING" (.int (-1))
 uM:Gv mg "MOST_NUMBER" (.int (1000000000000))
 za:Gv mg "MOST_PLACE" (.int (9999))
 vn:Gv mg "MOST_SLOTS" (.int (8))
 uv:Gv mg "MOST_AGE" (.int (2))
 zb:Gv mg "MOST_WORDS" (.int (4000))
 tK:Gv mg "LEAST_OLD_WORDS" (.int (4))
 uw:Gv mg "MOST_OLD_WORDS" (.int (2000))
 q_:Gv mg "LEAST_YOUNG_WORDS" (.int (2))
 rV:Gv mg "MOST_YOUNG_WORDS" (.int (500))
 y_:Gv mg "MOST_HANDS" (.int (6))
 zU:mg "BadNumber"=some (.ref A.m9)
 A9:mg "BadWord"=some (.ref A.pA)
 n_:mg "BadCount"=some (.ref A.kb)
 vw:mg "NoPlace"=some (.ref A.jI)
 Gk:mg "NoRoom"=some (.ref A.rb)
 Dc:mg "NoCell"=some (.ref A.pj)
 Gj:mg "NoHand"=some (.ref A.uQ)
 zV:mg "NoName"=some (.ref A.ow)
 oo:CK K A.kb
 AZ:CK K A.m9
 Bj:CK K A.pA
 DJ:CK K A.pj
 HF:CK K A.uQ
 A0:CK K A.ow
 vy:CK K A.jI
 HG:CK K A.rb
 u0:bb K (.type "NoneType") (.type "int")=some false
 um:bb K (.type "NoneType") (.type "bool")=some false
 z0:bb K (.type "bool") (.type "int")=some true
 yw:bb K (.type "bool") (.type "bool")=some true
 yy:bb K (.type "int") (.type "int")=some true
 wD:bb K (.type "int") (.type "bool")=some false
 Cj:bb K (.type "str") (.type "int")=some false
 z6:bb K (.type "str") (.type "bool")=some false
 z5:bb K (.type "list") (.type "int")=some false
 yz:bb K (.type "list") (.type "bool")=some false
 yA:bb K (.type "tuple") (.type "int")=some false
 wY:bb K (.type "tuple") (.type "bool")=some false
 z4:bb K (.type "dict") (.type "int")=some false
 yx:bb K (.type "dict") (.type "bool")=some false
 Lb:mg "bool"=none
 wF:mg "enumerate"=none
 O9:mg "int"=none
 qT:mg "isinstance"=none
 sU:mg "len"=none
 yC:mg "list"=none
 rB:mg "range"=none
 vP:mg "sorted"=none
section
variable{P:Program}{w:World}{K:aA}{mg:Str->Option Value}{base:Heap}{A:Ad}
theorem Xn(T:Txt K mg A){H:Hp}{v:V}(h:Kn H v):∃t,Wo H v=some t/\NB K H v/\bb K t (.type "int")=some (MD v ||YD v)/\bb K t (.type "bool")=some (YD v):=by
 cases v with
 |kT=>exact⟨_,rfl,aD,T.u0,T.um⟩
 |bl b=>exact⟨_,rfl,aD,T.z0,T.yw⟩
 |int i=>exact⟨_,rfl,aD,T.yy,T.wD⟩
 |str x=>exact⟨_,rfl,aD,T.Cj,T.z6⟩
 |ref a=>
  rcases h with ⟨xs,e⟩|⟨xs,e⟩|⟨xs,e⟩
  ·exact⟨.type "list",by simp[Wo,e],by simp[NB,e],T.z5,T.yz⟩
  ·exact⟨.type "tuple",by simp[Wo,e],by simp[NB,e],T.yA,T.wY⟩
  ·exact⟨.type "dict",by simp[Wo,e],by simp[NB,e],T.z4,T.yx⟩
 |byt b=>exact h.elim
 |Nu b=>exact h.elim
 |ty n=>exact h.elim
noncomputable def mJ:Sp:=λvs H Q _=>∃v,vs=[v]/\Kn H v/\Q (.bl (MD v)) H
theorem M5:i7 ["thing"] ["thing"] (iX Cs):=fsc
theorem uY{ca:Bool}(T:Txt K mg A):jA P w K mg base (lG P w) ca 1 A.rJ A.ub ["thing"] mJ:=by
 refine T.sx.nP M5 (λvs H Q E h=> ?_) (λcdv A' outer s H vs Q E hr hx h=> ?_)
 ·obtain⟨_,rfl,_⟩:=h
  rfl
 ·obtain⟨v,rfl,hk,q⟩:=h
  refine⟨_,mL.run (iR (jf (Gy (jy yt (by rfl) T.qT PyProof.Rows.Boot.«isinstance» (iN (iQ 0) (iN (Fx T.O9 PyProof.Rows.Boot.«int») iO))) (GA (Rn (jy yt (by rfl) T.qT PyProof.Rows.Boot.«isinstance» (iN (iQ 0) (iN (Fx T.Lb PyProof.Rows.Boot.«bool») iO)))))))),?_⟩
  obtain⟨t,h1,h2,h3,h4⟩:=Xn T hk
  simp only[kU,Nj,Sa,Bg,iZ,jd,tC,i3,R1,Vp,jb,ao,L2.start,ak,av,af,ai,ah,ay,aa,true_and,aq,aF,↓jD,h1,h2,h3,h4]
  cases v<;>simpa [MD,YD] using q
noncomputable def OX (M:List Int):List (Key×V):=M.map λp=>(aJ p,V.bl true)
theorem Fq{p:Int}:∀{M:List Int},(mX (OX M) (aJ p)).isSome=decide (p∈M)
 | []=>rfl
 |a::r=>by
  by_cases e:a=p
  ·rw[show mX (OX (a::r)) (aJ p)=some (.bl true) from tM (by show(aJ a:Key)=_;rw[e])]
   simp[e]
  ·rw[show mX (OX (a::r)) (aJ p)=mX (OX r) (aJ p) from tL (λz=>e (cE z)),Fq]
   simp[aC e]
theorem S_{p:Int}{M:List Int}(h:p∉M):putK (OX M) (aJ p) (V.bl true)=OX (M++[p]):=by
 unfold putK
 rw[v_,Fq,decide_eq_false h]
 simp[OX]
noncomputable def AS:Sp:=λvs H Q _=>∃(pl mt sn:Addr) (ps M:List Int),vs=[.ref pl,.ref mt,.ref sn]/\H pl=some (.lst (ps.map Z_))/\H mt=some (.lst (M.map Z_))/\H sn=some (.dK (OX M))/\pl≠mt/\ps.length<=64/\M.length<=64/\
 ∀H',H' mt=some (.lst ((M++xE M ps).map Z_))->H' sn=some (.dK (OX (M++xE M ps)))->(∀b u,H b=some u->b≠mt->b≠sn->H' b=some u)->Q .kT H'
theorem EO:i7 ["places","met","seen","at"] ["places","met","seen"] (iX Ct):=fsc
theorem EM(T:Txt K mg A):jA P w K mg base (lG P w) true 1 A.rK A.uc ["places","met","seen"] AS:=by
 refine T.zS.nP EO (λvs H Q E h=> ?_) (λcdv A' outer s H vs Q E hr hx h=> ?_)
 ·obtain⟨_,_,_,_,_,rfl,_⟩:=h
  rfl
 ·obtain⟨pl,mt,sn,ps,M,rfl,h⟩:=h
  obtain⟨h,ep,em,es,npm,pl64,ml64⟩:=Yc h
  refine⟨_,mL.run (iR (k7 hx.own rfl (kx (iQ 0)) (jO (i:=3) EO.nd rfl lo)
    (iR (jo (jc (Ce (jw hr)) (iQ 3) (iQ 2) (by with_unfolding_all rfl)) (iP (mi (jw hr) (iQ 2) (iQ 3) rA rfl)
   (iR (i6 (Cb cu cx rP (iQ 1) (iN (iQ 3) iO))))) jh)))),?_⟩
  simp only[i3,jb,ao,bx,lT,qj,L2.start,ak,av,af,ai,ah,aL,bc,aa,V.ref.injEq,exists_eq_left',bz,aq]
  have nms:mt≠sn:=λz=>by rw[z,es]at em;cases em
  have nps:pl≠sn:=λz=>by rw[z,es]at ep;cases ep
  refine⟨⟨_,mj.of ep⟩,lA.list (xs:=ps.map Z_) (λi σ H'=>H' mt=some (.lst ((M++xE M (ps.take i)).map Z_))/\H' sn=some (.dK (OX (M++xE M (ps.take i))))/\(∀b u,H b=some u->b≠mt->b≠sn->H' b=some u)/\(M++xE M (ps.take i)).length<=M.length+i/\∃a3,σ=[some (.ref pl),some (.ref mt),some (.ref sn),a3])
   ⟨by simp[xE,em],by simp[xE,es],λb u e _ _=>e,by simp[xE],_,rfl⟩ (λi σ H' _ ⟨_,_,f,_⟩=>mj.of (f _ _ ep npm nps)) ?_ ?_⟩
  ·rintro i x σ H1 hx ⟨e1,e2,f1,l1,a3,rfl⟩
   have hi:i<ps.length:=by have:=(List.getElem?_eq_some_iff.mp hx).1;rw[aj]at this;exact this
   rw[aS,au hi]at hx
   cases hx
   have et:xE M (ps.take (i+1))=xE M (ps.take i)++xE (M++xE M (ps.take i)) [ps[i]]:=by rw[bC hi,B3]
   rw[et,←c8]
   generalize M++xE M (ps.take i)=N at*
   generalize ps[i]=x at*
   by_cases hx:x∈N
   ·have e3:xE N [x]=[]:=by simp[xE,hx]
    rw[e3,ay]
    simp only[kj,kM,jC,ke,i3,jq,↓reduceIte,gK,kJ,we,aa,ae,aw,ax,ag,and_true,true_and,aM,↓jD,e2,Fq,decide_eq_true hx]
    exact⟨e1,f1,by lia,_,rfl⟩
   ·have e3:xE N [x]=[x]:=by simp[xE,hx]
    rw[e3]
    simp only[jB,jM,kM,jC,ke,iZ,jd,tC,i3,jq,↓reduceIte,iE,iS,sL,Qq,sN,kJ,we,aa,ae,aw,ax,ag,bh,and_true,true_and,↓jD,e2,Fq,decide_eq_false hx]
    rw[S_ hx,iW nms,e1]
    have nl:N.length<200:=by lia
    refine⟨by rw[OX,aj];exact aK nl (by decide),by rw[aj];exact aK nl (by decide),by rw[bo];rfl,by rw[iW (aC nms),iS],λb u eb n1 n2=>by rw[iW n1,iW n2];exact f1 b u eb n1 n2,by rw[aY];exact dG l1,_,rfl⟩
  ·rintro σ H1 ⟨e1,e2,f1,l1,a3,rfl⟩
   rw[aj,bF]at e1 e2
   simp only[]
   exact h H1 e1 e2 f1
noncomputable def uL (A:Ad):Sp:=λvs H Q _=>∃p dx b e,vs=[.ref p,.int b,.int e]/\H p=some (.ins A.je dx [])/\Q .kT (upd H p (.ins A.je dx (uK b e b)))
theorem IV:i7 ["self","begin","end"] ["self","begin","end"] (iX yS):=fsc
theorem w_{ca:Bool}(T:Txt K mg A):jA P w K mg base (lG P w) ca 1 A.nH A.qF ["self","begin","end"] (uL A):=by
 refine T.Ij.nP IV (λvs H Q E h=> ?_) (λcdv A' outer s H vs Q E hr hx h=> ?_)
 ·obtain⟨_,_,_,_,rfl,_⟩:=h
  rfl
 ·obtain⟨p,dx,b,e,rfl,hp,q⟩:=h
  refine⟨_,mL.run (iP (kG (iQ 0) (iQ 1) rfl)
   (iP (kG (iQ 0) (iQ 2) rfl)
   (iR (kG (iQ 0) (iQ 1) rfl)))),?_⟩
  simp only[jM,i3,jb,aV,Int.reduceEq,aW,ao,Le,iD,↓reduceIte,iS,rW,L2.start,ak,av,af,ai,ah,ay,aa,ae,true_and,aq,aF,hp,T.kE,T.lY,T.vf,T.lQ,ly,Pu]
  exact q
noncomputable def Jd (A:Ad):Sp:=λvs H Q _=>∃p dx b e t,vs=[.ref p]/\H p=some (.ins A.je dx (uK b e t))/\Q (.int (e-t)) H
theorem IW:i7 ["self"] ["self"] (iX yT):=fsc
theorem IG{ca:Bool}(T:Txt K mg A):jA P w K mg base (lG P w) ca 1 A.nI A.qG ["self"] (Jd A):=by
 refine T.Ik.nP IW (λvs H Q E h=> ?_) (λcdv A' outer s H vs Q E hr hx h=> ?_)
 ·obtain⟨_,_,_,_,_,rfl,_⟩:=h
  rfl
 ·obtain⟨p,dx,b,e,t,rfl,hp,q⟩:=h
  refine⟨_,mL.run (iR (jf (iY qR (i8 (iQ 0) rfl) (i8 (iQ 0) rfl)))),?_⟩
  simp only[kU,ke,i3,B0,jb,ao,↓jj,L2.start,ak,av,af,ai,ah,ay,aa,and_true,true_and,aq,aF,jU,oq,hp,T.kE,T.vf,T.lQ,XZ,JL]
  exact q
noncomputable def rp (A:Ad):Sp:=λvs H Q _=>∃p dx b e t,vs=[.ref p]/\H p=some (.ins A.je dx (uK b e t))/\Q (.int (t-b)) H
theorem IX:i7 ["self"] ["self"] (iX yV):=fsc
theorem uJ{ca:Bool}(T:Txt K mg A):jA P w K mg base (lG P w) ca 1 A.nK A.qI ["self"] (rp A):=by
 refine T.Im.nP IX (λvs H Q E h=> ?_) (λcdv A' outer s H vs Q E hr hx h=> ?_)
 ·obtain⟨_,_,_,_,_,rfl,_⟩:=h
  rfl
 ·obtain⟨p,dx,b,e,t,rfl,hp,q⟩:=h
  refine⟨_,mL.run (iR (jf (iY qR (i8 (iQ 0) rfl) (i8 (iQ 0) rfl)))),?_⟩
  simp only[kU,ke,i3,B0,jb,ao,↓jj,L2.start,ak,av,af,ai,ah,ay,aa,and_true,true_and,aq,aF,jU,oq,hp,T.kE,T.lY,T.lQ,Na,JL]
  exact q
noncomputable def tG (A:Ad):Sp:=λvs H Q _=>∃p dx b e t,vs=[.ref p]/\H p=some (.ins A.je dx (uK b e t))/\Q .kT (upd H p (.ins A.je dx (uK b e b)))
theorem Hg:i7 ["self"] ["self"] (iX xh):=fsc
theorem vQ{ca:Bool}(T:Txt K mg A):jA P w K mg base (lG P w) ca 1 A.mG A.pH ["self"] (tG A):=by
 refine T.Ge.nP Hg (λvs H Q E h=> ?_) (λcdv A' outer s H vs Q E hr hx h=> ?_)
 ·obtain⟨_,_,_,_,_,rfl,_⟩:=h
  rfl
 ·obtain⟨p,dx,b,e,t,rfl,hp,q⟩:=h
  refine⟨_,mL.run (iR (kG (iQ 0) (i8 (iQ 0) rfl) rfl)),?_⟩
  simp only[i3,jb,aV,aW,ao,↓jj,rW,L2.start,ak,av,af,ai,ah,ay,aa,and_true,true_and,aq,aF,jU,oq,hp,T.kE,T.lY,T.lQ,Na,Pm,Pl]
  exact q
noncomputable def BG (A:Ad):Sp:=λvs H Q _=>∃p dx m o y s,vs=[.ref p]/\H p=some (.ins A.jm dx (zy m o y s))/\Q .kT (upd H p (.ins A.jm dx (zy m o s y)))
theorem BD:i7 ["self","young"] ["self"] (iX yI):=fsc
theorem Iu{ca:Bool}(T:Txt K mg A):jA P w K mg base (lG P w) ca 1 A.ng A.qv ["self"] (BG A):=by
 refine T.HY.nP BD (λvs H Q E h=> ?_) (λcdv A' outer s H vs Q E hr hx h=> ?_)
 ·obtain⟨_,_,_,_,_,_,rfl,_⟩:=h
  rfl
 ·obtain⟨p,dx,m,o,y,s',rfl,hp,q⟩:=h
  refine⟨_,mL.run (iP (ji (i:=1) BD.nd rfl lo (i8 (iQ 0) rfl))
   (iP (kG (iQ 0) (i8 (iQ 0) rfl) rfl)
   (iR (kG (iQ 0) (iQ 1) rfl)))),?_⟩
  simp only[jM,i3,jX,jq,jb,aV,aW,ao,bx,iS,↓jj,rW,L2.start,ak,av,af,ai,ah,aL,bc,aa,ae,aw,ax,and_true,true_and,bz,aq,jU,oq,hp,T.jF,T.lX,T.oJ,L4,QD,QC,QB,SH,Pu]
  exact q
noncomputable def DB (A:Ad):Sp:=λvs H Q _=>∃p dx,vs=[.ref p]/\H p=some (.ins A.jY dx [])/\∀d H',H d=none->u9 A.jY H' p d []->(∀y o,y≠p->H y=some o->H' y=some o)->Q .kT H'
theorem Ly:i7 ["self"] ["self"] (iX Al):=fsc
theorem Lf{ca:Bool}(T:Txt K mg A):jA P w K mg base (lG P w) ca 1 A.oO A.rX ["self"] (DB A):=by
 refine T.Ko.nP Ly (λvs H Q E h=> ?_) (λcdv A' outer s H vs Q E hr hx h=> ?_)
 ·obtain⟨_,_,rfl,_⟩:=h
  rfl
 ·obtain⟨p,dx,rfl,hp,h⟩:=h
  refine⟨_,mL.run (iR (kG (iQ 0) mU rfl)),?_⟩
  simp only[i3,uu,jb,ao,rW,L2.start,ak,av,af,ai,ah,ay,aa,aq,aF]
  intro d hd
  have npd:=iT hp hd
  have e:upd H d (.dK []) p=some (.ins A.jY dx []):=pY hp npd
  simp only[aV,aW,ai,true_and,e,T.sO,T.lK,US]
  exact h d _ hd ⟨⟨dx,iS⟩,by rw[iW (aC npd),iS];rfl⟩ λy o hy e=>by rw[iW hy,iW (iT e hd)];exact e
theorem Mc:∀{ks:List Int},Gr (Kc ks)=some ks
 | []=>rfl
 |k::r=>by show(Gr (Kc r)).map _=_;rw[Mc];rfl
noncomputable def AL (A:Ad):Sp:=λvs H Q _=>∃p d ks,vs=[.ref p]/\u9 A.jY H p d ks/\ks.length<64/\∀l,H l=none->Q (.ref l) (upd H l (.lst ((oH ks).map Z_)))
theorem Hd:i7 ["self"] ["self"] (iX xa):=fsc
theorem GV(T:Txt K mg A):jA P w K mg base (lG P w) true 1 A.mB A.pB ["self"] (AL A):=by
 refine T.F7.nP Hd (λvs H Q E h=> ?_) (λcdv A' outer s H vs Q E hr hx h=> ?_)
 ·obtain⟨_,_,_,rfl,_⟩:=h
  rfl
 ·obtain⟨p,d,ks,rfl,h⟩:=h
  obtain⟨h,m,hl⟩:=Fj h
  refine⟨_,mL.run (iR (jf (jy (ED (by rfl)) (by rfl) T.vP PyProof.Rows.Boot.«sorted» (iN (i8 (iQ 0) rfl) iO)))),?_⟩
  obtain⟨dx,e⟩:=m.ob
  simp only[kU,Bg,iZ,jd,i3,jb,ao,↓jj,L2.start,zH,ak,av,af,ai,ah,ay,aa,and_true,true_and,aq,aF,jU,oq,e,T.sO,T.lK,OM,m.dc,Mc]
  exact⟨hl,h⟩
noncomputable def BI (A:Ad):Sp:=λvs H Q _=>∃p d ks,vs=[.ref p]/\u9 A.jY H p d ks/\∀d' H',H d'=none->u9 A.jY H' p d' []->(∀b o,H b=some o->b≠p->H' b=some o)->Q .kT H'
theorem IL:i7 ["self"] ["self"] (iX yK):=fsc
theorem Iw{ca:Bool}(T:Txt K mg A):jA P w K mg base (lG P w) ca 1 A.nj A.qx ["self"] (BI A):=by
 refine T.H_.nP IL (λvs H Q E h=> ?_) (λcdv A' outer s H vs Q E hr hx h=> ?_)
 ·obtain⟨_,_,_,rfl,_⟩:=h
  rfl
 ·obtain⟨p,d,ks,rfl,m,h⟩:=h
  refine⟨_,mL.run (iR (kG (iQ 0) mU rfl)),?_⟩
  simp only[i3,uu,jb,ao,rW,L2.start,ak,av,af,ai,ah,ay,aa,aq,aF]
  intro d' hd'
  obtain⟨dx,e⟩:=(m.same (ja.upd (o:= .dK []) hd')).ob
  simp only[aV,aW,true_and,e,T.sO,T.lK,SR,SQ]
  obtain⟨dy,ey⟩:=m.ob
  refine h d' _ hd' ⟨⟨dx,iS⟩,?_⟩ λb o eb nb=> ?_
  ·rw[iW (aC (iT ey hd')),iS];rfl
  ·rw[iW nb];exact ja.upd hd' _ _ eb
noncomputable def vk (A:Ad):Sp:=λvs H Q _=>∃p q ws,vs=[.ref p]/\xY A.j8 H p q ws/\∀l,H l=none->Q (.ref l) (upd H l (.lst (ws.map Z_)))
theorem LD:i7 ["self"] ["self"] (iX An):=fsc
theorem yF{ca:Bool}(T:Txt K mg A):jA P w K mg base (lG P w) ca 1 A.oQ A.rZ ["self"] (vk A):=by
 refine T.Kr.nP LD (λvs H Q E h=> ?_) (λcdv A' outer s H vs Q E hr hx h=> ?_)
 ·obtain⟨_,_,_,rfl,_⟩:=h
  rfl
 ·obtain⟨p,q,ws,rfl,m,h⟩:=h
  refine⟨_,mL.run (iR (jf (qS MG (by rfl) T.yC PyProof.Rows.Boot.«list» (iN (i8 (iQ 0) rfl) iO)))),?_⟩
  obtain⟨dx,e⟩:=m.ob
  simp only[kU,Bg,iZ,jd,i3,jb,ao,Me,↓jj,L2.start,ak,av,af,ai,ah,ay,aa,and_true,true_and,aq,aF,jU,oq,e,T.qa,T.oK,Rg,m.ls]
  exact h
noncomputable def BM (A:Ad):Sp:=λvs H Q _=>∃p dx,vs=[.ref p]/\H p=some (.ins A.ju dx [])/\∀d q H',H d=none->H q=none->(∀y o,y≠p->H y=some o->H' y=some o)->lN A.ju H' p d q [] [] []->Q .kT H'
theorem IQ:i7 ["self"] ["self"] (iX yO):=fsc
theorem IC{ca:Bool}(T:Txt K mg A):jA P w K mg base (lG P w) ca 1 A.nD A.qB ["self"] (BM A):=by
 refine T.Ie.nP IQ (λvs H Q E h=> ?_) (λcdv A' outer s H vs Q E hr hx h=> ?_)
 ·obtain⟨_,_,rfl,_⟩:=h
  rfl
 ·obtain⟨p,dx,rfl,hp,h⟩:=h
  refine⟨_,mL.run (iP (kG (iQ 0) mU rfl)
   (iR (kG (iQ 0) (lu iO) rfl))),?_⟩
  simp only[jM,jd,i3,xU,uu,jb,ao,rW,L2.start,ak,av,af,ai,ah,ay,aa,true_and,aq,aF,Qr]
  intro d hd
  have npd:=iT hp hd
  have e:upd H d (.dK []) p=some (.ins A.ju dx []):=pY hp npd
  simp only[aV,aW,ai,true_and,e,T.lh,T.jQ]
  intro q hq
  have nqp:q≠p:=λz=>by rw[z,iS]at hq;cases hq
  have nqd:q≠d:=λz=>by rw[z,iW (aC npd),iS]at hq;cases hq
  have hq0:H q=none:=by rw[iW nqp,iW nqd]at hq;exact hq
  rw[iW (aC nqp),iS]
  simp only[true_and,T.lh,T.m7,Vq]
  refine⟨Tt,h d q _ hd hq0 (λy o hy e=> ?_) ⟨⟨dx,iS⟩,?_,?_,rfl,(λe he=>by cases he),rfl⟩⟩
  ·rw[iW hy,iW (iT e hq0),iW hy,iW (iT e hd)];exact e
  ·rw[iW (aC npd),iW (aC nqd),iW (aC npd),iS];rfl
  ·rw[iW nqp,iS];rfl
theorem Ug{es:List We}{ws:List (Option (Int×Int))}(h:es.map We.x=j4 0 ws){n:Nat}{v:V}(hv:((es.map We.t).map Z_)[n]? =some v):∃e∈es,v= .int e.t/\pd ws (.int e.t)=some (e.p,e.n)/\(j4 0 ws).take (n+1)=(j4 0 ws).take n++[e.x]:=by
 rw[aS,aS]at hv
 obtain⟨t,ht,rfl⟩:=Option.map_eq_some_iff.mp hv
 obtain⟨e,he,rfl⟩:=Option.map_eq_some_iff.mp ht
 refine⟨e,cz he,rfl,?_,?_⟩
 ·have f:=Pc (ws:=ws) (i:=e.t)
  have g:(j4 0 ws).find? (λx=>decide (x.1=e.t))=some e.x:=by
   rw[←h]
   exact Qj h (cz he)
  rw[g]at f
  cases hp:pd ws (.int e.t) with
  |none=>rw[hp]at f;cases f
  |some y=>rw[hp]at f;have:=congrArg (λo=>o.map (·.2)) f;exact congrArg some (by have:=this.symm;simp[We.x]at this;exact Prod.ext this.1 this.2)
 ·rw[←h,eU,aS,he];rfl
noncomputable def ur (A:Ad):Sp:=λvs H Q _=>∃p d q ws sp es,vs=[.ref p]/\lN A.ju H p d q ws sp es/\ws.length<64/\∀l as H',ja H H'->H l=none->H' l=some (.lst as)->qZ H' as (j4 0 ws)->Q (.ref l) H'
theorem Ei:i7 ["self"] ["self"] (iX rD):=fsc
theorem xQ(T:Txt K mg A):jA P w K mg base (lG P w) true 1 A.lJ A.m6 ["self"] (ur A):=by
 refine T.DY.nP Ei (λvs H Q E h=> ?_) (λcdv A' outer s H vs Q E hr hx h=> ?_)
 ·obtain⟨_,_,_,_,_,_,rfl,_⟩:=h
  rfl
 ·obtain⟨p,d,q,ws,sp,es,rfl,h⟩:=h
  obtain⟨h,m,hl⟩:=Fj h
  refine⟨_,mL.run (iR (jf (pR (fsc:=iX rD) (N2:=["self"]) (js:=[0]) ⟨rfl,rfl,by decide+kernel,by decide+kernel,by decide+kernel,by decide+kernel,by decide+kernel,by decide+kernel,by decide+kernel⟩ rfl rfl (by rfl) (kx (jy (ED (by rfl)) (by rfl) T.vP PyProof.Rows.Boot.«sorted» (iN (i8 (iQ 0) rfl) iO))) (λ_ _ _ _=>uk) (λ_ _ _ _=>(iY Rl (vK (iN (iQ 0) iO)) (jk (by exact jw hr) (MF (K:=K) rfl (iQ 1) rfl) (iQ 0) (λ_ _=>rfl))))))),?_⟩
  obtain⟨dx,e⟩:=m.ob
  have ll:=m.ln
  simp only[kU,Bg,iZ,jd,i3,jb,ao,tJ,uR,qj,↓jj,L2.start,zH,ak,av,af,ai,ah,ay,aa,V.ref.injEq,and_true,true_and,exists_eq_left',aq,aF,jU,oq,e,T.lh,T.jQ,Dj,m.dc,Nr,m.sorted,aj]
  refine⟨by lia,λl0 hl0=> ?_⟩
  have s0:ja H (upd H l0 (.lst ((es.map We.t).map Z_))):=ja.upd hl0
  have d0:upd H l0 (.lst ((es.map We.t).map Z_)) l0=some (.lst ((es.map We.t).map Z_)):=iS
  generalize upd H l0 (.lst ((es.map We.t).map Z_))=H1 at*
  refine⟨⟨_,mj.of d0⟩,zJ (xs:=(es.map We.t).map Z_) (λn ys H'=>ja H1 H'/\qZ H' ys ((j4 0 ws).take n)/\ys.length<=n) ⟨ja.refl _,.nil,aI _⟩ (λn ys H' hP=>mj.of (hP.1 _ _ d0)) (by rw[aj,aj];exact aH (show es.length<=64 by lia) (by decide)) (λn ys H' hP=>hP.2.2) (λn x ys H' hx' hP K1 hK=> ?_) λys H' hP l hl'=> ?_⟩
  ·obtain⟨s1,hp,hy⟩:=hP
   obtain⟨r,hr,rfl,hpd,tk⟩:=Ug m.xs hx'
   have m1:=m.same (s0.trans s1)
   have e1:=(s0.trans s1) _ _ e
   obtain⟨r',hr',t1,t2,t3,t4⟩:=m1.find hpd
   have tr:=m1.tp r' hr'
   simp only[ke,iZ,jd,i3,Jg,ON,ao,↓reduceIte,OE,↓jj,kL,kJ,af,ai,aa,ae,true_and,aq,BR,jU,oq,cX]
   intro p1 h1
   have s2:ja H' (upd H' p1 (.tup [.int r.t])):=ja.upd h1
   have d2:upd H' p1 (.tup [.int r.t]) p1=some (.tup [.int r.t]):=iS
   generalize upd H' p1 (.tup [.int r.t])=H2 at*
   have e2:=s2 _ _ e1
   have dc2:=s2 _ _ m1.dc
   have tr2:=s2 _ _ tr
   simp only[ao,af,ai,aL,bc,and_true,true_and,aq,Yi,e2,T.lh,T.jQ,Dj,dc2,t4,d2,tr2,af,ai,aL,bc]
   refine⟨iu _ _,iu _ _,λp2 h2=>hK _ _ ⟨(s1.trans s2).trans (ja.upd h2),?_,by rw[aY];exact dG hy⟩⟩
   rw[tk]
   refine((hp.same s2).same (ja.upd h2)).snoc ?_
   rw[iS,t2,t3];rfl
  ·rw[aj,aj,show es.length=(j4 0 ws).length by rw[←m.xs,aj],bF]at hP
   exact h l ys _ ((s0.trans hP.1).trans (ja.upd hl')) ((s0.trans hP.1).free hl') iS (hP.2.1.same (ja.upd hl'))
noncomputable def BO (A:Ad):Sp:=λvs H Q _=>∃p d q ws sp es,vs=[.ref p]/\lN A.ju H p d q ws sp es/\∀l,H l=none->Q (.ref l) (upd H l (.lst (sp.map Z_)))
theorem IT:i7 ["self"] ["self"] (iX yQ):=fsc
theorem IE{ca:Bool}(T:Txt K mg A):jA P w K mg base (lG P w) ca 1 A.nF A.qD ["self"] (BO A):=by
 refine T.Ih.nP IT (λvs H Q E h=> ?_) (λcdv A' outer s H vs Q E hr hx h=> ?_)
 ·obtain⟨_,_,_,_,_,_,rfl,_⟩:=h
  rfl
 ·obtain⟨p,d,q,ws,sp,es,rfl,m,h⟩:=h
  refine⟨_,mL.run (iR (jf (qS MG (by rfl) T.yC PyProof.Rows.Boot.«list» (iN (i8 (iQ 0) rfl) iO)))),?_⟩
  obtain⟨dx,e⟩:=m.ob
  simp only[kU,Bg,iZ,jd,i3,jb,ao,Me,↓jj,L2.start,ak,av,af,ai,ah,ay,aa,and_true,true_and,aq,aF,jU,oq,e,T.lh,T.m7,Ru,m.sq]
  exact h
noncomputable def DE (A:Ad):Sp:=λvs H Q _=>∃p dx,vs=[.ref p]/\H p=some (.ins A.jE dx [])/\∀d,H d=none->Q .kT (upd (upd H d (.lst [])) p (.ins A.jE dx (Nn d)))
theorem LI:i7 ["self"] ["self"] (iX Ar):=fsc
theorem Lh{ca:Bool}(T:Txt K mg A):jA P w K mg base (lG P w) ca 1 A.oV A.se ["self"] (DE A):=by
 refine T.Kv.nP LI (λvs H Q E h=> ?_) (λcdv A' outer s H vs Q E hr hx h=> ?_)
 ·obtain⟨_,_,rfl,_⟩:=h
  rfl
 ·obtain⟨p,dx,rfl,hp,q⟩:=h
  refine⟨_,mL.run (iR (kG (iQ 0) (lu iO) rfl)),?_⟩
  simp only[jd,i3,xU,jb,ao,rW,L2.start,ak,av,af,ai,ah,ay,aa,true_and,aq,aF,Qr]
  intro d hd
  have e:upd H d (.lst []) p=some (.ins A.jE dx []):=by rw[iW (iT hp hd)];exact hp
  simp only[aV,aW,ai,true_and,e,T.m_,T.mw,Wv]
  exact q d hd
noncomputable def xA (A:Ad):Sp:=λvs H Q _=>∃p q os,vs=[.ref p]/\tV A.jE H p q os/\os.length<=1000/\∀l as H',ja H H'->H l=none->H' l=some (.lst as)->sI H' as (Nx 0 os)->Q (.ref l) H'
theorem IY:i7 ["self"] ["self"] (iX vh):=fsc
theorem BA(T:Txt K mg A):jA P w K mg base (lG P w) true 1 A.nL A.qJ ["self"] (xA A):=by
 refine T.Io.nP IY (λvs H Q E h=> ?_) (λcdv A' outer s H vs Q E hr hx h=> ?_)
 ·obtain⟨_,_,_,rfl,_⟩:=h
  rfl
 ·obtain⟨p,q,os,rfl,h⟩:=h
  obtain⟨h,m,hl⟩:=Fj h
  refine⟨_,mL.run (iR (jf (N6 (fsc:=iX vh) (N2:=[]) (js:=[]) ⟨rfl,rfl,by decide+kernel,by decide+kernel,by decide+kernel,by decide+kernel,by decide+kernel,by decide+kernel,by decide+kernel⟩ rfl rfl (by rfl) (JD rfl T.wF (iN (i8 (iQ 0) rfl) iO)) (λ_ _ _ _=>(pe (jc JC (iQ 1) sS (jx _)))) (λ_ _ _ _=>(vK (iN (iQ 0) (iN (iQ 1) iO))))))),?_⟩
  obtain⟨dx,e⟩:=m.ob
  simp only[kU,iZ,jd,i3,jb,ao,uR,↓jj,L2.start,OZ,OD,ak,av,af,ai,ah,ay,aa,and_true,true_and,aq,aF,jU,oq,e,T.m_,T.mw,JU]
  refine⟨⟨_,mj.of m.ls⟩,Kj (λi ys H'=>ja H H'/\sI H' ys (Nx 0 (os.take i))/\ys.length<=i) ⟨ja.refl _,aD,aI _⟩ (λi ys H' hP=>mj.of (hP.1 _ _ m.ls)) (by rw[En];exact aH hl (by decide)) (λi ys H' hP=>hP.2.2) (λi x ys H' hx' hP p1 hp1 K1 hK=> ?_) λys H' hP l hl'=> ?_⟩
  ·obtain⟨s1,hp,hy⟩:=hP
   rw[aS]at hx'
   obtain⟨o,ho,rfl⟩:=Option.map_eq_some_iff.mp hx'
   have tk:os.take (i+1)=os.take i++[o]:=by rw[eU,ho];rfl
   have hi:=(List.getElem?_eq_some_iff.mp ho).1
   have hlt:(os.take i).length=i:=by rw[bH];lia
   cases o with
   |none=>
    simp only[jC,ke,tC,i3,BX,xI,↓reduceIte,gK,aa,ae,aM,↓jD,tv]
    refine hK _ _ ⟨s1.trans (ja.upd hp1),?_,by lia⟩
    rw[tk,xR,ay]
    exact hp.same (ja.upd hp1)
   |some y=>
    simp only[jC,ke,iZ,jd,tC,i3,Jg,BX,xI,ao,↓reduceIte,iE,af,ai,aa,ae,true_and,aq,Wl,↓jD,tv]
    intro p2 hp2
    refine hK _ _ ⟨(s1.trans (ja.upd hp1)).trans (ja.upd hp2),?_,by rw[aY];exact dG hy⟩
    rw[tk,xR,hlt]
    exact sI.snoc (by rw[iS,bS]) (hp.same ((ja.upd hp1).trans (ja.upd hp2)))
  ·rw[En,bF]at hP
   exact h l ys _ (hP.1.trans (ja.upd hl')) (hP.1.free hl') iS (hP.2.1.same (ja.upd hl'))
noncomputable def cat (ns:List Int) (k:Int):Int:=ns.getD k.toNat 0
theorem QG{ns:List Int}{k:Int}(h0:0<=k)(h:k<(ns.map Z_).length):HJ (ns.map Z_) k=some (.int (cat ns k)):=by
 obtain⟨n,rfl⟩:∃n:Nat,k=n:=⟨k.toNat,by lia⟩
 rw[aj]at h
 refine OK ?_
 rw[aS,au (by lia)]
 simp only[cat,bU,bG,az,au (show n<ns.length by lia),dH]
theorem S7{ns:List Int}{k:Int}(h0:0<=k)(h:¬k<(ns.map Z_).length):cat ns k=0:=by
 rw[aj]at h
 unfold cat
 rw[az,bQ (by lia)]
 rfl
noncomputable def lg (K:aA):Sp:=λvs H Q _=>∃a ns k,vs=[.ref a,.int k]/\mj K H a (ns.map Z_)/\0<=k/\Q (.int (cat ns k)) H
theorem Fd:i7 ["_law_script","_law_k"] ["_law_script","_law_k"] (iX vT):=fsc
theorem lb{ca:Bool}(T:Txt K mg A):jA P w K mg base (lG P w) ca 1 A.mR A.oC ["_law_script","_law_k"] (lg K):=by
 refine T.kI.nP Fd (λvs H Q E h=> ?_) (λcdv A' outer s H vs Q E hr hx h=> ?_)
 ·obtain⟨_,_,_,rfl,_⟩:=h
  rfl
 ·obtain⟨a,ns,k,rfl,h⟩:=h
  obtain⟨q,hS,h0⟩:=Fj h
  refine⟨_,mL.run (iP (jo (jc Gx (iQ 1) (jy Rm (by rfl) T.sU PyProof.Rows.Boot.«len» (iN (iQ 0) iO)) (jx _)) (iR (jf (ky Tn (iQ 0) (iQ 1) (λ_ _=>rfl)))) jh)
   (iR (jf iU))),?_⟩
  simp only[kU,kj,jM,kM,jC,ke,Bg,iZ,jd,tC,i3,SA,sJ,SY,OP,jb,ao,L2.start,ak,av,af,ai,ah,ay,aa,ae,decide_eq_true_eq,aq,aF,↓jD]
  refine⟨_,hS,?_⟩
  split<;>rename_i h
  ·refine⟨_,hS,?_⟩
   rw[QG h0 h];exact q
  ·rw[S7 h0 h]at q;exact q
noncomputable def nx (s:Int):Int:=(s*48271+11)%2147483647
noncomputable def my:Sp:=λvs H Q _=>∃s,vs=[.int s]/\Q (.int (nx s)) H
theorem LL:i7 ["_law_seed"] ["_law_seed"] (iX Aw):=fsc
theorem nM{ca:Bool}(T:Txt K mg A):jA P w K mg base (lG P w) ca 1 A.qe A.si ["_law_seed"] my:=by
 refine T.ml.nP LL (λvs H Q E h=> ?_) (λcdv A' outer s H vs Q E hr hx h=> ?_)
 ·obtain⟨_,rfl,_⟩:=h
  rfl
 ·obtain⟨s',rfl,q⟩:=h
  refine⟨_,mL.run (iR (jf (iY kf (iY jv (iY uG (iQ 0) iU) iU) iU))),?_⟩
  simp only[kU,ke,tC,i3,mP,EX,rE,DK,or_true,aV,aW,aT,bD,ao,L2.start,ak,av,af,ai,ah,ay,aa,and_true,true_and,aq,aF]
  exact q
noncomputable def jG:Sp:=λvs H Q _=>∃v a b,vs=[v,.int a,.int b]/\Kn H v/\Q (.bl (wi v a b)) H
theorem LO:i7 ["thing","least","most"] ["thing","least","most"] (iX AB):=fsc
theorem j9{ca:Bool}(T:Txt K mg A):jA P w K mg base (lG P w) ca 2 A.qi A.su ["thing","least","most"] jG:=by
 refine T.jW.nP LO (λvs H Q E h=> ?_) (λcdv A' outer s H vs Q E hr hx h=> ?_)
 ·obtain⟨_,_,_,rfl,_⟩:=h
  rfl
 ·obtain⟨v,a,b,rfl,hk,q⟩:=h
  refine⟨_,mL.run (iR (jf (Gy (iV (uY T).mono hr rfl T.rO T.sx.kp T.vz hx (iN (iQ 0) iO)) (GA (N5 Cd Cd (iQ 1) (iQ 0) (iQ 2)))))),?_⟩
  simp only[kU,Nj,iZ,jd,i3,i9,UW,sJ,OC,ao,L2.start,ak,av,af,ai,ah,ay,aa,ae,ag,and_true,exists_eq_left',decide_eq_true_eq,aq,aF,↓jD,mJ]
  refine⟨hk,?_⟩
  cases v<;>simp only[MD,wi]at q⊢<;>simp only[↓reduceIte,aM]<;>try exact q
  split<;>rename_i h<;>simpa [h] using q
noncomputable def xy (A:Ad):Sp:=λvs H Q E=>∃p dx b e t v,vs=[.ref p,v]/\H p=some (.ins A.je dx (uK b e t))/\Kn H v/\
 if MD v=true/\1<=iv v then(if iv v<=e-t then Q (.int t) (upd H p (.ins A.je dx (uK b e (t+iv v)))) else E (.ref A.rb) none H) else E (.ref A.kb) none H
theorem BF:i7 ["self","many","at"] ["self","many"] (iX yU):=fsc
theorem Bz(T:Txt K mg A):jA P w K mg base (lG P w) true 2 A.nJ A.qH ["self","many"] (xy A):=by
 refine T.Il.nP BF (λvs H Q E h=> ?_) (λcdv A' outer s H vs Q E hr hx h=> ?_)
 ·obtain⟨_,_,_,_,_,_,rfl,_⟩:=h
  rfl
 ·obtain⟨p,dx,b,e,t,v,rfl,h⟩:=h
  obtain⟨q,hp,hk⟩:=Fj h
  refine⟨_,mL.run (iP (jo (mq (uH (kH (jz (iV (uY T).mono hr rfl T.rO T.sx.kp T.vz hx (iN (iQ 1) iO)) (λ_=>rfl))) (sT (jc Gx (iQ 1) iU (jx _))))) (iR (jH hx rfl T.n_ T.oo rfl (iN i5 iO))) jh)
   (iP (jo (jc Cc (iQ 1) (kr (iQ 0) T.kE T.K8 (IG T).mono hr T.J_ hx) (jx _)) (iR (jH hx rfl T.Gk T.HG rfl (iN i5 iO))) jh)
   (iP (ji (i:=2) BF.nd rfl lo (i8 (iQ 0) rfl))
   (iP (kG (iQ 0) (iY jv (iQ 2) (iQ 1)) rfl)
   (iR (jf (iQ 2))))))),?_⟩
  cases hi:MD v with
  |false=>
   refine i4 (λ_ _=>False) (λR _=> ?_) (λ_ _ z=>z.elim)
   simp only[kj,kM,jC,ke,Pt,q9,iZ,jd,tC,i3,i9,kO,SA,sJ,pX,ao,bx,↓reduceIte,aN,L2.start,ak,av,af,ai,ah,aL,bc,aa,ae,ag,and_true,true_and,exists_eq_left',exists_eq_left,decide_eq_true_eq,bz,aq,BR,↓jD,mJ,hi]
   rw[if_neg (by rw[hi];rintro⟨z,_⟩;cases z)]at q
   exact⟨hk,q⟩
  |true=>
   obtain⟨n,rfl⟩:=Fv hi
   have st:start ["self","many","at"] [Z9 p,Z_ n]=[some (Z9 p),some (Z_ n),none]:=rfl
   rw[st]
   by_cases h1:n<1
   ·rw[if_neg (by rintro⟨_,z⟩;have:(1:Int)<=n:=z;lia)]at q
    refine i4 (λ_ _=>False) (λR _=> ?_) (λ_ _ z=>z.elim)
    simp only[kM,jC,ke,Pt,q9,iZ,jd,tC,i3,i9,kO,SA,sJ,pX,ao,↓reduceIte,aN,decide_true,bR,af,ai,aa,ae,ag,and_true,true_and,exists_eq_left',exists_eq_left,aq,BR,↓jD,mJ,Th,Zq,h1]
    exact q
   ·rw[if_pos ⟨hi,(by show(1:Int)<=n;lia)⟩]at q
    refine pV (λσ' H'=>H=H'/\σ'=[some (Z9 p),some (Z_ n),none]) (λR hR=> ?_) ?_
    ·simp only[kj,kM,jC,ke,Pt,q9,iZ,jd,tC,i3,i9,kO,SA,sJ,pX,ao,↓reduceIte,aN,decide_false,bR,af,ai,aa,ae,ag,and_true,true_and,exists_eq_left',exists_eq_left,aM,aq,BR,↓jD,mJ,Th,Zq,h1]
     exact hR _ _ ⟨rfl,rfl⟩
    rintro Gq hGq _ _ ⟨rfl,rfl⟩
    subst hGq
    by_cases h2:e-t<n
    ·rw[if_neg (by show¬(n<=e-t);lia)]at q
     refine i4 (λ_ _=>False) (λR _=> ?_) (λ_ _ z=>z.elim)
     simp only[kj,kM,jC,ke,iZ,jd,tC,i3,kO,OO,sJ,ao,↓jg,af,ai,aa,ae,and_true,true_and,decide_eq_true_eq,aq,BR,↓jD,ql,hp,Nb]
     refine⟨p,dx,b,e,t,rfl,hp,?_⟩
     simp only[↓reduceIte,h2]
     exact q
    ·rw[if_pos (by show n<=e-t;lia)]at q
     refine pV (λσ' H'=>H=H'/\σ'=[some (Z9 p),some (Z_ n),none]) (λR hR=> ?_) ?_
     ·simp only[kj,kM,jC,ke,iZ,jd,tC,i3,kO,OO,sJ,ao,↓jg,af,ai,aa,ae,and_true,true_and,decide_eq_true_eq,aq,BR,↓jD,ql,hp,Nb]
      refine⟨p,dx,b,e,t,rfl,hp,?_⟩
      simp only[↓reduceIte,h2]
      exact hR _ _ ⟨rfl,rfl⟩
     rintro Gq hGq _ _ ⟨rfl,rfl⟩
     subst hGq
     simp only[kU,jM,ke,i3,jX,jq,mP,jb,aV,aW,↓jj,rW,aa,ae,aw,ax,and_true,true_and,jU,oq,hp,T.kE,T.lQ,JL,Pm,Pl]
     exact q
noncomputable def kX (A:Ad):Sp:=λvs H Q E=>∃p d q ws sp es v,vs=[.ref p,v]/\lN A.ju H p d q ws sp es/\Kn H v/\if (pd ws v).isSome=true then Q .kT H else E (.ref A.ow) none H
theorem zq:i7 ["self","ticket"] ["self","ticket"] (iX qo):=fsc
theorem tS(T:Txt K mg A):jA P w K mg base (lG P w) true 2 A.j5 A.lj ["self","ticket"] (kX A):=by
 refine T.zm.nP zq (λvs H Q E h=> ?_) (λcdv A' outer s H vs Q E hr hx h=> ?_)
 ·obtain⟨_,_,_,_,_,_,_,rfl,_⟩:=h
  rfl
 ·obtain⟨p,d,q,ws,sp,es,v,rfl,h⟩:=h
  obtain⟨h,m,hk⟩:=Fj h
  refine⟨_,mL.run (iR (jo (mq (uH (kH (jz (iV (uY T).mono hr rfl T.rO T.sx.kp T.vz hx (iN (iQ 1) iO)) (λ_=>rfl))) (sT (jc (Ce (jw hr)) (iQ 1) (i8 (iQ 0) rfl) (by with_unfolding_all rfl))))) (iR (jH hx rfl T.zV T.A0 rfl (iN i5 iO))) jh)),?_⟩
  obtain⟨dx,e⟩:=m.ob
  cases hi:MD v with
  |false=>
   rw[Oo hi]at h
   simp only[kj,kM,jC,ke,Pt,q9,iZ,jd,tC,i3,i9,kO,jb,pX,ao,↓reduceIte,aN,↓jj,kJ,L2.start,we,ak,av,af,ai,ah,ay,aa,ae,ag,and_true,true_and,exists_eq_left',exists_eq_left,aq,aF,BR,↓jD,jU,oq,mJ,hi]
   exact⟨hk,h⟩
  |true=>
   obtain⟨i,rfl⟩:=Fv hi
   simp only[kj,kM,jC,ke,Pt,q9,iZ,jd,tC,i3,i9,kO,jb,pX,ao,↓reduceIte,aN,bR,↓jj,kJ,L2.start,we,ak,av,af,ai,ah,ay,aa,ae,ag,and_true,true_and,exists_eq_left',exists_eq_left,aq,aF,BR,↓jD,jU,oq,mJ,Th,e,T.lh,T.jQ,Dj,m.dc,m.has]
   refine⟨aD,?_⟩
   cases hp:(pd ws (.int i)).isSome<;>simp[hp]at h⊢<;>exact h
noncomputable def y7:Sp:=λvs H Q _=>∃v,vs=[v]/\Kn H v/\Q (.bl (wi v (-1000000000000) 1000000000000)) H
theorem LN:i7 ["thing"] ["thing"] (iX AA):=fsc
theorem Du{ca:Bool}(T:Txt K mg A):jA P w K mg base (lG P w) ca 3 A.qh A.sr ["thing"] y7:=by
 refine T.yi.nP LN (λvs H Q E h=> ?_) (λcdv A' outer s H vs Q E hr hx h=> ?_)
 ·obtain⟨_,rfl,_⟩:=h
  rfl
 ·obtain⟨v,rfl,hk,q⟩:=h
  refine⟨_,mL.run (iR (jf (iV (j9 T).mono hr rfl T.j7 T.jW.kp T.kD hx (iN (iQ 0) (iN (KY KW (mv T.uM)) (iN (mv T.uM) iO)))))),?_⟩
  simp only[kU,WD,iZ,jd,tC,i3,i9,NL,and_assoc,aT,ao,L2.start,ak,av,af,ai,ah,ay,aa,V.int.injEq,ag,and_true,exists_eq_left',exists_and_left,aq,aF,jG]
  exact⟨hk,q⟩
noncomputable def AR:Sp:=λvs H Q _=>∃v,vs=[v]/\Kn H v/\Q (.bl (wi v 0 9999)) H
theorem M4:i7 ["thing"] ["thing"] (iX Cr):=fsc
theorem EL{ca:Bool}(T:Txt K mg A):jA P w K mg base (lG P w) ca 3 A.rH A.ua ["thing"] AR:=by
 refine T.zR.nP M4 (λvs H Q E h=> ?_) (λcdv A' outer s H vs Q E hr hx h=> ?_)
 ·obtain⟨_,rfl,_⟩:=h
  rfl
 ·obtain⟨v,rfl,hk,q⟩:=h
  refine⟨_,mL.run (iR (jf (iV (j9 T).mono hr rfl T.j7 T.jW.kp T.kD hx (iN (iQ 0) (iN iU (iN (mv T.za) iO)))))),?_⟩
  simp only[kU,iZ,jd,tC,i3,i9,and_assoc,ao,L2.start,ak,av,af,ai,ah,ay,aa,V.int.injEq,ag,and_true,exists_eq_left',exists_and_left,aq,aF,jG]
  exact⟨hk,q⟩
noncomputable def rq (A:Ad):Sp:=λvs H Q E=>∃v,vs=[v]/\Kn H v/\if wi v 0 8=true then Q .kT H else E (.ref A.kb) none H
theorem Jb:i7 ["slots"] ["slots"] (iX y2):=fsc
theorem BC(T:Txt K mg A):jA P w K mg base (lG P w) true 3 A.o_ A.qO ["slots"] (rq A):=by
 refine T.wN.nP Jb (λvs H Q E h=> ?_) (λcdv A' outer s H vs Q E hr hx h=> ?_)
 ·obtain⟨_,rfl,_⟩:=h
  rfl
 ·obtain⟨v,rfl,hk,q⟩:=h
  refine⟨_,mL.run (iR (jo (kH (jz (iV (j9 T).mono hr rfl T.j7 T.jW.kp T.kD hx (iN (iQ 0) (iN iU (iN (mv T.vn) iO)))) (λ_=>rfl))) (iR (jH hx rfl T.n_ T.oo rfl (iN i5 iO))) jh)),?_⟩
  simp only[kj,kM,q9,iZ,jd,tC,i3,i9,kO,pX,and_assoc,ao,aN,L2.start,ak,av,af,ai,ah,ay,aa,V.int.injEq,ag,and_true,true_and,exists_eq_left',exists_and_left,exists_eq_left,aq,aF,BR,jG]
  refine⟨hk,?_⟩
  cases hw:wi v 0 8<;>simp[hw]at q⊢<;>exact q
noncomputable def Hq:Sp:=λvs H Q _=>∃n,vs=[.int n]/\Q (.bl (decide (0<=n/\n<=34/\n%4<=2))) H
theorem Oz:i7 ["number"] ["number"] (iX Ee):=fsc
theorem Oh{ca:Bool}(T:Txt K mg A):jA P w K mg base (lG P w) ca 3 A.ug A.vq ["number"] Hq:=by
 refine T.Gf.nP Oz (λvs H Q E h=> ?_) (λcdv A' outer s H vs Q E hr hx h=> ?_)
 ·obtain⟨_,rfl,_⟩:=h
  rfl
 ·obtain⟨n,rfl,q⟩:=h
  refine⟨_,mL.run (iR (jf (Gy (iV (j9 T).mono hr rfl T.j7 T.jW.kp T.kD hx (iN (iY j3 (iQ 0) iU) (iN iU (iN (mv T.vn) iO)))) (GA (D2 Cd (iY kf (iQ 0) iU) (mv T.uv) (jx _)))))),?_⟩
  simp only[kU,ke,Nj,iZ,jd,tC,i3,i9,m8,rE,UW,sJ,and_assoc,tU,aV,aW,ao,L2.start,ak,av,af,ai,ah,ay,aa,V.int.injEq,ag,and_true,true_and,exists_eq_left',exists_and_left,aq,aF,↓jD,jG,Kn]
  by_cases c:wi (.int (n/4)) 0 8=true
  ·have c':=c
   simp only[wi,aQ,decide_eq_true_eq]at c'
   by_cases d:n%4<=2
   ·rw[decide_eq_true (by lia)]at q
    simp[c,d];exact q
   ·rw[decide_eq_false (by lia)]at q
    simp[c,d];exact q
  ·have c':=c
   simp only[wi,aQ,decide_eq_true_eq]at c'
   rw[decide_eq_false (by lia)]at q
   simp[c];exact q
noncomputable def FD (A:Ad):Sp:=λvs H Q _=>∃p q ws v k,vs=[.ref p,v,.int k]/\kz A.i_ H p q ws/\Kn H v/\Q (.bl (wi v 0 (ws.length-1-k))) H
theorem T_:i7 ["memory","at","slots"] ["memory","at","slots"] (iX Ow):=fsc
theorem Pb{ca:Bool}(T:Txt K mg A):jA P w K mg base (lG P w) ca 3 A.B5 A.DT ["memory","at","slots"] (FD A):=by
 refine T.Ky.nP T_ (λvs H Q E h=> ?_) (λcdv A' outer s H vs Q E hr hx h=> ?_)
 ·obtain⟨_,_,_,_,_,rfl,_⟩:=h
  rfl
 ·obtain⟨p,q,ws,v,k,rfl,h⟩:=h
  obtain⟨h,m,hk⟩:=Fj h
  refine⟨_,mL.run (iR (jf (iV (j9 T).mono hr rfl T.j7 T.jW.kp T.kD hx (iN (iQ 1) (iN iU (iN (iY qR (iY qR (i8 (iQ 0) rfl) iU) (iQ 2)) iO)))))),?_⟩
  obtain⟨dx,e⟩:=m.ob
  simp only[kU,ke,iZ,jd,tC,i3,i9,B0,jb,and_assoc,ao,↓jj,L2.start,ak,av,af,ai,ah,ay,aa,ae,V.int.injEq,ag,and_true,true_and,exists_eq_left',exists_and_left,aq,aF,jU,oq,jG,e,T.jZ,T.oM,GL]
  exact⟨hk,h⟩
noncomputable def AN (A:Ad):Sp:=λvs H Q E=>∃p dx v,vs=[.ref p,v]/\H p=some (.ins A.i_ dx [])/\Kn H v/\
 if wi v 1 4000=true then(∀q H',H q=none->kz A.i_ H' p q (ah (iv v).toNat (-1))->(∀b o,H b=some o->b≠p->H' b=some o)->Q .kT H') else E (.ref A.kb) none H
theorem He:i7 ["self","size"] ["self","size"] (iX xc):=fsc
theorem GX(T:Txt K mg A):jA P w K mg base (lG P w) true 3 A.mD A.pE ["self","size"] (AN A):=by
 refine T.Ga.nP He (λvs H Q E h=> ?_) (λcdv A' outer s H vs Q E hr hx h=> ?_)
 ·obtain⟨_,_,_,rfl,_⟩:=h
  rfl
 ·obtain⟨p,dx,v,rfl,h⟩:=h
  obtain⟨h,e,hk⟩:=Fj h
  refine⟨_,mL.run (iP (jo (kH (jz (iV (j9 T).mono hr rfl T.j7 T.jW.kp T.kD hx (iN (iQ 1) (iN iU (iN (mv T.zb) iO)))) (λ_=>rfl))) (iR (jH hx rfl T.n_ T.oo rfl (iN i5 iO))) jh)
   (iP (kG (iQ 0) (iQ 1) rfl)
   (iR (kG (iQ 0) (iY O5 (lu (iN (mv T.vx) iO)) (iQ 1)) rfl)))),?_⟩
  simp only[kj,jM,kM,ke,q9,iZ,jd,tC,i3,xU,i9,kO,jb,pX,and_assoc,aV,aW,aT,bD,ao,aN,rW,QK,L2.start,ak,av,af,ai,ah,ay,aa,ae,V.int.injEq,ag,and_true,true_and,exists_eq_left',exists_and_left,exists_eq_left,aq,aF,BR,jG,e,T.jZ,T.oM]
  refine⟨hk,?_⟩
  cases hw:wi v 1 4000
  ·simp[hw]at h⊢;exact h
  ·obtain⟨n,rfl,h0,h1⟩:=l8 hw
   simp only[hw,if_true]at h⊢
   rw[if_neg (λz=>by cases z)]
   intro l hl
   obtain⟨nl,hl0⟩:=lZ hl
   simp only[iS]
   refine⟨by lia,by lia,aH (show [Z_ (-1)].length*n.toNat<=4000 by simp;lia) (by decide),λl2 hl2=> ?_⟩
   obtain⟨nl2,hl2'⟩:=lZ hl2
   obtain⟨nl2p,hl20⟩:=lZ hl2'
   rw[iW (aC nl2p),iW (aC nl),iS]
   refine⟨T.jZ,T.mh,by simp[ly],?_⟩
   refine h l2 _ hl20 ⟨⟨dx,?_⟩,?_⟩ λb o eb nb=> ?_
   ·rw[iS,Vu,bw,show((iv (Z_ n)).toNat:Int)=n from cP (by show 0<=n;lia)]
   ·rw[iW nl2p,iS,Q5,List.map_replicate];rfl
   ·rw[iW nb,iW (iT eb hl20),iW (iT eb hl0),iW nb];exact eb
noncomputable def qt (A:Ad):Sp:=λvs H Q E=>∃p q ws v,vs=[.ref p,v]/\kz A.i_ H p q ws/\Kn H v/\if wi v 0 (ws.length-1)=true then Q .kT H else E (.ref A.jI) none H
theorem AD:i7 ["self","at"] ["self","at"] (iX q8):=fsc
theorem uX(T:Txt K mg A):jA P w K mg base (lG P w) true 3 A.j_ A.lF ["self","at"] (qt A):=by
 refine T.zK.nP AD (λvs H Q E h=> ?_) (λcdv A' outer s H vs Q E hr hx h=> ?_)
 ·obtain⟨_,_,_,_,rfl,_⟩:=h
  rfl
 ·obtain⟨p,q,ws,v,rfl,h⟩:=h
  obtain⟨h,m,hk⟩:=Fj h
  refine⟨_,mL.run (iR (jo (kH (jz (iV (j9 T).mono hr rfl T.j7 T.jW.kp T.kD hx (iN (iQ 1) (iN iU (iN (iY qR (i8 (iQ 0) rfl) iU) iO)))) (λ_=>rfl))) (iR (jH hx rfl T.vw T.vy rfl (iN i5 iO))) jh)),?_⟩
  obtain⟨dx,e⟩:=m.ob
  simp only[kj,kM,ke,q9,iZ,jd,tC,i3,i9,kO,B0,jb,pX,and_assoc,ao,aN,↓jj,L2.start,ak,av,af,ai,ah,ay,aa,ae,V.int.injEq,ag,and_true,true_and,exists_eq_left',exists_and_left,exists_eq_left,aq,aF,BR,jU,oq,jG,e,T.jZ,T.oM,GL]
  refine⟨hk,?_⟩
  cases hw:wi v 0 (ws.length-1)<;>simp[hw]at h⊢<;>exact h
noncomputable def tF (A:Ad):Sp:=λvs H Q E=>∃p q ws v m,vs=[.ref p,v,.int m]/\kz A.i_ H p q ws/\Kn H v/\if wi v 0 (ws.length-m)=true then Q .kT H else E (.ref A.jI) none H
theorem y3:i7 ["self","begin","many"] ["self","begin","many"] (iX pU):=fsc
theorem sW(T:Txt K mg A):jA P w K mg base (lG P w) true 3 A.jV A.kW ["self","begin","many"] (tF A):=by
 refine T.yg.nP y3 (λvs H Q E h=> ?_) (λcdv A' outer s H vs Q E hr hx h=> ?_)
 ·obtain⟨_,_,_,_,_,rfl,_⟩:=h
  rfl
 ·obtain⟨p,q,ws,v,mm,rfl,h⟩:=h
  obtain⟨h,m,hk⟩:=Fj h
  refine⟨_,mL.run (iR (jo (kH (jz (iV (j9 T).mono hr rfl T.j7 T.jW.kp T.kD hx (iN (iQ 1) (iN iU (iN (iY qR (i8 (iQ 0) rfl) (iQ 2)) iO)))) (λ_=>rfl))) (iR (jH hx rfl T.vw T.vy rfl (iN i5 iO))) jh)),?_⟩
  obtain⟨dx,e⟩:=m.ob
  simp only[kj,kM,ke,q9,iZ,jd,tC,i3,i9,kO,B0,jb,pX,and_assoc,ao,aN,↓jj,L2.start,ak,av,af,ai,ah,ay,aa,ae,V.int.injEq,ag,and_true,true_and,exists_eq_left',exists_and_left,exists_eq_left,aq,aF,BR,jU,oq,jG,e,T.jZ,T.oM,GL]
  refine⟨hk,?_⟩
  cases hw:wi v 0 (ws.length-mm)<;>simp[hw]at h⊢<;>exact h
noncomputable def DD (A:Ad):Sp:=λvs H Q _=>∃p dx b e t v,vs=[.ref p,v]/\H p=some (.ins A.je dx (uK b e t))/\Kn H v/\Q (.bl (wi v b (t-1))) H
theorem LG:i7 ["self","at"] ["self","at"] (iX Ap):=fsc
theorem Dr{ca:Bool}(T:Txt K mg A):jA P w K mg base (lG P w) ca 3 A.oS A.r9 ["self","at"] (DD A):=by
 refine T.Kt.nP LG (λvs H Q E h=> ?_) (λcdv A' outer s H vs Q E hr hx h=> ?_)
 ·obtain⟨_,_,_,_,_,_,rfl,_⟩:=h
  rfl
 ·obtain⟨p,dx,b,e,t,v,rfl,h⟩:=h
  obtain⟨q,hp,hk⟩:=Fj h
  refine⟨_,mL.run (iR (jf (iV (j9 T).mono hr rfl T.j7 T.jW.kp T.kD hx (iN (iQ 1) (iN (i8 (iQ 0) rfl) (iN (iY qR (i8 (iQ 0) rfl) iU) iO)))))),?_⟩
  simp only[kU,ke,iZ,jd,tC,i3,i9,B0,jb,and_assoc,ao,↓jj,L2.start,ak,av,af,ai,ah,ay,aa,ae,V.int.injEq,ag,and_true,true_and,exists_eq_left',exists_and_left,aq,aF,jU,oq,jG,hp,T.kE,T.lY,T.lQ,Na,JL]
  exact⟨hk,q⟩
noncomputable def BK (A:Ad):Sp:=λvs H Q E=>∃p dx v,vs=[.ref p,v]/\H p=some (.ins A.j8 dx [])/\Kn H v/\
 if wi v 1 6=true then(∀q H',H q=none->xY A.j8 H' p q (ah (iv v).toNat (-1))->(∀b o,H b=some o->b≠p->H' b=some o)->Q .kT H') else E (.ref A.kb) none H
theorem IP:i7 ["self","many"] ["self","many"] (iX yM):=fsc
theorem IA(T:Txt K mg A):jA P w K mg base (lG P w) true 3 A.nA A.qz ["self","many"] (BK A):=by
 refine T.Ib.nP IP (λvs H Q E h=> ?_) (λcdv A' outer s H vs Q E hr hx h=> ?_)
 ·obtain⟨_,_,_,rfl,_⟩:=h
  rfl
 ·obtain⟨p,dx,v,rfl,h⟩:=h
  obtain⟨h,e,hk⟩:=Fj h
  refine⟨_,mL.run (iP (jo (kH (jz (iV (j9 T).mono hr rfl T.j7 T.jW.kp T.kD hx (iN (iQ 1) (iN iU (iN (mv T.y_) iO)))) (λ_=>rfl))) (iR (jH hx rfl T.n_ T.oo rfl (iN i5 iO))) jh)
   (iR (kG (iQ 0) (iY O5 (lu (iN (mv T.vx) iO)) (iQ 1)) rfl))),?_⟩
  simp only[kj,jM,kM,ke,q9,iZ,jd,tC,i3,xU,i9,kO,jb,pX,and_assoc,aT,bD,ao,aN,rW,QK,L2.start,ak,av,af,ai,ah,ay,aa,ae,V.int.injEq,ag,and_true,true_and,exists_eq_left',exists_and_left,exists_eq_left,aq,aF,BR,jG]
  refine⟨hk,?_⟩
  cases hw:wi v 1 6
  ·simp[hw]at h⊢;exact h
  ·obtain⟨n,rfl,h0,h1⟩:=l8 hw
   simp only[hw,if_true]at h⊢
   rw[if_neg (λz=>by cases z)]
   intro l hl
   rw[iS]
   dsimp only
   refine⟨by lia,by lia,aH (show [Z_ (-1)].length*n.toNat<=6 by show 1*n.toNat<=6;lia) (by decide),λp1 hp1=> ?_⟩
   obtain⟨n1,hq⟩:=lZ hp1
   have npl:=iT e hl
   have np1:=iT e hq
   rw[iW np1,iW npl,e]
   dsimp only
   refine⟨T.qa,T.oK,by decide,h p1 _ hq ⟨⟨dx,iS⟩,?_⟩ λb o eb nb=> ?_⟩
   ·rw[iW (aC np1),iS]
    have z:∀j:Nat,(ah j [Z_ (-1)]).flatten=(ah j (-1)).map Z_:=λj=>by
     induction j with
     |zero=>rfl
     |succ j ih=>rw[cf,cf,dA,ih];rfl
    rw[z];rfl
   ·rw[iW nb,iW (iT eb hq),iW (iT eb hl)];exact eb
noncomputable def vZ (A:Ad):Sp:=λvs H Q E=>∃p q ws v,vs=[.ref p,v]/\xY A.j8 H p q ws/\Kn H v/\if wi v 0 (ws.length-1)=true then Q .kT H else E (.ref A.uQ) none H
theorem Cz:i7 ["self","hand"] ["self","hand"] (iX sZ):=fsc
theorem Cn(T:Txt K mg A):jA P w K mg base (lG P w) true 3 A.kQ A.me ["self","hand"] (vZ A):=by
 refine T.B8.nP Cz (λvs H Q E h=> ?_) (λcdv A' outer s H vs Q E hr hx h=> ?_)
 ·obtain⟨_,_,_,_,rfl,_⟩:=h
  rfl
 ·obtain⟨p,q,ws,v,rfl,h⟩:=h
  obtain⟨h,m,hk⟩:=Fj h
  refine⟨_,mL.run (iR (jo (kH (jz (iV (j9 T).mono hr rfl T.j7 T.jW.kp T.kD hx (iN (iQ 1) (iN iU (iN (iY qR (jy qQ (by rfl) T.sU PyProof.Rows.Boot.«len» (iN (i8 (iQ 0) rfl) iO)) iU) iO)))) (λ_=>rfl))) (iR (jH hx rfl T.Gj T.HF rfl (iN i5 iO))) jh)),?_⟩
  obtain⟨dx,e⟩:=m.ob
  simp only[kj,kM,ke,q9,Bg,iZ,jd,tC,i3,i9,kO,B0,zF,jb,pX,and_assoc,ao,aN,↓jj,L2.start,ak,av,af,ai,ah,ay,aa,ae,V.int.injEq,ag,and_true,true_and,exists_eq_left',exists_and_left,exists_eq_left,aq,aF,BR,jU,oq,jG,e,T.qa,T.oK,Rg,m.ls,aj]
  refine⟨hk,?_⟩
  cases hw:wi v 0 (ws.length-1)<;>simp[hw]at h⊢<;>exact h
noncomputable def DC (A:Ad):Sp:=λvs H Q E=>∃p d q ws sp es t,vs=[.ref p,t]/\lN A.ju H p d q ws sp es/\Kn H t/\ws.length<64/\match pd ws t with
 |none=>E (.ref A.ow) none H
 |some y=>∀H' es',lN A.ju H' p d q (ws.set (iv t).toNat none) (sp++[y.2]) es'->Out d q H H'->Q .kT H'
theorem LF:i7 ["self","ticket"] ["self","ticket"] (iX Ao):=fsc
theorem Lg(T:Txt K mg A):jA P w K mg base (lG P w) true 3 A.oR A.r6 ["self","ticket"] (DC A):=by
 refine T.Ks.nP LF (λvs H Q E h=> ?_) (λcdv A' outer s H vs Q E hr hx h=> ?_)
 ·obtain⟨_,_,_,_,_,_,_,rfl,_⟩:=h
  rfl
 ·obtain⟨p,d,q,ws,sp,es,t,rfl,h⟩:=h
  obtain⟨h,m,ht,hl⟩:=Qx h
  refine⟨_,mL.run (iP (i6 (jr (iQ 0) T.lh T.uU (tS T).mono hr T.uO hx (iN (iQ 1) iO)))
   (iP (i6 (Cb cu cx rP (i8 (iQ 0) rfl) (iN (ky lP (jk (by exact jw hr) (i8 (iQ 0) rfl) (iQ 1) (λ_ _=>rfl)) iU (λ_ _=>rfl)) iO)))
   (iR (i6 (ME (i8 (iQ 0) rfl) (iQ 1) ⟨rfl,rfl,rfl,rfl⟩))))),?_⟩
  obtain⟨dx,e⟩:=m.ob
  have ll:=m.ln
  cases hp:pd ws t with
  |none=>
   rw[hp]at h
   simp only[jB,jM,ke,iZ,jd,tC,i3,DO,jb,and_assoc,ao,↓jj,↓jg,sL,Qq,kL,kJ,L2.start,Jn,ak,av,af,ai,ah,ay,aa,ae,V.ref.injEq,ag,and_true,true_and,exists_eq_left',exists_and_left,aq,aF,jU,oq,ql,e,z9,kX]
   refine⟨d,q,ws,sp,es,m,ht,?_⟩
   rw[hp]
   exact h
  |some y=>
   rw[hp]at h
   dsimp only at h
   have it:MD t=true:=by cases z:MD t with
    |true=>rfl
    |false=>rw[Oo z]at hp;cases hp
   obtain⟨i,rfl⟩:=Fv it
   obtain⟨r,hr,r1,r2,r3,r4⟩:=m.find hp
   have tr:=m.tp r hr
   simp only[jB,jM,ke,iZ,jd,tC,i3,DO,jb,and_assoc,ao,↓jj,↓jg,sL,Qq,kL,kJ,zc,L2.start,Jn,ak,av,af,ai,ah,ay,aa,ae,V.ref.injEq,ag,and_true,true_and,exists_eq_left',exists_and_left,aq,aF,jU,oq,ql,e,z9,kX,T.lh,T.jQ,T.m7,Dj,Ru,m.dc,m.sq,r4,tr]
   refine⟨d,q,ws,sp,es,m,ht,?_⟩
   rw[hp,if_pos (show(some y).isSome=true from rfl)]
   have e1:upd H q (.lst (sp.map Z_++[.int r.n])) p=some (.ins A.ju dx (Nv d q)):=by rw[iW m.pq];exact e
   have d1:upd H q (.lst (sp.map Z_++[.int r.n])) d=some (.dK (BS es)):=by rw[iW m.dq];exact m.dc
   refine⟨by rw[aj];exact aK (show sp.length<64 by lia) (by decide),?_⟩
   simp only[and_true,true_and,e1,T.lh,T.jQ,Dj,d1,r4,Ss]
   rw[r3]
   exact h _ _ (m.say hp).1 (m.say hp).2
noncomputable def CA (A:Ad):Sp:=λvs H Q E=>∃p q os v,vs=[.ref p,v]/\tV A.jE H p q os/\Kn H v/\if wi v 0 (os.length-1)=true then Q (tv (os.getD (iv v).toNat none)) H else E (.ref A.ow) none H
theorem Oy:i7 ["self","name"] ["self","name"] (iX Ed):=fsc
theorem GZ(T:Txt K mg A):jA P w K mg base (lG P w) true 3 A.sv A.vp ["self","name"] (CA A):=by
 refine T.NS.nP Oy (λvs H Q E h=> ?_) (λcdv A' outer s H vs Q E hr hx h=> ?_)
 ·obtain⟨_,_,_,_,rfl,_⟩:=h
  rfl
 ·obtain⟨p,q,os,v,rfl,h⟩:=h
  obtain⟨h,m,hk⟩:=Fj h
  refine⟨_,mL.run (iP (jo (kH (jz (iV (j9 T).mono hr rfl T.j7 T.jW.kp T.kD hx (iN (iQ 1) (iN iU (iN (iY qR (jy qQ (by rfl) T.sU PyProof.Rows.Boot.«len» (iN (i8 (iQ 0) rfl) iO)) iU) iO)))) (λ_=>rfl))) (iR (jH hx rfl T.zV T.A0 rfl (iN i5 iO))) jh)
   (iR (jf (ky lP (i8 (iQ 0) rfl) (iQ 1) (λ_ _=>rfl))))),?_⟩
  obtain⟨dx,e⟩:=m.ob
  cases hw:wi v 0 (os.length-1) with
  |false=>
   rw[hw]at h
   simp only[kU,kj,jM,kM,ke,q9,Bg,iZ,jd,tC,i3,i9,kO,B0,DO,zF,jb,pX,and_assoc,ao,↓reduceIte,aN,↓jj,L2.start,ak,av,af,ai,ah,ay,aa,ae,V.int.injEq,ag,and_true,true_and,exists_eq_left',exists_and_left,exists_eq_left,aq,aF,BR,jU,oq,jG,e,T.m_,T.mw,JU,m.ls,En,hw]
   exact⟨hk,h⟩
  |true=>
   obtain⟨i,rfl,h0,h1⟩:=l8 hw
   rw[if_pos hw]at h
   simp only[kU,kj,jM,kM,ke,q9,Bg,iZ,jd,tC,i3,i9,kO,B0,DO,zF,jb,pX,and_assoc,ao,↓reduceIte,aN,bR,↓jj,L2.start,ak,av,af,ai,ah,ay,aa,ae,V.int.injEq,ag,and_true,true_and,exists_eq_left',exists_and_left,exists_eq_left,aq,aF,BR,jU,oq,jG,e,T.m_,T.mw,JU,m.ls,En,hw,X4 h0 h1]
   exact⟨aD,h⟩
noncomputable def tH (A:Ad):Sp:=λvs H Q E=>∃v,vs=[v]/\Kn H v/\if wi v (-1000000000000) 1000000000000=true then Q .kT H else E (.ref A.m9) none H
theorem Hj:i7 ["thing"] ["thing"] (iX xt):=fsc
theorem Ah(T:Txt K mg A):jA P w K mg base (lG P w) true 4 A.nZ A.pP ["thing"] (tH A):=by
 refine T.vC.nP Hj (λvs H Q E h=> ?_) (λcdv A' outer s H vs Q E hr hx h=> ?_)
 ·obtain⟨_,rfl,_⟩:=h
  rfl
 ·obtain⟨v,rfl,hk,q⟩:=h
  refine⟨_,mL.run (iR (jo (kH (jz (iV (Du T).mono hr rfl T.wz T.yi.kp T.Ew hx (iN (iQ 0) iO)) (λ_=>rfl))) (iR (jH hx rfl T.zU T.AZ rfl (iN i5 iO))) jh)),?_⟩
  simp only[kj,kM,q9,iZ,jd,tC,i3,i9,kO,pX,aT,ao,aN,L2.start,ak,av,af,ai,ah,ay,aa,ag,and_true,true_and,exists_eq_left',exists_eq_left,aq,aF,BR,y7]
  refine⟨hk,?_⟩
  cases hw:wi v (-1000000000000) 1000000000000<;>simp[hw]at q⊢<;>exact q
noncomputable def jS (A:Ad):Sp:=λvs H Q E=>∃v,vs=[v]/\Kn H v/\if wi v 0 9999=true then Q .kT H else E (.ref A.jI) none H
theorem Ja:i7 ["thing"] ["thing"] (iX yZ):=fsc
theorem og(T:Txt K mg A):jA P w K mg base (lG P w) true 4 A.o9 A.qN ["thing"] (jS A):=by
 refine T.mH.nP Ja (λvs H Q E h=> ?_) (λcdv A' outer s H vs Q E hr hx h=> ?_)
 ·obtain⟨_,rfl,_⟩:=h
  rfl
 ·obtain⟨v,rfl,hk,q⟩:=h
  refine⟨_,mL.run (iR (jo (kH (jz (iV (EL T).mono hr rfl T.yl T.zR.kp T.FQ hx (iN (iQ 0) iO)) (λ_=>rfl))) (iR (jH hx rfl T.vw T.vy rfl (iN i5 iO))) jh)),?_⟩
  simp only[kj,kM,q9,iZ,jd,tC,i3,i9,kO,pX,ao,aN,L2.start,ak,av,af,ai,ah,ay,aa,ag,and_true,true_and,exists_eq_left',exists_eq_left,aq,aF,BR,AR]
  refine⟨hk,?_⟩
  cases hw:wi v 0 9999<;>simp[hw]at q⊢<;>exact q
noncomputable def vm (A:Ad):Sp:=λvs H Q E=>∃v,vs=[v]/\Kn H v/\match kd v with
 |some x=>Q (.str x) H
 |none=>E (.ref A.pA) none H
theorem Ua:i7 ["word"] ["word"] (iX Ox):=fsc
theorem yG(T:Txt K mg A):jA P w K mg base (lG P w) true 4 A.B6 A.DU ["word"] (vm A):=by
 refine T.wm.nP Ua (λvs H Q E h=> ?_) (λcdv A' outer s H vs Q E hr hx h=> ?_)
 ·obtain⟨_,rfl,_⟩:=h
  rfl
 ·obtain⟨v,rfl,hk,q⟩:=h
  refine⟨_,mL.run (iP (jo (kH (jz (iV (uY T).mono hr rfl T.rO T.sx.kp T.vz hx (iN (iQ 0) iO)) (λ_=>rfl))) (iR (jH hx rfl T.A9 T.Bj rfl (iN i5 iO))) jh)
   (iP (jo (jc rQ (iQ 0) (mv T.vx) (jx _)) (iR (jf i5)) jh)
   (iP (jo (mq (pv (jc rQ (iY kf (iQ 0) iU) iU (jx _)) (pS (jz (iV (Du T).mono hr rfl T.wz T.yi.kp T.Ew hx (iN (iY j3 (iQ 0) iU) iO)) (λ_=>rfl))))) (iR (jf i5)) jh)
   (iP (jo (mq (pv (jc rQ (iY kf (iQ 0) iU) iU (jx _)) (pS (jz (iV (EL T).mono hr rfl T.yl T.zR.kp T.FQ hx (iN (iY j3 (iQ 0) iU) iO)) (λ_=>rfl))))) (iR (jf i5)) jh)
   (iR (jH hx rfl T.A9 T.Bj rfl (iN i5 iO))))))),?_⟩
  simp only[kU,kj,jM,kM,jC,ke,zu,q9,iZ,jd,tC,i3,i9,kO,m8,rE,Md,eqv,pX,and_assoc,tU,aT,ao,↓reduceIte,aN,L2.start,ak,av,af,ai,ah,ay,aa,ag,and_true,true_and,exists_eq_left',exists_eq_left,aM,decide_eq_true_eq,aq,aF,BR,↓jD,mJ,y7,AR]
  refine⟨hk,?_⟩
  cases v<;>simp only[kd,MD]at q⊢<;>simp only[aV,aW,aT,↓reduceIte,bR,true_and,decide_eq_true_eq,Kn]at q⊢<;>try exact q
  rename_i w
  by_cases h1:w= -1
  ·simp[h1]at q⊢;exact q
  ·by_cases h2:w%2=0
   ·by_cases h3:wi (.int (w/2)) (-1000000000000) 1000000000000=true
    ·simp[h1,h2,h3]at q⊢;exact q
    ·simp[h1,h2,h3]at q⊢;exact q
   ·by_cases h4:w%2=1
    ·by_cases h5:wi (.int (w/2)) 0 9999=true
     ·simp[h1,h2,h4,h5]at q⊢;exact q
     ·simp[h1,h2,h4,h5]at q⊢;exact q
    ·lia
noncomputable def tE (A:Ad):Sp:=λvs H Q E=>∃p q ws v,vs=[.ref p,v]/\kz A.i_ H p q ws/\Kn H v/\if wi v 0 (ws.length-1)=true then Q (.int (ws.getD (iv v).toNat 0)) H else E (.ref A.jI) none H
theorem Hf:i7 ["self","at"] ["self","at"] (iX xf):=fsc
theorem sV(T:Txt K mg A):jA P w K mg base (lG P w) true 4 A.mE A.pF ["self","at"] (tE A):=by
 refine T.Gb.nP Hf (λvs H Q E h=> ?_) (λcdv A' outer s H vs Q E hr hx h=> ?_)
 ·obtain⟨_,_,_,_,rfl,_⟩:=h
  rfl
 ·obtain⟨p,q,ws,v,rfl,h⟩:=h
  obtain⟨h,m,hk⟩:=Fj h
  refine⟨_,mL.run (iP (i6 (jr (iQ 0) T.jZ T.u6 (uX T).mono hr T.u5 hx (iN (iQ 1) iO)))
   (iR (jf (ky lP (i8 (iQ 0) rfl) (iQ 1) (λ_ _=>rfl))))),?_⟩
  obtain⟨dx,e⟩:=m.ob
  simp only[kU,jB,jM,ke,iZ,jd,i3,DO,jb,and_assoc,ao,↓jj,↓jg,L2.start,ak,av,af,ai,ah,ay,aa,ae,V.ref.injEq,ag,and_true,true_and,exists_eq_left',exists_and_left,aq,aF,jU,oq,ql,qt,e,T.jZ,T.mh,Bd,Rz]
  refine⟨q,ws,m,hk,?_⟩
  cases hw:wi v 0 (ws.length-1)
  ·simp[hw]at h⊢;exact h
  ·obtain⟨i,rfl,h0,h1⟩:=l8 hw
   simp only[hw,if_true,m.ls,A2 h0 h1,iv]at h⊢
   exact h
noncomputable def AM (A:Ad):Sp:=λvs H Q E=>∃p q ws a g m,vs=[.ref p,a,g,m]/\kz A.i_ H p q ws/\Kn H a/\Kn H g/\Kn H m/\ws.length<=4000/\
 if MD m=true/\0<=iv m then(if Yf a ws.length (iv m)=true/\Yf g ws.length (iv m)=true then
   (∀H',kz A.i_ H' p q (cp ws ((ws.drop (iv a).toNat).take (iv m).toNat) (iv g).toNat (iv m).toNat)->(∀b o,H b=some o->b≠q->H' b=some o)->Q .kT H')
  else E (.ref A.jI) none H) else E (.ref A.kb) none H
theorem vV:i7 ["self","start","goal","many","stretch","step"] ["self","start","goal","many"] (iX xb):=fsc
theorem GW(T:Txt K mg A):jA P w K mg base (lG P w) true 4 A.mC A.pC ["self","start","goal","many"] (AM A):=by
 refine T.F_.nP vV (λvs H Q E h=> ?_) (λcdv A' outer s H vs Q E hr hx h=> ?_)
 ·obtain⟨_,_,_,_,_,_,rfl,_⟩:=h
  rfl
 ·obtain⟨p,q,ws,a,g,m,rfl,h⟩:=h
  obtain⟨h,mm,ka,kg,km,hl⟩:=Zn h
  refine⟨_,mL.run (iP (jo (mq (uH (kH (jz (iV (uY T).mono hr rfl T.rO T.sx.kp T.vz hx (iN (iQ 3) iO)) (λ_=>rfl))) (sT (jc Gx (iQ 3) iU (jx _))))) (iR (jH hx rfl T.n_ T.oo rfl (iN i5 iO))) jh)
   (iP (i6 (jr (iQ 0) T.jZ T.tR (sW T).mono hr T.tO hx (iN (iQ 1) (iN (iQ 3) iO))))
   (iP (i6 (jr (iQ 0) T.jZ T.tR (sW T).mono hr T.tO hx (iN (iQ 2) (iN (iQ 3) iO))))
   (iP (ji (i:=4) vV.nd rfl lo (GB Vk (i8 (iQ 0) rfl) (Dg (iQ 1)) (Dg (iY jv (iQ 1) (iQ 3)))))
   (iR (k7 hx.own rfl (oY rfl T.rB (iN (iQ 3) iO)) (jO (i:=5) vV.nd rfl lo)
    (iR (uT (ky lP (iQ 4) (iQ 5) (λ_ _=>rfl)) (uS (i8 (iQ 0) rfl) (iY jv (iQ 2) (iQ 5)) wA))))))))),?_⟩
  obtain⟨dx,e⟩:=mm.ob
  cases hm:MD m with
  |false=>
   simp only[kj,jB,jM,kM,jC,ke,Pt,q9,iZ,jd,tC,i3,jX,jq,i9,kO,mP,SA,sJ,jb,pX,aT,bD,ao,bx,↓reduceIte,aN,lT,zY,↓jj,↓jg,WV,Mf,X2,L2.start,ak,av,af,ai,ah,aL,bc,aa,ae,aw,ax,ag,and_true,true_and,exists_eq_left',exists_eq_left,and_false,decide_eq_true_eq,bz,aq,BR,↓jD,jU,oq,ql,mJ,hm]
   rw[if_neg (by rw[hm];intro z;cases z.1)]at h
   exact⟨km,h⟩
  |true=>
   obtain⟨k,rfl⟩:∃i,m= .int i:=by cases m<;>first|exact⟨_,rfl⟩|cases hm
   simp only[kj,jB,jM,kM,jC,ke,Pt,q9,iZ,jd,tC,i3,jX,jq,i9,kO,mP,SA,sJ,jb,pX,and_assoc,aT,bD,ao,bx,↓reduceIte,aN,bR,lT,zY,↓jj,↓jg,WV,Mf,X2,L2.start,ak,av,af,ai,ah,aL,bc,aa,ae,aw,ax,V.int.injEq,V.ref.injEq,ag,and_true,true_and,exists_eq_left',exists_and_left,exists_eq_left,and_false,decide_eq_true_eq,bz,aq,BR,↓jD,jU,oq,ql,mJ,hm,tF,e,Vv,T.jZ,T.mh,Bd,mm.ls]
   refine⟨aD,?_⟩
   by_cases z:k<0
   ·rw[if_pos z]
    rw[if_neg (by show¬(_/\0<=k);lia)]at h
    exact h
   ·rw[if_neg z]
    rw[if_pos ⟨hm,by show 0<=k;lia⟩]at h
    refine⟨q,ws,mm,ka,?_⟩
    cases h1:wi a 0 (ws.length-k) with
    |false=>
     rw[if_neg (by intro z;cases z)]
     rw[if_neg (by intro z;have:=z.1;unfold Yf iv at this;rw[h1]at this;cases this)]at h
     exact h
    |true=>
     rw[if_pos rfl]
     refine⟨q,ws,mm,kg,?_⟩
     cases h2:wi g 0 (ws.length-k) with
     |false=>
      rw[if_neg (by intro z;cases z)]
      rw[if_neg (by intro z;have:=z.2;unfold Yf iv at this;rw[h2]at this;cases this)]at h
      exact h
     |true=>
      rw[if_pos rfl]
      rw[if_pos ⟨h1,h2⟩]at h
      obtain⟨i,rfl,i0,i1⟩:=l8 h1
      obtain⟨j,rfl,j0,j1⟩:=l8 h2
      intro l hl'
      refine⟨by lia,by lia,?_⟩
      rw[QU i0 (by lia) (by lia)]
      have hks:((ws.drop i.toNat).take k.toNat).length=k.toNat:=by rw[bH,dY];lia
      simp only[iv]at h
      generalize hK:(ws.drop i.toNat).take k.toNat=ks at*
      refine lA.range (λt σ H'=>∃v5,σ=[some (.ref p),some (.int i),some (.int j),some (.int k),some (.ref l),v5]/\kz A.i_ H' p q (cp ws ks j.toNat t)/\H' l=some (.lst (ks.map Z_))/\(∀b o,H b=some o->b≠q->H' b=some o))
       ⟨_,rfl,mm.same (ja.upd hl'),iS,λb o eb _=>ja.upd hl' b o eb⟩ ?_ ?_
      ·rintro t σ H1 ht ⟨v5,rfl,m1,l1,b1⟩
       obtain⟨dy,e1⟩:=m1.ob
       have nlq:l≠q:=λz=>by rw[z]at hl';rw[mm.ls]at hl';cases hl'
       simp only[ke,i3,jX,jq,mP,DO,↓jj,xD,E4,aa,ae,aw,ax,ag,and_true,true_and,exists_eq_left',jU,oq,e1,l1,m1.ls,T.jZ,T.mh,Bd,eJ,UR (show t<ks.length by lia)]
       rw[KR (by lia) (by rw[aj,Kk];lia),show(j+(t:Int)).toNat=j.toNat+t by lia]
       dsimp only
       rw[AI]
       refine⟨m1.put (j.toNat+t) (ks.getD t 0),?_,λb o eb nb=> ?_⟩
       ·rw[iW nlq];exact l1
       ·rw[iW nb];exact b1 b o eb nb
      ·rintro σ H1 ⟨v5,rfl,m1,l1,b1⟩
       exact h _ m1 b1
noncomputable def xS (A:Ad):Sp:=λvs H Q _=>∃p m q o y s ws so sy ss v,vs=[.ref p,v]/\pZ A.jm A.i_ A.je H p m q o y s ws so sy ss/\Kn H v/\Q (Sy v so sy) H
theorem Eg:i7 ["self","at"] ["self","at"] (iX u1):=fsc
theorem xP{ca:Bool}(T:Txt K mg A):jA P w K mg base (lG P w) ca 4 A.lH A.mY ["self","at"] (xS A):=by
 refine T.DW.nP Eg (λvs H Q E h=> ?_) (λcdv A' outer s H vs Q E hr hx h=> ?_)
 ·obtain⟨_,_,_,_,_,_,_,_,_,_,_,rfl,_⟩:=h
  rfl
 ·obtain⟨p,m,q,o,y,s',ws,so,sy,ss,v,rfl,h⟩:=h
  obtain⟨h,a,hk⟩:=Fj h
  refine⟨_,mL.run (iP (jo (jz (jr (i8 (iQ 0) rfl) T.kE T.EI (Dr T).mono hr T.Es hx (iN (iQ 1) iO)) (λ_=>rfl)) (iR (jf i5)) jh)
   (iP (jo (jz (jr (i8 (iQ 0) rfl) T.kE T.EI (Dr T).mono hr T.Es hx (iN (iQ 1) iO)) (λ_=>rfl)) (iR (jf i5)) jh)
   (iR (jf sS)))),?_⟩
  obtain⟨dx,hp⟩:=a.ob
  obtain⟨d1,ho⟩:=a.old
  obtain⟨d2,hy⟩:=a.Fg
  simp only[kU,kj,jM,kM,iZ,jd,tC,i3,jb,pX,and_assoc,ao,↓jj,↓jg,L2.start,ak,av,af,ai,ah,ay,aa,ae,V.ref.injEq,ag,bh,and_true,true_and,exists_eq_left',exists_and_left,exists_eq_left,aq,aF,jU,oq,ql,hp,T.jF,T.kK,T.lX,Bq,L4,ho,hy,DD,Uc]
  unfold Sy at h
  refine⟨d1,so.b,so.e,so.t,rfl,hk,?_⟩
  cases w1:wi v so.b (so.t-1) with
  |true=>simp only[w1,if_true]at h⊢;exact h
  |false=>
   simp only[w1,aM,if_false]at h⊢
   refine⟨d2,sy.b,sy.e,sy.t,rfl,hk,?_⟩
   cases w2:wi v sy.b (sy.t-1)<;>simp only[w2,aM,if_true,if_false]at h⊢<;>exact h
noncomputable def kY (A:Ad):Sp:=λvs H Q E=>∃p q os v,vs=[.ref p,v]/\tV A.jE H p q os/\Kn H v/\if stN os v=true then Q .kT H else E (.ref A.ow) none H
theorem zr:i7 ["self","name"] ["self","name"] (iX qp):=fsc
theorem tT(T:Txt K mg A):jA P w K mg base (lG P w) true 4 A.j6 A.lp ["self","name"] (kY A):=by
 refine T.zo.nP zr (λvs H Q E h=> ?_) (λcdv A' outer s H vs Q E hr hx h=> ?_)
 ·obtain⟨_,_,_,_,rfl,_⟩:=h
  rfl
 ·obtain⟨p,q,os,v,rfl,h⟩:=h
  obtain⟨h,m,hk⟩:=Fj h
  refine⟨_,mL.run (iR (jo (jc N1 (jr (iQ 0) T.m_ T.JF (GZ T).mono hr T.Jh hx (iN (iQ 1) iO)) sS (jx _)) (iR (jH hx rfl T.zV T.A0 rfl (iN i5 iO))) jh)),?_⟩
  obtain⟨dx,e⟩:=m.ob
  simp only[kj,kM,jC,ke,iZ,jd,tC,i3,kO,Up,xI,and_assoc,ao,↓jg,L2.start,ak,av,af,ai,ah,ay,aa,ae,V.ref.injEq,ag,and_true,true_and,exists_eq_left',exists_and_left,aq,aF,BR,↓jD,ql,CA,e,Sn]
  refine⟨q,os,m,hk,?_⟩
  cases hw:wi v 0 (os.length-1) with
  |false=>
   rw[if_neg (λz=>by cases z)]
   rw[if_neg (by rw[stN,hw];intro z;cases z)]at h
   exact h
  |true=>
   rw[if_pos rfl]
   cases ho:os.getD (iv v).toNat none with
   |none=>
    rw[if_neg (by rw[stN,hw,ho];intro z;cases z)]at h
    exact h
   |some y=>
    rw[if_pos (by rw[stN,hw,ho];rfl)]at h
    exact h
noncomputable def AU (A:Ad):Sp:=λvs H Q E=>∃v,vs=[v]/\Kn H v/\if wi v (-1000000000000) 1000000000000=true then Q (.int (2*iv v)) H else E (.ref A.m9) none H
theorem Hi:i7 ["n"] ["n"] (iX xo):=fsc
theorem G5(T:Txt K mg A):jA P w K mg base (lG P w) true 5 A.nX A.pN ["n"] (AU A):=by
 refine T.zT.nP Hi (λvs H Q E h=> ?_) (λcdv A' outer s H vs Q E hr hx h=> ?_)
 ·obtain⟨_,rfl,_⟩:=h
  rfl
 ·obtain⟨v,rfl,hk,q⟩:=h
  refine⟨_,mL.run (iP (i6 (iV (Ah T).mono hr rfl T.uE T.vC.kp T.Bt hx (iN (iQ 0) iO)))
   (iR (jf (iY uG iU (iQ 0))))),?_⟩
  simp only[kU,jB,jM,ke,iZ,jd,tC,i3,i9,EX,DK,aT,bD,ao,Ta,L2.start,ak,av,af,ai,ah,ay,aa,ag,and_true,exists_eq_left',aq,aF,tH]
  refine⟨hk,?_⟩
  cases v<;>simp only[wi,iv]at q⊢<;>simp only[true_or,aV,aW,aT,↓reduceIte,and_true,true_and,aM]at q⊢<;>try exact q
  all_goals (split<;>rename_i h<;>simp[h]at q⊢<;>exact q)
noncomputable def BQ (A:Ad):Sp:=λvs H Q E=>∃v,vs=[v]/\Kn H v/\if wi v 0 9999=true then Q (.int (2*iv v+1)) H else E (.ref A.jI) none H
theorem I_:i7 ["at"] ["at"] (iX yY):=fsc
theorem II(T:Txt K mg A):jA P w K mg base (lG P w) true 5 A.o8 A.qM ["at"] (BQ A):=by
 refine T.Bw.nP I_ (λvs H Q E h=> ?_) (λcdv A' outer s H vs Q E hr hx h=> ?_)
 ·obtain⟨_,rfl,_⟩:=h
  rfl
 ·obtain⟨v,rfl,hk,q⟩:=h
  refine⟨_,mL.run (iP (i6 (iV (og T).mono hr rfl T.mn T.mH.kp T.oZ hx (iN (iQ 0) iO)))
   (iR (jf (iY jv (iY uG iU (iQ 0)) iU)))),?_⟩
  simp only[kU,jB,jM,ke,iZ,jd,tC,i3,i9,mP,EX,DK,aT,bD,ao,L2.start,ak,av,af,ai,ah,ay,aa,ag,and_true,exists_eq_left',and_false,aq,aF,jS]
  refine⟨hk,?_⟩
  cases v<;>simp only[wi,iv]at q⊢<;>simp only[true_or,aV,aW,aT,↓reduceIte,and_true,true_and,aM]at q⊢<;>try exact q
  all_goals (split<;>rename_i h<;>simp[h]at q⊢<;>exact q)
noncomputable def AW (A:Ad):Sp:=λvs H Q E=>∃v,vs=[v]/\Kn H v/\match kd v with
 |some _=>Q (wo v) H
 |none=>E (.ref A.pA) none H
theorem N9{v:V}{x:Str}(h:kd v=some x):∃w,v= .int w/\(x=bt "nothing"↔w= -1):=by
 cases v with
 |int w=>
  refine⟨w,rfl,?_⟩
  simp only[kd]at h
  split at h
  ·rename_i e;cases h;exact⟨λ_=>e,λ_=>rfl⟩
  ·rename_i e
   refine⟨λz=> ?_,λz=>absurd z e⟩
   subst z
   split at h
   ·cases bg h|>(Le▸·)|>(by decide:¬("number"="nothing"))
   ·split at h
    ·cases bg h|>(Le▸·)|>(by decide:¬("place"="nothing"))
    ·cases h
 |_=>cases h
theorem R6:i7 ["word"] ["word"] (iX Lv):=fsc
theorem Ak(T:Txt K mg A):jA P w K mg base (lG P w) true 5 A.yf A.A7 ["word"] (AW A):=by
 refine T.xF.nP R6 (λvs H Q E h=> ?_) (λcdv A' outer s H vs Q E hr hx h=> ?_)
 ·obtain⟨_,rfl,_⟩:=h
  rfl
 ·obtain⟨v,rfl,hk,q⟩:=h
  refine⟨_,mL.run (iP (jo (jc rQ (iV (yG T).mono hr rfl T.ym T.wm.kp T.BU hx (iN (iQ 0) iO)) i5 (jx _)) (iR (jf sS)) jh)
   (iR (jf (iY j3 (iQ 0) iU)))),?_⟩
  simp only[kU,kj,jM,kM,jC,ke,iZ,jd,tC,i3,i9,m8,Md,eqv,and_assoc,tU,ao,L2.start,ak,av,af,ai,ah,ay,aa,ag,and_true,exists_eq_left',decide_eq_true_eq,aq,aF,↓jD,vm]
  refine⟨hk,?_⟩
  cases e:kd v with
  |none=>rw[e]at q;exact q
  |some x=>
   rw[e]at q
   obtain⟨w,rfl,hw⟩:=N9 e
   simp only[aV,aW,aT,true_and,wo]at q⊢
   by_cases h1:w= -1
   ·simp only[hw.mpr h1,h1,if_true]at q⊢;exact q
   ·rw[if_neg λz=>h1 (hw.mp z)];rw[if_neg h1]at q;exact q
noncomputable def u4 (A:Ad):Sp:=λvs H Q E=>∃p q ws v x,vs=[.ref p,v,x]/\kz A.i_ H p q ws/\Kn H v/\Kn H x/\
 if wi v 0 (ws.length-1)=true then(match kd x with
  |some _=>Q .kT (upd H q (.lst ((ws.set (iv v).toNat (iv x)).map Z_)))
  |none=>E (.ref A.pA) none H) else E (.ref A.jI) none H
theorem Fb:i7 ["self","at","word"] ["self","at","word"] (iX vR):=fsc
theorem pw(T:Txt K mg A):jA P w K mg base (lG P w) true 5 A.lU A.ox ["self","at","word"] (u4 A):=by
 refine T.E1.nP Fb (λvs H Q E h=> ?_) (λcdv A' outer s H vs Q E hr hx h=> ?_)
 ·obtain⟨_,_,_,_,_,rfl,_⟩:=h
  rfl
 ·obtain⟨p,q,ws,v,x,rfl,h⟩:=h
  obtain⟨h,m,hk,hx'⟩:=Qx h
  refine⟨_,mL.run (iP (i6 (jr (iQ 0) T.jZ T.u6 (uX T).mono hr T.u5 hx (iN (iQ 1) iO)))
   (iP (i6 (iV (yG T).mono hr rfl T.ym T.wm.kp T.BU hx (iN (iQ 2) iO)))
   (iR (uT (iQ 2) (uS (i8 (iQ 0) rfl) (iQ 1) wA))))),?_⟩
  obtain⟨dx,e⟩:=m.ob
  simp only[jB,jM,iZ,jd,i3,jX,i9,jb,and_assoc,ao,↓jj,↓jg,xD,E4,L2.start,ak,av,af,ai,ah,ay,aa,ae,V.ref.injEq,ag,and_true,true_and,exists_eq_left',exists_and_left,aq,aF,jU,oq,ql,qt,vm,e,T.jZ,T.mh,Bd,Rz]
  refine⟨q,ws,m,hk,?_⟩
  cases hw:wi v 0 (ws.length-1)
  ·simp[hw]at h⊢;exact h
  ·obtain⟨i,rfl,h0,h1⟩:=l8 hw
   simp only[hw,if_true]at h⊢
   refine⟨hx',?_⟩
   cases hd:kd x with
   |none=>rw[hd]at h;exact h
   |some y=>
    obtain⟨j,rfl⟩:=Ro hd
    rw[hd]at h
    simp only[m.ls,Fw h0 h1,AI,iv]at h⊢
    exact h
noncomputable def BH (A:Ad):Sp:=λvs H Q E=>∃p dx v u,vs=[.ref p,v,u]/\H p=some (.ins A.jm dx [])/\Kn H v/\Kn H u/\
 if wi v 4 2000=true/\wi u 2 500=true then(∀m q o y s H',pZ A.jm A.i_ A.je H' p m q o y s (ah (iv v+2*iv u).toNat (-1)) ⟨0,iv v,0⟩ ⟨iv v,iv v+iv u,iv v⟩ ⟨iv v+iv u,iv v+2*iv u,iv v+iv u⟩->(∀b x,H b=some x->b≠p->H' b=some x)->(H m=none/\H q=none/\H o=none/\H y=none/\H s=none)->Q .kT H') else E (.ref A.kb) none H
theorem xx:i7 ["self","old_words","young_words","middle","size"] ["self","old_words","young_words"] (iX yJ):=fsc
theorem Iv(T:Txt K mg A):jA P w K mg base (lG P w) true 5 A.nh A.qw ["self","old_words","young_words"] (BH A):=by
 refine T.HZ.nP xx (λvs H Q E h=> ?_) (λcdv A' outer s H vs Q E hr hx h=> ?_)
 ·obtain⟨_,_,_,_,rfl,_⟩:=h
  rfl
 ·obtain⟨p,dx,v,u,rfl,h⟩:=h
  obtain⟨h,hp,kv,ku⟩:=Qx h
  refine⟨_,mL.run (iP (jo (kH (jz (iV (j9 T).mono hr rfl T.j7 T.jW.kp T.kD hx (iN (iQ 1) (iN (mv T.tK) (iN (mv T.uw) iO)))) (λ_=>rfl))) (iR (jH hx rfl T.n_ T.oo rfl (iN i5 iO))) jh)
   (iP (jo (kH (jz (iV (j9 T).mono hr rfl T.j7 T.jW.kp T.kD hx (iN (iQ 2) (iN (mv T.q_) (iN (mv T.rV) iO)))) (λ_=>rfl))) (iR (jH hx rfl T.n_ T.oo rfl (iN i5 iO))) jh)
   (iP (ji (i:=3) xx.nd rfl lo (iY jv (iQ 1) (iQ 2)))
   (iP (ji (i:=4) xx.nd rfl lo (iY jv (iQ 3) (iQ 2)))
   (iP (kG (iQ 0) (rR T.D8 (GX T).mono hr rfl T.Gi T.HM hx (iN (iQ 4) iO)) rfl)
   (iP (kG (iQ 0) (rR T.Ab (w_ T).mono hr rfl T.Dd T.x_ hx (iN iU (iN (iQ 1) iO))) rfl)
   (iP (kG (iQ 0) (rR T.Ab (w_ T).mono hr rfl T.Dd T.x_ hx (iN (iQ 1) (iN (iQ 3) iO))) rfl)
   (iR (kG (iQ 0) (rR T.Ab (w_ T).mono hr rfl T.Dd T.x_ hx (iN (iQ 3) (iN (iQ 4) iO))) rfl))))))))),?_⟩
  cases hv:wi v 4 2000 with
  |false=>
   rw[if_neg (by rw[hv];rintro⟨z,_⟩;cases z)]at h
   refine i4 (λ_ _=>False) (λR _=> ?_) (λ_ _ z=>z.elim)
   simp only[kj,kM,q9,iZ,jd,tC,i3,i9,kO,pX,and_assoc,ao,bx,↓reduceIte,aN,L2.start,ak,av,af,ai,ah,aL,bc,aa,ae,V.int.injEq,ag,and_true,true_and,exists_eq_left',exists_and_left,exists_eq_left,bz,aq,BR,jG,hv]
   exact⟨kv,h⟩
  |true=>
   cases hu:wi u 2 500 with
   |false=>
    rw[if_neg (by rw[hu];rintro⟨_,z⟩;cases z)]at h
    refine pV (λσ' H'=>σ'=start ["self","old_words","young_words","middle","size"] [Z9 p,v,u]/\H=H') (λR hR=> ?_) ?_
    ·simp only[kj,kM,q9,iZ,jd,tC,i3,i9,kO,pX,and_assoc,ao,bx,↓reduceIte,aN,bR,L2.start,ak,av,af,ai,ah,aL,bc,aa,ae,V.int.injEq,ag,and_true,true_and,exists_eq_left',exists_and_left,exists_eq_left,bz,aq,BR,jG,hv]
     exact⟨kv,hR _ _ ⟨rfl,rfl⟩⟩
    rintro Gq hGq _ _ ⟨rfl,rfl⟩
    subst hGq
    refine i4 (λ_ _=>False) (λR _=> ?_) (λ_ _ z=>z.elim)
    simp only[kj,kM,q9,iZ,jd,tC,i3,i9,kO,pX,and_assoc,ao,bx,↓reduceIte,aN,L2.start,ak,av,af,ai,ah,aL,bc,aa,ae,V.int.injEq,ag,and_true,true_and,exists_eq_left',exists_and_left,exists_eq_left,bz,aq,BR,jG,hu]
    exact⟨ku,h⟩
   |true=>
    rw[if_pos ⟨hv,hu⟩]at h
    obtain⟨i,rfl,i0,i1⟩:=l8 hv
    obtain⟨j,rfl,j0,j1⟩:=l8 hu
    have Hs:∀{G:Hp} {x dx:Addr} {o:HO},G x=none->G dx=none->ja G (upd (upd G dx (HO.own x)) x o):=λ{G x dx o} hx hdx b u eb=>by rw[iW (iT eb hx),iW (iT eb hdx)];exact eb
    show jM _ _ _ [some (Z9 p),some (Z_ i),some (Z_ j),none,none] H
    refine pV (λσ' H'=>σ'=[some (Z9 p),some (Z_ i),some (Z_ j),none,none]/\H=H') (λR hR=> ?_) ?_
    ·simp only[kj,kM,q9,iZ,jd,tC,i3,i9,kO,pX,and_assoc,ao,↓reduceIte,aN,bR,af,ai,aa,ae,V.int.injEq,ag,and_true,true_and,exists_eq_left',exists_and_left,exists_eq_left,aq,BR,jG,hv]
     exact⟨aD,hR _ _ ⟨rfl,rfl⟩⟩
    rintro Gq hGq _ _ ⟨rfl,rfl⟩
    subst hGq
    refine pV (λσ' H'=>σ'=[some (Z9 p),some (Z_ i),some (Z_ j),none,none]/\H=H') (λR hR=> ?_) ?_
    ·simp only[kj,kM,q9,iZ,jd,tC,i3,i9,kO,pX,and_assoc,ao,↓reduceIte,aN,bR,af,ai,aa,ae,V.int.injEq,ag,and_true,true_and,exists_eq_left',exists_and_left,exists_eq_left,aq,BR,jG,hu]
     exact⟨aD,hR _ _ ⟨rfl,rfl⟩⟩
    rintro Gq hGq _ _ ⟨rfl,rfl⟩
    subst hGq
    refine pV (λσ' H'=>σ'=[some (Z9 p),some (Z_ i),some (Z_ j),some (Z_ (i+j)),none]/\H=H') (λR hR=> ?_) ?_
    ·simp only[ke,i3,jX,jq,mP,aa,ae,aw,ax]
     exact hR _ _ ⟨rfl,rfl⟩
    rintro Gq hGq _ _ ⟨rfl,rfl⟩
    subst hGq
    refine pV (λσ' H'=>σ'=[some (Z9 p),some (Z_ i),some (Z_ j),some (Z_ (i+j)),some (Z_ (i+j+j))]/\H=H') (λR hR=> ?_) ?_
    ·simp only[ke,i3,jX,jq,mP,aa,ae,aw,ax]
     exact hR _ _ ⟨rfl,rfl⟩
    rintro Gq hGq _ _ ⟨rfl,rfl⟩
    subst hGq
    refine pV (λσ' H'=>∃m q,H m=none/\H q=none/\kz A.i_ H' m q (ah (i+j+j).toNat (-1))/\H' p=some (.ins A.jm dx (ly "memory" (.ref m) []))/\(∀b o,H b=some o->b≠p->H' b=some o)/\σ'=[some (Z9 p),some (Z_ i),some (Z_ j),some (Z_ (i+j)),some (Z_ (i+j+j))]) (λR hR=> ?_) ?_
    ·simp only[iZ,jd,i3,jb,and_assoc,aT,iS,rW,rT,aa,ae,V.ref.injEq,ag,bh,and_true,true_and,exists_eq_left',exists_and_left,AN]
     intro x d1 hx hd1 _
     refine⟨d1,rfl,aD,?_⟩
     rw[if_pos (by simp[wi];lia)]
     intro q H1 hq m1 f1
     obtain⟨_,hq1⟩:=lZ hq
     obtain⟨_,hq2⟩:=lZ hq1
     have npx:=iT hp hx
     have npq:=iT hp hq2
     rw[f1 _ _ (Hs hx hd1 _ _ hp) npx]
     refine⟨T.jF,T.jP,by decide,hR _ _ ⟨x,q,hx,hq2,m1.keep λb o eb hb=> ?_,iS,λb o eb nb=> ?_,rfl⟩⟩
     ·rw[iW (by rcases hb with rfl|rfl;exact aC npx;exact aC npq)];exact eb
     ·rw[iW nb];exact f1 _ _ (Hs hx hd1 _ _ eb) (iT eb hx)
    rintro Gq hGq _ H1 ⟨m,q,hm,hq,m1,e1,f1,rfl⟩
    subst hGq
    have npm:=iT hp hm
    have npq:=iT hp hq
    refine pV (λσ' H'=>∃o,H1 o=none/\zx A.je H' o ⟨0,i,0⟩/\H' p=some (.ins A.jm dx (ly "old" (.ref o) (ly "memory" (.ref m) [])))/\(∀b o,H1 b=some o->b≠p->H' b=some o)/\σ'=[some (Z9 p),some (Z_ i),some (Z_ j),some (Z_ (i+j)),some (Z_ (i+j+j))]) (λR hR=> ?_) ?_
    ·simp only[iZ,jd,tC,i3,jb,and_assoc,iS,rW,rT,aa,ae,V.int.injEq,V.ref.injEq,ag,bh,and_true,true_and,exists_eq_left',exists_and_left,uL]
     intro x d1 hx hd1 _
     have npx:=iT e1 hx
     refine⟨d1,rfl,?_⟩
     rw[iW npx,Hs hx hd1 _ _ e1]
     refine⟨T.jF,T.kK,(show(1:Nat)<1000 by decide),hR _ _ ⟨x,hx,⟨d1,?_⟩,iS,λb o eb nb=> ?_,rfl⟩⟩
     ·rw[iW (aC npx),iS]
     ·rw[iW nb,iW (iT eb hx)];exact Hs hx hd1 _ _ eb
    rintro Gq hGq _ H2 ⟨o,ho,so1,e2,f2,rfl⟩
    subst hGq
    have npo:=iT e1 ho
    refine pV (λσ' H'=>∃y,H2 y=none/\zx A.je H' y ⟨i,i+j,i⟩/\H' p=some (.ins A.jm dx (ly "young" (.ref y) (ly "old" (.ref o) (ly "memory" (.ref m) []))))/\(∀b o,H2 b=some o->b≠p->H' b=some o)/\σ'=[some (Z9 p),some (Z_ i),some (Z_ j),some (Z_ (i+j)),some (Z_ (i+j+j))]) (λR hR=> ?_) ?_
    ·simp only[iZ,jd,i3,jb,and_assoc,iS,rW,rT,aa,ae,V.int.injEq,V.ref.injEq,ag,bh,and_true,true_and,exists_eq_left',exists_and_left,uL]
     intro x d1 hx hd1 _
     have npx:=iT e2 hx
     refine⟨d1,rfl,?_⟩
     rw[iW npx,Hs hx hd1 _ _ e2]
     refine⟨T.jF,T.lX,by simp[ly,VA],hR _ _ ⟨x,hx,⟨d1,?_⟩,iS,λb o eb nb=> ?_,rfl⟩⟩
     ·rw[iW (aC npx),iS]
     ·rw[iW nb,iW (iT eb hx)];exact Hs hx hd1 _ _ eb
    rintro Gq hGq _ H3 ⟨y,hy,sy1,e3,f3,rfl⟩
    subst hGq
    have npy:=iT e2 hy
    simp only[iZ,jd,i3,jb,and_assoc,iS,rW,rT,aa,ae,V.int.injEq,V.ref.injEq,ag,bh,and_true,true_and,exists_eq_left',exists_and_left,uL]
    intro x d1 hx hd1 _
    have npx:=iT e3 hx
    refine⟨d1,rfl,?_⟩
    rw[iW npx,Hs hx hd1 _ _ e3]
    refine⟨T.jF,T.oJ,by simp[ly,VA,VB,VC],?_⟩
    rw[UQ]
    have sz:i+j+j=i+2*j:=by lia
    rw[sz]at m1⊢
    have f4:∀b u,H3 b=some u->b≠p->upd (upd (upd (upd H3 d1 (HO.own x)) x (HO.ins A.je d1 [])) x (HO.ins A.je d1 (uK (i+j) (i+2*j) (i+j)))) p (HO.ins A.jm dx (zy m o y x)) b=some u:=λb u eb nb=>by
     rw[iW nb,iW (iT eb hx)];exact Hs hx hd1 _ _ eb
    have e4:upd (upd (upd (upd H3 d1 (HO.own x)) x (HO.ins A.je d1 [])) x (HO.ins A.je d1 (uK (i+j) (i+2*j) (i+j)))) p (HO.ins A.jm dx (zy m o y x)) p=some (HO.ins A.jm dx (zy m o y x)):=iS
    have e5:upd (upd (upd (upd H3 d1 (HO.own x)) x (HO.ins A.je d1 [])) x (HO.ins A.je d1 (uK (i+j) (i+2*j) (i+j)))) p (HO.ins A.jm dx (zy m o y x)) x=some (HO.ins A.je d1 (uK (i+j) (i+2*j) (i+j))):=by rw[iW (aC npx),iS]
    generalize upd (upd (upd (upd H3 d1 (HO.own x)) x (HO.ins A.je d1 [])) x (HO.ins A.je d1 (uK (i+j) (i+2*j) (i+j)))) p (HO.ins A.jm dx (zy m o y x))=H4 at*
    obtain⟨dm,em⟩:=m1.ob
    obtain⟨do1,eo⟩:=so1
    obtain⟨dy1,ey⟩:=sy1
    have fresh:∀{G:Hp} {z:Addr},(∀b u,H b=some u->b≠p->G b=some u)->G z=none->p≠z->H z=none:=λ{G z} hG hz np=>by
     cases e:H z with
     |none=>rfl
     |some u=>rw[hG _ _ e (aC np)]at hz;cases hz
    have nmo:=iT em ho
    have em2:=f2 _ _ em (aC npm)
    have nmy:=iT em2 hy
    have em3:=f3 _ _ em2 (aC npm)
    have nmx:=iT em3 hx
    have noy:=iT eo hy
    have eo3:=f3 _ _ eo (aC npo)
    have nox:=iT eo3 hx
    have nyx:=iT ey hx
    refine h m q o y x H4 ⟨⟨dx,e4⟩,m1.keep λb u eb hb=> ?_,⟨do1,f4 _ _ eo3 (aC npo)⟩,⟨dy1,f4 _ _ ey (aC npy)⟩,⟨d1,e5⟩,noy,nox,nyx,⟨npm,npo,npy,npx⟩,⟨nmo,nmy,nmx⟩⟩ (λb u eb nb=>f4 _ _ (f3 _ _ (f2 _ _ (f1 _ _ eb nb) nb) nb) nb) ⟨hm,hq,fresh (λb u eb nb=>f1 _ _ eb nb) ho npo,fresh (λb u eb nb=>f2 _ _ (f1 _ _ eb nb) nb) hy npy,fresh (λb u eb nb=>f3 _ _ (f2 _ _ (f1 _ _ eb nb) nb) nb) hx npx⟩
    have nb:b≠p:=by rcases hb with rfl|rfl;exact aC npm;exact aC npq
    exact f4 _ _ (f3 _ _ (f2 _ _ eb nb) nb) nb
noncomputable def BJ (A:Ad):Sp:=λvs H Q E=>∃p d ks v,vs=[.ref p,v]/\u9 A.jY H p d ks/\Kn H v/\ks.length<1000/\
 if wi v 0 9999=true then Q .kT (upd H d (.dK (Kc (WC ks (iv v))))) else E (.ref A.jI) none H
theorem IM:i7 ["self","place"] ["self","place"] (iX yL):=fsc
theorem Iz(T:Txt K mg A):jA P w K mg base (lG P w) true 5 A.nz A.qy ["self","place"] (BJ A):=by
 refine T.Ia.nP IM (λvs H Q E h=> ?_) (λcdv A' outer s H vs Q E hr hx h=> ?_)
 ·obtain⟨_,_,_,_,rfl,_⟩:=h
  rfl
 ·obtain⟨p,d,ks,v,rfl,h⟩:=h
  obtain⟨h,m,hk,hl⟩:=Qx h
  refine⟨_,mL.run (iP (i6 (iV (og T).mono hr rfl T.mn T.mH.kp T.oZ hx (iN (iQ 1) iO)))
   (iR (mi (jw hr) (i8 (iQ 0) rfl) (iQ 1) rA rfl))),?_⟩
  obtain⟨dx,e⟩:=m.ob
  cases hw:wi v 0 9999 with
  |false=>
   rw[hw]at h
   simp only[jB,jM,iZ,jd,tC,i3,i9,jb,ao,↓reduceIte,↓jj,sN,kJ,L2.start,ak,av,af,ai,ah,ay,aa,ae,ag,and_true,exists_eq_left',aM,aq,aF,jU,oq,jS,hw]
   exact⟨hk,h⟩
  |true=>
   obtain⟨i,rfl,i0,i1⟩:=l8 hw
   rw[if_pos hw]at h
   simp only[jB,jM,iZ,jd,tC,i3,i9,jb,ao,↓reduceIte,↓jj,sN,kJ,L2.start,ak,av,af,ai,ah,ay,aa,ae,ag,and_true,true_and,exists_eq_left',aq,aF,jU,oq,jS,hw,e,T.sO,T.lK,OM,m.dc,SU,SV]
   exact⟨aD,aK hl (by decide),h⟩
noncomputable def AK (A:Ad):Sp:=λvs H Q E=>∃p d ks v,vs=[.ref p,v]/\u9 A.jY H p d ks/\Kn H v/\
 if wi v 0 9999=true then Q (.bl (decide (iv v∈ks))) H else E (.ref A.jI) none H
theorem MZ:i7 ["self","place"] ["self","place"] (iX Cp):=fsc
theorem MS(T:Txt K mg A):jA P w K mg base (lG P w) true 5 A.qb A.tX ["self","place"] (AK A):=by
 refine T.Mq.nP MZ (λvs H Q E h=> ?_) (λcdv A' outer s H vs Q E hr hx h=> ?_)
 ·obtain⟨_,_,_,_,rfl,_⟩:=h
  rfl
 ·obtain⟨p,d,ks,v,rfl,h⟩:=h
  obtain⟨h,m,hk⟩:=Fj h
  refine⟨_,mL.run (iP (i6 (iV (og T).mono hr rfl T.mn T.mH.kp T.oZ hx (iN (iQ 1) iO)))
   (iR (jf (D2 (O4 (jw hr)) (iQ 1) (i8 (iQ 0) rfl) (by with_unfolding_all rfl))))),?_⟩
  obtain⟨dx,e⟩:=m.ob
  cases hw:wi v 0 9999 with
  |false=>
   rw[hw]at h
   simp only[kU,jB,jM,ke,iZ,jd,i3,i9,jb,ao,↓reduceIte,↓jj,kJ,L2.start,PK,ak,av,af,ai,ah,ay,aa,ae,ag,and_true,exists_eq_left',aM,aq,aF,jU,oq,jS,hw]
   exact⟨hk,h⟩
  |true=>
   obtain⟨i,rfl,i0,i1⟩:=l8 hw
   rw[if_pos hw]at h
   simp only[kU,jB,jM,ke,iZ,jd,i3,i9,jb,ao,↓reduceIte,↓jj,kJ,L2.start,PK,ak,av,af,ai,ah,ay,aa,ae,ag,and_true,true_and,exists_eq_left',aq,aF,jU,oq,jS,hw,e,T.sO,T.lK,OM,m.dc,Kd]
   refine⟨aD,?_⟩
   have e2:(if i∈ks then some (V.bl true) else none).isSome=decide (iv (Z_ i)∈ks):=by
    show _=decide (i∈ks)
    by_cases z:i∈ks
    ·rw[if_pos z,decide_eq_true z];rfl
    ·rw[if_neg z,decide_eq_false z];rfl
   rw[e2]
   exact h
noncomputable def vj (A:Ad):Sp:=λvs H Q E=>∃p q ws v x,vs=[.ref p,v,x]/\xY A.j8 H p q ws/\Kn H v/\Kn H x/\
 if wi v 0 (ws.length-1)=true then(match kd x with
  |some _=>Q .kT (upd H q (.lst ((ws.set (iv v).toNat (iv x)).map Z_)))
  |none=>E (.ref A.pA) none H) else E (.ref A.uQ) none H
theorem Lz:i7 ["self","hand","word"] ["self","hand","word"] (iX Am):=fsc
theorem yE(T:Txt K mg A):jA P w K mg base (lG P w) true 5 A.oP A.rY ["self","hand","word"] (vj A):=by
 refine T.Kq.nP Lz (λvs H Q E h=> ?_) (λcdv A' outer s H vs Q E hr hx h=> ?_)
 ·obtain⟨_,_,_,_,_,rfl,_⟩:=h
  rfl
 ·obtain⟨p,q,ws,v,x,rfl,h⟩:=h
  obtain⟨h,m,hk,hx'⟩:=Qx h
  refine⟨_,mL.run (iP (i6 (jr (iQ 0) T.qa T.Dl (Cn T).mono hr T.CN hx (iN (iQ 1) iO)))
   (iP (i6 (iV (yG T).mono hr rfl T.ym T.wm.kp T.BU hx (iN (iQ 2) iO)))
   (iR (uT (iQ 2) (uS (i8 (iQ 0) rfl) (iQ 1) wA))))),?_⟩
  obtain⟨dx,e⟩:=m.ob
  simp only[jB,jM,iZ,jd,i3,jX,i9,jb,and_assoc,ao,↓jj,↓jg,xD,E4,L2.start,ak,av,af,ai,ah,ay,aa,ae,V.ref.injEq,ag,and_true,true_and,exists_eq_left',exists_and_left,aq,aF,jU,oq,ql,vZ,vm,e,T.qa,T.oK,Rg,Rh]
  refine⟨q,ws,m,hk,?_⟩
  cases hw:wi v 0 (ws.length-1)
  ·simp[hw]at h⊢;exact h
  ·obtain⟨i,rfl,h0,h1⟩:=l8 hw
   simp only[hw,if_true]at h⊢
   refine⟨hx',?_⟩
   cases hd:kd x with
   |none=>rw[hd]at h;exact h
   |some y=>
    obtain⟨j,rfl⟩:=Ro hd
    rw[hd]at h
    simp only[m.ls,Fw h0 h1,AI,iv]at h⊢
    exact h
noncomputable def BL (A:Ad):Sp:=λvs H Q E=>∃p d q ws sp es v n,vs=[.ref p,v,n]/\lN A.ju H p d q ws sp es/\Kn H v/\Kn H n/\ws.length<64/\
 if wi v 0 9999=true then if wi n (-1000000000000) 1000000000000=true then∀H' es',lN A.ju H' p d q (ws++[some (iv v,iv n)]) sp es'->Out d q H H'->Q (.int ws.length) H' else E (.ref A.m9) none H else E (.ref A.jI) none H
theorem BE:i7 ["self","at","number","ticket"] ["self","at","number"] (iX yN):=fsc
theorem IB(T:Txt K mg A):jA P w K mg base (lG P w) true 5 A.nB A.qA ["self","at","number"] (BL A):=by
 refine T.Ic.nP BE (λvs H Q E h=> ?_) (λcdv A' outer s H vs Q E hr hx h=> ?_)
 ·obtain⟨_,_,_,_,_,_,_,_,rfl,_⟩:=h
  rfl
 ·obtain⟨p,d,q,ws,sp,es,v,n,rfl,h⟩:=h
  obtain⟨h,m,hk,hn,hl⟩:=UN h
  refine⟨_,mL.run (iP (i6 (iV (og T).mono hr rfl T.mn T.mH.kp T.oZ hx (iN (iQ 1) iO)))
   (iP (i6 (iV (Ah T).mono hr rfl T.uE T.vC.kp T.Bt hx (iN (iQ 2) iO)))
   (iP (ji (i:=3) BE.nd rfl lo (iY jv (jy Gw (by rfl) T.sU PyProof.Rows.Boot.«len» (iN (i8 (iQ 0) rfl) iO)) (jy qQ (by rfl) T.sU PyProof.Rows.Boot.«len» (iN (i8 (iQ 0) rfl) iO))))
   (iP (mi (jw hr) (i8 (iQ 0) rfl) (iQ 3) (vK (iN (iQ 1) (iN (iQ 2) iO))) rfl)
   (iR (jf (iQ 3))))))),?_⟩
  obtain⟨dx,e⟩:=m.ob
  cases hw:wi v 0 9999 with
  |false=>
   rw[hw]at h
   refine i4 (λ_ _=>False) (λR _=> ?_) (λ_ _ z=>z.elim)
   simp only[jB,iZ,jd,i3,i9,ao,bx,↓reduceIte,L2.start,ak,av,af,ai,ah,aL,bc,aa,ae,ag,and_true,exists_eq_left',aM,bz,aq,jS,hw]
   exact⟨hk,h⟩
  |true=>
   rw[if_pos hw]at h
   cases hw2:wi n (-1000000000000) 1000000000000 with
   |false=>
    rw[hw2]at h
    refine pV (λσ' H'=>H=H'/\σ'=start ["self","at","number","ticket"] [Z9 p,v,n]) (λR hR=> ?_) ?_
    ·simp only[jB,iZ,jd,i3,i9,ao,bx,↓reduceIte,L2.start,ak,av,af,ai,ah,aL,bc,aa,ae,ag,and_true,exists_eq_left',bz,aq,jS,hw]
     exact⟨hk,hR _ _ ⟨rfl,rfl⟩⟩
    rintro Gq hGq _ _ ⟨rfl,rfl⟩
    subst hGq
    refine i4 (λ_ _=>False) (λR _=> ?_) (λ_ _ z=>z.elim)
    simp only[jB,iZ,jd,i3,i9,aT,ao,bx,↓reduceIte,L2.start,ak,av,af,ai,ah,aL,bc,aa,ae,ag,and_true,exists_eq_left',aM,bz,aq,tH,hw2]
    exact⟨hn,h⟩
   |true=>
    rw[if_pos hw2]at h
    obtain⟨i,rfl,i0,i1⟩:=l8 hw
    obtain⟨j,rfl,j0,j1⟩:=l8 hw2
    have ll:=m.ln
    have el:(es.length:Int)+sp.length=ws.length:=by lia
    simp only[kU,jB,jM,ke,Bg,iZ,jd,i3,Jg,jX,jq,i9,mP,zF,jb,aT,ao,bx,↓reduceIte,↓jj,sN,kJ,L2.start,Jo,ak,av,af,ai,ah,aL,bc,aa,ae,aw,ax,ag,and_true,true_and,exists_eq_left',bz,aq,Wl,jU,oq,jS,tH,hw,hw2,e,T.lh,T.jQ,T.m7,Dj,Ru,m.dc,m.sq,LX,aj,el]
    refine⟨hk,hn,λb hb=> ?_⟩
    have s1:ja H (upd H b (.tup [.int i,.int j])):=ja.upd hb
    simp only[and_true,true_and,s1 _ _ e,T.lh,T.jQ,Dj,s1 _ _ m.dc]
    have g:=m.give (x:=(i,j)) hb
    refine⟨by rw[LX];exact aK (show es.length<64 by lia) (by decide),?_⟩
    rw[show putK (BS es) (aJ (ws.length:Int)) (Z9 b)=_ from Px (x:=⟨ws.length,b,i,j⟩)]
    exact h _ _ g.1 g.2
noncomputable def BN (A:Ad):Sp:=λvs H Q E=>∃p d q ws sp es t v,vs=[.ref p,t,v]/\lN A.ju H p d q ws sp es/\Kn H t/\Kn H v/\ws.length<64/\match pd ws t with
 |none=>E (.ref A.ow) none H
 |some y=>if wi v 0 9999=true then∀H' es',lN A.ju H' p d q (ws.set (iv t).toNat (some (iv v,y.2))) sp es'->Out d q H H'->Q .kT H' else E (.ref A.jI) none H
theorem IS:i7 ["self","ticket","at"] ["self","ticket","at"] (iX yP):=fsc
theorem ID(T:Txt K mg A):jA P w K mg base (lG P w) true 5 A.nE A.qC ["self","ticket","at"] (BN A):=by
 refine T.Ig.nP IS (λvs H Q E h=> ?_) (λcdv A' outer s H vs Q E hr hx h=> ?_)
 ·obtain⟨_,_,_,_,_,_,_,_,rfl,_⟩:=h
  rfl
 ·obtain⟨p,d,q,ws,sp,es,t,v,rfl,h⟩:=h
  obtain⟨h,m,ht,hv,hl⟩:=UN h
  refine⟨_,mL.run (iP (i6 (jr (iQ 0) T.lh T.uU (tS T).mono hr T.uO hx (iN (iQ 1) iO)))
   (iP (i6 (iV (og T).mono hr rfl T.mn T.mH.kp T.oZ hx (iN (iQ 2) iO)))
   (iR (mi (jw hr) (i8 (iQ 0) rfl) (iQ 1) (vK (iN (iQ 2) (iN (ky lP (jk (by exact jw hr) (i8 (iQ 0) rfl) (iQ 1) (λ_ _=>rfl)) iU (λ_ _=>rfl)) iO))) rfl)))),?_⟩
  obtain⟨dx,e⟩:=m.ob
  have ll:=m.ln
  cases hp:pd ws t with
  |none=>
   rw[hp]at h
   refine i4 (λ_ _=>False) (λR _=> ?_) (λ_ _ z=>z.elim)
   simp only[jB,iZ,jd,i3,and_assoc,ao,↓jg,L2.start,ak,av,af,ai,ah,ay,aa,ae,V.ref.injEq,ag,and_true,true_and,exists_eq_left',exists_and_left,aq,aF,ql,e,z9,kX]
   refine⟨d,q,ws,sp,es,m,ht,?_⟩
   rw[hp]
   exact h
  |some y=>
   rw[hp]at h
   dsimp only at h
   cases hw:wi v 0 9999 with
   |false=>
    rw[hw]at h
    refine pV (λσ' H'=>H=H'/\σ'=start ["self","ticket","at"] [Z9 p,t,v]) (λR hR=> ?_) ?_
    ·simp only[jB,iZ,jd,i3,and_assoc,ao,↓jg,L2.start,ak,av,af,ai,ah,ay,aa,ae,V.ref.injEq,ag,and_true,true_and,exists_eq_left',exists_and_left,aq,aF,ql,e,z9,kX]
     refine⟨d,q,ws,sp,es,m,ht,?_⟩
     rw[hp]
     exact hR _ _ ⟨rfl,rfl⟩
    rintro Gq hGq _ _ ⟨rfl,rfl⟩
    subst hGq
    refine i4 (λ_ _=>False) (λR _=> ?_) (λ_ _ z=>z.elim)
    simp only[jB,iZ,jd,i3,i9,ao,↓reduceIte,L2.start,ak,av,af,ai,ah,ay,aa,ae,ag,and_true,exists_eq_left',aM,aq,aF,jS,hw]
    exact⟨hv,h⟩
   |true=>
    rw[if_pos hw]at h
    obtain⟨k,rfl,k0,k1⟩:=l8 hw
    have it:MD t=true:=by cases z:MD t with
     |true=>rfl
     |false=>rw[Oo z]at hp;cases hp
    obtain⟨i,rfl⟩:=Fv it
    obtain⟨r,hr,r1,r2,r3,r4⟩:=m.find hp
    have tr:=m.tp r hr
    simp only[jB,jM,ke,iZ,jd,tC,i3,Jg,i9,DO,jb,and_assoc,ao,↓reduceIte,↓jj,↓jg,kL,sN,kJ,zc,L2.start,ak,av,af,ai,ah,ay,aa,ae,V.ref.injEq,ag,and_true,true_and,exists_eq_left',exists_and_left,aq,aF,Wl,jU,oq,ql,e,z9,kX,jS,hw,T.lh,T.jQ,Dj,m.dc,r4,tr]
    refine⟨d,q,ws,sp,es,m,ht,?_⟩
    rw[hp,if_pos (show(some y).isSome=true from rfl)]
    refine⟨hv,λb hb=> ?_⟩
    have s1:ja H (upd H b (.tup [.int k,.int r.n])):=ja.upd hb
    simp only[and_true,true_and,s1 _ _ e,T.lh,T.jQ,Dj,s1 _ _ m.dc]
    have g:=m.move (x:=(k,r.n)) hb hp
    refine⟨by rw[LX];exact aK (show es.length<64 by lia) (by decide),?_⟩
    rw[show putK (BS es) (aJ i) (Z9 b)=_ from Px (x:=⟨i,b,k,r.n⟩)]
    rw[←r3]at h
    exact h _ _ g.1 g.2
noncomputable def DG (A:Ad):Sp:=λvs H Q E=>∃p q os v,vs=[.ref p,v]/\tV A.jE H p q os/\Kn H v/\os.length<1000/\
 if wi v 0 9999=true then Q (.int os.length) (upd H q (.lst ((os++[some (iv v)]).map tv))) else E (.ref A.jI) none H
theorem LK:i7 ["self","at"] ["self","at"] (iX Au):=fsc
theorem Lj(T:Txt K mg A):jA P w K mg base (lG P w) true 5 A.oX A.sg ["self","at"] (DG A):=by
 refine T.Kx.nP LK (λvs H Q E h=> ?_) (λcdv A' outer s H vs Q E hr hx h=> ?_)
 ·obtain⟨_,_,_,_,rfl,_⟩:=h
  rfl
 ·obtain⟨p,q,os,v,rfl,h⟩:=h
  obtain⟨h,m,hk,hl⟩:=Qx h
  refine⟨_,mL.run (iP (i6 (iV (og T).mono hr rfl T.mn T.mH.kp T.oZ hx (iN (iQ 1) iO)))
   (iP (i6 (Cb cu cx rP (i8 (iQ 0) rfl) (iN (iQ 1) iO)))
   (iR (jf (iY qR (jy qQ (by rfl) T.sU PyProof.Rows.Boot.«len» (iN (i8 (iQ 0) rfl) iO)) iU))))),?_⟩
  obtain⟨dx,e⟩:=m.ob
  cases hw:wi v 0 9999 with
  |false=>
   rw[hw]at h
   refine i4 (λ_ _=>False) (λR _=> ?_) (λ_ _ z=>z.elim)
   simp only[jB,iZ,jd,i3,i9,ao,↓reduceIte,L2.start,ak,av,af,ai,ah,ay,aa,ae,ag,and_true,exists_eq_left',aM,aq,aF,jS,hw]
   exact⟨hk,h⟩
  |true=>
   obtain⟨i,rfl,i0,i1⟩:=l8 hw
   rw[if_pos hw]at h
   have e2:upd H q (.lst (os.map tv++[Z_ i])) p=some (.ins A.jE dx (Nn q)):=by rw[iW m.ne];exact e
   simp only[kU,jB,jM,ke,Bg,iZ,jd,tC,i3,i9,B0,zF,jb,ao,↓reduceIte,iS,↓jj,sL,Qq,L2.start,ak,av,af,ai,ah,ay,aa,ae,ag,and_true,true_and,exists_eq_left',aq,aF,jU,oq,jS,hw,e,e2,T.m_,T.mw,JU,m.ls,En]
   refine⟨aD,aK hl (by decide),?_⟩
   rw[bo]at h
   have el:(((os.map tv++[Z_ i]).length:Nat):Int)-1=os.length:=by
    rw[aY,En]
    show((os.length+1:Nat):Int)-1=os.length
    lia
   rw[el]
   exact h
noncomputable def DF (A:Ad):Sp:=λvs H Q E=>∃p q os v x,vs=[.ref p,v,x]/\tV A.jE H p q os/\Kn H v/\Kn H x/\
 if stN os v=true then(if wi x 0 9999=true then Q .kT (upd H q (.lst ((os.set (iv v).toNat (some (iv x))).map tv))) else E (.ref A.jI) none H) else E (.ref A.ow) none H
theorem Pp{os:List (Option Int)}{v:V}(h:stN os v=true):∃i,v= .int i/\0<=i/\i<=os.length-1:=by
 rw[stN,aQ]at h
 exact l8 h.1
theorem LJ:i7 ["self","name","at"] ["self","name","at"] (iX As):=fsc
theorem Li(T:Txt K mg A):jA P w K mg base (lG P w) true 5 A.oW A.sf ["self","name","at"] (DF A):=by
 refine T.Kw.nP LJ (λvs H Q E h=> ?_) (λcdv A' outer s H vs Q E hr hx h=> ?_)
 ·obtain⟨_,_,_,_,_,rfl,_⟩:=h
  rfl
 ·obtain⟨p,q,os,v,x,rfl,h⟩:=h
  obtain⟨h,m,hk,hkx⟩:=Qx h
  refine⟨_,mL.run (iP (i6 (jr (iQ 0) T.m_ T.uV (tT T).mono hr T.uP hx (iN (iQ 1) iO)))
   (iP (i6 (iV (og T).mono hr rfl T.mn T.mH.kp T.oZ hx (iN (iQ 2) iO)))
   (iR (uT (iQ 2) (uS (i8 (iQ 0) rfl) (iQ 1) wA))))),?_⟩
  obtain⟨dx,e⟩:=m.ob
  cases hs:stN os v with
  |false=>
   rw[hs]at h
   refine i4 (λ_ _=>False) (λR _=> ?_) (λ_ _ z=>z.elim)
   simp only[jB,iZ,jd,i3,and_assoc,ao,↓jg,L2.start,ak,av,af,ai,ah,ay,aa,ae,V.ref.injEq,ag,and_true,true_and,exists_eq_left',exists_and_left,aq,aF,ql,kY,e,AY]
   exact⟨q,os,m,hk,by rw[hs];exact h⟩
  |true=>
   obtain⟨i,rfl,h0,h1⟩:=Pp hs
   rw[if_pos hs]at h
   cases hw:wi x 0 9999 with
   |false=>
    rw[hw]at h
    refine pV (λσ' H'=>H=H'/\σ'=start ["self","name","at"] [Z9 p,Z_ i,x]) (λR hR=> ?_) ?_
    ·simp only[jB,iZ,jd,i3,and_assoc,ao,↓jg,L2.start,ak,av,af,ai,ah,ay,aa,ae,V.ref.injEq,ag,and_true,true_and,exists_eq_left',exists_and_left,aq,aF,ql,kY,e,AY]
     refine⟨q,os,m,aD,?_⟩
     rw[if_pos hs]
     exact hR _ _ ⟨rfl,rfl⟩
    rintro Gq hGq _ _ ⟨rfl,rfl⟩
    subst hGq
    refine i4 (λ_ _=>False) (λR _=> ?_) (λ_ _ z=>z.elim)
    simp only[jB,iZ,jd,i3,i9,ao,↓reduceIte,L2.start,ak,av,af,ai,ah,ay,aa,ae,ag,and_true,exists_eq_left',aM,aq,aF,jS,hw]
    exact⟨hkx,h⟩
   |true=>
    obtain⟨j,rfl,j0,j1⟩:=l8 hw
    rw[if_pos hw]at h
    simp only[jB,jM,iZ,jd,i3,jX,i9,jb,and_assoc,ao,↓reduceIte,↓jj,↓jg,xD,E4,L2.start,ak,av,af,ai,ah,ay,aa,ae,V.ref.injEq,ag,and_true,true_and,exists_eq_left',exists_and_left,aq,aF,jU,oq,ql,kY,jS,e,AY,hw,T.m_,T.mw,JU,m.ls,UJ h0 h1]
    refine⟨q,os,m,aD,?_⟩
    rw[if_pos hs]
    refine⟨aD,?_⟩
    rw[show Z_ j=tv (some j) from rfl,Sg]
    exact h
noncomputable def y4 (A:Ad):Sp:=λvs H Q E=>∃p q os v,vs=[.ref p,v]/\tV A.jE H p q os/\Kn H v/\
 if stN os v=true then Q .kT (upd H q (.lst ((os.set (iv v).toNat none).map tv))) else E (.ref A.ow) none H
theorem LH:i7 ["self","name"] ["self","name"] (iX Aq):=fsc
theorem Ds(T:Txt K mg A):jA P w K mg base (lG P w) true 5 A.oU A.r_ ["self","name"] (y4 A):=by
 refine T.Ku.nP LH (λvs H Q E h=> ?_) (λcdv A' outer s H vs Q E hr hx h=> ?_)
 ·obtain⟨_,_,_,_,rfl,_⟩:=h
  rfl
 ·obtain⟨p,q,os,v,rfl,h⟩:=h
  obtain⟨h,m,hk⟩:=Fj h
  refine⟨_,mL.run (iP (i6 (jr (iQ 0) T.m_ T.uV (tT T).mono hr T.uP hx (iN (iQ 1) iO)))
   (iR (uT sS (uS (i8 (iQ 0) rfl) (iQ 1) wA)))),?_⟩
  obtain⟨dx,e⟩:=m.ob
  cases hs:stN os v with
  |false=>
   rw[hs]at h
   simp only[jB,jM,iZ,jd,tC,i3,jX,jb,and_assoc,ao,↓jj,↓jg,xD,E4,L2.start,ak,av,af,ai,ah,ay,aa,ae,V.ref.injEq,ag,and_true,true_and,exists_eq_left',exists_and_left,aq,aF,jU,oq,ql,kY,e,AY]
   exact⟨q,os,m,hk,by rw[hs];exact h⟩
  |true=>
   obtain⟨i,rfl,h0,h1⟩:=Pp hs
   rw[if_pos hs]at h
   simp only[jB,jM,iZ,jd,tC,i3,jX,jb,and_assoc,ao,↓jj,↓jg,xD,E4,L2.start,ak,av,af,ai,ah,ay,aa,ae,V.ref.injEq,ag,and_true,true_and,exists_eq_left',exists_and_left,aq,aF,jU,oq,ql,kY,e,AY,T.m_,T.mw,JU,m.ls,UJ h0 h1]
   refine⟨q,os,m,aD,?_⟩
   rw[if_pos hs]
   rw[show V.kT=tv none from rfl,Sg]
   exact h
noncomputable def BP (A:Ad):Sp:=λvs H Q E=>∃r dx v,vs=[.ref r,v]/\H r=some (.ins A.jK dx [])/\Kn H v/\
 if wi v 1 6=true then(∀h q b d W H',H h=none->H q=none->H b=none->H d=none->WM A.jK A.j8 A.jY H' r h q b d (ah (iv v).toNat (-1)) []->Yo A.jK A.jE A.ju H' r h b W [] [] []->(q≠W.wq/\q≠W.lq/\d≠W.ld)->(H W.wq=none/\H W.lq=none/\H W.ld=none)->(∀y o,H y=some o->y≠r->H' y=some o)->Q .kT H')
 else∀H',ja H H'->E (.ref A.kb) none H'
theorem IU:i7 ["self","many"] ["self","many"] (iX yR):=fsc
theorem IF(T:Txt K mg A):jA P w K mg base (lG P w) true 5 A.nG A.qE ["self","many"] (BP A):=by
 refine T.Ii.nP IU (λvs H Q E h=> ?_) (λcdv A' outer s H vs Q E hr hx h=> ?_)
 ·obtain⟨_,_,_,rfl,_⟩:=h
  rfl
 ·obtain⟨r,dx,v,rfl,h⟩:=h
  obtain⟨k,e,hk⟩:=Fj h
  refine⟨_,mL.run (iP (kG (iQ 0) (rR T.GP (IA T).mono hr rfl T.KC T.J4 hx (iN (iQ 1) iO)) rfl)
   (iP (kG (iQ 0) (zZ T.K_ (Lf T).mono hr rfl T.NT T.L7 hx) rfl)
   (iP (kG (iQ 0) (zZ T.La (Lh T).mono hr rfl T.NU T.L9 hx) rfl)
   (iR (kG (iQ 0) (zZ T.GQ (IC T).mono hr rfl T.KD T.J6 hx) rfl))))),?_⟩
  have Hs:∀{G:Hp} {x dx:Addr} {o:HO},G x=none->G dx=none->ja G (upd (upd G dx (HO.own x)) x o):=λ{G x dx o} hx hdx b u eb=>by rw[iW (iT eb hx),iW (iT eb hdx)];exact eb
  show jM _ _ _ [some (Z9 r),some v] H
  refine pV (λσ' H'=>wi v 1 6=true/\∃h q,H h=none/\H q=none/\xY A.j8 H' h q (ah (iv v).toNat (-1))/\H' r=some (.ins A.jK dx (ly "hands" (.ref h) []))/\(∀b o,H b=some o->b≠r->H' b=some o)/\σ'=[some (Z9 r),some v]) (λR hR=> ?_) ?_
  ·simp only[iZ,jd,i3,jb,and_assoc,aT,iS,rW,rT,aa,ae,V.ref.injEq,ag,bh,and_true,true_and,exists_eq_left',exists_and_left,BK]
   intro x d1 hx hd1 _
   refine⟨d1,rfl,hk.same (Hs hx hd1),?_⟩
   cases hv:wi v 1 6 with
   |false=>
    rw[hv]at k
    exact k _ (Hs hx hd1)
   |true=>
    rw[if_pos rfl]
    intro q H1 hq m1 f1
    obtain⟨_,hq1⟩:=lZ hq
    obtain⟨_,hq2⟩:=lZ hq1
    have npx:=iT e hx
    have npq:=iT e hq2
    rw[f1 _ _ (Hs hx hd1 _ _ e) npx]
    refine⟨T.jR,T.lD,by decide,hR _ _ ⟨hv,x,q,hx,hq2,m1.keep λb o eb hb=> ?_,iS,λb o eb nb=> ?_,rfl⟩⟩
    ·rw[iW (by rcases hb with rfl|rfl;exact aC npx;exact aC npq)];exact eb
    ·rw[iW nb];exact f1 _ _ (Hs hx hd1 _ _ eb) (iT eb hx)
  rintro Gq hGq _ H1 ⟨hv,h,q,hh,hq,m1,e1,f1,rfl⟩
  subst hGq
  rw[if_pos hv]at k
  have nrh:=iT e hh
  have nrq:=iT e hq
  have fresh:∀{G:Hp} {z:Addr},(∀b u,H b=some u->b≠r->G b=some u)->G z=none->r≠z->H z=none:=λ{G z} hG hz np=>by
   cases ez:H z with
   |none=>rfl
   |some u=>rw[hG _ _ ez (aC np)]at hz;cases hz
  refine pV (λσ' H'=>∃b d,H1 b=none/\H1 d=none/\u9 A.jY H' b d []/\H' r=some (.ins A.jK dx (ly "book" (.ref b) (ly "hands" (.ref h) [])))/\(∀b o,H1 b=some o->b≠r->H' b=some o)/\σ'=[some (Z9 r),some v]) (λR hR=> ?_) ?_
  ·simp only[jd,i3,jb,iS,rW,rT,aa,V.ref.injEq,ag,bh,and_true,true_and,exists_eq_left',exists_and_left,DB]
   intro x d1 hx hd1 _
   refine⟨d1,rfl,λd H2 hd m2 f2=> ?_⟩
   obtain⟨_,hq1⟩:=lZ hd
   obtain⟨_,hq2⟩:=lZ hq1
   have npx:=iT e1 hx
   have npq:=iT e1 hq2
   rw[f2 _ _ npx (Hs hx hd1 _ _ e1)]
   refine⟨T.jR,T.oa,(show(1:Nat)<1000 by decide),hR _ _ ⟨x,d,hx,hq2,m2.keep λb o eb hb=> ?_,iS,λb o eb nb=> ?_,rfl⟩⟩
   ·rw[iW (by rcases hb with rfl|rfl;exact aC npx;exact aC npq)];exact eb
   ·rw[iW nb];exact f2 _ _ (iT eb hx) (Hs hx hd1 _ _ eb)
  rintro Gq hGq _ H2 ⟨b,d,hb,hd,m2,e2,f2,rfl⟩
  subst hGq
  have nrb:=iT e1 hb
  have nrd:=iT e1 hd
  refine pV (λσ' H'=>∃w wq,H2 w=none/\H2 wq=none/\tV A.jE H' w wq []/\H' r=some (.ins A.jK dx (ly "weaks" (.ref w) (ly "book" (.ref b) (ly "hands" (.ref h) []))))/\(∀b o,H2 b=some o->b≠r->H' b=some o)/\σ'=[some (Z9 r),some v]) (λR hR=> ?_) ?_
  ·simp only[jd,i3,jb,iS,rW,rT,aa,V.ref.injEq,ag,bh,and_true,true_and,exists_eq_left',exists_and_left,DE]
   intro x d1 hx hd1 _
   refine⟨d1,rfl,λe5 he5=> ?_⟩
   obtain⟨n5,h5⟩:=lZ he5
   obtain⟨_,h52⟩:=lZ h5
   have npx:=iT e2 hx
   have np5:=iT e2 h52
   have f3:∀y o,y≠x->upd (upd H2 d1 (HO.own x)) x (HO.ins A.jE d1 []) y=some o->upd (upd (upd (upd H2 d1 (HO.own x)) x (HO.ins A.jE d1 [])) e5 (.lst [])) x (.ins A.jE d1 (Nn e5)) y=some o:=λy o hy ey=>by rw[iW hy,iW (iT ey he5)];exact ey
   have m3:tV A.jE (upd (upd (upd (upd H2 d1 (HO.own x)) x (HO.ins A.jE d1 [])) e5 (.lst [])) x (.ins A.jE d1 (Nn e5))) x e5 []:=⟨⟨d1,iS⟩,by rw[iW n5,iS];rfl⟩
   generalize upd (upd (upd (upd H2 d1 (HO.own x)) x (HO.ins A.jE d1 [])) e5 (.lst [])) x (.ins A.jE d1 (Nn e5))=H3 at*
   rw[f3 _ _ npx (Hs hx hd1 _ _ e2)]
   refine⟨T.jR,T.k_,by simp[ly,Vz],hR _ _ ⟨x,e5,hx,h52,m3.keep λb o eb hb=> ?_,iS,λb o eb nb=> ?_,rfl⟩⟩
   ·rw[iW (by rcases hb with rfl|rfl;exact aC npx;exact aC np5)];exact eb
   ·rw[iW nb];exact f3 _ _ (iT eb hx) (Hs hx hd1 _ _ eb)
  rintro Gq hGq _ H3 ⟨w,wq,hw2,hwq2,m3,e3,f3,rfl⟩
  subst hGq
  have nrw:=iT e2 hw2
  have nrwq:=iT e2 hwq2
  simp only[jd,i3,jb,iS,rW,rT,aa,V.ref.injEq,ag,bh,and_true,true_and,exists_eq_left',exists_and_left,BM]
  intro x d1 hx hd1 _
  refine⟨d1,rfl,λld lq H4 hld hlq f4 m4=> ?_⟩
  have un:∀{z:Addr},upd (upd H3 d1 (HO.own x)) x (HO.ins A.ju d1 []) z=none->H3 z=none:=λhz=>(lZ (lZ hz).2).2
  have npx:=iT e3 hx
  have npd:=iT e3 (un hld)
  have npq:=iT e3 (un hlq)
  rw[f4 _ _ npx (Hs hx hd1 _ _ e3)]
  refine⟨T.jR,T.lE,by simp[ly,Vz,Xv,Xu],?_⟩
  rw[T7]
  have g:∀y o,H3 y=some o->y≠r->upd H4 r (.ins A.jK dx (yH h b w x)) y=some o:=λy o ey ny=>by
   rw[iW ny];exact f4 _ _ (iT ey hx) (Hs hx hd1 _ _ ey)
  have bk:∀{z:Addr},H3 z=none->r≠z->H z=none:=λ{z} hz np=>by
   cases ez:H z with
   |none=>rfl
   |some u=>rw[f3 _ _ (f2 _ _ (f1 _ _ ez (aC np)) (aC np)) (aC np)]at hz;cases hz
  have bk2:∀{z:Addr},H2 z=none->r≠z->H z=none:=λ{z} hz np=>by
   cases ez:H z with
   |none=>rfl
   |some u=>rw[f2 _ _ (f1 _ _ ez (aC np)) (aC np)]at hz;cases hz
  have hd3:=f3 _ _ m2.dc (aC nrd)
  have hq2:=f2 _ _ m1.ls (aC nrq)
  have hq3:=f3 _ _ hq2 (aC nrq)
  refine k h q b d ⟨w,wq,x,ld,lq⟩ _ hh hq (fresh f1 hb nrb) (fresh f1 hd nrd) ⟨⟨dx,w,x,iS⟩,m1.keep λy o ey hy=> ?_,m2.keep λy o ey hy=> ?_⟩ ⟨⟨dx,iS⟩,m3.keep λy o ey hy=> ?_,⟨[],?_⟩,iT m3.ls (un hlq)⟩ ⟨iT hq2 hwq2,iT hq3 (un hlq),iT hd3 (un hld)⟩ ⟨bk2 hwq2 nrwq,bk (un hlq) npq,bk (un hld) npd⟩ λy o ey ny=>g _ _ (f3 _ _ (f2 _ _ (f1 _ _ ey ny) ny) ny) ny
  ·have ny:y≠r:=by rcases hy with rfl|rfl;exact aC nrh;exact aC nrq
   exact g _ _ (f3 _ _ (f2 _ _ ey ny) ny) ny
  ·have ny:y≠r:=by rcases hy with rfl|rfl;exact aC nrb;exact aC nrd
   exact g _ _ (f3 _ _ ey ny) ny
  ·have ny:y≠r:=by rcases hy with rfl|rfl;exact aC nrw;exact aC nrwq
   exact g _ _ ey ny
  ·obtain⟨dl,el⟩:=m4.ob
   exact⟨⟨dl,by rw[iW (aC npx)];exact el⟩,by rw[iW (aC npd)];exact m4.dc,by rw[iW (aC npq)];exact m4.sq,m4.xs,(λe he=>by cases he),m4.ln⟩
noncomputable def y6:Sp:=λvs H Q _=>∃s a,vs=[.int s,.int a]/\0<=s/\s<=8/\0<=a/\a<=2/\Q (.int (2*(4*s+a))) H
theorem LM:i7 ["slots","age"] ["slots","age"] (iX Az):=fsc
theorem Dt(T:Txt K mg A):jA P w K mg base (lG P w) true 6 A.qg A.sk ["slots","age"] y6:=by
 refine T.yh.nP LM (λvs H Q E h=> ?_) (λcdv A' outer s H vs Q E hr hx h=> ?_)
 ·obtain⟨_,_,rfl,_⟩:=h
  rfl
 ·obtain⟨s',a,rfl,h⟩:=h
  obtain⟨q,s0,s1,a0,a1⟩:=UN h
  refine⟨_,mL.run (iR (jf (iV (G5 T).mono hr rfl T.wW T.zT.kp T.HV hx (iN (iY jv (iY uG iU (iQ 0)) (iQ 1)) iO)))),?_⟩
  simp only[kU,ke,iZ,jd,tC,i3,i9,mP,EX,DK,true_or,aV,aW,aT,bD,ao,L2.start,ak,av,af,ai,ah,ay,aa,ae,ag,and_true,true_and,exists_eq_left',aq,aF,AU,Kn]
  rw[if_pos (DI (by lia) (by lia))]
  exact q
noncomputable def AQ (A:Ad):Sp:=λvs H Q E=>∃p q ws v,vs=[.ref p,v]/\kz A.i_ H p q ws/\Kn H v/\jJ ws/\
 if wi v 0 (ws.length-1)=true then(match l_ ws (iv v).toNat with
  |some n=>Q (.int n) H
  |none=>E (.ref A.pj) none H) else E (.ref A.jI) none H
theorem vW:i7 ["memory","at","word","number"] ["memory","at"] (iX xn):=fsc
theorem G4(T:Txt K mg A):jA P w K mg base (lG P w) true 6 A.nW A.pM ["memory","at"] (AQ A):=by
 refine T.zQ.nP vW (λvs H Q E h=> ?_) (λcdv A' outer s H vs Q E hr hx h=> ?_)
 ·obtain⟨_,_,_,_,rfl,_⟩:=h
  rfl
 ·obtain⟨p,q,ws,v,rfl,h⟩:=h
  obtain⟨h,m,hk,wo'⟩:=Qx h
  refine⟨_,mL.run (iP (ji (i:=2) vW.nd rfl lo (jr (iQ 0) T.jZ T.uI (sV T).mono hr T.uA hx (iN (iQ 1) iO)))
   (iP (jo (mq (uH (jc N3 (iV (yG T).mono hr rfl T.ym T.wm.kp T.BU hx (iN (iQ 2) iO)) i5 (jx _)) (sT (kH (jz (iV (Oh T).mono hr rfl T.D0 T.Gf.kp T.Pz hx (iN (iV (Ak T).mono hr rfl T.yp T.xF.kp T.CT hx (iN (iQ 2) iO)) iO)) (λ_=>rfl)))))) (iR (jH hx rfl T.Dc T.DJ rfl (iN i5 iO))) jh)
   (iP (ji (i:=3) vW.nd rfl lo (iV (Ak T).mono hr rfl T.yp T.xF.kp T.CT hx (iN (iQ 2) iO)))
   (iP (jo (kH (jz (iV (Pb T).mono hr rfl T.KH T.Ky.kp T.QH hx (iN (iQ 0) (iN (iQ 1) (iN (iY j3 (iQ 3) iU) iO)))) (λ_=>rfl))) (iR (jH hx rfl T.Dc T.DJ rfl (iN i5 iO))) jh)
   (iR (jf (iQ 3))))))),?_⟩
  obtain⟨dx,e⟩:=m.ob
  simp only[kU,kj,jM,kM,jC,ke,Pt,q9,iZ,jd,tC,i3,jX,jq,i9,kO,m8,Uq,eqv,pX,and_assoc,tU,ao,bx,↓reduceIte,aN,↓jg,decide_eq_false_iff_not,L2.start,ak,av,af,ai,ah,aL,bc,aa,ae,aw,ax,V.int.injEq,V.ref.injEq,ag,and_true,true_and,exists_eq_left',exists_and_left,exists_eq_left,bz,aq,BR,↓jD,ql,tE,vm,AW,Hq,FD,e,K9]
  refine⟨q,ws,m,hk,?_⟩
  cases hw:wi v 0 (ws.length-1)<;>simp only[hw,if_true,if_false,aM]at h⊢
  ·exact h
  ·obtain⟨i,rfl,h0,h1⟩:=l8 hw
   obtain⟨x,hx'⟩:=O6 wo' (show(iv (.int i)).toNat<ws.length by show i.toNat<_;lia)
   have ei:(((iv (Z_ i)).toNat:Nat):Int)=i:=cP h0
   rw[rg,ei]at h
   generalize ws.getD (iv (Z_ i)).toNat 0=W at*
   refine⟨aD,?_⟩
   rw[hx']
   dsimp only
   rcases GD hx' with ⟨rfl,c⟩|⟨rfl,c⟩|⟨rfl,c⟩
   ·rw[if_neg (by lia)]at h
    rw[if_pos YL];exact h
   ·rw[if_neg (λz=>z rfl),OG (by lia)]
    refine⟨aD,_,rfl,?_⟩
    by_cases d:0<=W/2/\W/2<=34/\W/2%4<=2
    ·rw[if_neg (λz=>z d)]
     refine⟨aD,by decide,by decide,q,ws,m,aD,?_⟩
     by_cases f:i+W/2/4<=ws.length-1
     ·rw[if_pos ⟨c.1,by lia,by lia,by lia,f⟩]at h
      rw[if_neg (by simp only[wi];simp;lia)];exact h
     ·rw[if_neg (by lia)]at h
      rw[if_pos (by simp only[wi];simp;lia)];exact h
    ·rw[if_pos d]
     rw[if_neg (by lia)]at h
     exact h
   ·rw[if_neg (by lia)]at h
    rw[if_pos YM];exact h
noncomputable def ET (A:Ad):Sp:=λvs H Q E=>∃p d ks v,vs=[.ref p,v]/\u9 A.jY H p d ks/\Kn H v/\
 if wi v 0 9999=true then(∀H',u9 A.jY H' p d (IJ ks (iv v))->(∀b o,H b=some o->b≠d->H' b=some o)->Q .kT H') else E (.ref A.jI) none H
theorem T9{ks:List Int}{k:Int}(h:¬k∈ks):IJ ks k=ks:=List.filter_eq_self.mpr λx hx=>decide_eq_true λz=>h (z▸hx)
theorem M3:i7 ["self","place"] ["self","place"] (iX Cq):=fsc
theorem MT(T:Txt K mg A):jA P w K mg base (lG P w) true 6 A.qc A.tY ["self","place"] (ET A):=by
 refine T.Mt.nP M3 (λvs H Q E h=> ?_) (λcdv A' outer s H vs Q E hr hx h=> ?_)
 ·obtain⟨_,_,_,_,rfl,_⟩:=h
  rfl
 ·obtain⟨p,d,ks,v,rfl,h⟩:=h
  obtain⟨h,m,hk⟩:=Fj h
  refine⟨_,mL.run (iR (jo (jz (jr (iQ 0) T.sO T.Ob (MS T).mono hr T.ND hx (iN (iQ 1) iO)) (λ_=>rfl)) (iR (i6 (ME (i8 (iQ 0) rfl) (iQ 1) ⟨rfl,rfl,rfl,rfl⟩))) jh)),?_⟩
  obtain⟨dx,e⟩:=m.ob
  cases hw:wi v 0 9999 with
  |false=>
   rw[hw]at h
   simp only[kj,jB,kM,iZ,jd,i3,jb,pX,and_assoc,ao,↓jj,↓jg,kJ,L2.start,Jn,ak,av,af,ai,ah,ay,aa,ae,V.ref.injEq,ag,and_true,true_and,exists_eq_left',exists_and_left,exists_eq_left,decide_eq_true_eq,aq,aF,jU,oq,ql,AK,e,OL]
   exact⟨d,ks,m,hk,by rw[hw];exact h⟩
  |true=>
   obtain⟨i,rfl,i0,i1⟩:=l8 hw
   rw[if_pos hw]at h
   simp only[kj,jB,kM,iZ,jd,i3,jb,pX,and_assoc,ao,↓jj,↓jg,kJ,L2.start,Jn,ak,av,af,ai,ah,ay,aa,ae,V.ref.injEq,ag,and_true,true_and,exists_eq_left',exists_and_left,exists_eq_left,decide_eq_true_eq,aq,aF,jU,oq,ql,AK,e,OL,T.sO,T.lK,OM]
   refine⟨d,ks,m,aD,?_⟩
   rw[if_pos hw]
   by_cases z:i∈ks
   ·rw[if_pos (show iv (Z_ i)∈ks from z)]
    have e2:mX (Kc ks) (aJ i)=some (.bl true):=by rw[Kd,if_pos z]
    simp only[m.dc,e2,QI]
    exact h _ m.put λb o eb nb=>pY eb nb
   ·rw[if_neg (show¬iv (Z_ i)∈ks from z)]
    refine h H ?_ λb o eb _=>eb
    rw[show IJ ks (iv (Z_ i))=ks from T9 z]
    exact m
noncomputable def zk (A:Ad):Sp:=λvs H Q E=>∃r h q b d ws ks,vs=[.ref r]/\WM A.jK A.j8 A.jY H r h q b d ws ks/\jJ ws/\ws.length<=6/\∀f H',H f=none->ja H H'->H' f=some (.lst ((Yg ws).map Z_))->Q (.ref f) H'
theorem Fc:i7 ["self"] ["self"] (iX s_):=fsc
theorem E8(T:Txt K mg A):jA P w K mg base (lG P w) true 6 A.lW A.oB ["self"] (zk A):=by
 refine T.E3.nP Fc (λvs H Q E h=> ?_) (λcdv A' outer s H vs Q E hr hx h=> ?_)
 ·obtain⟨_,_,_,_,_,_,_,rfl,_⟩:=h
  rfl
 ·obtain⟨r,h,q,b,d,ws,ks,rfl,h⟩:=h
  obtain⟨k,m,wo,hl⟩:=Qx h
  refine⟨_,mL.run (iR (jf (pR (fsc:=iX s_) (N2:=[]) (js:=[]) ⟨rfl,rfl,by decide+kernel,by decide+kernel,by decide+kernel,by decide+kernel,by decide+kernel,by decide+kernel,by decide+kernel⟩ rfl rfl (by rfl) (kx (kr (i8 (iQ 0) rfl) T.qa T.Aa (yF T).mono hr T.zB hx)) (λ_ _ _ _=>(pe (jc rQ (iV (yG T).mono hr rfl T.ym T.wm.kp T.BU wj (iN (iQ 0) iO)) i5 (jx _)))) (λ_ _ _ _=>(iV (Ak T).mono hr rfl T.yp T.xF.kp T.CT wj (iN (iQ 0) iO)))))),?_⟩
  obtain⟨dx,w,l,e⟩:=m.ob
  obtain⟨dh,eh⟩:=m.hd.ob
  simp only[kU,jd,i3,jb,ao,tJ,uR,qj,↓jj,↓jg,L2.start,ak,av,af,ai,ah,ay,aa,V.ref.injEq,ag,and_true,true_and,exists_eq_left',exists_and_left,aq,aF,jU,oq,ql,e,T.jR,T.lD,Eb,eh,KP,vk]
  refine⟨q,ws,m.hd,λl0 hl0=>⟨⟨_,mj.of iS⟩,?_⟩⟩
  have hsl:upd H l0 (.lst (ws.map Z_)) l0=some (.lst (ws.map Z_)):=iS
  have s0:ja H (upd H l0 (.lst (ws.map Z_))):=ja.upd hl0
  refine uN.Mp (λx=>ot (iv x)) (λx=> .int (iv x/2)) (mj.of hsl) (by rw[aj];exact aH hl (by decide)) (λx hx' K' hK=> ?_) (λx hx' hp K' hK=> ?_) λl2 hl2=> ?_
  ·obtain⟨w,hw',rfl⟩:=List.mem_map.mp hx'
   obtain⟨y,hy⟩:=Option.isSome_iff_exists.mp (wo w hw')
   simp only[jC,ke,iZ,jd,tC,i3,i9,Md,eqv,aa,ag,and_true,exists_eq_left',↓jD,vm,hy]
   refine⟨aD,?_⟩
   have hd':decide (y=bt "place")=ot w:=by
    rcases GD hy with ⟨rfl,c⟩|⟨rfl,c⟩|⟨rfl,c⟩
    ·rw[decide_eq_false Xy];exact(decide_eq_false (by lia)).symm
    ·rw[decide_eq_false Xx];exact(decide_eq_false (by lia)).symm
    ·rw[decide_eq_true rfl];exact(decide_eq_true (by lia)).symm
   rw[hd'];exact hK
  ·obtain⟨w,hw',rfl⟩:=List.mem_map.mp hx'
   obtain⟨y,hy⟩:=Option.isSome_iff_exists.mp (wo w hw')
   simp only[iZ,jd,i3,i9,aa,ag,and_true,exists_eq_left',AW,hy]
   have hp':ot w=true:=hp
   simp only[ot,decide_eq_true_eq]at hp'
   refine⟨aD,?_⟩
   rw[OG (by lia)]
   exact hK
  ·obtain⟨_,hl3⟩:=lZ hl2
   refine k _ _ hl3 (s0.trans (ja.upd hl2)) ?_
   rw[iS]
   simp only[Yg,dP,bB]
   rfl
noncomputable def R7 (A:Ad):Sp:=λvs H Q E=>∃p q ws v g,vs=[.ref p,v,g]/\kz A.i_ H p q ws/\Kn H v/\Kn H g/\ws.length<=4000/\
 if wi g 0 8=true then(if wi v 0 (ws.length-1-iv g)=true then
   (∀H',kz A.i_ H' p q (laid ws (iv v).toNat (iv g).toNat)->(∀b o,H b=some o->b≠q->H' b=some o)->Q .kT H')
  else E (.ref A.jI) none H) else E (.ref A.kb) none H
theorem R5:i7 ["memory","at","slots","place"] ["memory","at","slots"] (iX R4):=fsc
theorem VH(T:Txt K mg A):jA P w K mg base (lG P w) true 7 A.F2 A.Js ["memory","at","slots"] (R7 A):=by
 refine T.Q6.nP R5 (λvs H Q E h=> ?_) (λcdv A' outer s H vs Q E hr hx h=> ?_)
 ·obtain⟨_,_,_,_,_,rfl,_⟩:=h
  rfl
 ·obtain⟨p,q,ws,v,g,rfl,h⟩:=h
  obtain⟨h,m,hk,hg,hl⟩:=UN h
  refine⟨_,mL.run (iP (i6 (iV (BC T).mono hr rfl T.vc T.wN.kp T.CS hx (iN (iQ 2) iO)))
   (iP (jo (kH (jz (iV (Pb T).mono hr rfl T.KH T.Ky.kp T.QH hx (iN (iQ 0) (iN (iQ 1) (iN (iQ 2) iO)))) (λ_=>rfl))) (iR (jH hx rfl T.vw T.vy rfl (iN i5 iO))) jh)
   (iP (i6 (jr (iQ 0) T.jZ T.qk (pw T).mono hr T.p_ hx (iN (iQ 1) (iN (iV (Dt T).mono hr rfl T.wy T.yh.kp T.Eu hx (iN (iQ 2) (iN iU iO))) iO))))
   (iR (k7 hx.own rfl (MH rfl T.rB (iN (iY jv (iQ 1) iU) (iN (iY jv (iY jv (iQ 1) iU) (iQ 2)) iO))) (jO (i:=3) R5.nd rfl lo)
    (iR (i6 (jr (iQ 0) T.jZ T.qk (pw T).mono hr T.p_ hx (iN (iQ 3) (iN (mv T.vx) iO)))))))))),?_⟩
  obtain⟨dx,e⟩:=m.ob
  cases hg2:wi g 0 8 with
  |false=>
   refine i4 (λ_ _=>False) (λR _=> ?_) (λ_ _ z=>z.elim)
   simp only[jB,iZ,jd,i3,i9,ao,bx,↓reduceIte,L2.start,ak,av,af,ai,ah,aL,bc,aa,ae,ag,and_true,exists_eq_left',aM,bz,aq,rq,hg2]
   rw[hg2]at h
   exact⟨hg,h⟩
  |true=>
   obtain⟨j,rfl,j0,j1⟩:=l8 hg2
   rw[if_pos hg2]at h
   refine pV (λσ' H'=>H=H'/\σ'=[some (Z9 p),some v,some (Z_ j),none]) (λR hR=> ?_) ?_
   ·simp only[jB,iZ,jd,i3,i9,ao,bx,↓reduceIte,L2.start,ak,av,af,ai,ah,aL,bc,aa,ae,ag,and_true,exists_eq_left',bz,aq,rq,hg2]
    exact⟨aD,hR _ _ ⟨rfl,rfl⟩⟩
   rintro Gq hGq _ _ ⟨rfl,rfl⟩
   subst hGq
   cases hw:wi v 0 (ws.length-1-j) with
   |false=>
    refine i4 (λ_ _=>False) (λR _=> ?_) (λ_ _ z=>z.elim)
    simp only[kj,kM,q9,iZ,jd,tC,i3,i9,kO,pX,and_assoc,ao,aN,af,ai,aa,ae,V.int.injEq,V.ref.injEq,ag,and_true,true_and,exists_eq_left',exists_and_left,exists_eq_left,aq,BR,FD]
    rw[if_neg (by show¬(wi v 0 (ws.length-1-j)=true);rw[hw];intro z;cases z)]at h
    refine⟨q,ws,m,hk,?_⟩
    rw[hw];exact h
   |true=>
    obtain⟨i,rfl,i0,i1⟩:=l8 hw
    rw[if_pos (show wi (Z_ i) 0 (ws.length-1-iv (Z_ j))=true from hw)]at h
    refine pV (λσ' H'=>H=H'/\σ'=[some (Z9 p),some (Z_ i),some (Z_ j),none]) (λR hR=> ?_) ?_
    ·simp only[kj,kM,q9,iZ,jd,tC,i3,i9,kO,pX,and_assoc,ao,aN,af,ai,aa,ae,V.int.injEq,V.ref.injEq,ag,and_true,true_and,exists_eq_left',exists_and_left,exists_eq_left,aq,BR,FD]
     refine⟨q,ws,m,aD,?_⟩
     rw[if_neg (by rw[hw];intro z;cases z)]
     exact hR _ _ ⟨rfl,rfl⟩
    rintro Gq hGq _ _ ⟨rfl,rfl⟩
    subst hGq
    simp only[jB,jM,ke,iZ,jd,tC,i3,i9,mP,and_assoc,cQ,aT,bD,lT,Rj,↓jg,aa,ae,V.int.injEq,ag,and_true,true_and,exists_eq_left',exists_and_left,ql,y6,e,GN]
    refine⟨j0,j1,p,q,ws,_,_,rfl,m,aD,aD,?_⟩
    rw[if_pos (by simp[wi];lia),wB,if_neg (by lia),if_pos (by lia)]
    dsimp only
    refine⟨by lia,by lia,by lia,by lia,?_⟩
    rw[show(i+1+j-(i+1)).toNat=j.toNat by lia,show(iv (Z_ i)).toNat=i.toNat from rfl,show iv (Z_ (2*(4*j+0)))=8*(j.toNat:Int) by show 2*(4*j+0)=_;lia]
    refine lA.range (λt σ H'=>∃v3,σ=[some (.ref p),some (.int i),some (.int j),v3]/\kz A.i_ H' p q (blank (ws.set i.toNat (8*(j.toNat:Int))) (i.toNat+1) t)/\(∀b o,H b=some o->b≠q->H' b=some o))
     ⟨_,rfl,m.put _ _,λb o eb nb=>pY eb nb⟩ ?_ ?_
    ·rintro t σ H1 ht ⟨v3,rfl,m1,b1⟩
     obtain⟨dy,e1⟩:=m1.ob
     simp only[jB,iZ,jd,tC,i3,jq,aT,↓jg,aa,ae,aw,ax,ag,and_true,true_and,exists_eq_left',ql,e1,GN]
     refine⟨p,q,_,_,_,rfl,m1,aD,aD,?_⟩
     rw[if_pos (by rw[vo,bf];simp[wi];lia),wB,if_pos rfl]
     dsimp only
     rw[show(iv (Z_ (i+1+(t:Int)))).toNat=i.toNat+1+t by show(i+1+(t:Int)).toNat=_;lia]
     exact⟨m1.put _ _,λb o eb nb=>by rw[iW nb];exact b1 b o eb nb⟩
    ·rintro σ H1 ⟨v3,rfl,m1,b1⟩
     rw[Tr]at m1
     exact h _ m1 b1
noncomputable def sH (A:Ad):Sp:=λvs H Q E=>∃p q ws v,vs=[.ref p,v]/\kz A.i_ H p q ws/\Kn H v/\jJ ws/\
 if wi v 0 (ws.length-1)=true then(match l_ ws (iv v).toNat with
  |some n=>Q (.int (n/4)) H
  |none=>E (.ref A.pj) none H) else E (.ref A.jI) none H
theorem M9:i7 ["memory","at"] ["memory","at"] (iX Cu):=fsc
theorem Ag(T:Txt K mg A):jA P w K mg base (lG P w) true 7 A.rL A.ud ["memory","at"] (sH A):=by
 refine T.wt.nP M9 (λvs H Q E h=> ?_) (λcdv A' outer s H vs Q E hr hx h=> ?_)
 ·obtain⟨_,_,_,_,rfl,_⟩:=h
  rfl
 ·obtain⟨p,q,ws,v,rfl,h⟩:=h
  obtain⟨h,m,hk,wo'⟩:=Qx h
  refine⟨_,mL.run (iR (jf (iY j3 (iV (G4 T).mono hr rfl T.wV T.zQ.kp T.HU hx (iN (iQ 0) (iN (iQ 1) iO))) iU))),?_⟩
  simp only[kU,ke,iZ,jd,tC,i3,i9,m8,and_assoc,tU,aV,aW,ao,L2.start,ak,av,af,ai,ah,ay,aa,ae,V.ref.injEq,ag,and_true,true_and,exists_eq_left',exists_and_left,aq,aF,AQ]
  refine⟨q,ws,m,hk,wo',?_⟩
  cases hw:wi v 0 (ws.length-1)<;>simp only[hw,if_true,if_false,aM]at h⊢
  ·exact h
  ·cases hc:l_ ws (iv v).toNat<;>rw[hc]at h<;>exact h
noncomputable def AV (A:Ad):Sp:=λvs H Q E=>∃p q ws v,vs=[.ref p,v]/\kz A.i_ H p q ws/\Kn H v/\jJ ws/\
 if wi v 0 (ws.length-1)=true then(match l_ ws (iv v).toNat with
  |some n=>Q (.int (n/4+1)) H
  |none=>E (.ref A.pj) none H) else E (.ref A.jI) none H
theorem M_:i7 ["memory","at"] ["memory","at"] (iX Cv):=fsc
theorem Aj(T:Txt K mg A):jA P w K mg base (lG P w) true 8 A.rM A.ue ["memory","at"] (AV A):=by
 refine T.wu.nP M_ (λvs H Q E h=> ?_) (λcdv A' outer s H vs Q E hr hx h=> ?_)
 ·obtain⟨_,_,_,_,rfl,_⟩:=h
  rfl
 ·obtain⟨p,q,ws,v,rfl,h⟩:=h
  obtain⟨h,m,hk,wo'⟩:=Qx h
  refine⟨_,mL.run (iR (jf (iY jv (iV (Ag T).mono hr rfl T.vG T.wt.kp T.BV hx (iN (iQ 0) (iN (iQ 1) iO))) iU))),?_⟩
  simp only[kU,ke,iZ,jd,tC,i3,i9,mP,and_assoc,ao,L2.start,ak,av,af,ai,ah,ay,aa,ae,V.ref.injEq,ag,and_true,exists_eq_left',exists_and_left,aq,aF,sH]
  refine⟨q,ws,m,hk,wo',?_⟩
  cases hw:wi v 0 (ws.length-1)<;>simp only[hw,if_true,if_false,aM]at h⊢
  ·exact h
  ·cases hc:l_ ws (iv v).toNat<;>rw[hc]at h<;>exact h
noncomputable def FC (A:Ad):Sp:=λvs H Q E=>∃p q ws v g,vs=[.ref p,v,g]/\kz A.i_ H p q ws/\Kn H v/\Kn H g/\jJ ws/\
 if wi v 0 (ws.length-1)=true then(match l_ ws (iv v).toNat with
  |some n=>if wi g 0 2=true then Q .kT (upd H q (.lst ((ws.set (iv v).toNat (2*(4*(n/4)+iv g))).map Z_))) else E (.ref A.kb) none H
  |none=>E (.ref A.pj) none H) else E (.ref A.jI) none H
theorem Pj:i7 ["memory","at","age","slots"] ["memory","at","age"] (iX Ov):=fsc
theorem Ll(T:Txt K mg A):jA P w K mg base (lG P w) true 8 A.B4 A.DS ["memory","at","age"] (FC A):=by
 refine T.Ft.nP Pj (λvs H Q E h=> ?_) (λcdv A' outer s H vs Q E hr hx h=> ?_)
 ·obtain⟨_,_,_,_,_,rfl,_⟩:=h
  rfl
 ·obtain⟨p,q,ws,v,g,rfl,h⟩:=h
  obtain⟨h,m,hk,hg,wo'⟩:=UN h
  refine⟨_,mL.run (iP (ji (i:=3) Pj.nd rfl lo (iV (Ag T).mono hr rfl T.vG T.wt.kp T.BV hx (iN (iQ 0) (iN (iQ 1) iO))))
   (iP (jo (kH (jz (iV (j9 T).mono hr rfl T.j7 T.jW.kp T.kD hx (iN (iQ 2) (iN iU (iN (mv T.uv) iO)))) (λ_=>rfl))) (iR (jH hx rfl T.n_ T.oo rfl (iN i5 iO))) jh)
   (iR (i6 (jr (iQ 0) T.jZ T.qk (pw T).mono hr T.p_ hx (iN (iQ 1) (iN (iV (Dt T).mono hr rfl T.wy T.yh.kp T.Eu hx (iN (iQ 3) (iN (iQ 2) iO))) iO))))))),?_⟩
  obtain⟨dx,e⟩:=m.ob
  simp only[kj,jB,jM,kM,q9,iZ,jd,tC,i3,jX,jq,i9,kO,pX,and_assoc,ao,bx,aN,↓jg,L2.start,ak,av,af,ai,ah,aL,bc,aa,ae,aw,ax,V.int.injEq,V.ref.injEq,ag,and_true,true_and,exists_eq_left',exists_and_left,exists_eq_left,bz,aq,BR,ql,sH,jG,y6,e,GN]
  refine⟨q,ws,m,hk,wo',?_⟩
  cases hw:wi v 0 (ws.length-1)<;>simp only[hw,if_true,if_false,aM]at h⊢
  ·exact h
  ·cases hc:l_ ws (iv v).toNat<;>rw[hc]at h<;>simp only at h⊢
   ·exact h
   ·refine⟨hg,?_⟩
    cases hg2:wi g 0 2<;>simp only[hg2,if_true,if_false,aM,bR]at h⊢
    ·exact h
    ·obtain⟨j,rfl,j0,j1⟩:=l8 hg2
     obtain⟨c1,c2,c3,c4,c5⟩:=CV hc
     refine⟨j,rfl,by lia,by lia,j0,j1,p,q,ws,v,_,rfl,m,hk,aD,?_⟩
     rw[if_pos hw,wB,if_neg (by lia),if_pos (by lia)]
     exact h
noncomputable def AJ (i n:Int):List Int:=(bZ (n/4).toNat).map λt:Nat=>i+1+(t:Int)
noncomputable def qu (A:Ad):Sp:=λvs H Q E=>∃p q ws v,vs=[.ref p,v]/\kz A.i_ H p q ws/\Kn H v/\jJ ws/\ws.length<=4000/\
 if wi v 0 (ws.length-1)=true then(match l_ ws (iv v).toNat with
  |some n=>∀l,H l=none->Q (.ref l) (upd H l (.lst ((AJ (iv v) n).map Z_)))
  |none=>E (.ref A.pj) none H) else E (.ref A.jI) none H
theorem AH:i7 ["memory","at","slots"] ["memory","at"] (iX xp):=fsc
theorem Af(T:Txt K mg A):jA P w K mg base (lG P w) true 8 A.nY A.pO ["memory","at"] (qu A):=by
 refine T.vB.nP AH (λvs H Q E h=> ?_) (λcdv A' outer s H vs Q E hr hx h=> ?_)
 ·obtain⟨_,_,_,_,rfl,_⟩:=h
  rfl
 ·obtain⟨p,q,ws,v,rfl,h⟩:=h
  obtain⟨h,m,hk,wo',hl⟩:=UN h
  refine⟨_,mL.run (iP (ji (i:=2) AH.nd rfl lo (iV (Ag T).mono hr rfl T.vG T.wt.kp T.BV hx (iN (iQ 0) (iN (iQ 1) iO))))
   (iR (jf (N7 (by rfl) rfl T.yC rfl T.rB (iN (iY jv (iQ 1) iU) (iN (iY jv (iY jv (iQ 1) iU) (iQ 2)) iO)))))),?_⟩
  cases hw:wi v 0 (ws.length-1) with
  |false=>
   simp only[kU,jM,ke,iZ,jd,tC,i3,jX,jq,i9,mP,and_assoc,aT,bD,ao,bx,L2.start,FU,ak,av,af,ai,ah,aL,bc,aa,ae,aw,ax,V.ref.injEq,ag,and_true,exists_eq_left',exists_and_left,and_false,bz,aq,sH]
   rw[hw]at h
   exact⟨q,ws,m,hk,wo',by rw[hw];exact h⟩
  |true=>
   obtain⟨i,rfl,i0,i1⟩:=l8 hw
   rw[if_pos hw]at h
   cases hc:l_ ws (iv (Z_ i)).toNat with
   |none=>
    rw[hc]at h
    simp only[kU,jM,ke,iZ,jd,tC,i3,jX,jq,i9,mP,and_assoc,aT,bD,ao,bx,L2.start,FU,ak,av,af,ai,ah,aL,bc,aa,ae,aw,ax,V.ref.injEq,ag,and_true,exists_eq_left',exists_and_left,bz,aq,sH]
    exact⟨q,ws,m,aD,wo',by rw[if_pos hw,hc];exact h⟩
   |some n=>
    rw[hc]at h
    dsimp only at h
    simp only[kU,jM,ke,iZ,jd,tC,i3,jX,jq,i9,mP,and_assoc,aT,bD,ao,bx,L2.start,FU,ak,av,af,ai,ah,aL,bc,aa,ae,aw,ax,V.ref.injEq,ag,and_true,exists_eq_left',exists_and_left,bz,aq,sH]
    refine⟨q,ws,m,aD,wo',?_⟩
    rw[if_pos hw,hc]
    dsimp only
    obtain⟨c1,c2,c3,c4,c5⟩:=CV hc
    rw[show(((iv (Z_ i)).toNat:Nat):Int)=i from cP i0]at c5
    refine⟨by lia,by lia,by lia,by lia,?_,λl hl0=> ?_⟩
    ·exact aH (show(i+1+n/4-(i+1)).toNat<=4000 by lia) (by decide)
    ·rw[show(i+1+n/4-(i+1)).toNat=(n/4).toNat by lia]
     have:=h l hl0
     simp only[AJ,bB]at this
     exact this
noncomputable def EU (A:Ad):Sp:=λvs H Q E=>∃p q ws v,vs=[.ref p,v]/\kz A.i_ H p q ws/\Kn H v/\jJ ws/\ws.length<=4000/\
 if wi v 0 (ws.length-1)=true then(match l_ ws (iv v).toNat with
  |some n=>∀l H',ja H H'->H l=none->H' l=some (.lst ((kids ws (iv v).toNat n).map Z_))->Q (.ref l) H'
  |none=>E (.ref A.pj) none H) else E (.ref A.jI) none H
theorem EN:i7 ["memory","at","words"] ["memory","at"] (iX vU):=fsc
theorem MU(T:Txt K mg A):jA P w K mg base (lG P w) true 9 A.rG A.t_ ["memory","at"] (EU A):=by
 refine T.EB.nP EN (λvs H Q E h=> ?_) (λcdv A' outer s H vs Q E hr hx h=> ?_)
 ·obtain⟨_,_,_,_,rfl,_⟩:=h
  rfl
 ·obtain⟨p,q,ws,v,rfl,h⟩:=h
  obtain⟨h,m,hk,wo',hl⟩:=UN h
  refine⟨_,mL.run (iP (vd (i:=2) (fsc:=iX vU) (N2:=["memory"]) (js:=[0]) EN.nd rfl lo ⟨rfl,rfl,by decide+kernel,by decide+kernel,by decide+kernel,by decide+kernel,by decide+kernel,by decide+kernel,by decide+kernel⟩ rfl rfl (by rfl) (kx (iV (Af T).mono hr rfl T.uD T.vB.kp T.Bs hx (iN (iQ 0) (iN (iQ 1) iO)))) (λ_ _ _ _=>uk) (λ_ _ _ _=>(jr (iQ 1) T.jZ T.uI (sV T).mono hr T.uA wj (iN (iQ 0) iO))))
   (iR (jf (pR (fsc:=iX vU) (N2:=[]) (js:=[]) ⟨rfl,rfl,by decide+kernel,by decide+kernel,by decide+kernel,by decide+kernel,by decide+kernel,by decide+kernel,by decide+kernel⟩ rfl rfl (by rfl) (kx (iQ 2)) (λ_ _ _ _=>(pe (jc rQ (iV (yG T).mono hr rfl T.ym T.wm.kp T.BU wj (iN (iQ 0) iO)) i5 (jx _)))) (λ_ _ _ _=>(iV (Ak T).mono hr rfl T.yp T.xF.kp T.CT wj (iN (iQ 0) iO))))))),?_⟩
  cases hw:wi v 0 (ws.length-1) with
  |false=>
   simp only[kU,jM,iZ,jd,i3,jX,jq,i9,jb,and_assoc,ao,bx,tJ,uR,qj,L2.start,ak,av,af,ai,ah,aL,bc,aa,ae,aw,ax,V.ref.injEq,ag,and_true,exists_eq_left',exists_and_left,bz,aq,qu]
   rw[hw]at h
   exact⟨q,ws,m,hk,wo',hl,by rw[hw];exact h⟩
  |true=>
   obtain⟨i,rfl,i0,i1⟩:=l8 hw
   rw[if_pos hw]at h
   cases hc:l_ ws (iv (Z_ i)).toNat with
   |none=>
    rw[hc]at h
    simp only[kU,jM,iZ,jd,i3,jX,jq,i9,jb,and_assoc,ao,bx,tJ,uR,qj,L2.start,ak,av,af,ai,ah,aL,bc,aa,ae,aw,ax,V.ref.injEq,ag,and_true,exists_eq_left',exists_and_left,bz,aq,qu]
    exact⟨q,ws,m,aD,wo',hl,by rw[if_pos hw,hc];exact h⟩
   |some n=>
    rw[hc]at h
    dsimp only at h
    simp only[kU,jM,iZ,jd,i3,jX,jq,i9,jb,and_assoc,ao,bx,tJ,uR,qj,L2.start,ak,av,af,ai,ah,aL,bc,aa,ae,aw,ax,V.ref.injEq,ag,and_true,exists_eq_left',exists_and_left,bz,aq,qu]
    refine⟨q,ws,m,aD,wo',hl,?_⟩
    rw[if_pos hw,hc]
    dsimp only
    obtain⟨c1,c2,c3,c4,c5⟩:=CV hc
    rw[show(((iv (Z_ i)).toNat:Nat):Int)=i from cP i0]at c5
    intro l0 hl00
    refine⟨⟨_,mj.of iS⟩,?_⟩
    have hsz:(n/4).toNat<=8:=by lia
    obtain⟨L,eL⟩:∃L,L=AJ i n:=⟨_,rfl⟩
    rw[show AJ (iv (Z_ i)) n=L from eL.symm]
    have m0:=m.same (ja.upd (o:= .lst (L.map Z_)) hl00)
    obtain⟨dx,e⟩:=m0.ob
    have s0:ja H (upd H l0 (.lst (L.map Z_))):=ja.upd hl00
    have hsl:upd H l0 (.lst (L.map Z_)) l0=some (.lst (L.map Z_)):=iS
    have e8:(L.map Z_).length=(n/4).toNat:=by rw[eL];simp[AJ]
    refine uN.Mp (λ_=>true) (λx=> .int (ws.getD (iv x).toNat 0)) (mj.of hsl) (by rw[e8];exact aH hsz (by decide)) (λx hx' K' hK=>hK) (λx hx' _ K' hK=> ?_) λl hl0=> ?_
    ·obtain⟨y,hy,rfl⟩:=List.mem_map.mp hx'
     rw[eL]at hy
     obtain⟨t,ht,rfl⟩:=List.mem_map.mp hy
     rw[gx]at ht
     simp only[iZ,jd,i3,↓jg,aa,ae,and_true,true_and,ql,e,K9,cX]
     refine⟨p,q,ws,_,rfl,m0,aD,?_⟩
     rw[if_pos (by simp[wi];lia)]
     exact hK
    ·have e2:(((L.map Z_).filter λ_=>true).map λx=>Z_ (ws.getD (iv x).toNat 0))=((ws.drop (i.toNat+1)).take (n/4).toNat).map Z_:=by
      rw[←Tv (by lia),List.filter_eq_self.mpr (λ_ _=>rfl),eL]
      simp only[AJ,bB]
      refine b_ λt ht=> ?_
      show Z_ (ws.getD (i+1+(t:Int)).toNat 0)=Z_ (ws.getD (i.toNat+1+t) 0)
      rw[show(i+1+(t:Int)).toNat=i.toNat+1+t by lia]
     have wk:∀w∈(ws.drop (i.toNat+1)).take (n/4).toNat,(kd (.int w)).isSome=true:=λw hw'=>wo' w (gG (gH hw'))
     have hn8:((ws.drop (i.toNat+1)).take (n/4).toNat).length<=8:=aH (c9 _ _) hsz
     have hq:∀(l:Addr) (H':Hp),ja H H'->H l=none->H' l=some (HO.lst (((((ws.drop (i.toNat+1)).take (n/4).toNat).filter ot).map (· /2)).map Z_))->Q (Z9 l) H':=h
     rw[e2]
     generalize (ws.drop (i.toNat+1)).take (n/4).toNat=ks at*
     refine⟨l,rfl,⟨_,mj.of iS⟩,?_⟩
     refine uN.Mp (λx=>ot (iv x)) (λx=> .int (iv x/2)) (mj.of iS) (by rw[aj];exact aH hn8 (by decide)) (λx hx' K' hK=> ?_) (λx hx' hp K' hK=> ?_) λl2 hl2=> ?_
     ·obtain⟨w,hw',rfl⟩:=List.mem_map.mp hx'
      obtain⟨y,hy⟩:=Option.isSome_iff_exists.mp (wk w hw')
      simp only[jC,ke,iZ,jd,tC,i3,i9,Md,eqv,aa,ag,and_true,exists_eq_left',↓jD,vm,hy]
      refine⟨aD,?_⟩
      have hd':decide (y=bt "place")=ot w:=by
       rcases GD hy with ⟨rfl,c⟩|⟨rfl,c⟩|⟨rfl,c⟩
       ·rw[decide_eq_false Xy];exact(decide_eq_false (by lia)).symm
       ·rw[decide_eq_false Xx];exact(decide_eq_false (by lia)).symm
       ·rw[decide_eq_true rfl];exact(decide_eq_true (by lia)).symm
      rw[hd'];exact hK
     ·obtain⟨w,hw',rfl⟩:=List.mem_map.mp hx'
      obtain⟨y,hy⟩:=Option.isSome_iff_exists.mp (wk w hw')
      simp only[iZ,jd,i3,i9,aa,ag,and_true,exists_eq_left',AW,hy]
      have hp':ot w=true:=hp
      simp only[ot,decide_eq_true_eq]at hp'
      refine⟨aD,?_⟩
      rw[OG (by lia)]
      exact hK
     ·obtain⟨_,hl3⟩:=lZ hl2
      obtain⟨_,hl4⟩:=lZ hl3
      refine hq _ _ (s0.trans ((ja.upd hl0).trans (ja.upd hl2))) hl4 ?_
      rw[iS]
      simp only[dP,bB]
      rfl
noncomputable def Su (ws:List Int) (p:Int):Int:=match l_ ws p.toNat with
 |some n=>n/4+1
 |none=>0
noncomputable def Nf (A:Ad):Sp:=λvs H Q _=>∃p m q o y s ws so sy ss k ks,vs=[.ref p,.ref k]/\pZ A.jm A.i_ A.je H p m q o y s ws so sy ss/\H k=some (.lst (bX Z_ ks))/\ks.length<64/\ks.Nodup/\jJ ws/\(∀x∈ks,0<=x/\x<ws.length/\(l_ ws x.toNat).isSome=true)/\
 ∀d H',H d=none->ja H H'->H' d=some (.dK (dk (gl (Su ws) (oH ks) so.b)))->Q (.ref d) H'
theorem AF:i7 ["areas","kept","where","goal","at"] ["areas","kept"] (iX Lr):=fsc
theorem RB(T:Txt K mg A):jA P w K mg base (lG P w) true 9 A.yc A.A4 ["areas","kept"] (Nf A):=by
 refine T.Mu.nP AF (λvs H Q E h=> ?_) (λcdv A' outer s H vs Q E hr hx h=> ?_)
 ·obtain⟨_,_,_,_,_,_,_,_,_,_,_,_,rfl,_⟩:=h
  rfl
 ·obtain⟨p,m,q,o,y,s',ws,so,sy,ss,k,ks,rfl,h⟩:=h
  obtain⟨h,a,ek,kl,nd,wo',hc⟩:=Yc h
  refine⟨_,mL.run (iP (ji (i:=2) AF.nd rfl lo mU)
   (iP (ji (i:=3) AF.nd rfl lo (i8 (i8 (iQ 0) rfl) rfl))
   (iP (k7 hx.own rfl (kx (jy Cf (by rfl) T.vP PyProof.Rows.Boot.«sorted» (iN (iQ 1) iO))) (jO (i:=4) AF.nd rfl lo)
    (iP (mi (jw hr) (iQ 2) (iQ 4) (iQ 3) rfl)
   (iR (ji (i:=3) AF.nd rfl lo (iY jv (iQ 3) (iV (Aj T).mono hr rfl T.vH T.wu.kp T.BW hx (iN (i8 (iQ 0) rfl) (iN (iQ 4) iO))))))))
   (iR (jf (iQ 2)))))),?_⟩
  obtain⟨dp,ep⟩:=a.ob
  obtain⟨d0,eo⟩:=a.old
  show jM _ _ _ [some (Z9 p),some (Z9 k),none,none,none] H
  refine i4 (λσ' H'=>∃d,H d=none/\ja H H'/\H' d=some (.dK (dk []))/\σ'=[some (Z9 p),some (Z9 k),some (Z9 d),none,none]) (λR' hR=> ?_) ?_
  ·simp only[jX,jq,uu,aw,ax]
   exact λd hd=>hR _ _ ⟨d,hd,ja.upd hd,iS,rfl⟩
  rintro _ H1 ⟨d,hd,s1,ed,rfl⟩
  have a1:=a.same s1
  obtain⟨dp1,ep1⟩:=a1.ob
  obtain⟨d01,eo1⟩:=a1.old
  refine i4 (λσ' H'=>H1=H'/\σ'=[some (Z9 p),some (Z9 k),some (Z9 d),some (Z_ so.b),none]) (λR' hR=> ?_) ?_
  ·simp only[i3,jX,jq,jb,HW,aa,aw,ax,true_and,ep1,T.jF,T.kK,Bq,eo1,T.kE,T.lY,Na]
   exact hR _ _ ⟨rfl,rfl⟩
  rintro _ _ ⟨rfl,rfl⟩
  have ek1:=s1 _ _ ek
  simp only[jM,Bg,iZ,jd,i3,jb,lT,qj,A3,A_,aa,ae,V.ref.injEq,exists_eq_left',ek1]
  refine⟨kl,λl hl=>⟨⟨_,mj.of iS⟩,?_⟩⟩
  have s2:ja H1 (upd H1 l (.lst ((oH ks).map Z_))):=ja.upd hl
  have el:upd H1 l (.lst ((oH ks).map Z_)) l=some (.lst ((oH ks).map Z_)):=iS
  generalize upd H1 l (.lst ((oH ks).map Z_))=H2 at*
  have ndl:l≠d:=λz=>by rw[z,ed]at hl;cases hl
  have pm:=ui ks
  have ndS:(oH ks).Nodup:=pm.symm.nodup nd
  have lS:(oH ks).length=ks.length:=pm.length_eq
  have hcS:∀x∈oH ks,0<=x/\x<ws.length/\(l_ ws x.toNat).isSome=true:=λx hx=>hc x (pm.mem_iff.mp hx)
  generalize oH ks=S at*
  refine lA.list (xs:=S.map Z_) (λi σ H'=>(∀b u,H2 b=some u->b≠d->H' b=some u)/\H' d=some (.dK (dk (gl (Su ws) (S.take i) so.b)))/\∃a4,σ=[some (Z9 p),some (Z9 k),some (Z9 d),some (Z_ (so.b+((S.take i).map (Su ws)).sum)),a4])
   ⟨λb u e _=>e,by rw[fA];exact s2 _ _ ed,none,by simp⟩ (λi σ H' _ ⟨f,_⟩=>mj.of (f _ _ el ndl)) ?_ ?_
  ·rintro i x σ H3 hx ⟨f3,e3,a4,rfl⟩
   have hi:i<S.length:=by have:=(List.getElem?_eq_some_iff.mp hx).1;rw[aj]at this;exact this
   rw[aS,au hi]at hx
   cases hx
   obtain⟨c0,c1,c2⟩:=hcS _ (bq hi)
   obtain⟨n,cn⟩:=Option.isSome_iff_exists.mp c2
   have nk:S[i]∉(gl (Su ws) (S.take i) so.b).map (·.1):=by
    rw[De]
    intro z
    obtain⟨j,hj,ej⟩:=List.mem_iff_getElem.mp z
    rw[bH]at hj
    rw[eT]at ej
    exact(List.pairwise_iff_getElem.mp ndS) j i (by lia) hi (by lia) ej
   simp only[jM,ke,iZ,jd,i3,jX,jq,i9,mP,HW,sN,kJ,aa,ae,aw,ax,V.int.injEq,ag,bh,and_true,true_and,exists_and_left,exists_const,reduceCtorEq,false_and,and_false,e3]
   rw[Q0 nk,←KN,←bC hi]
   refine⟨by rw[QZ,Rb];exact bO (c9 ..) (aK (show i<64 by lia) (by decide)),?_⟩
   have f4:∀b u,H3 b=some u->b≠d->upd H3 d (HO.dK (dk (gl (Su ws) (S.take (i+1)) so.b))) b=some u:=λb u eb nb=>pY eb nb
   have e4:upd H3 d (HO.dK (dk (gl (Su ws) (S.take (i+1)) so.b))) d=some (HO.dK (dk (gl (Su ws) (S.take (i+1)) so.b))):=iS
   generalize upd H3 d (HO.dK (dk (gl (Su ws) (S.take (i+1)) so.b)))=H4 at*
   have sm:∀b u,H1 b=some u->b≠d->H4 b=some u:=λb u eb nb=>f4 _ _ (f3 _ _ (s2 _ _ eb) nb) nb
   have npd:p≠d:=λz=>by rw[z,ed]at ep1;cases ep1
   have m4:kz A.i_ H4 m q ws:=a1.mem.keep λb u eb hb=>sm _ _ eb (by
    rcases hb with rfl|rfl
    ·obtain⟨dm,em⟩:=a1.mem.ob;intro z;rw[z,ed]at em;cases em
    ·intro z;have:=a1.mem.ls;rw[z,ed]at this;cases this)
   rw[sm _ _ ep1 npd]
   dsimp only
   refine⟨T.jF,T.jP,?_⟩
   rw[Bp]
   dsimp only
   unfold AV
   refine⟨m,q,ws,Z_ S[i],rfl,m4,aD,wo',?_⟩
   rw[if_pos (by simp only[wi,aQ,decide_eq_true_eq];lia),show(iv (Z_ S[i])).toNat=S[i].toNat from rfl,cn]
   dsimp only
   refine⟨λb u eb nb=>f4 _ _ (f3 _ _ eb nb) nb,e4,?_,_,rfl⟩
   have e5:Su ws S[i]=n/4+1:=by unfold Su;rw[cn]
   rw[bC hi,bo,fq,ak,av,d5,List.sum_nil,e5]
   lia
  ·rintro σ H3 ⟨f3,e3,a4,rfl⟩
   rw[aj,bF]at e3
   simp only[kU,i3,aa,ae]
   refine h d H3 hd (λb u eb=>f3 _ _ (s2 _ _ (s1 _ _ eb)) (iT eb hd)) e3
noncomputable def AO (A:Ad):Sp:=λvs H Q _=>∃p dx b e t m q ws sz,vs=[.ref p,.ref m]/\H p=some (.ins A.je dx (uK b e t))/\kz A.i_ H m q ws/\jJ ws/\walks ws b sz t/\sz.length<=5000/\
 ∀l H',ja H H'->H l=none->H' l=some (.lst ((D_ b sz).map Z_))->Q (.ref l) H'
theorem tj:i7 ["self","memory","found","at"] ["self","memory"] (iX xg):=fsc
theorem GY(T:Txt K mg A):jA P w K mg base (lG P w) true 9 A.mF A.pG ["self","memory"] (AO A):=by
 refine T.Gd.nP tj (λvs H Q E h=> ?_) (λcdv A' outer s H vs Q E hr hx h=> ?_)
 ·obtain⟨_,_,_,_,_,_,_,_,_,rfl,_⟩:=h
  rfl
 ·obtain⟨p,dx,b,e,t,m,q,ws,sz,rfl,h⟩:=h
  obtain⟨h,hp,hm,wo',hw,hz⟩:=Zn h
  refine⟨_,mL.run (iP (ji (i:=2) tj.nd rfl lo (lu iO))
   (iP (ji (i:=3) tj.nd rfl lo (i8 (iQ 0) rfl))
   (iP (Cg hx.own (jc Gx (iQ 3) (i8 (iQ 0) rfl) (jx _))
    (iP (i6 (Cb cu cx rP (iQ 2) (iN (iQ 3) iO)))
   (iR (ji (i:=3) tj.nd rfl lo (iY jv (iQ 3) (iV (Aj T).mono hr rfl T.vH T.wu.kp T.BW hx (iN (iQ 1) (iN (iQ 3) iO))))))))
   (iR (jf (iQ 2)))))),?_⟩
  simp only[jM,jd,i3,xU,jX,jq,SA,jb,ao,bx,↓jj,L2.start,ak,av,af,ai,ah,aL,bc,aa,aw,ax,true_and,bz,aq,Qr,jU,oq]
  intro l0 hl0
  have hp0:=ja.upd (o:= .lst []) hl0 _ _ hp
  simp only[and_true,true_and,hp0,T.kE,T.lY,Na]
  refine⟨λk σ H'=>∃dn rs,sz=dn++rs/\k=rs.length/\walks ws (b+dn.sum) rs t/\σ=[some (.ref p),some (.ref m),some (.ref l0),some (.int (b+dn.sum))]/\ja H H'/\H' l0=some (.lst ((D_ b dn).map Z_)),
   ⟨_,[],sz,rfl,rfl,by simpa using hw,by simp,ja.upd hl0,iS⟩,?_⟩
  rintro k σ H1 ⟨dn,rs,es,ek,hw1,rfl,s1,e1⟩
  have hp1:=s1 _ _ hp
  have m1:=hm.same s1
  simp only[kU,jB,jM,jC,ke,iZ,jd,i3,jX,jq,i9,mP,sJ,↓jj,sL,Qq,aa,ae,aw,ax,and_true,true_and,decide_eq_true_eq,↓jD,jU,oq,hp1,T.kE,T.lQ,JL]
  cases rs with
  |nil=>
   have z:b+dn.sum=t:=hw1
   rw[if_neg (by lia)]
   rw[ay]at es
   subst es
   exact h l0 H1 s1 hl0 e1
  |cons s' rr=>
   obtain⟨⟨a0,a1,n,hc,hn⟩,hw2⟩:=hw1
   have z:=JQ hw2
   have z2:=Jq hc hn
   rw[if_pos (by lia)]
   refine⟨λσ' H'=>∃dn rs,sz=dn++rs/\rr.length=rs.length/\walks ws (b+dn.sum) rs t/\σ'=[some (.ref p),some (.ref m),some (.ref l0),some (.int (b+dn.sum))]/\ja H H'/\H' l0=some (.lst ((D_ b dn).map Z_)),
    λσ' H' hh=>⟨rr.length,by rw[ek,af];lia,hh⟩,?_⟩
   simp only[V.int.injEq,ag,bh,and_true,true_and,exists_const,reduceCtorEq,false_and,and_false,e1]
   have hdl:dn.length<=5000:=by rw[es,aY]at hz;lia
   refine⟨by rw[aj,MV];exact bO hdl (by decide),?_⟩
   have m2:kz A.i_ (upd H1 l0 (.lst ((D_ b dn).map Z_++[Z_ (b+dn.sum)]))) m q ws:=m1.keep λx o ex hx=>by
    rw[iW (λy=>by subst y;rcases hx with rfl|rfl;exact absurd hm.ob (by rintro⟨_,y⟩;rw[hl0]at y;cases y);exact absurd hm.ls (by rw[hl0];intro y;cases y))];exact ex
   refine⟨m,q,ws,.int (b+dn.sum),rfl,m2,aD,wo',?_⟩
   rw[if_pos (DI (by lia) (by lia)),show(iv (Z_ (b+dn.sum))).toNat=(b+dn.sum).toNat from rfl,hc]
   refine⟨dn++[s'],rr,by rw[es];simp,rfl,?_,?_,?_,?_⟩
   ·rw[fq,show b+(dn.sum+[s'].sum)=b+dn.sum+s' by simp;lia];exact hw2
   ·rw[fq,show b+(dn.sum+[s'].sum)=b+dn.sum+(n/4+1) by simp;lia]
   ·exact s1.put hl0
   ·rw[iS,Ea,bo];rfl
noncomputable def tD (A:Ad):Sp:=λvs H Q E=>∃(p dx m q o y s:Addr) (ws:List Int) (x dz:Addr) (z:S3) (v:V) (g:Int),vs=[.ref p,.ref x,v,.int g]/\H p=some (.ins A.jm dx (zy m o y s))/\kz A.i_ H m q ws/\jJ ws/\ws.length<=4000/\H x=some (.ins A.je dz (uK z.b z.e z.t))/\p≠x/\m≠x/\0<=z.t/\z.e<=ws.length/\0<=g/\g<=2/\Kn H v/\
 if wi v 0 8=true then(if iv v+1<=z.e-z.t then
   (∀H',kz A.i_ H' m q (tQ ws z.t.toNat (iv v).toNat g)->H' x=some (.ins A.je dz (uK z.b z.e (z.t+(iv v+1))))->(∀b u,H b=some u->b≠q->b≠x->H' b=some u)->Q (.int z.t) H')
  else E (.ref A.rb) none H) else E (.ref A.kb) none H
theorem wI:i7 ["self","space","slots","age","at"] ["self","space","slots","age"] (iX uo):=fsc
theorem wH(T:Txt K mg A):jA P w K mg base (lG P w) true 9 A.lr A.mM ["self","space","slots","age"] (tD A):=by
 refine T.C2.nP wI (λvs H Q E h=> ?_) (λcdv A' outer s H vs Q E hr hx h=> ?_)
 ·obtain⟨_,_,_,_,_,_,_,_,_,_,_,_,_,rfl,_⟩:=h
  rfl
 ·obtain⟨p,dx,m,q,o,y,s',ws,x,dz,z,v,g,rfl,h⟩:=h
  obtain⟨h,hp,hm,wo',hl,hx',npx,nmx,t0,el,g0,g2,hk⟩:=Yq h
  refine⟨_,mL.run (iP (i6 (iV (BC T).mono hr rfl T.vc T.wN.kp T.CS hx (iN (iQ 2) iO)))
   (iP (ji (i:=4) wI.nd rfl lo (jr (iQ 1) T.kE T.Dm (Bz T).mono hr T.CO hx (iN (iY jv (iQ 2) iU) iO)))
   (iP (i6 (iV (VH T).mono hr rfl T.Q9 T.Q6.kp T.WU hx (iN (i8 (iQ 0) rfl) (iN (iQ 4) (iN (iQ 2) iO)))))
   (iP (i6 (iV (Ll T).mono hr rfl T.Gm T.Ft.kp T.NG hx (iN (i8 (iQ 0) rfl) (iN (iQ 4) (iN (iQ 3) iO)))))
   (iR (jf (iQ 4))))))),?_⟩
  cases hv:wi v 0 8 with
  |false=>
   rw[hv]at h
   simp only[kU,jB,jM,ke,iZ,jd,tC,i3,jX,jq,i9,mP,jb,ao,bx,↓reduceIte,HW,zG,L2.start,ak,av,af,ai,ah,aL,bc,aa,ae,aw,ax,ag,and_true,exists_eq_left',aM,bz,aq,rq,hv]
   exact⟨hk,h⟩
  |true=>
   obtain⟨n,rfl,n0,n8⟩:=l8 hv
   rw[if_pos hv]at h
   simp only[kU,jB,jM,ke,iZ,jd,tC,i3,jX,jq,i9,mP,jb,and_assoc,ao,bx,↓reduceIte,HW,zG,L2.start,ak,av,af,ai,ah,aL,bc,aa,ae,aw,ax,V.ref.injEq,ag,bh,and_true,true_and,exists_eq_left',exists_and_left,bz,aq,rq,hv,hx',Nc,xy,Th]
   refine⟨aD,dz,z.b,z.e,z.t,rfl,aD,?_⟩
   rw[if_pos (show(1:Int)<=iv (Z_ (n+1)) by show(1:Int)<=n+1;lia)]
   by_cases hr':n+1<=z.e-z.t
   ·rw[if_pos (show iv (Z_ (n+1))<=z.e-z.t from hr')]
    rw[if_pos (show iv (Z_ n)+1<=z.e-z.t from hr')]at h
    have nqx:q≠x:=λw=>by have:=hm.ls;rw[w,hx']at this;cases this
    have npq:p≠q:=λw=>by have:=hm.ls;rw[←w,hp]at this;cases this
    have hp1:upd H x (HO.ins A.je dz (uK z.b z.e (z.t+iv (Z_ (n+1))))) p=some (.ins A.jm dx (zy m o y s')):=pY hp npx
    have hx1:upd H x (HO.ins A.je dz (uK z.b z.e (z.t+iv (Z_ (n+1))))) x=some (.ins A.je dz (uK z.b z.e (z.t+(iv (Z_ n)+1)))):=iS
    have f1:∀b u,H b=some u->b≠x->upd H x (HO.ins A.je dz (uK z.b z.e (z.t+iv (Z_ (n+1))))) b=some u:=λb u eb nb=>pY eb nb
    generalize upd H x (HO.ins A.je dz (uK z.b z.e (z.t+iv (Z_ (n+1)))))=H1 at*
    have m1:kz A.i_ H1 m q ws:=hm.keep λb u eb hb=>f1 b u eb (by rcases hb with rfl|rfl;exact nmx;exact nqx)
    rw[hp1]
    dsimp only
    refine⟨T.jF,T.jP,?_⟩
    rw[Bp]
    dsimp only
    unfold R7
    refine⟨m,q,ws,Z_ z.t,Z_ n,rfl,m1,aD,aD,hl,?_⟩
    rw[if_pos hv,if_pos (show wi (Z_ z.t) 0 (ws.length-1-iv (Z_ n))=true by show wi (Z_ z.t) 0 (ws.length-1-n)=true;simp only[wi,aQ,decide_eq_true_eq];lia)]
    intro H2 m2 f2
    rw[f2 _ _ hp1 npq]
    dsimp only
    refine⟨T.jF,T.jP,?_⟩
    rw[Bp]
    dsimp only
    have et:(iv (Z_ z.t)).toNat=z.t.toNat:=rfl
    have en:(iv (Z_ n)).toNat=n.toNat:=rfl
    rw[et,en]at m2
    have hn8:n.toNat<=8:=by lia
    have hc:l_ (laid ws z.t.toNat n.toNat) z.t.toNat=some (4*(n.toNat:Int)):=NM hn8 (by lia)
    unfold FC
    refine⟨m,q,_,Z_ z.t,Z_ g,rfl,m2,aD,aD,wo'.laid hn8,?_⟩
    rw[if_pos (by rw[Dh];simp only[wi,aQ,decide_eq_true_eq];lia),et,hc]
    dsimp only
    rw[if_pos (show wi (Z_ g) 0 2=true by simp only[wi,aQ,decide_eq_true_eq];lia)]
    have eg:2*(4*(4*(n.toNat:Int)/4)+iv (Z_ g))=2*(4*(n.toNat:Int)+g):=by show 2*(4*(4*(n.toNat:Int)/4)+g)=_;lia
    rw[eg]
    refine h _ (m2.put _ _) ?_ λb u eb nb nx=> ?_
    ·rw[iW (aC nqx)];exact f2 _ _ hx1 (aC nqx)
    ·rw[iW nb];exact f2 _ _ (f1 _ _ eb nx) nb
   ·rw[if_neg (show¬iv (Z_ (n+1))<=z.e-z.t from hr')]
    rw[if_neg (show¬iv (Z_ n)+1<=z.e-z.t from hr')]at h
    exact h
noncomputable def Xq (m st mt sn:Addr) (ks:List Int) (ch:Int->List Int) (S:List Int) (H:Hp):Nat->St->Hp->Prop:=λk σ H'=>∃(M:List Int) (d:Nat),k=ks.length-d/\d<=M.length/\σ=[some (.ref m),some (.ref st),some (.ref mt),some (.ref sn),some (.int d)]/\H' mt=some (.lst (M.map Z_))/\H' sn=some (.dK (OX M))/\M.Nodup/\(∀x∈M,x∈ks)/\(∀res,Reach ch M d res->Reach ch (xE [] S) 0 res)/\ja H H'
noncomputable def Hr (A:Ad):Sp:=λvs H Q _=>∃(m q st:Addr) (ws S ks:List Int) (ch:Int->List Int),vs=[.ref m,.ref st]/\kz A.i_ H m q ws/\jJ ws/\ws.length<=4000/\H st=some (.lst (S.map Z_))/\S.length<=64/\ks.length<=12/\(∀x∈S,x∈ks)/\
 (∀p∈ks,0<=p/\p<ws.length/\(∀x∈ch p,x∈ks)/\(ch p).length<=8/\∃n,l_ ws p.toNat=some n/\kids ws p.toNat n=ch p)/\
 ∀l H' res,H l=none->ja H H'->Reach ch (xE [] S) 0 res->H' l=some (.lst (bX Z_ res))->Q (.ref l) H'
theorem vX:i7 ["memory","starts","met","seen","done"] ["memory","starts"] (iX Ef):=fsc
theorem Oi(T:Txt K mg A):jA P w K mg base (lG P w) true 10 A.uh A.vt ["memory","starts"] (Hr A):=by
 refine T.Gg.nP vX (λvs H Q E h=> ?_) (λcdv A' outer s H vs Q E hr hx h=> ?_)
 ·obtain⟨_,_,_,_,_,_,_,rfl,_⟩:=h
  rfl
 ·obtain⟨m,q,st,ws,S,ks,ch,rfl,h⟩:=h
  obtain⟨h,hm,wo',wl,es,sl,kl,sub,hks⟩:=Zo h
  refine⟨_,mL.run (iP (ji (i:=2) vX.nd rfl lo (lu iO))
   (iP (ji (i:=3) vX.nd rfl lo mU)
   (iP (i6 (iV (EM T).mono hr rfl T.yn T.zS.kp T.FR hx (iN (iQ 1) (iN (iQ 2) (iN (iQ 3) iO)))))
   (iP (ji (i:=4) vX.nd rfl lo iU)
   (iP (Cg hx.own (jc Gx (iQ 4) (jy qQ (by rfl) T.sU PyProof.Rows.Boot.«len» (iN (iQ 2) iO)) (jx _))
    (iP (i6 (iV (EM T).mono hr rfl T.yn T.zS.kp T.FR hx (iN (iV (MU T).mono hr rfl T.B9 T.EB.kp T.NH hx (iN (iQ 0) (iN (ky lP (iQ 2) (iQ 4) (λ_ _=>rfl)) iO))) (iN (iQ 2) (iN (iQ 3) iO)))))
   (iR (ji (i:=4) vX.nd rfl lo (iY jv (iQ 4) iU)))))
   (iR (jf (iQ 2)))))))),?_⟩
  show jM _ _ _ [some (Z9 m),some (Z9 st),none,none,none] H
  refine i4 (λσ' H'=>∃mt,H mt=none/\ja H H'/\H' mt=some (.lst [])/\σ'=[some (Z9 m),some (Z9 st),some (Z9 mt),none,none]) (λR' hR=> ?_) ?_
  ·simp only[jd,xU,jX,jq,ai,aw,ax,true_and,Qr]
   exact λd hd=>hR _ _ ⟨d,hd,ja.upd hd,iS,rfl⟩
  rintro _ H1 ⟨mt,hmt,s1,em,rfl⟩
  refine i4 (λσ' H'=>∃sn,H1 sn=none/\ja H1 H'/\H' sn=some (.dK (OX []))/\σ'=[some (Z9 m),some (Z9 st),some (Z9 mt),some (Z9 sn),none]) (λR' hR=> ?_) ?_
  ·simp only[jX,jq,uu,aw,ax]
   exact λd hd=>hR _ _ ⟨d,hd,ja.upd hd,iS,rfl⟩
  rintro _ H2 ⟨sn,hsn,s2,esn,rfl⟩
  have em2:=s2 _ _ em
  have es2:=s2 _ _ (s1 _ _ es)
  have fre:∀b u,H b=some u->b≠mt/\b≠sn:=λb u eb=>⟨iT eb hmt,iT (s1 _ _ eb) hsn⟩
  refine i4 (λσ' H'=>H' mt=some (.lst ((xE [] S).map Z_))/\H' sn=some (.dK (OX (xE [] S)))/\ja H H'/\σ'=[some (Z9 m),some (Z9 st),some (Z9 mt),some (Z9 sn),none]) (λR' hR=> ?_) ?_
  ·simp only[jB,iZ,jd,i3,i9,and_assoc,aa,ae,V.ref.injEq,ag,and_true,exists_eq_left',exists_and_left,AS]
   refine⟨S,es2,[],em2,esn,(λz=>by rw[z,em2]at es2;exact(fre _ _ es).1 z),sl,by simp,λH' e1 e2 f1=> ?_⟩
   exact hR _ _ ⟨by simpa using e1,by simpa using e2,λb u eb=>f1 _ _ (s2 _ _ (s1 _ _ eb)) (fre _ _ eb).1 (fre _ _ eb).2,rfl⟩
  rintro _ H3 ⟨e1,e2,s3,rfl⟩
  refine i4 (λσ' H'=>H3=H'/\σ'=[some (Z9 m),some (Z9 st),some (Z9 mt),some (Z9 sn),some (Z_ ((0:Nat):Int))]) (λR' hR=> ?_) ?_
  ·simp only[tC,jX,jq,aw,ax]
   exact hR _ _ ⟨rfl,rfl⟩
  rintro _ _ ⟨rfl,rfl⟩
  refine⟨Xq m st mt sn ks ch S H,⟨_,xE [] S,0,rfl,cD _,rfl,e1,e2,by simpa using vv (W:=S) (F:=[]) cN,λx hx=>sub x (A8 hx),λres hr=>hr,s3⟩,?_⟩
  rintro k σ H4 ⟨M,d,hk,dl,rfl,e3,e4,ndM,sM,hr',s4⟩
  have Ml:M.length<=ks.length:=sG ndM sM
  simp only[kU,jB,jM,jC,ke,Bg,iZ,jd,tC,i3,jX,jq,i9,mP,SA,sJ,DO,zF,aa,ae,aw,ax,decide_eq_true_eq,↓jD,e3,aj]
  by_cases z:d<M.length
  ·rw[if_pos (by lia)]
   refine⟨λσ' H'=>∃m',m'<k/\Xq m st mt sn ks ch S H m' σ' H',λσ' H' hh=>hh,?_⟩
   have hp:=sM _ (bq z)
   obtain⟨p0,p1,pc,p8,n,cn,kn⟩:=hks _ hp
   have ea:HJ (M.map Z_) (d:Int)=some (.int M[d]):=by rw[zz,aS,au z];rfl
   rw[ea]
   dsimp only
   unfold EU
   refine⟨m,q,ws,Z_ M[d],rfl,hm.same s4,aD,wo',wl,?_⟩
   rw[if_pos (by simp only[wi,aQ,decide_eq_true_eq];lia),show(iv (Z_ M[d])).toNat=M[d].toNat from rfl,cn]
   dsimp only
   rw[kn]
   intro l H5 s5 hl el
   unfold AS
   have e35:=s5 _ _ e3
   have e45:=s5 _ _ e4
   refine⟨l,mt,sn,ch M[d],M,rfl,el,e35,e45,(λz=>by rw[z,e3]at hl;cases hl),by lia,by lia,λH6 e6 e7 f6=> ?_⟩
   have s6:ja H H6:=λb u eb=>f6 _ _ (s5 _ _ (s4 _ _ eb)) (fre _ _ eb).1 (fre _ _ eb).2
   have nd':(M++xE M (ch M[d])).Nodup:=vv ndM
   refine⟨ks.length-(d+1),by lia,M++xE M (ch M[d]),d+1,rfl,by rw[aY];lia,rfl,e6,e7,nd',λx hx=> ?_,λres hres=>hr' res (.step z hres),s6⟩
   rcases List.mem_append.mp hx with hx|hx
   ·exact sM x hx
   ·exact pc x (A8 hx)
  ·rw[if_neg (by lia)]
   have:d=M.length:=by lia
   exact h mt H4 M hmt s4 (hr' M (.done (by lia))) e3
noncomputable def vY (A:Ad):Sp:=λvs H Q E=>∃p m q o y s ws so sy ss v,vs=[.ref p,v]/\pZ A.jm A.i_ A.je H p m q o y s ws so sy ss/\jJ ws/\ws.length<=4000/\0<=sy.t/\sy.e<=ws.length/\Kn H v/\
 if wi v 0 8=true then(if iv v+1<=sy.e-sy.t then
   (∀H',pZ A.jm A.i_ A.je H' p m q o y s (tQ ws sy.t.toNat (iv v).toNat 0) so ⟨sy.b,sy.e,sy.t+(iv v+1)⟩ ss->(∀b u,H b=some u->b≠q->b≠y->H' b=some u)->Q (.int sy.t) H')
  else E (.ref A.rb) none H) else E (.ref A.kb) none H
theorem Cy:i7 ["self","slots"] ["self","slots"] (iX sY):=fsc
theorem Ck(T:Txt K mg A):jA P w K mg base (lG P w) true 10 A.kP A.ma ["self","slots"] (vY A):=by
 refine T.B7.nP Cy (λvs H Q E h=> ?_) (λcdv A' outer s H vs Q E hr hx h=> ?_)
 ·obtain⟨_,_,_,_,_,_,_,_,_,_,_,rfl,_⟩:=h
  rfl
 ·obtain⟨p,m,q,o,y,s',ws,so,sy,ss,v,rfl,h⟩:=h
  obtain⟨h,a,wo',hl,t0,el,hk⟩:=Yc h
  refine⟨_,mL.run (iR (jf (jr (iQ 0) T.jF T.xN (wH T).mono hr T.xC hx (iN (i8 (iQ 0) rfl) (iN (iQ 1) (iN iU iO)))))),?_⟩
  obtain⟨dx,hp⟩:=a.ob
  obtain⟨dy,hy⟩:=a.Fg
  simp only[kU,iZ,jd,tC,i3,jb,and_assoc,cQ,ao,↓jj,↓jg,L2.start,ak,av,af,ai,ah,ay,aa,ae,V.int.injEq,V.ref.injEq,ag,bh,and_true,true_and,exists_eq_left',exists_and_left,aq,aF,jU,oq,ql,hp,T.jF,T.lX,L4,QA,tD]
  refine⟨dx,m,q,o,y,s',rfl,ws,a.mem,wo',hl,dy,sy,hy,a.pd.2.2.1,a.md.2.1,t0,el,hk,?_⟩
  cases hv:wi v 0 8 with
  |false=>simp only[hv,aM,if_false]at h⊢;exact h
  |true=>
   simp only[hv,if_true]at h⊢
   by_cases z:iv v+1<=sy.e-sy.t
   ·rw[if_pos z]at h⊢
    exact λH' m' e' f'=>h H' (a.X6 m' ⟨dy,e'⟩ f') f'
   ·rw[if_neg z]at h⊢;exact h
noncomputable def xT (A:Ad):Sp:=λvs H Q E=>∃p m q o y s ws so sy ss v,vs=[.ref p,v]/\pZ A.jm A.i_ A.je H p m q o y s ws so sy ss/\jJ ws/\ws.length<=4000/\0<=so.t/\so.e<=ws.length/\Kn H v/\
 if wi v 0 8=true then(if iv v+1<=so.e-so.t then
   (∀H',pZ A.jm A.i_ A.je H' p m q o y s (tQ ws so.t.toNat (iv v).toNat 2) ⟨so.b,so.e,so.t+(iv v+1)⟩ sy ss->(∀b u,H b=some u->b≠q->b≠o->H' b=some u)->Q (.int so.t) H')
  else E (.ref A.rb) none H) else E (.ref A.kb) none H
theorem Eh:i7 ["self","slots"] ["self","slots"] (iX u3):=fsc
theorem D9(T:Txt K mg A):jA P w K mg base (lG P w) true 10 A.lI A.mZ ["self","slots"] (xT A):=by
 refine T.DX.nP Eh (λvs H Q E h=> ?_) (λcdv A' outer s H vs Q E hr hx h=> ?_)
 ·obtain⟨_,_,_,_,_,_,_,_,_,_,_,rfl,_⟩:=h
  rfl
 ·obtain⟨p,m,q,o,y,s',ws,so,sy,ss,v,rfl,h⟩:=h
  obtain⟨h,a,wo',hl,t0,el,hk⟩:=Yc h
  refine⟨_,mL.run (iR (jf (jr (iQ 0) T.jF T.xN (wH T).mono hr T.xC hx (iN (i8 (iQ 0) rfl) (iN (iQ 1) (iN (mv T.uv) iO)))))),?_⟩
  obtain⟨dx,hp⟩:=a.ob
  obtain⟨dy,hy⟩:=a.old
  simp only[kU,iZ,jd,tC,i3,jb,and_assoc,cQ,ao,↓jj,↓jg,L2.start,ak,av,af,ai,ah,ay,aa,ae,V.int.injEq,V.ref.injEq,ag,bh,and_true,true_and,exists_eq_left',exists_and_left,aq,aF,jU,oq,ql,hp,T.jF,T.kK,Bq,QA,tD]
  refine⟨dx,m,q,o,y,s',rfl,ws,a.mem,wo',hl,dy,so,hy,a.pd.2.1,a.md.1,t0,el,hk,?_⟩
  cases hv:wi v 0 8 with
  |false=>simp only[hv,aM,if_false]at h⊢;exact h
  |true=>
   simp only[hv,if_true]at h⊢
   by_cases z:iv v+1<=so.e-so.t
   ·rw[if_pos z]at h⊢
    exact λH' m' e' f'=>h H' (a.VI m' ⟨dy,e'⟩ f') f'
   ·rw[if_neg z]at h⊢;exact h
theorem xH{ws:List Int}{i j:Nat}{v:Int}:(ws.set i v).getD j 0=if i=j/\j<ws.length then v else ws.getD j 0:=by
 rw[az,az,bE]
 by_cases c:i=j
 ·subst c
  by_cases d:i<ws.length
  ·rw[if_pos rfl,if_pos d,if_pos (And.intro rfl d)];rfl
  ·rw[if_pos rfl,if_neg d,if_neg (λz:i=i/\i<ws.length=>d z.2),bQ (by lia)]
 ·rw[if_neg c,if_neg (λz=>c z.1)]
noncomputable def tw (wh:List (Int×Int)) (w:Int):Int:=if ot w=true then 2*(lk wh (w/2)).getD 0+1 else w
noncomputable def Wb (wh:List (Int×Int)) (w:Int):Prop:=(kd (.int w)).isSome=true/\(ot w=true->∃g,lk wh (w/2)=some g/\0<=g/\g<=9999)
theorem tw_ok{wh:List (Int×Int)}{w:Int}(h:Wb wh w):(kd (.int (tw wh w))).isSome=true:=by
 unfold tw
 cases hp:ot w with
 |false=>rw[if_neg (by decide)];exact h.1
 |true=>
  obtain⟨g,e,g0,g1⟩:=h.2 hp
  rw[if_pos rfl,e,dH,wB,if_neg (by lia),if_neg (by lia),if_pos (by lia)];rfl
noncomputable def v8 (A:Ad):Sp:=λvs H Q _=>∃(d:Addr) (wh:List (Int×Int)) (w:Int),vs=[.ref d,.int w]/\H d=some (.dK (dk wh))/\Wb wh w/\Q (.int (tw wh w)) H
theorem Hk:i7 ["where","word"] ["where","word"] (iX xu):=fsc
theorem Ai(T:Txt K mg A):jA P w K mg base (lG P w) true 11 A.n9 A.pQ ["where","word"] (v8 A):=by
 refine T.vD.nP Hk (λvs H Q E h=> ?_) (λcdv A' outer s H vs Q E hr hx h=> ?_)
 ·obtain⟨_,_,_,rfl,_⟩:=h
  rfl
 ·obtain⟨d,wh,w,rfl,h⟩:=h
  obtain⟨h,ed,hw⟩:=Fj h
  refine⟨_,mL.run (iP (jo (jc N3 (iV (yG T).mono hr rfl T.ym T.wm.kp T.BU hx (iN (iQ 1) iO)) i5 (jx _)) (iR (jf (iQ 1))) jh)
   (iR (jf (iV (II T).mono hr rfl T.yo T.Bw.kp T.Kb hx (iN (jk (by exact jw hr) (iQ 0) (iV (Ak T).mono hr rfl T.yp T.xF.kp T.CT hx (iN (iQ 1) iO)) (λ_ _=>rfl)) iO))))),?_⟩
  cases hp:ot w with
  |false=>
   obtain⟨x,ex,nx⟩:=Vy hp hw.1
   simp only[kU,kj,jM,kM,jC,ke,iZ,jd,tC,i3,i9,Uq,eqv,ao,↓reduceIte,aN,kL,kJ,not_false_eq_true,decide_eq_false_iff_not,L2.start,ak,av,af,ai,ah,ay,aa,ae,ag,and_true,exists_eq_left',aq,aF,↓jD,vm,ex,nx]
   unfold tw at h
   rw[if_neg (by rw[hp];decide)]at h
   exact⟨aD,h⟩
  |true=>
   obtain⟨ex,w9,w0,ew⟩:=Ti hp hw.1
   obtain⟨g,eg,g0,g1⟩:=hw.2 hp
   unfold tw at h
   rw[if_pos hp,eg,dH]at h
   simp only[kU,kj,jM,kM,jC,ke,iZ,jd,tC,i3,i9,Uq,eqv,ao,↓reduceIte,aN,kL,kJ,not_true_eq_false,decide_eq_false_iff_not,L2.start,ak,av,af,ai,ah,ay,aa,ae,ag,and_true,exists_eq_left',aq,aF,↓jD,vm,ex,AW,ew,ed,wL,eg,BQ]
   refine⟨aD,aD,aD,?_⟩
   rw[if_pos (by simp only[wi,aQ,decide_eq_true_eq];lia)]
   exact h
structure Ms where
 ws:List Int
 so:S3
 sy:S3
 ss:S3
 hw:List Int
 ks:List Int
 os:List (Option Int)
 ts:List (Option (Int×Int))
 sd:List Int
inductive Rc (ch:Int->List Int) (S:List Int):Int->Prop
 |s {p:Int}:p∈S->Rc ch S p
 |c {p q:Int}:Rc ch S p->q∈ch p->Rc ch S q
theorem Fp{x:Int}:∀{W F:List Int},x∈W->x∈F++xE F W
 | [],_,h=>by cases h
 |a::W,F,h=>by
  simp only[xE]
  by_cases z:a∈F
  ·rw[if_pos z]
   rcases List.mem_cons.mp h with rfl|h
   ·exact bj _ z
   ·exact Fp h
  ·rw[if_neg z]
   rcases List.mem_cons.mp h with rfl|h
   ·simp
   ·have:=Fp (F:=F++[a]) h
    simpa using this
theorem Rc.closed{ch:Int->List Int}{S M:List Int}(hS:∀p∈S,p∈M)(hc:∀p∈M,∀q∈ch p,q∈M){p:Int}(h:Rc ch S p):p∈M:=by
 induction h with
 |s h=>exact hS _ h
 |c _ h ih=>exact hc _ ih _ h
theorem Reach.all{ch:Int->List Int}{S M res:List Int}{d:Nat}(h:Reach ch M d res):M.Nodup->(∀p∈M,Rc ch S p)->(∀p∈S,p∈M)->(∀(i:Nat) (h:i<M.length),i<d->∀q∈ch M[i],q∈M)->res.Nodup/\∀p,p∈res↔Rc ch S p:=by
 induction h with
 | @done M d hd=>
  intro nd hr hs hc
  refine⟨nd,λp=>⟨hr p,Rc.closed hs λp hp q hq=> ?_⟩⟩
  obtain⟨i,hi,rfl⟩:=List.mem_iff_getElem.mp hp
  exact hc i hi (by lia) q hq
 | @step M d res hd _ ih=>
  intro nd hr hs hc
  refine ih (vv nd) (λp hp=> ?_) (λp hp=>bj _ (hs p hp)) (λi hi hid q hq=> ?_)
  ·rcases List.mem_append.mp hp with hp|hp
   ·exact hr p hp
   ·exact .c (hr _ (bq hd)) (A8 hp)
  ·have il:i<M.length:=by lia
   rw[List.getElem_append_left il]at hq
   by_cases c:i<d
   ·exact bj _ (hc i il c q hq)
   ·obtain rfl:i=d:=by lia
    exact Fp hq
noncomputable def Fi (ch:Int->List Int) (S K:List Int):Prop:=∃res:List Int,K=oH res/\res.Nodup/\∀p,p∈res↔Rc ch S p
section
variable{ch:Int->List Int}{S K:List Int}
theorem Reach.YE{res:List Int}(h:Reach ch (xE [] S) 0 res):Fi ch S (oH res):=by
 obtain⟨h1,h2⟩:=h.all (S:=S) (by simpa using vv (W:=S) (F:=[]) cN) (λp hp=> .s (A8 hp)) (λp hp=>by simpa using Fp (F:=[]) hp) λi _ z=>by lia
 exact⟨res,rfl,h1,h2⟩
theorem Fi.mem(h:Fi ch S K){p:Int}:p∈K↔Rc ch S p:=by
 obtain⟨res,rfl,_,h2⟩:=h
 rw[←h2];exact(ui res).mem_iff
theorem Fi.nd(h:Fi ch S K):K.Nodup:=by
 obtain⟨res,rfl,h1,_⟩:=h
 exact(ui res).symm.nodup h1
theorem Fi.lt(h:Fi ch S K):K.Pairwise (·<·):=by
 have nd:=h.nd
 obtain⟨res,rfl,_,_⟩:=h
 have s:=yr res
 rw[List.pairwise_iff_getElem]at s⊢
 intro i j hi hj hij
 have h1:=s i j hi hj hij
 have h2:=(List.pairwise_iff_getElem.mp nd) i j hi hj hij
 lia
theorem Fi.uniq{K':List Int}(h:Fi ch S K)(h':Fi ch S K'):K=K':=by
 obtain⟨r,rfl,n,m⟩:=h
 obtain⟨r',rfl,n',m'⟩:=h'
 exact Rk ((List.perm_ext_iff_of_nodup n n').mpr λp=>by rw[m,m'])
end
theorem uW{w:List Int}{x:Int}:x∈oI w↔∃v∈w,ot v=true/\x=v/2:=by
 unfold oI
 rw[List.mem_map]
 exact⟨λ⟨v,hv,e⟩=>⟨v,(List.mem_filter.mp hv).1,(List.mem_filter.mp hv).2,e.symm⟩,λ⟨v,h1,h2,e⟩=>⟨v,List.mem_filter.mpr ⟨h1,h2⟩,e.symm⟩⟩
noncomputable def FI (cs:List Cl) (p:Int):List Int:=match fd cs p with
 |some c=>c.w
 |none=>[]
noncomputable def xX (cs:List Cl) (p:Int):Int:=1+(FI cs p).length
theorem HE{cs:List Cl}(nd:(cs.map Cl.p).Nodup){c:Cl}(h:c∈cs):FI cs c.p=c.w:=by
 obtain⟨d,e⟩:=Fs (List.mem_map.mpr ⟨c,h,rfl⟩)
 obtain⟨m,ep⟩:=F3 e
 unfold FI;rw[e]
 show d.w=c.w
 rw[xO nd m h ep]
theorem Fn{cs:List Cl}{p:Int}:EY cs p=oI (FI cs p):=by
 unfold EY FI
 cases fd cs p<;>rfl
structure Gv(o y:Int)(n:Nat)(cs:List Cl)(M:Ms):Prop where
 mr:Mr M.ws cs
 wl:(M.ws.length:Int)=o+2*y
 oy:20<=o/\o<=80/\4<=y/\y<=20
 so:M.so.b=0/\M.so.e=o/\0<=M.so.t
 sy:(M.sy.b=o/\M.ss.b=o+y∨M.sy.b=o+y/\M.ss.b=o)/\M.sy.e=M.sy.b+y/\M.ss.e=M.ss.b+y/\M.sy.b<=M.sy.t/\M.sy.t<=M.sy.e
 us:M.so.t+(M.sy.t-M.sy.b)<=o
 pl:∀c∈cs,c.p+1+c.w.length<=M.so.t∨(M.sy.b<=c.p/\c.p+1+c.w.length<=M.sy.t)
 nn:cs.length<=n
 ch:∀c∈cs,∀v∈c.w,ot v=true->v/2∈cs.map Cl.p
 hl:M.hw.length<=6
 ho:jJ M.hw
 hp:∀v∈M.hw,ot v=true->v/2∈cs.map Cl.p
 ks:M.ks.Nodup/\∀k∈M.ks,0<=k/\k<o+2*y
 on:M.os.length<=12
 tn:M.ts.length<=12
section
variable{o y:Int}{n:Nat}{cs:List Cl}{M:Ms}
theorem Gv.places(g:Gv o y n cs M){p:Int}(h:p∈cs.map Cl.p):0<=p/\p<120/\p<M.ws.length:=by
 obtain⟨c,hc,rfl⟩:=List.mem_map.mp h
 obtain⟨a,b,_⟩:=g.mr.cl c hc
 have:=g.wl
 have:=g.oy
 lia
theorem Gv.wd(g:Gv o y n cs M){c:Cl}(hc:c∈cs){v:Int}(hv:v∈c.w):(kd (.int v)).isSome=true:=by
 obtain⟨i,hi,rfl⟩:=List.mem_iff_getElem.mp hv
 obtain⟨a,b,_⟩:=g.mr.cl c hc
 have e:=g.mr.wd c hc i hi
 rw[az (l:=c.w),au hi]at e
 obtain⟨x,hx⟩:=O6 g.mr.ok (i:=c.p.toNat+1+i) (by lia)
 rw[e]at hx
 exact Option.isSome_iff_exists.mpr ⟨x,hx⟩
theorem Gv.rc(g:Gv o y n cs M){p:Int}(h:Rc (EY cs) (oI M.hw) p):p∈cs.map Cl.p:=by
 refine Rc.closed (λp hp=> ?_) (λp hp q hq=> ?_) h
 ·obtain⟨v,hv,h1,rfl⟩:=uW.mp hp
  exact g.hp v hv h1
 ·obtain⟨c,hc,rfl⟩:=List.mem_map.mp hp
  rw[Fn,HE g.mr.nd hc]at hq
  obtain⟨v,hv,h1,rfl⟩:=uW.mp hq
  exact g.ch c hc v hv h1
theorem Gv.reach(g:Gv o y n cs M):∀p∈cs.map Cl.p,0<=p/\p<M.ws.length/\(∀x∈EY cs p,x∈cs.map Cl.p)/\(EY cs p).length<=8/\∃n,l_ M.ws p.toNat=some n/\kids M.ws p.toNat n=EY cs p:=λp hp=>by
 obtain⟨c,mc,rfl⟩:=List.mem_map.mp hp
 obtain⟨q0,q1,q2,n,q3,q4⟩:=g.mr.cl c mc
 rw[Fn,HE g.mr.nd mc]
 refine⟨q0,by lia,λx hx=> ?_,?_,n,q3,?_⟩
 ·obtain⟨v,hv,h1,rfl⟩:=uW.mp hx
  exact g.ch c mc v hv h1
 ·rw[oI,aj];exact aH (cI _ _) q2
 ·have et:(M.ws.drop (c.p.toNat+1)).take (n/4).toNat=c.w:=by
   rw[show(n/4).toNat=c.w.length by lia]
   apply iw
   ·rw[bH,dY];lia
   ·intro i h1 h2
    have:=g.mr.wd c mc i h2
    rw[az,az,au (by lia),au h2]at this
    rw[eT,List.getElem_drop]
    exact this
  unfold kids oI
  rw[et]
theorem R8{K:List Int}{e f:Int->Int}{T:Int}:∀{g:Int},K.Pairwise (λa b=>e a+f a<=e b)->(∀x∈K,g<=e x/\e x+f x<=T)->g<=T->g+(K.map f).sum<=T:=by
 induction K with
 |nil=>intro g _ _ h;simpa using h
 |cons x r ih=>
  intro g hp hx hg
  rw[eK]at hp
  have h1:=hx x (a_ ..)
  have:=ih (g:=e x+f x) hp.2 (λz hz=>⟨hp.1 z hz,(hx z (ba _ hz)).2⟩) h1.2
  rw[ak,d5]
  lia
theorem Gv.xX(g:Gv o y n cs M){p:Int}(h:p∈cs.map Cl.p):∃c∈cs,c.p=p/\FI cs p=c.w/\xX cs p=1+(c.w.length:Int)/\c.w.length<=8:=by
 obtain⟨c,hc,rfl⟩:=List.mem_map.mp h
 have e:=HE g.mr.nd hc
 exact⟨c,hc,rfl,e,by unfold K16.xX;rw[e],(g.mr.cl c hc).2.2.1⟩
theorem Gv.sep(g:Gv o y n cs M){K:List Int}(hk:∀p∈K,p∈cs.map Cl.p)(hl:K.Pairwise (·<·)):K.Pairwise λa b=>a+K16.xX cs a<=b:=by
 refine hl.imp_of_mem λ{a b} ha hb hab=> ?_
 obtain⟨c,hc,e1,_,e2,_⟩:=g.xX (hk a ha)
 obtain⟨d,hd,f1,_⟩:=g.xX (hk b hb)
 have:=g.mr.sep c hc d hd (by lia)
 lia
theorem Gv.room(g:Gv o y n cs M){K:List Int}(hk:∀p∈K,p∈cs.map Cl.p)(hl:K.Pairwise (·<·)):(K.map (K16.xX cs)).sum<=o:=by
 have oy:=g.oy
 have so:=g.so
 have sy:=g.sy
 have us:=g.us
 have h:=R8 (K:=K) (e:=λp=>if p<M.so.t then p else p-M.sy.b+M.so.t) (f:=K16.xX cs) (T:=M.so.t+(M.sy.t-M.sy.b)) (g:=0) ((g.sep hk hl).imp_of_mem λ{a b} ha hb hab=> ?_) (λx hx=> ?_) (by lia)
 ·lia
 ·obtain⟨c,hc,e1,_,e2,_⟩:=g.xX (hk a ha)
  obtain⟨d,hd,f1,_,f2,_⟩:=g.xX (hk b hb)
  have p1:=g.pl c hc
  have p2:=g.pl d hd
  have q1:=g.places (hk a ha)
  have q2:=g.places (hk b hb)
  split<;>split<;>lia
 ·obtain⟨c,hc,e1,_,e2,_⟩:=g.xX (hk x hx)
  have p1:=g.pl c hc
  have q1:=g.places (hk x hx)
  split<;>lia
end
noncomputable def Eo (ks:List Int) (s:Int):Int:=if s/11%6=0∨(ks=[]/\1<s/11%6) then -1 else if s/11%6=1 then 2*(s/66*40009%2000000000001-1000000000000) else 2*ks.getD (s/66%ks.length).toNat 0+1
theorem FH{ks:List Int}{s:Int}(h:∀x∈ks,0<=x/\x<4000):(kd (.int (Eo ks s))).isSome=true/\(ot (Eo ks s)=true->Eo ks s/2∈ks):=by
 unfold Eo
 by_cases c0:s/11%6=0∨(ks=[]/\1<s/11%6)
 ·rw[if_pos c0];exact⟨by decide,λz=>absurd z (by decide)⟩
 rw[if_neg c0]
 by_cases c1:s/11%6=1
 ·rw[if_pos c1]
  refine⟨?_,λz=> ?_⟩
  ·rw[wB,if_neg (by lia),if_pos (by lia)];rfl
  ·simp only[ot,decide_eq_true_eq]at z;lia
 rw[if_neg c1]
 have c2:ks≠ []:=λz=>c0 (by by_cases q:s/11%6=0;exact .inl q;exact .inr ⟨z,by lia⟩)
 have pos:0<ks.length:=List.length_pos_iff.mpr c2
 have i0:=d8 (s/66) (show(ks.length:Int)≠0 by lia)
 have i1:=dO (s/66) (show(0:Int)<ks.length by lia)
 have il:(s/66%ks.length).toNat<ks.length:=by lia
 have hm:ks.getD (s/66%ks.length).toNat 0∈ks:=by
  rw[az,au il];exact bq il
 generalize ks.getD (s/66%ks.length).toNat 0=k at*
 have:=h k hm
 refine⟨?_,λ_=> ?_⟩
 ·rw[wB,if_neg (by lia),if_neg (by lia),if_pos (by lia)];rfl
 ·rw[show(2*k+1)/2=k by lia];exact hm
noncomputable def LR:Sp:=λvs H Q _=>∃(c:Addr) (cs:List Cl) (s:Int),vs=[.ref c,.int s]/\H c=some (.dK (va cs))/\cs.length<=12/\∀H',ja H H'->Q (.int (Eo (cs.map Cl.p) s)) H'
theorem Dy:i7 ["_law_cells","_law_seed","_law_pick"] ["_law_cells","_law_seed"] (iX Ay):=fsc
theorem vg(T:Txt K mg A):jA P w K mg base (lG P w) true 11 A.qf A.sj ["_law_cells","_law_seed"] LR:=by
 refine T.sQ.nP Dy (λvs H Q E h=> ?_) (λcdv A' outer s H vs Q E hr hx h=> ?_)
 ·obtain⟨_,_,_,rfl,_⟩:=h
  rfl
 ·obtain⟨c,cs,s',rfl,h⟩:=h
  obtain⟨h,ec,cl⟩:=Fj h
  refine⟨_,mL.run (iP (ji (i:=2) Dy.nd rfl lo (iY kf (iY j3 (iQ 1) iU) iU))
   (iP (jo (mq (uH (jc (KU (Jw hr)) (iQ 2) iU (jx _)) (sT (mq (pv (jc (KU (Jw hr)) (iQ 0) mU (jx _)) (pS (jc Cc (iQ 2) iU (jx _)))))))) (iR (jf (KY KW iU))) jh)
   (iP (jo (jc (KU (Jw hr)) (iQ 2) iU (jx _)) (iR (jf (iY uG iU (iY qR (iY kf (iY uG (iY j3 (iQ 1) iU) iU) iU) iU)))) jh)
   (iR (jf (iY jv (iY uG iU (ky lP (qS (Bb (by rfl)) (by rfl) T.yC PyProof.Rows.Boot.«list» (iN (iQ 0) iO)) (iY kf (iY j3 (iQ 1) iU) (jy Gw (by rfl) T.sU PyProof.Rows.Boot.«len» (iN (iQ 0) iO))) (λ_ _=>rfl))) iU)))))),?_⟩
  show jM _ _ _ [some (Z9 c),some (Z_ s'),none] H
  refine i4 (λσ' H'=>H=H'/\σ'=[some (Z9 c),some (Z_ s'),some (Z_ (s'/11%6))]) (λR hR=> ?_) ?_
  ·simp only[ke,tC,i3,jX,jq,m8,rE,tU,aV,aW,aa,ae,aw,ax,and_true,true_and]
   exact hR _ _ ⟨rfl,rfl⟩
  rintro _ _ ⟨rfl,rfl⟩
  have ne:∀{H1:Hp},ja H H1->H1 c=some (.dK (va cs)):=λs1=>s1 _ _ ec
  refine i4 (λσ' H'=>ja H H'/\¬(s'/11%6=0∨(cs.map Cl.p=[]/\1<s'/11%6))/\σ'=[some (Z9 c),some (Z_ s'),some (Z_ (s'/11%6))]) (λR hR=> ?_) ?_
  ·by_cases c0:s'/11%6=0
   ·simp only[kU,kM,jC,ke,WD,Pt,tC,i3,eqv,NL,aT,↓reduceIte,decide_true,zE,aa,ae,NK,↓jD,c0]
    have:=h H (ja.refl _);rw[Eo,if_pos (.inl c0)]at this;exact this
   ·simp only[kU,kj,kM,jC,ke,WD,zu,Pt,tC,i3,uu,OO,sJ,eqv,NL,aT,↓reduceIte,iS,decide_false,zE,PJ,aa,ae,aM,decide_eq_true_eq,NK,↓jD,c0]
    intro p hp
    have sp:=ja.upd (o:= .dK []) hp
    rw[ne sp]
    dsimp only
    cases cs with
    |nil=>
     rw[if_pos (show(va []).isEmpty=true from rfl)]
     by_cases c1:1<s'/11%6
     ·rw[if_pos c1]
      have:=h _ sp;rw[Eo,if_pos (.inr ⟨rfl,c1⟩)]at this;exact this
     ·rw[if_neg c1]
      exact hR _ _ ⟨sp,λz=>z.elim c0 λz=>c1 z.2,rfl⟩
    |cons d r=>
     rw[if_neg (show¬(va (d::r)).isEmpty=true by simp[va])]
     exact hR _ _ ⟨sp,λz=>z.elim c0 λz=>by simp at z,rfl⟩
  rintro _ H1 ⟨s1,nc,rfl⟩
  have ec1:=s1 _ _ ec
  by_cases c1:s'/11%6=1
  ·simp only[kU,jM,kM,jC,ke,tC,i3,B0,EX,m8,rE,eqv,tU,DK,true_or,or_true,aV,aW,aT,bD,↓reduceIte,decide_true,zE,aa,ae,and_true,true_and,NK,↓jD,c1]
   have:=h H1 s1;rw[Eo,if_neg nc,if_pos c1]at this;exact this
  simp only[kU,kj,jM,kM,jC,ke,Bg,iZ,jd,tC,i3,mP,EX,m8,rE,eqv,DO,tU,DK,aV,aW,aT,bD,↓reduceIte,iS,decide_false,zE,Jo,aa,ae,and_true,true_and,and_false,aM,NK,DP,↓jD,c1,ec1]
  intro l hl
  have sl:=ja.upd (o:= .lst (bX (λp=>kV p.fst) (va cs))) hl
  rw[sl _ _ ec1]
  dsimp only
  have ek:bX (λp=>kV p.fst) (va cs)=(cs.map Cl.p).map Z_:=by rw[va,bB,bB];rfl
  have le:((va cs).length:Int)=(cs.map Cl.p).length:=by rw[va,aj,aj]
  have c2:cs.map Cl.p≠ []:=λz=>nc (by by_cases q:s'/11%6=0;exact .inl q;exact .inr ⟨z,by lia⟩)
  have pos:(0:Int)<(cs.map Cl.p).length:=by have:=List.length_pos_iff.mpr c2;lia
  have i0:=d8 (s'/66) (show((cs.map Cl.p).length:Int)≠0 by lia)
  have i1:=dO (s'/66) pos
  rw[le,ek]
  refine⟨pos,?_⟩
  rw[A2 i0 (by lia)]
  dsimp only
  refine⟨.inl ⟨by decide,by decide⟩,?_⟩
  have:=h _ (s1.trans sl)
  rw[Eo,if_neg nc,if_neg c1,ek]at this
  exact this
structure Qo(ch:Int->List Int)(S F W:List Int):Prop where
 nd:F.Nodup
 rf:∀p∈F,Rc ch S p
 rw:∀p∈W,Rc ch S p
 s:∀p∈S,p∈F∨p∈W
 c:∀p∈F,∀q∈ch p,q∈F∨q∈W
section
variable{ch:Int->List Int}{S F W:List Int}
theorem Qo.YE(h:Qo ch S F []):Fi ch S (oH F):=⟨F,rfl,h.nd,λp=>⟨h.rf p,Rc.closed (λp hp=>(h.s p hp).resolve_right (by simp)) λp hp q hq=>(h.c p hp q hq).resolve_right (by simp)⟩⟩
theorem Qo.pop{a:Int}(h:Qo ch S F (W++[a]))(ha:a∈F):Qo ch S F W:=by
 have m:∀{p},p∈F∨p∈W++[a]->p∈F∨p∈W:=λ{p} q=>q.elim .inl λz=>(List.mem_append.mp z).elim .inr λz=> .inl (by rw[List.mem_singleton.mp z];exact ha)
 exact⟨h.nd,h.rf,λp hp=>h.rw p (bj _ hp),λp hp=>m (h.s p hp),λp hp q hq=>m (h.c p hp q hq)⟩
theorem Qo.push{a:Int}(h:Qo ch S F (W++[a]))(ha:a∉F):Qo ch S (F++[a]) (W++ch a):=by
 have ra:=h.rw a (by simp)
 have m:∀{p},p∈F∨p∈W++[a]->p∈F++[a]∨p∈W++ch a:=λ{p} q=>q.elim (λz=> .inl (bj _ z)) λz=>(List.mem_append.mp z).elim (λz=> .inr (bj _ z)) λz=> .inl (aO _ z)
 refine⟨?_,λp hp=> ?_,λp hp=> ?_,λp hp=>m (h.s p hp),λp hp q hq=> ?_⟩
 ·rw[bV]
  exact⟨h.nd,by simp,λx hx y hy=>by rw[List.mem_singleton.mp hy];intro e;rw[e]at hx;exact ha hx⟩
 ·rcases List.mem_append.mp hp with hp|hp
  ·exact h.rf p hp
  ·rw[List.mem_singleton.mp hp];exact ra
 ·rcases List.mem_append.mp hp with hp|hp
  ·exact h.rw p (bj _ hp)
  ·exact .c ra hp
 ·rcases List.mem_append.mp hp with hp|hp
  ·exact m (h.c p hp q hq)
  ·rw[List.mem_singleton.mp hp]at hq;exact .inr (aO _ hq)
end
theorem OR{K:aA}{H:Hp}{l:Addr}{ws:List Int}{Q:VK}(el:H l=some (.lst (ws.map Z_)))(hl:ws.length<=64)(q:∀p,H p=none->Q (.ref p) (upd H p (.lst ((oI ws).map Z_)))):
  uN (Qp K l) [] (zu (jC (ke OO (i3 0) (tC (Z_ 0)))) (jC (ke zE (ke rE (i3 0) (tC (Z_ 2))) (tC (Z_ 1))))) (ke m8 (i3 0) (tC (Z_ 2))) H Q:=by
 refine uN.Mp (λy=>ot (iv y)) (λy=> .int (iv y/2)) (mj.of el) (by rw[aj];exact aH hl (by decide)) (λy hy K' hK=> ?_) (λy hy hpl K' hK=> ?_) λl2 hl2=> ?_
 ·obtain⟨v,hv,rfl⟩:=List.mem_map.mp hy
  simp only[jC,ke,zu,tC,i3,rE,OO,sJ,eqv,aV,aW,zE,aa,true_and,decide_eq_true_eq,↓jD]
  by_cases v0:0<v
  ·rw[if_pos v0,show decide (v%2=1)=ot (iv (Z_ v)) from decide_eq_decide.mpr ⟨λz=>⟨z,v0⟩,λz=>z.1⟩]
   exact hK
  ·rw[if_neg v0,show false=ot (iv (Z_ v)) from(decide_eq_false λz=>v0 z.2).symm]
   exact hK
 ·obtain⟨v,hv,rfl⟩:=List.mem_map.mp hy
  simp only[ke,tC,i3,m8,tU,aV,aW,aa,and_true,true_and]
  exact hK
 ·have ex:bX (λy=>Z_ (iv y/2)) (List.filter (λy=>ot (iv y)) (ws.map Z_))=(oI ws).map Z_:=by
   simp only[oI,dP,bB];rfl
  rw[ex]
  exact q l2 hl2
noncomputable def Xs (c l f:Addr) (cs:List Cl) (S:List Int) (H:Hp):Nat->St->Hp->Prop:=λk σ H'=>Y4 λ(F W:List Int) (r:Addr) (a4:Option V)=>C9 (k=(cs.length-F.length)*9+W.length) (k<=200) (σ=[some (.ref c),some (.ref l),some (.ref f),some (.ref r),a4]) (H' f=some (.lst (F.map Z_))) (H' r=some (.lst (W.map Z_))) (f≠r) (H r=none) (Qo (EY cs) S F W) (ja H H')
noncomputable def zl:Sp:=λvs H Q _=>∃(c l:Addr) (cs:List Cl) (hw:List Int),vs=[.ref c,.ref l]/\H c=some (.dK (va cs))/\(∀d∈cs,H d.r=some (.lst (d.w.map Z_))/\d.w.length<=8)/\H l=some (.lst (hw.map Z_))/\hw.length<=6/\(cs.map Cl.p).Nodup/\cs.length<=12/\(∀p,Rc (EY cs) (oI hw) p->p∈cs.map Cl.p)/\
 ∀k K H',H k=none->ja H H'->H' k=some (.lst (bX Z_ K))->Fi (EY cs) (oI hw) K->Q (.ref k) H'
theorem pz:i7 ["_law_cells","_law_hands","_law_found","_law_row","_law_at"] ["_law_cells","_law_hands"] (iX qq):=fsc
theorem E_(T:Txt K mg A):jA P w K mg base (lG P w) true 11 A.mT A.oF ["_law_cells","_law_hands"] zl:=by
 refine T.zg.nP pz (λvs H Q E h=> ?_) (λcdv A' outer s H vs Q E hr hx h=> ?_)
 ·obtain⟨_,_,_,_,rfl,_⟩:=h
  rfl
 ·obtain⟨c,l,cs,hw,rfl,h⟩:=h
  obtain⟨h,ec,hr',el,hl,nd,cl,hc⟩:=Zu h
  refine⟨_,mL.run (iP (ji (i:=2) pz.nd rfl lo (lu iO))
   (iP (vd (i:=3) (fsc:=iX qq) (N2:=[]) (js:=[]) pz.nd rfl lo ⟨rfl,rfl,by decide+kernel,by decide+kernel,by decide+kernel,by decide+kernel,by decide+kernel,by decide+kernel,by decide+kernel⟩ rfl rfl (by rfl) (kx (iQ 1)) (λ_ _ _ _=>(pe (mq (pv (jc Cc (iQ 0) iU (jx _)) (pS (jc (Ba (Jw hr)) (iY kf (iQ 0) iU) iU (jx _))))))) (λ_ _ _ _=>(iY j3 (iQ 0) iU)))
   (iP (Cg hx.own (jc (sR (Jw hr)) (iQ 3) (lu iO) (jx _))
    (iP (ji (i:=4) pz.nd rfl lo (Tj PySem.F.slot_list_pop PySem.F.type_list_pop To (iQ 3)))
   (iR (jo (jc N4 (iQ 4) (iQ 2) (by with_unfolding_all rfl)) (iP (i6 (Cb cu cx rP (iQ 2) (iN (iQ 4) iO)))
   (iR (ji (i:=3) pz.nd rfl lo (iY KS (iQ 3) (pR (fsc:=iX qq) (N2:=[]) (js:=[]) ⟨rfl,rfl,by decide+kernel,by decide+kernel,by decide+kernel,by decide+kernel,by decide+kernel,by decide+kernel,by decide+kernel⟩ rfl rfl (by rfl) (kx (jk (by exact jw hr) (iQ 0) (iQ 4) (λ_ _=>rfl))) (λ_ _ _ _=>(pe (mq (pv (jc Cc (iQ 0) iU (jx _)) (pS (jc (Ba (Jw hr)) (iY kf (iQ 0) iU) iU (jx _))))))) (λ_ _ _ _=>(iY j3 (iQ 0) iU))))))) jh))))
   (iR (jf (jy Cf (by rfl) T.vP PyProof.Rows.Boot.«sorted» (iN (iQ 2) iO))))))),?_⟩
  show jM _ _ _ [some (Z9 c),some (Z9 l),none,none,none] H
  refine i4 (λσ' H'=>∃f,C4 (H f=none) (ja H H') (H' f=some (.lst [])) (σ'=[some (Z9 c),some (Z9 l),some (Z9 f),none,none])) (λR hR=> ?_) ?_
  ·simp only[jd,xU,jX,jq,ai,aw,ax,true_and,Qr]
   exact λd hd=>hR _ _ ⟨d,hd,ja.upd hd,iS,rfl⟩
  rintro _ H1 ⟨f,hf,s1,ef,rfl⟩
  refine i4 (λσ' H'=>∃r,C4 (H1 r=none) (ja H1 H') (H' r=some (.lst ((oI hw).map Z_))) (σ'=[some (Z9 c),some (Z9 l),some (Z9 f),some (Z9 r),none])) (λR hR=> ?_) ?_
  ·simp only[i3,jX,jq,OO,jb,tJ,uR,qj,av,aa,ae,aw,ax,V.ref.injEq,exists_eq_left',s1 _ _ el]
   exact⟨⟨_,mj.of (s1 _ _ el)⟩,OR (s1 _ _ el) (by lia) λp hp=>hR _ _ ⟨p,hp,ja.upd hp,iS,rfl⟩⟩
  rintro _ H2 ⟨r,hr2,s2,er,rfl⟩
  have nfr:f≠r:=iT ef hr2
  refine i4 (λσ' H'=>Y3 λF a3 a4=>C5 (σ'=[some (Z9 c),some (Z9 l),some (Z9 f),a3,a4]) (H' f=some (.lst (F.map Z_))) (Qo (EY cs) (oI hw) F []) (ja H H') (F.length<=12)) (λR hR=> ?_) ?_
  ·have kl:(oI hw).length<=6:=by rw[oI,aj];exact aH (cI _ _) hl
   refine⟨Xs c l f cs (oI hw) H,⟨_,[],oI hw,r,none,rfl,by rw[ai];lia,rfl,s2 _ _ ef,er,nfr,s1.free hr2,⟨cN,(λp hp=>by cases hp),λp hp=> .s hp,λp hp=> .inr hp,(λp hp=>by cases hp)⟩,s1.trans s2⟩,?_⟩
   rintro k σ H3 ⟨F,W,r3,a4,hk,k200,rfl,e1,e2,nw,hr3,D,s3⟩
   have sF:∀p∈F,p∈cs.map Cl.p:=λp hp=>hc p (D.rf p hp)
   have Fl:F.length<=cs.length:=by have:=sG D.nd sF;rwa[aj]at this
   simp only[kj,jB,jM,kM,jC,ke,iZ,jd,i3,xU,jX,jq,OO,eqv,jb,↓reduceIte,aN,iS,tJ,uR,BY,BZ,qj,sL,Qq,kL,kJ,PH,av,ai,aa,ae,aw,ax,true_and,Qr,QJ,S0,↓jD]
   intro q hq
   have sq:ja H3 (upd H3 q (HO.lst [])):=ja.upd hq
   generalize upd H3 q (HO.lst [])=H4 at*
   have e14:=sq _ _ e1
   have e24:=sq _ _ e2
   have s4:=s3.trans sq
   rw[e24]
   have hW:W=[]∨∃W0 a,W=W0++[a]:=by
    rcases W.eq_nil_or_concat with z|⟨W0,a,z⟩
    ·exact .inl z
    ·exact .inr ⟨W0,a,by rw[z,List.concat_eq_append]⟩
   rcases hW with rfl|⟨W0,a,rfl⟩
   ·dsimp only
    rw[if_pos (show(bX Z_ []).length=([]:List V).length from rfl)]
    exact hR _ _ ⟨F,_,_,rfl,e14,D,s4,by lia⟩
   ·dsimp only
    rw[if_neg (show¬(bX Z_ (W0++[a])).length=([]:List V).length by simp)]
    refine⟨λσ' H'=>∃m',m'<k/\Xs c l f cs (oI hw) H m' σ' H',λσ' H' hh=>hh,?_⟩
    rw[show(bX Z_ (W0++[a]))[(bX Z_ (W0++[a])).length-1]? =some (Z_ a) by simp,show(bX Z_ (W0++[a])).dropLast=W0.map Z_ by simp]
    dsimp only
    have kl2:(cs.length-F.length)*9+(W0.length+1)=k:=by rw[hk,aY];rfl
    have f5:∀b u,H4 b=some u->b≠r3->upd H4 r3 (.lst (W0.map Z_)) b=some u:=λb u e n=>pY e n
    have e5:upd H4 r3 (.lst (W0.map Z_)) r3=some (.lst (W0.map Z_)):=iS
    generalize upd H4 r3 (.lst (W0.map Z_))=H5 at*
    have e15:=f5 _ _ e14 nw
    have s5:ja H H5:=λb u eb=>f5 _ _ (s4 _ _ eb) (iT eb hr3)
    rw[e15]
    dsimp only
    refine⟨rfl,Ju,?_⟩
    by_cases hF:a∈F
    ·rw[if_neg (by rw[O0.mpr hF];decide)]
     exact⟨(cs.length-F.length)*9+W0.length,by lia,F,W0,r3,_,rfl,by lia,rfl,e15,e5,nw,hr3,D.pop hF,s5⟩
    ·rw[if_pos (by rw[←Bool.not_eq_true,O0];exact hF)]
     have D':=D.push hF
     have ha:=hc a (D.rw a (by simp))
     obtain⟨cc,ecc⟩:=Fs ha
     obtain⟨mcc,pcc⟩:=F3 ecc
     obtain⟨rcc,lcc⟩:=hr' cc mcc
     have Fl':F.length+1<=cs.length:=by have:=sG D'.nd λp hp=>hc p (D'.rf p hp);rw[aj,aY]at this;exact this
     refine⟨by rw[aj];exact bO (show F.length<=12 by lia) (by decide),?_⟩
     rw[show F.map Z_++[Z_ a]=(F++[a]).map Z_ by rw[bo];rfl]
     have f6:∀b u,H5 b=some u->b≠f->upd H5 f (HO.lst ((F++[a]).map Z_)) b=some u:=λb u eb nb=>pY eb nb
     have e6:upd H5 f (HO.lst ((F++[a]).map Z_)) f=some (HO.lst ((F++[a]).map Z_)):=iS
     generalize upd H5 f (HO.lst ((F++[a]).map Z_))=H6 at*
     have s6:ja H H6:=λb u eb=>f6 _ _ (s5 _ _ eb) (iT eb hf)
     have e56:=f6 _ _ e5 (aC nw)
     rw[s6 _ _ ec]
     dsimp only
     rw[sP,ecc]
     dsimp only[bG]
     have er6:=s6 _ _ rcc
     refine⟨cc.r,rfl,⟨_,mj.of er6⟩,OR er6 (by lia) λl2 hl2=> ?_⟩
     have s7:ja H6 (upd H6 l2 (HO.lst ((oI cc.w).map Z_))):=ja.upd hl2
     have e7:upd H6 l2 (HO.lst ((oI cc.w).map Z_)) l2=some (HO.lst ((oI cc.w).map Z_)):=iS
     generalize upd H6 l2 (HO.lst ((oI cc.w).map Z_))=H7 at*
     dsimp only
     rw[s7 _ _ e56,e7]
     dsimp only
     have kc:(oI cc.w).length<=8:=by rw[oI,aj];exact aH (cI _ _) lcc
     have ech:EY cs a=oI cc.w:=by unfold EY;rw[ecc]
     rw[ech]at D'
     refine⟨by rw[aj,aj];exact aH (show _<=300 by lia) (by decide),λp5 hp5=>⟨(cs.length-(F.length+1))*9+(W0.length+(oI cc.w).length),by lia,F++[a],W0++oI cc.w,p5,_,by rw[aY,aY];rfl,by lia,rfl,?_,?_,iT (s7 _ _ e6) hp5,(s6.trans s7).free hp5,D',(s6.trans s7).trans (ja.upd hp5)⟩⟩
     ·exact(ja.upd hp5) _ _ (s7 _ _ e6)
     ·rw[iS,bo]
  rintro _ H3 ⟨F,a3,a4,rfl,e3,D,s3,Fl⟩
  simp only[kU,Bg,iZ,jd,i3,A3,A_,aa,ae,e3]
  exact⟨by lia,λk hk=>h k _ _ (s3.free hk) (s3.trans (ja.upd hk)) iS D.YE⟩
noncomputable def v7:Sp:=λvs H Q _=>∃(d:Addr) (wh:List (Int×Int)) (w:Int),vs=[.int w,.ref d]/\H d=some (.dK (dk wh))/\(ot w=true->(lk wh (w/2)).isSome=true)/\Q (.int (tw wh w)) H
theorem Hh:i7 ["_law_word_here","_law_where"] ["_law_word_here","_law_where"] (iX xm):=fsc
theorem Ae(T:Txt K mg A):jA P w K mg base (lG P w) true 11 A.nU A.pL ["_law_word_here","_law_where"] v7:=by
 refine T.vA.nP Hh (λvs H Q E h=> ?_) (λcdv A' outer s H vs Q E hr hx h=> ?_)
 ·obtain⟨_,_,_,rfl,_⟩:=h
  rfl
 ·obtain⟨d,wh,w,rfl,h⟩:=h
  obtain⟨h,ed,hw⟩:=Fj h
  refine⟨_,mL.run (iP (jo (mq (pv (jc Cc (iQ 0) iU (jx _)) (pS (jc rQ (iY kf (iQ 0) iU) iU (jx _))))) (iR (jf (iY jv (iY uG iU (jk (by exact jw hr) (iQ 1) (iY j3 (iQ 0) iU) (λ_ _=>rfl))) iU))) jh)
   (iR (jf (iQ 0)))),?_⟩
  unfold tw at h
  cases hp:ot w with
  |false=>
   rw[if_neg (by rw[hp];decide)]at h
   simp only[ot,decide_eq_false_iff_not,not_and]at hp
   by_cases c:0<w
   ·simp only[kU,kj,jM,kM,jC,ke,zu,tC,i3,rE,OO,sJ,Md,eqv,aV,aW,ao,↓reduceIte,decide_true,decide_false,L2.start,ak,av,af,ai,ah,ay,aa,true_and,aM,aq,aF,↓jD,c,show¬w%2=1 from λz=>hp z c]
    exact h
   ·simp only[kU,kj,jM,kM,jC,ke,zu,tC,i3,OO,sJ,ao,↓reduceIte,decide_false,L2.start,ak,av,af,ai,ah,ay,aa,aM,aq,aF,↓jD,c]
    exact h
  |true=>
   obtain⟨g,eg⟩:=Option.isSome_iff_exists.mp (hw hp)
   rw[if_pos hp,eg]at h
   simp only[ot,decide_eq_true_eq]at hp
   simp only[kU,jM,kM,jC,ke,zu,tC,i3,mP,EX,m8,rE,OO,sJ,Md,eqv,tU,DK,aV,aW,aT,bD,ao,↓reduceIte,decide_true,kL,kJ,L2.start,ak,av,af,ai,ah,ay,aa,ae,and_true,true_and,and_false,aq,aF,↓jD,hp.1,hp.2,ed,wL,eg]
   exact⟨.inl ⟨by decide,by decide⟩,h⟩
structure Yl(wh:List (Int×Int))(ws:List Int)(i n:Nat)(ws':List Int):Prop where
 len:ws'.length=ws.length
 ok:jJ ws'
 hd:ws'.getD i 0=8*n+4
 sl:∀k,k<n->ws'.getD (i+1+k) 0=tw wh (ws.getD (i+1+k) 0)
 out:∀j,j<i∨i+n<j->ws'.getD j 0=ws.getD j 0
noncomputable def Ng (A:Ad):Sp:=λvs H Q _=>∃(m q d:Addr) (ws:List Int) (wh:List (Int×Int)) (i n:Nat),vs=[.ref m,.ref d,.int i]/\kz A.i_ H m q ws/\jJ ws/\ws.length<=4000/\H d=some (.dK (dk wh))/\n<=8/\i+n<ws.length/\(∃a,l_ ws i=some a/\a/4=n)/\(∀k,k<n->Wb wh (ws.getD (i+1+k) 0))/\
 ∀H' ws',kz A.i_ H' m q ws'->Yl wh ws i n ws'->(∀b u,H b=some u->b≠q->H' b=some u)->Q .kT H'
theorem M6:i7 ["memory","where","at","place"] ["memory","where","at"] (iX Ls):=fsc
theorem RC(T:Txt K mg A):jA P w K mg base (lG P w) true 12 A.yd A.A5 ["memory","where","at"] (Ng A):=by
 refine T.Mw.nP M6 (λvs H Q E h=> ?_) (λcdv A' outer s H vs Q E hr hx h=> ?_)
 ·obtain⟨_,_,_,_,_,_,_,rfl,_⟩:=h
  rfl
 ·obtain⟨m,q,d,ws,wh,i,n,rfl,h⟩:=h
  obtain⟨h,hm,wo',wl,ed,n8,il,hc,hb⟩:=Zo h
  refine⟨_,mL.run (iP (i6 (iV (Ll T).mono hr rfl T.Gm T.Ft.kp T.NG hx (iN (iQ 0) (iN (iQ 2) (iN (mv T.uv) iO)))))
   (iR (k7 hx.own rfl (kx (iV (Af T).mono hr rfl T.uD T.vB.kp T.Bs hx (iN (iQ 0) (iN (iQ 2) iO)))) (jO (i:=3) M6.nd rfl lo)
    (iR (i6 (jr (iQ 0) T.jZ T.qk (pw T).mono hr T.p_ hx (iN (iQ 3) (iN (iV (Ai T).mono hr rfl T.uF T.vD.kp T.Bu hx (iN (iQ 1) (iN (jr (iQ 0) T.jZ T.uI (sV T).mono hr T.uA hx (iN (iQ 3) iO)) iO))) iO)))))))),?_⟩
  simp only[jB,jM,iZ,jd,tC,i3,i9,jb,and_assoc,ao,bx,lT,qj,L2.start,ak,av,af,ai,ah,aL,bc,aa,ae,V.ref.injEq,ag,and_true,exists_eq_left',exists_and_left,bz,aq,FC]
  obtain⟨a,ca,an⟩:=hc
  refine⟨q,ws,hm,aD,aD,wo',?_⟩
  rw[if_pos (DI (by lia) (by lia)),show(iv (Z_ i)).toNat=i from bU i,ca]
  dsimp only
  rw[if_pos (by decide),an,show 2*(4*(n:Int)+iv (Z_ 2))=8*(n:Int)+4 by show 2*(4*(n:Int)+2)=_;lia]
  have m1:=hm.put i (8*(n:Int)+4)
  have f1:∀b u,H b=some u->b≠q->upd H q (.lst ((ws.set i (8*(n:Int)+4)).map Z_)) b=some u:=λb u e nb=>pY e nb
  generalize upd H q (.lst ((ws.set i (8*(n:Int)+4)).map Z_))=H1 at*
  have gi:∀j,(ws.set i (8*(n:Int)+4)).getD j 0=if i=j then 8*(n:Int)+4 else ws.getD j 0:=λj=>by
   rw[az,bE]
   by_cases c:i=j
   ·rw[if_pos c,if_pos c,if_pos (by lia)];rfl
   ·rw[if_neg c,if_neg c,←az]
  have wo1:jJ (ws.set i (8*(n:Int)+4)):=wo'.set (by rw[wB,if_neg (by lia),if_pos (by lia)];rfl)
  have ln:(ws.set i (8*(n:Int)+4)).length=ws.length:=bf ..
  generalize ws.set i (8*(n:Int)+4)=w1 at*
  have c1:l_ w1 i=some (4*(n:Int)+2):=by
   rw[rg,gi,if_pos rfl,ln,if_pos (by lia)];congr 1;lia
  unfold qu
  refine⟨m,q,w1,Z_ i,rfl,m1,aD,wo1,by lia,?_⟩
  rw[if_pos (DI (by lia) (by lia)),show(iv (Z_ i)).toNat=i from bU i,c1]
  dsimp only
  intro l hl
  have hs:(AJ (iv (Z_ i)) (4*(n:Int)+2)).map Z_=(bZ n).map λt:Nat=>Z_ (i+1+t):=by
   rw[AJ,show((4*(n:Int)+2)/4).toNat=n by lia,bB];rfl
  rw[hs]
  have ndq:d≠q:=λz=>by rw[z,hm.ls]at ed;cases ed
  have nlq:q≠l:=iT m1.ls hl
  have s1:ja H1 (upd H1 l (.lst ((bZ n).map λt:Nat=>Z_ (i+1+t)))):=ja.upd hl
  have el:upd H1 l (.lst ((bZ n).map λt:Nat=>Z_ (i+1+t))) l=some (.lst ((bZ n).map λt:Nat=>Z_ (i+1+t))):=iS
  generalize upd H1 l (.lst ((bZ n).map λt:Nat=>Z_ (i+1+t)))=H2 at*
  refine⟨l,rfl,⟨_,mj.of el⟩,lA.list (xs:=(bZ n).map λt:Nat=>Z_ (i+1+t)) (λt σ H'=>∃w2 v3,σ=[some (Z9 m),some (Z9 d),some (Z_ i),v3]/\kz A.i_ H' m q w2/\w2.length=ws.length/\jJ w2/\w2.getD i 0=8*n+4/\(∀k,k<t->w2.getD (i+1+k) 0=tw wh (ws.getD (i+1+k) 0))/\
    (∀j,j<i∨i+t<j->w2.getD j 0=ws.getD j 0)/\∀b u,H2 b=some u->b≠q->H' b=some u)
   ⟨w1,none,rfl,m1.same s1,ln,wo1,by rw[gi,if_pos rfl],λk hk=>by lia,λj hj=>by rw[gi,if_neg (by lia)],λb u e _=>e⟩ (λt σ H' _ ⟨_,_,_,_,_,_,_,_,_,f⟩=>mj.of (f _ _ el (aC nlq))) ?_ ?_⟩
  ·rintro t x σ H3 hx ⟨w2,v3,rfl,m3,l3,wo3,h3,k3,o3,f3⟩
   have tn:t<n:=by have:=(List.getElem?_eq_some_iff.mp hx).1;rw[aj,dB]at this;exact this
   rw[aS,fw tn]at hx
   cases hx
   obtain⟨dx,e⟩:=m3.ob
   have ed3:=f3 _ _ (s1 _ _ (f1 _ _ ed ndq)) ndq
   simp only[jB,iZ,jd,i3,jq,i9,and_assoc,↓jg,aa,ae,aw,ax,V.int.injEq,V.ref.injEq,ag,and_true,true_and,exists_eq_left',exists_and_left,ql,e,K9,GN,tE,u4,v8]
   have ti:(iv (Z_ (i+1+t))).toNat=i+1+t:=by show(i+1+t:Int).toNat=_;lia
   have hwb:=hb t tn
   obtain⟨x,ex⟩:=Option.isSome_iff_exists.mp (tw_ok hwb)
   refine⟨q,w2,m3,aD,?_⟩
   rw[if_pos (DI (by lia) (by lia)),ti,o3 (i+1+t) (by lia)]
   refine⟨wh,ed3,hwb,q,w2,m3,aD,aD,?_⟩
   rw[if_pos (DI (by lia) (by lia)),ex]
   dsimp only
   refine⟨_,m3.put _ _,by rw[bf];exact l3,wo3.set (tw_ok hwb),?_,λk hk=> ?_,λj hj=> ?_,λb u e nb=>by rw[iW nb];exact f3 b u e nb⟩
   ·rw[xH,if_neg (by lia)];exact h3
   ·rw[xH]
    by_cases c:k=t
    ·subst c;rw[if_pos (by lia)];rfl
    ·rw[if_neg (by lia)];exact k3 k (by lia)
   ·rw[xH,if_neg (by lia)];exact o3 j (by lia)
  ·rintro σ H3 ⟨w2,v3,rfl,m3,l3,wo3,h3,k3,o3,f3⟩
   rw[aj,dB]at k3 o3
   exact h H3 w2 m3 ⟨l3,wo3,h3,k3,o3⟩ λb u e nb=>f3 _ _ (s1 _ _ (f1 _ _ e nb)) nb
noncomputable def Nh (A:Ad):Sp:=λvs H Q _=>∃p m q o y s ws so sy ss i n g,vs=[.ref p,.int i,.int g]/\pZ A.jm A.i_ A.je H p m q o y s ws so sy ss/\jJ ws/\ws.length<=4000/\0<=i/\i+n<ws.length/\0<=n/\n<=8/\(∃a,l_ ws i.toNat=some a/\a/4=n)/\0<=g/\g+n<ws.length/\n+1<=so.e-so.t/\
 ∀H',pZ A.jm A.i_ A.je H' p m q o y s (cp ws ((ws.drop i.toNat).take (n+1).toNat) g.toNat (n+1).toNat) ⟨so.b,so.e,so.t+(n+1)⟩ sy ss->(∀b u,H b=some u->b≠q->b≠o->H' b=some u)->Q .kT H'
theorem M8:i7 ["areas","at","goal","words"] ["areas","at","goal"] (iX Lu):=fsc
theorem RD(T:Txt K mg A):jA P w K mg base (lG P w) true 12 A.ye A.A6 ["areas","at","goal"] (Nh A):=by
 refine T.Mx.nP M8 (λvs H Q E h=> ?_) (λcdv A' outer s H vs Q E hr hx h=> ?_)
 ·obtain⟨_,_,_,_,_,_,_,_,_,_,_,_,_,rfl,_⟩:=h
  rfl
 ·obtain⟨p,m,q,o,y,s',ws,so,sy,ss,i,n,g,rfl,h⟩:=h
  obtain⟨h,a,wo',wl,i0,il,n0,n8,hc,g0,gl',ht⟩:=Yp h
  refine⟨_,mL.run (iP (ji (i:=3) M8.nd rfl lo (iV (Aj T).mono hr rfl T.vH T.wu.kp T.BW hx (iN (i8 (iQ 0) rfl) (iN (iQ 1) iO))))
   (iP (i6 (jr (i8 (iQ 0) rfl) T.kE T.Dm (Bz T).mono hr T.CO hx (iN (iQ 3) iO)))
   (iR (i6 (jr (i8 (iQ 0) rfl) T.jZ T.Iq (GW T).mono hr T.HL hx (iN (iQ 1) (iN (iQ 2) (iN (iQ 3) iO)))))))),?_⟩
  obtain⟨dp,ep⟩:=a.ob
  obtain⟨d0,eo⟩:=a.old
  obtain⟨c,cc,cn⟩:=hc
  show jM _ _ _ [some (Z9 p),some (Z_ i),some (Z_ g),none] H
  refine i4 (λσ' H'=>H=H'/\σ'=[some (Z9 p),some (Z_ i),some (Z_ g),some (Z_ (n+1))]) (λR hR=> ?_) ?_
  ·simp only[iZ,jd,i3,jX,jq,i9,jb,and_assoc,↓jj,aa,ae,aw,ax,V.ref.injEq,ag,and_true,true_and,exists_eq_left',exists_and_left,jU,oq,ep,T.jF,T.jP,Bp,AV]
   refine⟨q,ws,a.mem,aD,wo',?_⟩
   rw[if_pos (DI (by lia) (by lia)),show(iv (Z_ i)).toNat=i.toNat from rfl,cc]
   dsimp only
   rw[cn]
   exact hR _ _ ⟨rfl,rfl⟩
  rintro _ _ ⟨rfl,rfl⟩
  have e1:upd H o (.ins A.je d0 (uK so.b so.e (so.t+(n+1)))) o=some (.ins A.je d0 (uK so.b so.e (so.t+(n+1)))):=iS
  have f1:∀b u,H b=some u->b≠o->upd H o (.ins A.je d0 (uK so.b so.e (so.t+(n+1)))) b=some u:=λb u e nb=>pY e nb
  refine i4 (λσ' H'=>upd H o (.ins A.je d0 (uK so.b so.e (so.t+(n+1))))=H'/\σ'=[some (Z9 p),some (Z_ i),some (Z_ g),some (Z_ (n+1))]) (λR hR=> ?_) ?_
  ·simp only[jB,iZ,jd,i3,jb,and_assoc,↓jj,↓jg,aa,ae,V.ref.injEq,ag,bh,and_true,true_and,exists_eq_left',exists_and_left,jU,oq,ql,ep,T.jF,T.kK,Bq,eo,Nc,xy]
   refine⟨d0,so.b,so.e,so.t,rfl,aD,?_⟩
   rw[if_pos ⟨rfl,by show 1<=n+1;lia⟩,if_pos (by show n+1<=so.e-so.t;lia)]
   exact hR _ _ ⟨rfl,rfl⟩
  rintro _ _ ⟨rfl,rfl⟩
  generalize upd H o (.ins A.je d0 (uK so.b so.e (so.t+(n+1))))=H1 at*
  have m1:kz A.i_ H1 m q ws:=a.mem.keep λb u eb hb=>f1 _ _ eb (by
   rcases hb with rfl|rfl
   ·exact a.md.1
   ·exact aC (a.old.ne a.mem.ls))
  obtain⟨dm,em⟩:=m1.ob
  simp only[jB,iZ,jd,i3,jb,and_assoc,↓jj,↓jg,aa,ae,V.ref.injEq,ag,and_true,true_and,exists_eq_left',exists_and_left,jU,oq,ql,f1 _ _ ep a.pd.2.1,T.jF,T.jP,Bp,em,Vt,AM]
  refine⟨q,ws,m1,aD,aD,aD,wl,?_⟩
  rw[if_pos ⟨rfl,by show 0<=n+1;lia⟩,if_pos ⟨DI i0 (by show i<=ws.length-(n+1);lia),DI g0 (by show g<=ws.length-(n+1);lia)⟩]
  intro H2 m2 f2
  refine h H2 (a.VI m2 ⟨d0,f2 _ _ e1 (a.old.ne a.mem.ls)⟩ λb u eb nb no=>f2 _ _ (f1 _ _ eb no) nb) λb u eb nb no=>f2 _ _ (f1 _ _ eb no) nb
structure Qu{α:Type}(f:Option α->Option α)(xs:List (Option α))(ks:List Int)(ys:List (Option α)):Prop where
 len:ys.length=xs.length
 get:∀j:Nat,ys[j]? =if (j:Int)∈ks then xs[j]?.map f else xs[j]?
section
variable{α:Type}{f:Option α->Option α}{xs ys:List (Option α)}{ks:List Int}
theorem Qu.nil:Qu f xs [] xs:=⟨rfl,λj=>by rw[if_neg (by simp)]⟩
theorem Qu.step(h:Qu f xs ks ys){k:Nat}{a:Option α}(nk:(k:Int)∉ks)(hv:xs[k]? =some a):ys[k]? =some a/\Qu f xs (ks++[(k:Int)]) (ys.set k (f a)):=by
 refine⟨by rw[h.get,if_neg nk];exact hv,by rw[bf];exact h.len,λj=> ?_⟩
 have kl:k<ys.length:=by rw[h.len];exact(List.getElem?_eq_some_iff.mp hv).1
 rw[bE]
 by_cases c:k=j
 ·subst c
  rw[if_pos rfl,if_pos kl,if_pos (by simp),hv];rfl
 ·rw[if_neg c,h.get]
  have:((j:Int)∈ks++[(k:Int)])↔(j:Int)∈ks:=by
   rw[dQ,bN]
   exact⟨λz=>z.resolve_right (by lia),.inl⟩
  by_cases d:(j:Int)∈ks
  ·rw[if_pos d,if_pos (this.mpr d)]
  ·rw[if_neg d,if_neg (λz=>d (this.mp z))]
theorem Qu.done(h:Qu f xs ks ys)(hk:∀(j:Nat) a,xs[j]? =some (some a)->(j:Int)∈ks)(fn:f none=none):ys=xs.map f:=by
 refine eR λj=> ?_
 rw[h.get,aS]
 by_cases c:(j:Int)∈ks
 ·rw[if_pos c]
 ·rw[if_neg c]
  cases e:xs[j]? with
  |none=>rfl
  |some o=>
   cases o with
   |none=>rw[bG,fn]
   |some a=>exact absurd (hk j a e) c
end
theorem Fz:∀{os:List (Option Int)} {k:Nat} {x:Int×Int},x∈Nx k os->∃n:Nat,x.1=((k+n:Nat):Int)/\os[n]? =some (some x.2)
 | [],_,x,h=>by cases h
 |some p::r,k,x,h=>by
  rcases List.mem_cons.mp h with rfl|h
  ·exact⟨0,rfl,rfl⟩
  ·obtain⟨n,e,g⟩:=Fz h
   exact⟨n+1,by rw[e];lia,g⟩
 |none::r,k,x,h=>by
  obtain⟨n,e,g⟩:=Fz (os:=r) h
  exact⟨n+1,by rw[e];lia,g⟩
theorem Lo:∀{os:List (Option Int)} {k n:Nat} {p:Int},os[n]? =some (some p)->(((k+n:Nat):Int),p)∈Nx k os
 | [],_,_,_,h=>by cases h
 |some q::r,k,0,p,h=>by cases h;exact a_ ..
 |none::r,k,0,p,h=>by cases h
 |some q::r,k,n+1,p,h=>by
  have:=Lo (os:=r) (k:=k+1) h
  rw[show k+1+n=k+(n+1) by lia]at this
  exact ba _ this
 |none::r,k,n+1,p,h=>by
  have:=Lo (os:=r) (k:=k+1) h
  rw[show k+1+n=k+(n+1) by lia]at this
  exact this
theorem Ot:∀{os:List (Option Int)} {k:Nat},((Nx k os).map (·.1)).Pairwise (·<·)
 | [],_=> .nil
 |some p::r,k=>by
  refine List.pairwise_cons.mpr ⟨λz hz=> ?_,Ot⟩
  obtain⟨x,hx,rfl⟩:=List.mem_map.mp hz
  obtain⟨n,e,_⟩:=Fz hx
  show(k:Int)<x.1
  rw[e];lia
 |none::r,k=>Ot (os:=r)
theorem Hw:∀{ws:List (Option (Int×Int))} {k:Nat} {x:Int×Int×Int},x∈j4 k ws->∃n:Nat,x.1=((k+n:Nat):Int)/\ws[n]? =some (some x.2)
 | [],_,x,h=>by cases h
 |some p::r,k,x,h=>by
  rcases List.mem_cons.mp h with rfl|h
  ·exact⟨0,rfl,rfl⟩
  ·obtain⟨n,e,g⟩:=Hw h
   exact⟨n+1,by rw[e];lia,g⟩
 |none::r,k,x,h=>by
  obtain⟨n,e,g⟩:=Hw (ws:=r) h
  exact⟨n+1,by rw[e];lia,g⟩
theorem Hv:∀{ws:List (Option (Int×Int))} {k n:Nat} {p:Int×Int},ws[n]? =some (some p)->(((k+n:Nat):Int),p.1,p.2)∈j4 k ws
 | [],_,_,_,h=>by cases h
 |some q::r,k,0,p,h=>by cases h;exact a_ ..
 |none::r,k,0,p,h=>by cases h
 |some q::r,k,n+1,p,h=>by
  have:=Hv (ws:=r) (k:=k+1) h
  rw[show k+1+n=k+(n+1) by lia]at this
  exact ba _ this
 |none::r,k,n+1,p,h=>by
  have:=Hv (ws:=r) (k:=k+1) h
  rw[show k+1+n=k+(n+1) by lia]at this
  exact this
theorem Sj{β:Type}{g:β->Int}{l:List β}(h:(l.map g).Pairwise (·<·)){i:Nat}{x:β}(e:l[i]? =some x):g x∉(l.take i).map g:=by
 intro z
 obtain⟨y,hy,ey⟩:=List.mem_map.mp z
 obtain⟨j,hj,rfl⟩:=List.mem_iff_getElem.mp hy
 rw[bH]at hj
 have hi:=(List.getElem?_eq_some_iff.mp e).1
 have:=List.pairwise_iff_getElem.mp h j i (by rw[aj];lia) (by rw[aj];exact hi) (by lia)
 rw[b8,b8,(List.getElem?_eq_some_iff.mp e).2]at this
 rw[eT]at ey
 lia
theorem qV{β:Type}{l:List β}{i:Nat}{x:β}(e:l[i]? =some x):l.take (i+1)=l.take i++[x]:=by rw[eU,e];rfl
noncomputable def Kz (wh:List (Int×Int)) (o:Option Int):Option Int:=o.bind (lk wh)
noncomputable def DZ (wh:List (Int×Int)) (o:Option (Int×Int)):Option (Int×Int):=o.bind λy=>(lk wh y.1).map λg=>(g,y.2)
noncomputable def zp (wh:List (Int×Int)) (l:List (Int×Int×Int)):List Int:=l.filterMap λx=>if (lk wh x.2.1).isSome=true then none else some x.2.2
theorem sI.at_{H:Hp}:∀{as:List V} {xs:List (Int×Int)},sI H as xs->∀{i:Nat} {v:V},as[i]? =some v->∃a x,v= .ref a/\xs[i]? =some x/\H a=some (.tup [.int x.1,.int x.2])
 | [],[],_,i,v,e=>by cases e
 | .ref a::as,x::xs,h,0,v,e=>by cases e;exact⟨a,x,rfl,rfl,h.1⟩
 | .ref a::as,x::xs,h,i+1,v,e=>sI.at_ h.2 (i:=i) e
 | [],_::_,h,_,_,_=>h.elim
 | .kT::_,_,h,_,_,_=>by cases h
 | .bl _::_,_,h,_,_,_=>by cases h
 | .int _::_,_,h,_,_,_=>by cases h
 | .str _::_,_,h,_,_,_=>by cases h
 | .byt _::_,_,h,_,_,_=>by cases h
 | .Nu _::_,_,h,_,_,_=>by cases h
 | .ty _::_,_,h,_,_,_=>by cases h
 | .ref _::_,[],h,_,_,_=>h.elim
theorem qZ.at_{H:Hp}{as:List V}{xs:List (Int×Int×Int)}(h:qZ H as xs):∀{i:Nat} {v:V},as[i]? =some v->∃a x,v= .ref a/\xs[i]? =some x/\H a=some (.tup [.int x.1,.int x.2.1,.int x.2.2]):=by
 induction h with
 |nil=>intro i v e;cases e
 |cons ha _ ih=>
  intro i v e
  cases i with
  |zero=>cases e;exact⟨_,_,rfl,rfl,ha⟩
  |succ i=>exact ih e
theorem Jp{mg:Str->Option Value}{H:Hp}{l c d:Addr}{wh:List (Int×Int)}{σ:St}{p:Int}{Q:VK}(hc:Uk mg lm H l c (.ref d))(ed:H d=some (.dK (dk wh)))(hσ:σ[1]? =some (some (.ref l)))(ha:σ[3]? =some (some (.int p)))(q:Q (tv (lk wh p)) H):
  OB mg lm 1 (Kf (i3 1) (i3 0)) (i3 3) σ H Q:=by
 refine⟨l,c,.ref d,hσ,hc,?_⟩
 obtain⟨_,_,oz,_,_,_,ez,_⟩:=hc
 have e2:qW H c d=some (.dK (dk wh)):=by rw[mQ (λz=>by rw[z,ez]at ed;cases ed)];exact ed
 simp only[i3,ha]
 refine⟨trivial,tv (lk wh p),?_,q⟩
 simp only[Kf,i3,ae,aa,e2,kJ,wL]
 refine⟨?_,trivial⟩
 cases lk wh p<;>rfl
noncomputable def zj (mg:Str->Option Value) (A:Ad):Sp:=λvs H Q _=>∃(r l c h b w v la e u d:Addr) (wh:List (Int×Int)) (os:List (Option Int)) (ts:List (Option (Int×Int))) (sd:List Int) (es:List We),vs=[.ref r,.ref l]/\(∃dx,H r=some (.ins A.jK dx (yH h b w la)))/\tV A.jE H w v os/\lN A.ju H la e u ts sd es/\v≠u/\Uk mg lm H l c (.ref d)/\H d=some (.dK (dk wh))/\d≠e/\os.length<=60/\ts.length<60/\(∀p g,lk wh p=some g->0<=g/\g<=9999)/\
 ∀H' es',tV A.jE H' w v (os.map (Kz wh))->lN A.ju H' la e u (ts.map (DZ wh)) (sd++zp wh (j4 0 ts)) es'->(∀b x,H b=some x->b≠v->b≠e->b≠u->H' b=some x)->Q .kT H'
theorem lL:i7 ["self","goal_of","name","at","goal","ticket","number"] ["self","goal_of"] (iX vS):=fsc
theorem E7(T:Txt K mg A):jA P w K mg base (lG P w) true 12 A.lV A.oA ["self","goal_of"] (zj mg A):=by
 refine T.E2.nP lL (λvs H Q E h=> ?_) (λcdv A' outer s H vs Q E hr hx h=> ?_)
 ·obtain⟨_,_,_,_,_,_,_,_,_,_,_,_,_,_,_,_,rfl,_⟩:=h
  rfl
 ·obtain⟨r,l,c,ha,b,w',v,la,e,u,d,wh,os,ts,sd,es,rfl,h⟩:=h
  obtain⟨k,⟨dr,er⟩,hw,hl,nvu,hc,ed,nde,ol,tl,hg⟩:=WT h
  refine⟨_,mL.run (iP (k7 hx.own rfl (kx (kr (i8 (iQ 0) rfl) T.m_ T.Dp (BA T).mono hr T.CP hx)) (GC (n:=2) (by rfl) (rS (jO (i:=2) lL.nd rfl lo) (rS (jO (i:=3) lL.nd rfl lo) D3)))
    (iP (ji (i:=4) lL.nd rfl lo (Gz Zr (i:=1) rfl hr (iQ 3) (λ_ _ _ _ _ hr=>(JB (jw hr) (iQ 1) (iQ 0) ⟨rfl,rfl,rfl,rfl⟩))))
   (iR (jo (jc N1 (iQ 4) sS (jx _)) (iR (i6 (jr (i8 (iQ 0) rfl) T.m_ T.EJ (Ds T).mono hr T.Et hx (iN (iQ 2) iO)))) (iR (i6 (jr (i8 (iQ 0) rfl) T.m_ T.MM (Li T).mono hr T.L_ hx (iN (iQ 2) (iN (iQ 4) iO)))))))))
   (iR (k7 hx.own rfl (kx (kr (i8 (iQ 0) rfl) T.lh T.zi (xQ T).mono hr T.ze hx)) (GC (n:=3) (by rfl) (rS (jO (i:=5) lL.nd rfl lo) (rS (jO (i:=3) lL.nd rfl lo) (rS (jO (i:=6) lL.nd rfl lo) D3))))
    (iP (ji (i:=4) lL.nd rfl lo (Gz Zr (i:=1) rfl hr (iQ 3) (λ_ _ _ _ _ hr=>(JB (jw hr) (iQ 1) (iQ 0) ⟨rfl,rfl,rfl,rfl⟩))))
   (iR (jo (jc N1 (iQ 4) sS (jx _)) (iR (i6 (jr (i8 (iQ 0) rfl) T.lh T.ML (Lg T).mono hr T.L8 hx (iN (iQ 5) iO)))) (iR (i6 (jr (i8 (iQ 0) rfl) T.lh T.K6 (ID T).mono hr T.J7 hx (iN (iQ 5) (iN (iQ 4) iO))))))))))),?_⟩
  obtain⟨dw,ew⟩:=hw.ob
  have km:∀{H1:Hp},(∀b x,H b=some x->b≠v->b≠e->b≠u->H1 b=some x)->Uk mg lm H1 l c (.ref d)/\H1 d=some (.dK (dk wh))/\H1 r=some (.ins A.jK dr (yH ha b w' la)):=λ{H1} f=>by
   have n3:∀{b:Addr} {x:HO},H b=some x->(∀xs,x≠ .lst xs)->(∀kv,x≠ .dK kv)->H1 b=some x:=λ{b x} eb q1 q2=>f b x eb (λz=>by rw[z,hw.ls]at eb;cases eb;exact q1 _ rfl) (λz=>by rw[z,hl.dc]at eb;cases eb;exact q2 _ rfl) (λz=>by rw[z,hl.sq]at eb;cases eb;exact q1 _ rfl)
   exact⟨hc.to λb o eb=>n3 eb (λ_ z=>nomatch z) (λ_ z=>nomatch z),f _ _ ed (λz=>by rw[z,hw.ls]at ed;cases ed) nde (λz=>by rw[z,hl.sq]at ed;cases ed),n3 er (λ_ z=>nomatch z) (λ_ z=>nomatch z)⟩
  show jM _ _ _ [some (Z9 r),some (Z9 l),none,none,none,none,none] H
  refine i4 (λσ' H'=>(∃a2 a3 a4,σ'=[some (Z9 r),some (Z9 l),a2,a3,a4,none,none])/\tV A.jE H' w' v (os.map (Kz wh))/\∀b x,H b=some x->b≠v->H' b=some x) (λR hR=> ?_) ?_
  ·simp only[jd,i3,jb,lT,qj,↓jj,↓jg,aa,and_true,true_and,jU,oq,ql,er,T.jR,T.k_,Co,ew,JR]
   unfold xA
   refine⟨w',v,os,rfl,hw,by lia,λl1 as H1 s1 hl1 e1 pa=>⟨l1,rfl,⟨_,mj.of e1⟩,?_⟩⟩
   have n1:v≠l1:=iT hw.ls hl1
   refine lA.GG (xs:=as) (λi σ H'=>Y4 λa2 a3 a4 os'=>C4 (σ=[some (Z9 r),some (Z9 l),a2,a3,a4,none,none]) (tV A.jE H' w' v os') (Qu (Kz wh) os (((Nx 0 os).take i).map (·.1)) os') (∀b x,H1 b=some x->b≠v->H' b=some x))
    ⟨none,none,none,os,rfl,hw.same s1,Qu.nil,λb x e _=>e⟩ (λi σ H' _ hz=>by obtain⟨_,_,_,_,_,_,_,f⟩:=hz;exact mj.of (f _ _ e1 (aC n1))) ?_ ?_
   ·rintro i x σ H2 hx' ⟨a2,a3,a4,os',rfl,w2,p2,f2⟩ R2 hR2
    obtain⟨a,kp,rfl,ek,ea⟩:=pa.at_ hx'
    obtain⟨n,en,on⟩:=Fz (cz ek)
    rw[bS]at en
    have ea2:=f2 _ _ ea (λz=>by have:=s1 _ _ hw.ls;rw[←z,ea]at this;cases this)
    obtain⟨st,p3⟩:=p2.step (k:=n) (a:=some kp.2) (by rw[←en];exact Sj Ot ek) on
    rw[←en,show((Nx 0 os).take i).map (·.1)++[kp.1]=((Nx 0 os).take (i+1)).map (·.1) by rw[qV ek,bo];rfl]at p3
    obtain⟨hc2,ed2,er2⟩:=km (H1:=H2) λb x eb nv _ _=>f2 _ _ (s1 _ _ eb) nv
    obtain⟨dw2,ew2⟩:=w2.ob
    refine⟨a,_,rfl,JV.of ea2,rfl,_,_,rfl,_,_,rfl,rfl,?_⟩
    show jM _ _ _ [some (Z9 r),some (Z9 l),some (Z_ kp.1),some (Z_ kp.2),a4,none,none] H2
    refine i4 (λσ' H'=>H2=H'/\σ'=[some (Z9 r),some (Z9 l),some (Z_ kp.1),some (Z_ kp.2),some (tv (lk wh kp.2)),none,none]) (λR3 hR3=> ?_) ?_
    ·exact Jp hc2 ed2 rfl rfl (hR3 _ _ ⟨rfl,rfl⟩)
    rintro _ _ ⟨rfl,rfl⟩
    have sn:stN os' (.int kp.1)=true:=by
     have nl:=(List.getElem?_eq_some_iff.mp st).1
     rw[stN,en,aQ]
     refine⟨DI (by lia) (by lia),?_⟩
     rw[show(iv (Z_ n)).toNat=n from bU n,az,st];rfl
    have tn:(iv (Z_ kp.1)).toNat=n:=by rw[en];exact bU n
    cases hk:lk wh kp.2 with
    |none=>
     simp only[jB,kM,jC,ke,iZ,jd,tC,i3,Up,xI,and_assoc,↓reduceIte,↓jj,↓jg,aa,ae,V.ref.injEq,ag,and_true,true_and,exists_eq_left',exists_and_left,↓jD,jU,oq,ql,tv,er2,T.jR,T.k_,Co,ew2,Np,y4]
     refine⟨v,os',w2,aD,?_⟩
     rw[if_pos sn,tn]
     refine hR2 _ _ ⟨_,_,_,_,rfl,w2.put,?_,λb x eb nb=>by rw[iW nb];exact f2 _ _ eb nb⟩
     rw[show Kz wh (some kp.2)=none from hk]at p3
     exact p3
    |some g=>
     obtain⟨g0,g1⟩:=hg _ _ hk
     simp only[jB,kM,jC,ke,iZ,jd,tC,i3,Up,xI,and_assoc,↓reduceIte,↓jj,↓jg,aa,ae,V.ref.injEq,ag,and_true,true_and,exists_eq_left',exists_and_left,aM,↓jD,jU,oq,ql,tv,er2,T.jR,T.k_,Co,ew2,So,DF]
     refine⟨v,os',w2,aD,aD,?_⟩
     rw[if_pos sn,if_pos (DI g0 g1),tn]
     refine hR2 _ _ ⟨_,_,_,_,rfl,w2.put,?_,λb x eb nb=>by rw[iW nb];exact f2 _ _ eb nb⟩
     rw[show Kz wh (some kp.2)=some g from hk]at p3
     exact p3
   ·rintro σ H2 ⟨a2,a3,a4,os',rfl,w2,p2,f2⟩
    have ea:os'=os.map (Kz wh):=p2.done (λj a e=>by
     have m:=Lo (k:=0) e
     rw[bS]at m
     rw[pa.len,bF]
     exact List.mem_map.mpr ⟨_,m,rfl⟩) rfl
    rw[←ea]at hR
    exact hR _ _ ⟨⟨_,_,_,rfl⟩,w2,λb x eb nb=>f2 _ _ (s1 _ _ eb) nb⟩
  rintro _ H1 ⟨⟨a2,a3,a4,rfl⟩,w1,f1⟩
  have l1:lN A.ju H1 la e u ts sd es:=by
   obtain⟨dl,el⟩:=hl.ob
   exact⟨⟨dl,f1 _ _ el (λz=>by rw[z,hw.ls]at el;cases el)⟩,f1 _ _ hl.dc (λz=>by have:=hl.dc;rw[z,hw.ls]at this;cases this),f1 _ _ hl.sq (aC nvu),hl.xs,λx hx'=>f1 _ _ (hl.tp x hx') (λz=>by have:=hl.tp x hx';rw[z,hw.ls]at this;cases this),hl.ln⟩
  obtain⟨dl,el⟩:=l1.ob
  obtain⟨hc1,ed1,er1⟩:=km λb x eb nv _ _=>f1 b x eb nv
  simp only[jd,i3,jb,lT,qj,↓jj,↓jg,aa,and_true,true_and,jU,oq,ql,er1,T.jR,T.lE,Ec,el,EG]
  unfold ur
  refine⟨la,e,u,ts,sd,es,rfl,l1,by lia,λl2 as H2 s2 hl2 e2 ta=>⟨l2,rfl,⟨_,mj.of e2⟩,?_⟩⟩
  have n1:u≠l2:=iT l1.sq hl2
  have n2:l2≠e:=(iT l1.dc hl2).symm
  refine lA.GG (xs:=as) (λi σ H'=>Y7 λa2 a3 a4 a5 a6 ts' es'=>C4 (σ=[some (Z9 r),some (Z9 l),a2,a3,a4,a5,a6]) (lN A.ju H' la e u ts' (sd++zp wh ((j4 0 ts).take i)) es') (Qu (DZ wh) ts (((j4 0 ts).take i).map (·.1)) ts') (Out e u H2 H'))
   ⟨a2,a3,a4,none,none,ts,es,rfl,by rw[fA,zp,List.filterMap_nil,ay];exact l1.same s2,Qu.nil,λb x _ _ e=>e⟩ (λi σ H' _ hz=>by obtain⟨_,_,_,_,_,_,_,_,_,_,f⟩:=hz;exact mj.of (f _ _ n2 (aC n1) e2)) ?_ ?_
  ·rintro i x σ H3 hx' ⟨a2,a3,a4,a5,a6,ts',es',rfl,l3,p3,f3⟩ R2 hR2
   obtain⟨a,kp,rfl,ek,ea⟩:=ta.at_ hx'
   obtain⟨n,en,on⟩:=Hw (cz ek)
   rw[bS]at en
   have l2':=l1.same s2
   have ea3:=f3 _ _ (λz=>by have:=l2'.dc;rw[←z,ea]at this;cases this) (λz=>by have:=l2'.sq;rw[←z,ea]at this;cases this) ea
   obtain⟨st,p4⟩:=p3.step (k:=n) (a:=some kp.2) (by rw[←en];exact Sj FF ek) on
   rw[←en,show((j4 0 ts).take i).map (·.1)++[kp.1]=((j4 0 ts).take (i+1)).map (·.1) by rw[qV ek,bo];rfl]at p4
   obtain⟨hc3,ed3,er3⟩:=km (H1:=H3) λb x eb nv ne nu=>f3 _ _ ne nu (s2 _ _ (f1 _ _ eb nv))
   obtain⟨dl3,F1⟩:=l3.ob
   refine⟨a,_,rfl,JV.of ea3,rfl,_,_,rfl,_,_,rfl,_,_,rfl,rfl,?_⟩
   show jM _ _ _ [some (Z9 r),some (Z9 l),a2,some (Z_ kp.2.1),a4,some (Z_ kp.1),some (Z_ kp.2.2)] H3
   refine i4 (λσ' H'=>H3=H'/\σ'=[some (Z9 r),some (Z9 l),a2,some (Z_ kp.2.1),some (tv (lk wh kp.2.1)),some (Z_ kp.1),some (Z_ kp.2.2)]) (λR3 hR3=> ?_) ?_
   ·exact Jp hc3 ed3 rfl rfl (hR3 _ _ ⟨rfl,rfl⟩)
   rintro _ _ ⟨rfl,rfl⟩
   have tn:(iv (Z_ kp.1)).toNat=n:=by rw[en];exact bU n
   have pk:pd ts' (.int kp.1)=some kp.2:=by
    show(if 0<=kp.1 then ts'.getD kp.1.toNat none else none)=_
    rw[if_pos (by lia),show kp.1.toNat=n from tn,az,st];rfl
   have tl':=l3.ln
   have tl2:=p3.len
   cases hk:lk wh kp.2.1 with
   |none=>
    simp only[jB,kM,jC,ke,iZ,jd,tC,i3,Up,xI,and_assoc,↓reduceIte,↓jj,↓jg,aa,ae,V.ref.injEq,ag,and_true,true_and,exists_eq_left',exists_and_left,↓jD,jU,oq,ql,tv,er3,T.jR,T.lE,Ec,F1,Tu,DC]
    refine⟨e,u,ts',_,es',l3,aD,by lia,?_⟩
    rw[pk]
    dsimp only
    rw[tn]
    intro H4 es4 l4 o4
    refine hR2 _ _ ⟨_,_,_,_,_,ts'.set n none,es4,rfl,?_,?_,λb x n1 n2 eb=>o4 _ _ n1 n2 (f3 _ _ n1 n2 eb)⟩
    ·rw[qV ek,zp,dS,←c8]
     have:iF (λx:Int×Int×Int=>if (lk wh x.2.1).isSome=true then none else some x.2.2) [kp]=[kp.2.2]:=by simp[hk]
     rw[this]
     exact l4
    ·rw[show DZ wh (some kp.2)=none by simp[DZ,hk]]at p4
     exact p4
   |some g=>
    obtain⟨g0,g1⟩:=hg _ _ hk
    simp only[jB,kM,jC,ke,iZ,jd,tC,i3,Up,xI,and_assoc,↓reduceIte,↓jj,↓jg,aa,ae,V.ref.injEq,ag,and_true,true_and,exists_eq_left',exists_and_left,aM,↓jD,jU,oq,ql,tv,er3,T.jR,T.lE,Ec,F1,Rt,BN]
    refine⟨e,u,ts',_,es',l3,aD,aD,by lia,?_⟩
    rw[pk]
    dsimp only
    rw[if_pos (DI g0 g1),tn]
    intro H4 es4 l4 o4
    refine hR2 _ _ ⟨_,_,_,_,_,ts'.set n (some (g,kp.2.2)),es4,rfl,?_,?_,λb x n1 n2 eb=>o4 _ _ n1 n2 (f3 _ _ n1 n2 eb)⟩
    ·rw[qV ek,zp,dS]
     have:iF (λx:Int×Int×Int=>if (lk wh x.2.1).isSome=true then none else some x.2.2) [kp]=[]:=by simp[hk]
     rw[this,ay]
     exact l4
    ·rw[show DZ wh (some kp.2)=some (g,kp.2.2) by simp[DZ,hk]]at p4
     exact p4
  ·rintro σ H3 ⟨a2,a3,a4,a5,a6,ts',es',rfl,l3,p3,f3⟩
   have F1:as.length=(j4 0 ts).length:=ta.len
   have ea:ts'=ts.map (DZ wh):=p3.done (λj a e=>by
    have m:=Hv (k:=0) e
    rw[bS]at m
    rw[F1,bF]
    exact List.mem_map.mpr ⟨_,m,rfl⟩) rfl
   rw[F1,bF,ea]at l3
   refine k H3 es' (w1.keep λb x eb hb=>f3 _ _ (λz=> ?_) (λz=> ?_) (s2 _ _ eb)) l3 λb x eb nv ne nu=>f3 _ _ ne nu (s2 _ _ (f1 _ _ eb nv))
   ·rcases hb with rfl|rfl
    ·obtain⟨dw1,ew1⟩:=w1.ob
     rw[z,l1.dc]at ew1;cases ew1
    ·have:=w1.ls;rw[z,l1.dc]at this;cases this
   ·rcases hb with rfl|rfl
    ·obtain⟨dw1,ew1⟩:=w1.ob
     rw[z,l1.sq]at ew1;cases ew1
    ·exact nvu z
noncomputable def tg:HO->Str
 | .ins _ _ (f::_)=>f.1
 | .lst _=>"l"
 | .dK _=>"d"
 | .tup _=>"t"
 | .CB _=>"b"
 | .rN _ _=>"f"
 |_=>""
theorem jL{H:Hp}{a b:Addr}{o u:HO}(h:H a=some o)(k:H b=some u)(n:(tg o==tg u)=false:=by kernel_rfl):a≠b:=λe=>by rw[e,k]at h;cases h;rw[beq_self_eq_true]at n;cases n
structure Ax where
 p:Addr
 m:Addr
 q:Addr
 o:Addr
 y:Addr
 s:Addr
 r:Addr
 h:Addr
 g:Addr
 b:Addr
 d:Addr
 w:Addr
 v:Addr
 l:Addr
 e:Addr
 u:Addr
noncomputable def mx (x:Ax):List Addr:=[x.q,x.g,x.v,x.u,x.d,x.e]
noncomputable def Bx:HO->Bool
 | .ins _ _ _=>true
 | .own _=>true
 | .CB _=>true
 |_=>false
noncomputable def Kp (L:List Addr) (H H':Hp):Prop:=∀b u,H b=some u->Bx u=false->b∉L->H' b=some u
noncomputable def uy (L:List Addr) (H H':Hp) (L':List Addr):Prop:=Kp L H H'/\∀b∈L',b∈L∨∀u,H b=some u->Bx u=true
section
variable{L L' L'' X:List Addr}{H H' H'':Hp}
theorem uy.keep(h:uy L H H' L'){b:Addr}{u:HO}(e:H b=some u)(i:Bx u=false)(n:b∉L):H' b=some u/\b∉L':=⟨h.1 b u e i n,λz=>(h.2 b z).elim n λq=>by rw[q u e]at i;cases i⟩
theorem uy.trans(a:uy L H H' L')(b:uy L' H' H'' L''):uy L H H'' L'':=by
 refine⟨λc u e i n=>b.1 c u (a.keep e i n).1 i (a.keep e i n).2,λc hc=> ?_⟩
 rcases b.2 c hc with z|z
 ·exact a.2 c z
 ·by_cases n:c∈L
  ·exact .inl n
  ·refine .inr λu e=> ?_
   cases i:Bx u with
   |true=>rfl
   |false=>have:=z u (a.1 c u e i n);rw[this]at i;cases i
theorem uy.refl:uy L H H L:=⟨λ_ _ e _ _=>e,λ_ z=> .inl z⟩
theorem uy.of(f:∀b u,H b=some u->Bx u=false->b∉L->H' b=some u):uy L H H' L:=⟨f,λ_ z=> .inl z⟩
theorem uy.same(s:ja H H'):uy L H H' L:= .of λb u e _ _=>s b u e
end
structure Wx(A:Ad)(H:Hp)(x:Ax)(M:Ms):Prop where
 ar:pZ A.jm A.i_ A.je H x.p x.m x.q x.o x.y x.s M.ws M.so M.sy M.ss
 ro:∃dx,H x.r=some (.ins A.jK dx (yH x.h x.b x.w x.l))
 hd:xY A.j8 H x.h x.g M.hw
 bk:u9 A.jY H x.b x.d M.ks
 wk:tV A.jE H x.w x.v M.os
 ls:∃es,lN A.ju H x.l x.e x.u M.ts M.sd es
 tb:DM H lm A.jN
 nd:(mx x).Nodup
theorem pZ.ka{cA cM cS:Addr}{H H':Hp}{p m q o y s:Addr}{ws:List Int}{so sy ss:S3}(a:pZ cA cM cS H p m q o y s ws so sy ss)(f:∀b u,H b=some u->Bx u=true∨b=q->H' b=some u):pZ cA cM cS H' p m q o y s ws so sy ss:=
 {a with
  ob:=let ⟨d,e⟩:=a.ob;⟨d,f _ _ e (.inl rfl)⟩
  mem:=⟨let ⟨d,e⟩:=a.mem.ob;⟨d,f _ _ e (.inl rfl)⟩,f _ _ a.mem.ls (.inr rfl)⟩
  old:=let ⟨d,e⟩:=a.old;⟨d,f _ _ e (.inl rfl)⟩
  Fg:=let ⟨d,e⟩:=a.Fg;⟨d,f _ _ e (.inl rfl)⟩
  HH:=let ⟨d,e⟩:=a.HH;⟨d,f _ _ e (.inl rfl)⟩}
theorem lN.kl{c p d q:Addr}{H H':Hp}{ws:List (Option (Int×Int))}{sp:List Int}{es:List We}(m:lN c H p d q ws sp es)(f:∀b u,H b=some u->b=p∨b=d∨b=q∨(tg u=="t")=true->H' b=some u):lN c H' p d q ws sp es:=
 ⟨let ⟨dx,e⟩:=m.ob;⟨dx,f _ _ e (.inl rfl)⟩,f _ _ m.dc (.inr (.inl rfl)),f _ _ m.sq (.inr (.inr (.inl rfl))),m.xs,λe h=>f _ _ (m.tp e h) (.inr (.inr (.inr (by kernel_rfl)))),m.ln⟩
noncomputable def nl:HO->Bool
 | .lst _=>false
 | .dK _=>false
 |_=>true
theorem VE{u:HO}(h:Bx u=true):nl u=true:=by cases u<;>first|rfl|cases h
noncomputable def Yh (u:HO):Bool:=tg u=="begin" ||tg u=="memory"
theorem Ac{x:Ax}(h:(mx x).Nodup):(x.q≠x.g/\x.q≠x.v/\x.q≠x.u)/\(x.g≠x.v/\x.g≠x.u)/\x.v≠x.u/\x.d≠x.e:=by
 simp only[mx,bP,br,not_or,bI]at h
 exact⟨⟨h.1.1,h.1.2.1,h.1.2.2.1⟩,⟨h.2.1.1,h.2.1.2.1⟩,h.2.2.1.1,h.2.2.2.2.1.1⟩
section
variable{A:Ad}{H H':Hp}{x:Ax}{M:Ms}
theorem Wx.fr(w:Wx A H x M)(f:∀b u,H b=some u->b∈mx x∨nl u=true->H' b=some u):Wx A H' x M where
 ar:=w.ar.ka λb u e h=>f b u e (h.elim (λz=> .inr (VE z)) λz=> .inl (by rw[z];simp[mx]))
 ro:=let ⟨d,e⟩:=w.ro;⟨d,f _ _ e (.inr rfl)⟩
 hd:=⟨let ⟨d,e⟩:=w.hd.ob;⟨d,f _ _ e (.inr rfl)⟩,f _ _ w.hd.ls (.inl (by simp[mx]))⟩
 bk:=⟨let ⟨d,e⟩:=w.bk.ob;⟨d,f _ _ e (.inr rfl)⟩,f _ _ w.bk.dc (.inl (by simp[mx]))⟩
 wk:=⟨let ⟨d,e⟩:=w.wk.ob;⟨d,f _ _ e (.inr rfl)⟩,f _ _ w.wk.ls (.inl (by simp[mx]))⟩
 ls:=let ⟨es,l⟩:=w.ls;⟨es,⟨let ⟨d,e⟩:=l.ob;⟨d,f _ _ e (.inr rfl)⟩,f _ _ l.dc (.inl (by simp[mx])),f _ _ l.sq (.inl (by simp[mx])),l.xs,λe h=>f _ _ (l.tp e h) (.inr rfl),l.ln⟩⟩
 tb:=by
  obtain⟨ps,e,_⟩:=id w.tb
  exact w.tb.to ((f _ _ e (.inr rfl)).trans e.symm) λb o e=>f _ _ e (.inr rfl)
 nd:=w.nd
theorem Wx.same(w:Wx A H x M)(s:ja H H'):Wx A H' x M:=w.fr λb u e _=>s b u e
theorem Wx.L5(w:Wx A H x M){y s:Addr}{ws:List Int}{so sy ss:S3}(a:pZ A.jm A.i_ A.je H' x.p x.m x.q x.o y s ws so sy ss)(f:∀b u,H b=some u->b≠x.q->Yh u=false->H' b=some u):Wx A H' {x with y:=y,s:=s} {M with ws:=ws,so:=so,sy:=sy,ss:=ss} where
 ar:=a
 ro:=let ⟨d,e⟩:=w.ro;⟨d,f _ _ e (jL e w.ar.mem.ls) (by kernel_rfl)⟩
 hd:=⟨let ⟨d,e⟩:=w.hd.ob;⟨d,f _ _ e (jL e w.ar.mem.ls) (by kernel_rfl)⟩,f _ _ w.hd.ls (aC (Ac w.nd).1.1) (by kernel_rfl)⟩
 bk:=⟨let ⟨d,e⟩:=w.bk.ob;⟨d,f _ _ e (jL e w.ar.mem.ls) (by kernel_rfl)⟩,f _ _ w.bk.dc (jL w.bk.dc w.ar.mem.ls) (by kernel_rfl)⟩
 wk:=⟨let ⟨d,e⟩:=w.wk.ob;⟨d,f _ _ e (jL e w.ar.mem.ls) (by kernel_rfl)⟩,f _ _ w.wk.ls (aC (Ac w.nd).1.2.1) (by kernel_rfl)⟩
 ls:=let ⟨es,l⟩:=w.ls;⟨es,⟨let ⟨d,e⟩:=l.ob;⟨d,f _ _ e (jL e w.ar.mem.ls) (by kernel_rfl)⟩,f _ _ l.dc (jL l.dc w.ar.mem.ls) (by kernel_rfl),f _ _ l.sq (aC (Ac w.nd).1.2.2) (by kernel_rfl),l.xs,λe h=>f _ _ (l.tp e h) (jL (l.tp e h) w.ar.mem.ls) (by kernel_rfl),l.ln⟩⟩
 tb:=by
  obtain⟨ps,e,_⟩:=id w.tb
  exact w.tb.to ((f _ _ e (jL e w.ar.mem.ls) (by kernel_rfl)).trans e.symm) λb o e=>f _ _ e (jL e w.ar.mem.ls) (by kernel_rfl)
 nd:=w.nd
theorem Wx.hand(w:Wx A H x M){hw:List Int}(a:xY A.j8 H' x.h x.g hw)(f:∀b u,H b=some u->b≠x.g->H' b=some u):Wx A H' x {M with hw:=hw} where
 ar:=w.ar.ka λb u e h=>f b u e (h.elim (λz=>λy=>by rw[y,w.hd.ls]at e;cases e;cases z) λz=>by rw[z];exact(Ac w.nd).1.1)
 ro:=let ⟨d,e⟩:=w.ro;⟨d,f _ _ e (jL e w.hd.ls)⟩
 hd:=a
 bk:=⟨let ⟨d,e⟩:=w.bk.ob;⟨d,f _ _ e (jL e w.hd.ls)⟩,f _ _ w.bk.dc (jL w.bk.dc w.hd.ls)⟩
 wk:=⟨let ⟨d,e⟩:=w.wk.ob;⟨d,f _ _ e (jL e w.hd.ls)⟩,f _ _ w.wk.ls (aC (Ac w.nd).2.1.1)⟩
 ls:=let ⟨es,l⟩:=w.ls;⟨es,⟨let ⟨d,e⟩:=l.ob;⟨d,f _ _ e (jL e w.hd.ls)⟩,f _ _ l.dc (jL l.dc w.hd.ls),f _ _ l.sq (aC (Ac w.nd).2.1.2),l.xs,λe h=>f _ _ (l.tp e h) (jL (l.tp e h) w.hd.ls),l.ln⟩⟩
 tb:=by
  obtain⟨ps,e,_⟩:=id w.tb
  exact w.tb.to ((f _ _ e (jL e w.hd.ls)).trans e.symm) λb o e=>f _ _ e (jL e w.hd.ls)
 nd:=w.nd
theorem Wx.book(w:Wx A H x M){d:Addr}{ks:List Int}(a:u9 A.jY H' x.b d ks)(nd:(mx {x with d:=d}).Nodup)(f:∀b u,H b=some u->b≠x.b->b≠x.d->H' b=some u):Wx A H' {x with d:=d} {M with ks:=ks}:=by
 obtain⟨db,eb⟩:=w.bk.ob
 have g:∀{b u},H b=some u->(tg u=="written")=false->(tg u=="d")=false->H' b=some u:=λ{b u} e n1 n2=>f _ _ e (jL e eb n1) (jL e w.bk.dc n2)
 exact
 {ar:={w.ar with
   ob:=let ⟨d,e⟩:=w.ar.ob;⟨d,g e (by kernel_rfl) (by kernel_rfl)⟩
   mem:=⟨let ⟨d,e⟩:=w.ar.mem.ob;⟨d,g e (by kernel_rfl) (by kernel_rfl)⟩,g w.ar.mem.ls (by kernel_rfl) (by kernel_rfl)⟩
   old:=let ⟨d,e⟩:=w.ar.old;⟨d,g e (by kernel_rfl) (by kernel_rfl)⟩
   Fg:=let ⟨d,e⟩:=w.ar.Fg;⟨d,g e (by kernel_rfl) (by kernel_rfl)⟩
   HH:=let ⟨d,e⟩:=w.ar.HH;⟨d,g e (by kernel_rfl) (by kernel_rfl)⟩}
  ro:=let ⟨d,e⟩:=w.ro;⟨d,g e (by kernel_rfl) (by kernel_rfl)⟩
  hd:=⟨let ⟨d,e⟩:=w.hd.ob;⟨d,g e (by kernel_rfl) (by kernel_rfl)⟩,g w.hd.ls (by kernel_rfl) (by kernel_rfl)⟩
  bk:=a
  wk:=⟨let ⟨d,e⟩:=w.wk.ob;⟨d,g e (by kernel_rfl) (by kernel_rfl)⟩,g w.wk.ls (by kernel_rfl) (by kernel_rfl)⟩
  ls:=let ⟨es,l⟩:=w.ls;⟨es,⟨let ⟨d,e⟩:=l.ob;⟨d,g e (by kernel_rfl) (by kernel_rfl)⟩,f _ _ l.dc (jL l.dc eb) (aC (Ac w.nd).2.2.2),g l.sq (by kernel_rfl) (by kernel_rfl),l.xs,λe h=>g (l.tp e h) (by kernel_rfl) (by kernel_rfl),l.ln⟩⟩
  tb:=by
   obtain⟨ps,e,_⟩:=id w.tb
   exact w.tb.to ((g e (by kernel_rfl) (by kernel_rfl)).trans e.symm) λb o e=>g e (by kernel_rfl) (by kernel_rfl)
  nd:=nd}
theorem Wx.tick(w:Wx A H x M){os:List (Option Int)}{ts:List (Option (Int×Int))}{sd:List Int}{es:List We}(a:tV A.jE H' x.w x.v os)(l:lN A.ju H' x.l x.e x.u ts sd es)(f:∀b u,H b=some u->b≠x.v->b≠x.e->b≠x.u->H' b=some u):Wx A H' x {M with os:=os,ts:=ts,sd:=sd}:=by
 obtain⟨es0,l0⟩:=w.ls
 have g:∀{b u},H b=some u->(tg u=="l")=false->(tg u=="d")=false->H' b=some u:=λ{b u} e n1 n2=>f _ _ e (jL e w.wk.ls n1) (jL e l0.dc n2) (jL e l0.sq n1)
 have n:=Ac w.nd
 exact
 {ar:={w.ar with
   ob:=let ⟨d,e⟩:=w.ar.ob;⟨d,g e (by kernel_rfl) (by kernel_rfl)⟩
   mem:=⟨let ⟨d,e⟩:=w.ar.mem.ob;⟨d,g e (by kernel_rfl) (by kernel_rfl)⟩,f _ _ w.ar.mem.ls n.1.2.1 (jL w.ar.mem.ls l0.dc) n.1.2.2⟩
   old:=let ⟨d,e⟩:=w.ar.old;⟨d,g e (by kernel_rfl) (by kernel_rfl)⟩
   Fg:=let ⟨d,e⟩:=w.ar.Fg;⟨d,g e (by kernel_rfl) (by kernel_rfl)⟩
   HH:=let ⟨d,e⟩:=w.ar.HH;⟨d,g e (by kernel_rfl) (by kernel_rfl)⟩}
  ro:=let ⟨d,e⟩:=w.ro;⟨d,g e (by kernel_rfl) (by kernel_rfl)⟩
  hd:=⟨let ⟨d,e⟩:=w.hd.ob;⟨d,g e (by kernel_rfl) (by kernel_rfl)⟩,f _ _ w.hd.ls n.2.1.1 (jL w.hd.ls l0.dc) n.2.1.2⟩
  bk:=⟨let ⟨d,e⟩:=w.bk.ob;⟨d,g e (by kernel_rfl) (by kernel_rfl)⟩,f _ _ w.bk.dc (jL w.bk.dc w.wk.ls) n.2.2.2 (jL w.bk.dc l0.sq)⟩
  wk:=a
  ls:=⟨es,l⟩
  tb:=by
   obtain⟨ps,e,_⟩:=id w.tb
   exact w.tb.to ((g e (by kernel_rfl) (by kernel_rfl)).trans e.symm) λb o e=>g e (by kernel_rfl) (by kernel_rfl)
  nd:=w.nd}
end
structure Cw(H:Hp)(C:Addr)(cs:List Cl):Prop where
 dc:H C=some (.dK (va cs))
 row:∀c∈cs,H c.r=some (.lst (c.w.map Z_))
noncomputable def lc (C:Addr) (cs:List Cl):List Addr:=C::cs.map Cl.r
theorem Cw.fr{H H':Hp}{C:Addr}{cs:List Cl}(w:Cw H C cs)(f:∀b u,H b=some u->b∈lc C cs->H' b=some u):Cw H' C cs:=
 ⟨f _ _ w.dc (a_ ..),λc hc=>f _ _ (w.row c hc) (ba _ (cb hc))⟩
theorem Ph{u:HO}(h:Bx u=false):Yh u=false:=by
 cases u with
 |ins _ _ _=>cases h
 |own _=>cases h
 |CB _=>cases h
 |_=>kernel_rfl
theorem Kp.fresh{L:List Addr}{H H1:Hp}{r:Addr}(k:Kp L H H1)(hr:H1 r=none)(nr:r∉L):∀u,H r=some u->Bx u=true:=λu e=>by
 cases i:Bx u with
 |true=>rfl
 |false=>rw[k r u e i nr]at hr;cases hr
theorem Wx.Bm{A:Ad}{H:Hp}{x:Ax}{M:Ms}(w:Wx A H x M):∀b∈mx x,∃u,H b=some u/\Bx u=false:=λb hb=>by
 obtain⟨es,l⟩:=w.ls
 simp only[mx,br,bI,or_false]at hb
 rcases hb with rfl|rfl|rfl|rfl|rfl|rfl
 ·exact⟨_,w.ar.mem.ls,rfl⟩
 ·exact⟨_,w.hd.ls,rfl⟩
 ·exact⟨_,w.wk.ls,rfl⟩
 ·exact⟨_,l.sq,rfl⟩
 ·exact⟨_,w.bk.dc,rfl⟩
 ·exact⟨_,l.dc,rfl⟩
theorem Cw.Bm{H:Hp}{C:Addr}{cs:List Cl}(w:Cw H C cs):∀b∈lc C cs,∃u,H b=some u/\Bx u=false:=λb hb=>by
 rcases List.mem_cons.mp hb with rfl|hb
 ·exact⟨_,w.dc,rfl⟩
 ·obtain⟨c,hc,rfl⟩:=List.mem_map.mp hb
  exact⟨_,w.row c hc,rfl⟩
theorem nO{H:Hp}{L:List Addr}{r:Addr}(h:∀b∈L,∃u,H b=some u/\Bx u=false)(hr:H r=none):r∉L:=λz=>by
 obtain⟨u,e,_⟩:=h r z
 rw[hr]at e;cases e
theorem FG{H:Hp}{L L':List Addr}(h:∀b∈L,∃u,H b=some u/\Bx u=false)(k:∀b∈L',∃u,H b=some u/\Bx u=false):∀b∈L++L',∃u,H b=some u/\Bx u=false:=λb hb=>(List.mem_append.mp hb).elim (h b) (k b)
theorem Vd{cs:List Cl}{t:Int}(h:t∉cs.map Cl.p):fd cs t=none:=by
 cases e:fd cs t with
 |none=>rfl
 |some c=>obtain⟨m,rfl⟩:=F3 e;exact absurd (cb m) h
theorem OW{cs:List Cl}{t:Int}{r:Addr}{w:List Int}(h:t∉cs.map Cl.p):putK (va cs) (aJ t) (.ref r)=va (cs++[⟨t,r,w⟩]):=by
 unfold putK
 rw[v_,sP,Vd h]
 simp[va]
section
variable{o y:Int}{N:Nat}{cs:List Cl}{M:Ms}
theorem Gv.lay(g:Gv o y N cs M){t gd:Int}{n:Nat}{r:Addr}{so sy:S3}(n8:n<=8)(g0:0<=gd)(g2:gd<=2)(hu:M.so.t+(M.sy.t-M.sy.b)+n+1<=o)
  (h:(t=M.so.t/\so=⟨M.so.b,M.so.e,M.so.t+(n+1)⟩/\sy=M.sy)∨(t=M.sy.t/\so=M.so/\sy=⟨M.sy.b,M.sy.e,M.sy.t+(n+1)⟩/\M.sy.t+n+1<=M.sy.e)):
  Gv o y (N+1) (cs++[⟨t,r,ah n (-1)⟩]) {M with ws:=tQ M.ws t.toNat n gd,so:=so,sy:=sy}:=by
 have wl:=g.wl
 have oy:=g.oy
 have s1:=g.so
 have s2:=g.sy
 have dj:∀d∈cs,d.p+1+d.w.length<=t∨t+1+n<=d.p:=λd hd=>by
  have:=g.pl d hd
  have:=(g.mr.cl d hd).1
  rcases h with h|h<;>lia
 refine⟨g.mr.add (by rcases h with h|h<;>lia) n8 g0 g2 (by rcases h with h|h<;>lia) dj,by rw[Bc];exact wl,oy,?_,?_,?_,λc hc=> ?_,by rw[aY];exact dG g.nn,λc hc v hv hp=> ?_,g.hl,g.ho,λv hv hp=> ?_,g.ks,g.on,g.tn⟩
 ·rcases h with ⟨_,rfl,_⟩|⟨_,rfl,_⟩<;>dsimp only<;>lia
 ·rcases h with ⟨_,_,rfl⟩|⟨_,_,rfl,_⟩<;>dsimp only<;>lia
 ·rcases h with ⟨_,rfl,rfl⟩|⟨_,rfl,rfl,_⟩<;>dsimp only<;>lia
 ·rcases List.mem_append.mp hc with hc|hc
  ·have:=g.pl c hc
   rcases h with ⟨_,rfl,rfl⟩|⟨_,rfl,rfl,_⟩<;>dsimp only<;>lia
  ·rw[List.mem_singleton.mp hc]
   dsimp only
   rw[bw]
   rcases h with ⟨_,rfl,rfl⟩|⟨_,rfl,rfl,_⟩<;>dsimp only<;>lia
 ·rw[bo]
  rcases List.mem_append.mp hc with hc|hc
  ·exact bj _ (g.ch c hc v hv hp)
  ·rw[List.mem_singleton.mp hc]at hv
   rw[dE hv]at hp
   cases hp
 ·rw[bo];exact bj _ (g.hp v hv hp)
end
noncomputable def Nd (A:Ad):Sp:=λvs H Q _=>Y9 λ(C:Addr) (x:Ax) (M:Ms) (cs:List Cl) (o y n:Int) (N:Nat) (sd:Int)=>X8 (vs=[.ref x.p,.int sd,.int n,.ref C]) (Wx A H x M) (Cw H C cs) ((mx x++lc C cs).Nodup) (Gv o y N cs M) (N<12) (0<=n) (n<=8) ((sd=0∨sd=1)) (M.so.t+(M.sy.t-M.sy.b)+n+1<=o) ((sd=1->M.sy.t+n+1<=M.sy.e)) (∀H' at' r ws so sy,let M':={M with ws:=ws,so:=so,sy:=sy};let cs':=cs++[⟨at',r,ah n.toNat (-1)⟩];Wx A H' x M'->Cw H' C cs'->(mx x++lc C cs').Nodup->Gv o y (N+1) cs' M'->(sd=0->so.t=M.so.t+n+1/\sy=M.sy)->(sd=1->so=M.so/\sy.t=M.sy.t+n+1/\sy.b=M.sy.b/\l_ ws at'.toNat=some (4*n))->uy (mx x++lc C cs) H H' (mx x++lc C cs')->Q (.int at') H')
theorem AE:i7 ["_law_areas","_law_side","_law_slots","_law_cells","_law_at"] ["_law_areas","_law_side","_law_slots","_law_cells"] (iX yW):=fsc
theorem EK(T:Txt K mg A):jA P w K mg base (lG P w) true 12 A.rF A.tZ ["_law_areas","_law_side","_law_slots","_law_cells"] (Nd A):=by
 refine T.zM.nP AE (λvs H Q E h=> ?_) (λcdv A' outer s H vs Q E hr hx h=> ?_)
 ·obtain⟨_,_,_,_,_,_,_,_,_,rfl,_⟩:=h
  rfl
 ·obtain⟨C,x,M,cs,o,y,n,N,sd,rfl,wx,cw,nd,gv,n12,n0,n8,hs,hu,hy,h⟩:=h
  refine⟨_,mL.run (iP (jo (jc rQ (iQ 1) iU (jx _)) (iR (ji (i:=4) AE.nd rfl lo (jr (iQ 0) T.jF T.E6 (D9 T).mono hr T.EW hx (iN (iQ 2) iO)))) (iR (ji (i:=4) AE.nd rfl lo (jr (iQ 0) T.jF T.Dk (Ck T).mono hr T.CM hx (iN (iQ 2) iO)))))
   (iP (mi (jw hr) (iQ 3) (iQ 4) (pR (fsc:=iX yW) (N2:=[]) (js:=[]) ⟨rfl,rfl,by decide+kernel,by decide+kernel,by decide+kernel,by decide+kernel,by decide+kernel,by decide+kernel,by decide+kernel⟩ rfl rfl (by rfl) (oY rfl T.rB (iN (iQ 2) iO)) (λ_ _ _ _=>uk) (λ_ _ _ _=>(KY KW iU))) rfl)
   (iR (jf (iQ 4))))),?_⟩
  obtain⟨dp,ep⟩:=wx.ar.ob
  have wl:=gv.wl
  have oy:=gv.oy
  have s1:=gv.so
  have s2:=gv.sy
  have hv:wi (Z_ n) 0 8=true:=DI n0 n8
  have nn:(n.toNat:Int)=n:=cP n0
  show jM _ _ _ [some (Z9 x.p),some (Z_ sd),some (Z_ n),some (Z9 C),none] H
  refine i4 (λσ' H'=>Y4 λt gd so sy=>C6 (σ'=[some (Z9 x.p),some (Z_ sd),some (Z_ n),some (Z9 C),some (Z_ t)]) (pZ A.jm A.i_ A.je H' x.p x.m x.q x.o x.y x.s (tQ M.ws t.toNat n.toNat gd) so sy M.ss) ((∀b u,H b=some u->b≠x.q->Yh u=false->H' b=some u)) (0<=gd) (gd<=2) (((t=M.so.t/\so=⟨M.so.b,M.so.e,M.so.t+(n.toNat+1)⟩/\sy=M.sy/\sd=0)∨(t=M.sy.t/\so=M.so/\sy=⟨M.sy.b,M.sy.e,M.sy.t+(n.toNat+1)⟩/\M.sy.t+n.toNat+1<=M.sy.e/\sd=1/\gd=0)))) (λR hR=> ?_) ?_
  ·rcases hs with rfl|rfl
   ·simp only[kM,jC,ke,iZ,jd,tC,i3,jX,jq,Md,eqv,and_assoc,↓reduceIte,decide_true,↓jg,aa,ae,aw,ax,V.ref.injEq,ag,and_true,true_and,exists_eq_left',exists_and_left,↓jD,ql,ep,UO,xT]
    refine⟨_,_,_,_,_,_,_,_,_,wx.ar,gv.mr.ok,by lia,by lia,by lia,aD,?_⟩
    rw[if_pos hv,if_pos (show iv (Z_ n)+1<=M.so.e-M.so.t by show n+1<=_;lia)]
    intro H1 a1 f1
    obtain⟨d0,eo⟩:=wx.ar.old
    exact hR _ _ ⟨_,2,_,_,rfl,a1,λb u e nq ns=>f1 b u e nq (λz=>by rw[z,eo]at e;cases e;cases ns),by decide,by decide,.inl ⟨rfl,by rw[nn];rfl,rfl,rfl⟩⟩
   ·simp only[kM,jC,ke,iZ,jd,tC,i3,jX,jq,Md,eqv,and_assoc,Int.reduceEq,iD,↓reduceIte,decide_false,↓jg,aa,ae,aw,ax,V.ref.injEq,ag,and_true,true_and,exists_eq_left',exists_and_left,aM,↓jD,ql,ep,UP,vY]
    have hy:=hy rfl
    refine⟨_,_,_,_,_,_,_,_,_,wx.ar,gv.mr.ok,by lia,by lia,by lia,aD,?_⟩
    rw[if_pos hv,if_pos (show iv (Z_ n)+1<=M.sy.e-M.sy.t by show n+1<=_;lia)]
    intro H1 a1 f1
    obtain⟨d0,eo⟩:=wx.ar.Fg
    exact hR _ _ ⟨_,0,_,_,rfl,a1,λb u e nq ns=>f1 b u e nq (λz=>by rw[z,eo]at e;cases e;cases ns),by decide,by decide,.inr ⟨rfl,rfl,by rw[nn];rfl,by lia,rfl,rfl⟩⟩
  rintro _ H1 ⟨t,gd,so,sy,rfl,a1,f1,g0,g2,ht⟩
  have w1:=wx.L5 a1 f1
  have gl:=λr=>gv.lay (r:=r) (gd:=gd) (n:=n.toNat) (t:=t) (so:=so) (sy:=sy) (by lia) g0 g2 (by lia) (by
   rcases ht with ⟨h1,h2,h3,_⟩|⟨h1,h2,h3,h4,_⟩
   ·exact .inl ⟨h1,h2,h3⟩
   ·exact .inr ⟨h1,h2,h3,h4⟩)
  have cq:x.q∉lc C cs:=λz=>by
   rw[bV]at nd
   exact nd.2.2 x.q (by simp[mx]) x.q z rfl
  have c1:Cw H1 C cs:=⟨f1 _ _ cw.dc (λz=>cq (by rw[←z];exact a_ ..)) (by kernel_rfl),λc hc=>f1 _ _ (cw.row c hc) (λz=>cq (by rw[←z];exact ba _ (cb hc))) (by kernel_rfl)⟩
  have tn:t∉cs.map Cl.p:=λz=>by
   have:=(gl 0).mr.nd
   rw[bo,bV]at this
   exact this.2.2 t z t (by simp) rfl
  simp only[kU,jM,iZ,jd,i3,aT,bD,tJ,uR,zY,sN,kJ,av,aa,ae,V.int.injEq,ag,and_true,exists_eq_left']
  refine⟨by lia,by lia,CY (λi ys H'=>ys=(ah i (-1)).map Z_/\H1=H') ⟨rfl,rfl⟩ (aH (show n.toNat<=8 by lia) (by decide)) (λi ys H' z=>by rw[z.1];simp) (λi ys H' hi hP K1 hK=> ?_) λys H' hP r hr=> ?_⟩
  ·obtain⟨rfl,rfl⟩:=hP
   simp only[WD,tC,NL,aT,↓reduceIte,OE]
   exact hK _ _ ⟨by rw[List.replicate_succ',bo];rfl,rfl⟩
  obtain⟨rfl,rfl⟩:=hP
  have s2:=ja.upd (o:= .lst ((ah n.toNat (-1)).map Z_)) hr
  have er:upd H1 r (.lst ((ah n.toNat (-1)).map Z_)) r=some (.lst ((ah n.toNat (-1)).map Z_)):=iS
  generalize upd H1 r (.lst ((ah n.toNat (-1)).map Z_))=H2 at*
  rw[s2 _ _ c1.dc]
  dsimp only
  rw[OW (w:=ah n.toNat (-1)) tn]
  have cl:cs.length<=12:=aH gv.nn (by lia)
  refine⟨by rw[va,aj];exact bO cl (by decide),?_⟩
  have f3:∀b u,H2 b=some u->b≠C->upd H2 C (.dK (va (cs++[⟨t,r,ah n.toNat (-1)⟩]))) b=some u:=λb u e nb=>pY e nb
  have e3:upd H2 C (.dK (va (cs++[⟨t,r,ah n.toNat (-1)⟩]))) C=some (.dK (va (cs++[⟨t,r,ah n.toNat (-1)⟩]))):=iS
  generalize upd H2 C (.dK (va (cs++[⟨t,r,ah n.toNat (-1)⟩])))=H3 at*
  have k1:Kp (mx x++lc C cs) H H1:=λb u e i n=>f1 b u e (λz=>n (bj _ (by rw[z];simp[mx]))) (Ph i)
  have nr:r∉mx x++lc C cs:=nO (FG w1.Bm c1.Bm) hr
  have nC:C∉mx x:=λz=>by
   rw[bV]at nd
   exact nd.2.2 C z C (a_ ..) rfl
  have nrr:C∉cs.map Cl.r:=by
   rw[bV]at nd
   exact(List.nodup_cons.mp nd.2.1).1
  have rC:r≠C:=λz=>nr (aO _ (by rw[z];exact a_ ..))
  have el:mx x++lc C (cs++[⟨t,r,ah n.toNat (-1)⟩])=(mx x++lc C cs)++[r]:=by simp[lc]
  refine h H3 t r _ so sy (w1.fr λb u e z=>f3 _ _ (s2 _ _ e) (λy=> ?_)) ⟨e3,λc hc=> ?_⟩ ?_ (gl r) (λz=> ?_) (λz=> ?_) ⟨λb u e i n=> ?_,λb hb=> ?_⟩
  ·rcases z with z|z
   ·rw[y]at z;exact nC z
   ·rw[y,c1.dc]at e;cases e;cases z
  ·rcases List.mem_append.mp hc with hc|hc
   ·exact f3 _ _ (s2 _ _ (c1.row c hc)) λz=>nrr (by rw[←z];exact cb hc)
   ·rw[List.mem_singleton.mp hc];exact f3 _ _ er rC
  ·rw[el,bV]
   exact⟨nd,by simp,λa ha b hb z=>nr (by rw[List.mem_singleton.mp hb]at z;rw[←z];exact ha)⟩
  ·rcases ht with ⟨_,rfl,rfl,_⟩|⟨_,_,_,_,h5,_⟩
   ·exact⟨by dsimp only;lia,rfl⟩
   ·lia
  ·rcases ht with ⟨_,_,_,h5⟩|⟨h1,rfl,rfl,_,_,h6⟩
   ·lia
   ·refine⟨rfl,by dsimp only;lia,rfl,?_⟩
    rw[h6,Ex (by lia) (by lia) (by decide) (by decide),nn]
    congr 1;lia
  ·exact f3 _ _ (s2 _ _ (k1 _ _ e i n)) λz=>n (aO _ (by rw[z];exact a_ ..))
  ·rw[el]at hb
   rcases List.mem_append.mp hb with hb|hb
   ·exact .inl hb
   ·rw[List.mem_singleton.mp hb];exact .inr (k1.fresh hr nr)
section
variable{o y:Int}{N:Nat}{cs:List Cl}{M:Ms}
theorem Gv.set(g:Gv o y N cs M){c:Cl}(hc:c∈cs){k:Nat}(hk:k<c.w.length){v:Int}(hv:(kd (.int v)).isSome=true)(hp:ot v=true->v/2∈cs.map Cl.p){ks:List Int}(h:ks.Nodup/\∀k∈ks,0<=k/\k<o+2*y):
  Gv o y N (zw cs c.p k v) {M with ws:=M.ws.set (c.p.toNat+1+k) v,ks:=ks}:=by
 refine⟨g.mr.set hc hk hv,by rw[bf];exact g.wl,g.oy,g.so,g.sy,g.us,λd hd=> ?_,by rw[zw,aj];exact g.nn,λd hd z hz hzp=> ?_,g.hl,g.ho,λz hz hzp=>by rw[LV];exact g.hp z hz hzp,h,g.on,g.tn⟩
 ·obtain⟨e,he,e1,_,e3,_⟩:=v9 hd
  rw[e1,e3];exact g.pl e he
 ·rw[LV]
  obtain⟨e,he,e1,_,e3,e4⟩:=v9 hd
  rcases e4 with ⟨_,e5⟩|⟨_,e5⟩
  ·rw[e5]at hz
   rcases dD hz with hz|rfl
   ·exact g.ch e he z hz hzp
   ·exact hp hzp
  ·rw[e5]at hz;exact g.ch e he z hz hzp
theorem Gv.kl(g:Gv o y N cs M):M.ks.length<=120:=by
 have oy:=g.oy
 have:=sG (M:=M.ks) (ks:=(bZ 120).map λi:Nat=>(i:Int)) g.ks.1 λk hk=>by
  have:=g.ks.2 k hk
  exact List.mem_map.mpr ⟨k.toNat,List.mem_range.mpr (by lia),by lia⟩
 rw[aj,dB]at this
 exact this
end
theorem F4{cs:List Cl}(nd:(cs.map Cl.p).Nodup){c:Cl}(h:c∈cs):fd cs c.p=some c:=by
 obtain⟨d,e⟩:=Fs (List.mem_map.mpr ⟨c,h,rfl⟩)
 obtain⟨m,ep⟩:=F3 e
 rw[e,xO nd m h ep]
theorem MJ{C:Addr}{cs:List Cl}{p:Int}{k:Nat}{v:Int}:lc C (zw cs p k v)=lc C cs:=by rw[lc,Wt];rfl
theorem Pf{ks:List Int}{k:Int}{P:Int->Prop}(h:ks.Nodup/\∀x∈ks,P x):(IJ ks k).Nodup/\∀x∈IJ ks k,P x:=⟨h.1.filter _,λx hx=>h.2 x (List.mem_filter.mp hx).1⟩
theorem Vh{ks:List Int}{k:Int}{P:Int->Prop}(h:ks.Nodup/\∀x∈ks,P x)(hk:P k):(WC ks k).Nodup/\∀x∈WC ks k,P x:=by
 unfold WC
 by_cases c:k∈ks
 ·rw[if_pos c];exact h
 ·rw[if_neg c]
  refine⟨?_,λx hx=> ?_⟩
  ·rw[bV]
   exact⟨h.1,by simp,λa ha b hb z=>c (by rw[List.mem_singleton.mp hb]at z;rw[←z];exact ha)⟩
  ·rcases List.mem_append.mp hx with hx|hx
   ·exact h.2 x hx
   ·rw[List.mem_singleton.mp hx];exact hk
theorem Vg{tc:TT}{t u:TS}{D:Ends}{σ:St}{H:Hp}(h:∃b,∀K:Bool->Hp->Prop,K b H->tc σ H K)(ht:t D σ H)(hu:u D σ H):kM tc t u D σ H:=by
 obtain⟨b,h⟩:=h
 cases b with
 |true=>exact Gp h ht
 |false=>exact Mz h hu
theorem QE{v:V}{so sy:S3}:Sy v so sy= .str (bt "old")∨Sy v so sy= .str (bt "young")∨Sy v so sy= .kT:=by
 unfold Sy
 split
 ·exact .inl rfl
 ·split
  ·exact .inr (.inl rfl)
  ·exact .inr (.inr rfl)
noncomputable def Jf (A:Ad):Sp:=λvs H Q _=>Zm λ(C:Addr) (x:Ax) (M:Ms) (cs:List Cl) (o y:Int) (N:Nat) (c:Cl) (k:Nat) (v:Int)=>X7 (vs=[.ref x.p,.ref x.r,.ref C,.int c.p,.int k,.int v]) (Wx A H x M) (Cw H C cs) ((mx x++lc C cs).Nodup) (Gv o y N cs M) (c∈cs) (k<c.w.length) ((kd (.int v)).isSome=true) ((ot v=true->v/2∈cs.map Cl.p)) (∀H' ks,let M':={M with ws:=M.ws.set (c.p.toNat+1+k) v,ks:=ks};Wx A H' x M'->Cw H' C (zw cs c.p k v)->Gv o y N (zw cs c.p k v) M'->uy (mx x++lc C cs) H H' (mx x++lc C cs)->Q .kT H')
theorem IZ:i7 ["_law_areas","_law_roots","_law_cells","_law_at","_law_slot","_law_word_here"] ["_law_areas","_law_roots","_law_cells","_law_at","_law_slot","_law_word_here"] (iX yX):=fsc
theorem BB(T:Txt K mg A):jA P w K mg base (lG P w) true 12 A.o7 A.qL ["_law_areas","_law_roots","_law_cells","_law_at","_law_slot","_law_word_here"] (Jf A):=by
 refine T.wM.nP IZ (λvs H Q E h=> ?_) (λcdv A' outer s H vs Q E hr hx h=> ?_)
 ·obtain⟨_,_,_,_,_,_,_,_,_,_,rfl,_⟩:=h
  rfl
 ·obtain⟨C,x,M,cs,o,y,N,c,k,v,rfl,wx,cw,nd,gv,hc,hk,hv,hp,h⟩:=h
  refine⟨_,mL.run (iP (uT (iQ 5) (uS (jk (by exact jw hr) (iQ 2) (iQ 3) (λ_ _=>rfl)) (iQ 4) wA))
   (iP (i6 (jr (i8 (iQ 0) rfl) T.jZ T.qk (pw T).mono hr T.p_ hx (iN (iY jv (iY jv (iQ 3) iU) (iQ 4)) (iN (iQ 5) iO))))
   (iP (i6 (jr (i8 (iQ 1) rfl) T.sO T.Oc (MT T).mono hr T.NF hx (iN (iY jv (iY jv (iQ 3) iU) (iQ 4)) iO)))
   (iR (jo (mq (pv (jc rQ (jr (iQ 0) T.jF T.zh (xP T).mono hr T.zd hx (iN (iQ 3) iO)) i5 (jx _)) (pv (jc Cc (iQ 5) iU (jx _)) (pv (jc rQ (iY kf (iQ 5) iU) iU (jx _)) (pS (jc rQ (jr (iQ 0) T.jF T.zh (xP T).mono hr T.zd hx (iN (iY j3 (iQ 5) iU) iO)) i5 (jx _))))))) (iR (i6 (jr (i8 (iQ 1) rfl) T.sO T.K4 (Iz T).mono hr T.J3 hx (iN (iY jv (iY jv (iQ 3) iU) (iQ 4)) iO)))) jh))))),?_⟩
  obtain⟨q0,q1,q2,n,q3,q4⟩:=gv.mr.cl c hc
  have oy:=gv.oy
  have wl:=gv.wl
  have fc:=F4 gv.mr.nd hc
  have nd2:=List.nodup_append.mp nd
  have ndr:=(List.nodup_cons.mp nd2.2.1).2
  have nCr:=(List.nodup_cons.mp nd2.2.1).1
  have xr:∀b∈mx x,b∉lc C cs:=λb hb z=>nd2.2.2 b hb b z rfl
  have cl:c.r∈lc C cs:=ba _ (cb hc)
  show jM _ _ _ [some (Z9 x.p),some (Z9 x.r),some (Z9 C),some (Z_ c.p),some (Z_ k),some (Z_ v)] H
  refine i4 (λσ' H'=>σ'=[some (Z9 x.p),some (Z9 x.r),some (Z9 C),some (Z_ c.p),some (Z_ k),some (Z_ v)]/\H' c.r=some (.lst ((c.w.set k v).map Z_))/\∀b u,H b=some u->b≠c.r->H' b=some u) (λR hR=> ?_) ?_
  ·simp only[i3,jX,xD,kL,kJ,E4,aa,ae,cw.dc,sP,fc,bG,cw.row c hc,Fw (show(0:Int)<=k by lia) (show(k:Int)<=c.w.length-1 by lia),AI]
   exact hR _ _ ⟨rfl,iS,λb u e n=>pY e n⟩
  rintro _ H1 ⟨rfl,e1,f1⟩
  have w1:=wx.fr (H':=H1) λb u e z=>f1 b u e (λy=>by
   rcases z with z|z
   ·rw[y]at z;exact xr _ z cl
   ·rw[y,cw.row c hc]at e;cases e;cases z)
  have c1:Cw H1 C (zw cs c.p k v):=by
   refine⟨by rw[Va];exact f1 _ _ cw.dc (λz=>nCr (by rw[z];exact cb hc)),λd hd=> ?_⟩
   obtain⟨e,he,h1,h2,h3,h4⟩:=v9 hd
   rcases h4 with ⟨h4,h5⟩|⟨h4,h5⟩
   ·have:=xO gv.mr.nd he hc h4
    subst this
    rw[h2,h5];exact e1
   ·rw[h2,h5]
    exact f1 _ _ (cw.row e he) λz=>h4 (by rw[xO ndr he hc z])
  obtain⟨dp,ep⟩:=w1.ar.ob
  obtain⟨dm,em⟩:=w1.ar.mem.ob
  refine i4 (λσ' H'=>σ'=[some (Z9 x.p),some (Z9 x.r),some (Z9 C),some (Z_ c.p),some (Z_ k),some (Z_ v)]/\kz A.i_ H' x.m x.q (M.ws.set (c.p.toNat+1+k) v)/\∀b u,H1 b=some u->b≠x.q->H' b=some u) (λR hR=> ?_) ?_
  ·simp only[jB,ke,iZ,jd,tC,i3,mP,jb,and_assoc,↓jj,↓jg,aa,ae,V.ref.injEq,ag,and_true,true_and,exists_eq_left',exists_and_left,jU,oq,ql,ep,T.jF,T.jP,Bp,em,GN,u4]
   refine⟨x.q,M.ws,w1.ar.mem,aD,aD,?_⟩
   obtain⟨z,ez⟩:=Option.isSome_iff_exists.mp hv
   rw[if_pos (DI (by lia) (by lia)),ez,show(iv (Z_ (c.p+1+k))).toNat=c.p.toNat+1+k by show(c.p+1+k:Int).toNat=_;lia]
   exact hR _ _ ⟨rfl,w1.ar.mem.put _ _,λb u e n=>pY e n⟩
  rintro _ H2 ⟨rfl,m2,f2⟩
  have w2:=w1.L5 (w1.ar.Vx (bf ..) m2.ls λb u e ⟨_,_,_,z⟩=>f2 b u e (λy=>by rw[y,w1.ar.mem.ls]at e;cases e;cases z)) λb u e n _=>f2 b u e n
  have c2:Cw H2 C (zw cs c.p k v):=c1.fr λb u e hb=>f2 b u e λz=>xr x.q (by simp[mx]) (by rw[←z,←MJ (p:=c.p) (k:=k) (v:=v)];exact hb)
  obtain⟨dr,er⟩:=w2.ro
  obtain⟨db,eb⟩:=w2.bk.ob
  refine i4 (λσ' H'=>σ'=[some (Z9 x.p),some (Z9 x.r),some (Z9 C),some (Z_ c.p),some (Z_ k),some (Z_ v)]/\u9 A.jY H' x.b x.d (IJ M.ks (c.p+1+k))/\∀b u,H2 b=some u->b≠x.d->H' b=some u) (λR hR=> ?_) ?_
  ·simp only[jB,ke,iZ,jd,tC,i3,mP,jb,and_assoc,↓jj,↓jg,aa,ae,V.ref.injEq,ag,and_true,true_and,exists_eq_left',exists_and_left,jU,oq,ql,er,T.jR,T.oa,Lp,eb,SS,ET]
   refine⟨x.d,M.ks,w2.bk,aD,?_⟩
   rw[if_pos (DI (by lia) (by lia))]
   exact λH3 b3 f3=>hR _ _ ⟨rfl,b3,f3⟩
  rintro _ H3 ⟨rfl,b3,f3⟩
  have w3:=w2.book b3 w2.nd λb u e _ n=>f3 b u e n
  obtain⟨dr3,er3⟩:=w3.ro
  obtain⟨db3,eb3⟩:=w3.bk.ob
  obtain⟨dp3,ep3⟩:=w3.ar.ob
  have fin:∀{H4:Hp},(∀b u,H3 b=some u->b≠x.d->H4 b=some u)->Cw H4 C (zw cs c.p k v)/\uy (mx x++lc C cs) H H4 (mx x++lc C cs):=λ{H4} f4=>by
   refine⟨c2.fr λb u e hb=> ?_,.of λb u e i n=> ?_⟩
   ·have nb:b≠x.d:=λz=>xr x.d (by simp[mx]) (by rw[←z,←MJ (p:=c.p) (k:=k) (v:=v)];exact hb)
    exact f4 _ _ (f3 _ _ e nb) nb
   ·have nx:∀z∈mx x,b≠z:=λz hz y=>n (bj _ (by rw[y];exact hz))
    have nb:=nx x.d (by simp[mx])
    exact f4 _ _ (f3 _ _ (f2 _ _ (f1 _ _ e λz=>n (aO _ (by rw[z];exact cl))) (nx x.q (by simp[mx]))) nb) nb
  refine Vg ?_ ?_ ?_
  ·have cond:∀(z:V) (y:Str),(z= .str (bt "old")∨z= .str (bt "young")∨z= .kT)->∃b,eqv z (.str y)=some b:=λz y hz=>by
    rcases hz with rfl|rfl|rfl<;>exact⟨_,rfl⟩
   obtain⟨b1,e1⟩:=cond (Sy (Z_ c.p) M.so M.sy) (bt "old") QE
   obtain⟨b2,e2⟩:=cond (Sy (Z_ (v/2)) M.so M.sy) (bt "young") QE
   refine⟨b1&&(decide (0<v)&&(decide (v%2=1)&&b2)),λK1 hK=> ?_⟩
   simp only[jC,ke,zu,iZ,jd,tC,i3,m8,rE,OO,sJ,Md,eqv,and_assoc,tU,aV,aW,↓jg,aa,ae,V.ref.injEq,ag,and_true,true_and,exists_eq_left',exists_and_left,decide_eq_true_eq,↓jD,ql,ep3,Qy,xS]
   refine⟨_,_,_,_,_,_,_,_,_,w3.ar,aD,?_⟩
   show(match eqv (Sy (Z_ c.p) M.so M.sy) (V.str (bt "old")) with|some b=>if b=true then _ else _|none=>False)
   rw[e1]
   dsimp only
   cases b1 with
   |false=>rw[if_neg (by decide)];exact hK
   |true=>
    rw[if_pos rfl]
    by_cases p1:0<v
    ·rw[decide_eq_true p1]at hK
     rw[if_pos p1]
     by_cases p2:v%2=1
     ·rw[decide_eq_true p2]at hK
      rw[if_pos p2]
      refine⟨_,_,_,_,_,_,_,_,_,w3.ar,aD,?_⟩
      show(match eqv (Sy (Z_ (v/2)) M.so M.sy) (V.str (bt "young")) with|some b=>K1 b H3|none=>False)
      rw[e2]
      exact hK
     ·rw[decide_eq_false p2]at hK
      rw[if_neg p2];exact hK
    ·rw[decide_eq_false p1]at hK
     rw[if_neg p1];exact hK
  ·simp only[jB,ke,iZ,jd,tC,i3,mP,jb,and_assoc,↓jj,↓jg,aa,ae,V.ref.injEq,ag,and_true,true_and,exists_eq_left',exists_and_left,jU,oq,ql,er3,T.jR,T.oa,Lp,eb3,PD,BJ]
   have kl:(IJ M.ks (c.p+1+k)).length<1000:=by
    have:=gv.kl
    have:=cI (λx=>decide (x≠c.p+1+k)) M.ks
    unfold IJ;lia
   refine⟨x.d,_,w3.bk,aD,kl,?_⟩
   rw[if_pos (DI (by lia) (by lia))]
   have b4:=w3.bk.put (ks':=WC (IJ M.ks (c.p+1+k)) (iv (Z_ (c.p+1+k))))
   have f4:∀b u,H3 b=some u->b≠x.d->upd H3 x.d (.dK (Kc (WC (IJ M.ks (c.p+1+k)) (iv (Z_ (c.p+1+k)))))) b=some u:=λb u e n=>pY e n
   exact h _ _ (w3.book b4 w3.nd λb u e _ n=>f4 b u e n) (fin f4).1 (gv.set hc hk hv hp (Vh (Pf gv.ks) (by show 0<=c.p+1+k/\c.p+1+k<_;lia))) (fin f4).2
  ·exact h H3 _ w3 (fin λb u e _=>e).1 (gv.set hc hk hv hp (Pf gv.ks)) (fin λb u e _=>e).2
noncomputable def Ld:Nat->List (Option Int)->List (Key×V)
 |_,[]=>[]
 |k,o::r=>(aJ (k:Int),tv o)::Ld (k+1) r
noncomputable abbrev yD (os:List (Option Int)):List (Key×V):=Ld 0 os
theorem wG:∀{os:List (Option Int)} {k:Nat},(Ld k os).length=os.length
 | [],_=>rfl
 |o::r,k=>by rw[Ld,af,wG,af]
theorem Dq:∀{os:List (Option Int)} {k i:Nat},(Ld k os)[i]? =os[i]?.map λo=>(aJ ((k+i:Nat):Int),tv o)
 | [],_,_=>rfl
 |o::r,k,0=>rfl
 |o::r,k,i+1=>by
  show(Ld (k+1) r)[i]? =r[i]?.map _
  rw[Dq,show k+1+i=k+(i+1) by lia]
theorem Be:∀{os:List (Option Int)} {k i:Nat},mX (Ld k os) (aJ ((k+i:Nat):Int))=os[i]?.map tv
 | [],_,_=>rfl
 |o::r,k,0=>tM rfl
 |o::r,k,i+1=>by
  have:=Be (os:=r) (k:=k+1) (i:=i)
  rw[show k+1+i=k+(i+1) by lia]at this
  show mX ((aJ (k:Int),tv o)::Ld (k+1) r) _=_
  rw[tL (λz=>by have:=cE z;lia),this];rfl
theorem MQ{o:Option Int}:∀{os:List (Option Int)} {k:Nat},Ld k (os++[o])=Ld k os++[(aJ ((k+os.length:Nat):Int),tv o)]
 | [],_=>rfl
 |p::r,k=>by
  rw[aL]
  simp only[Ld,MQ,af,aL]
  rw[show k+1+r.length=k+(r.length+1) by lia]
theorem Pa{os:List (Option Int)}{o:Option Int}:putK (yD os) (aJ (os.length:Int)) (tv o)=yD (os++[o]):=by
 have e:mX (yD os) (aJ (os.length:Int))=none:=by
  have:=Be (os:=os) (k:=0) (i:=os.length)
  rw[bS,bQ (aI _)]at this
  exact this
 unfold putK
 rw[v_,e]
 show Ld 0 os++[(aJ (os.length:Int),tv o)]=Ld 0 (os++[o])
 rw[MQ,bS]
theorem O_:∀{os:List (Option Int)} {k i:Nat} {o:Option Int},(Ld k os).map (λkv=>if kv.1=(aJ ((k+i:Nat):Int):Key) then(kv.1,tv o) else kv)=Ld k (os.set i o)
 | [],_,_,_=>rfl
 |p::r,k,0,o=>by
  show(if (aJ (k:Int):Key)=aJ ((k+0:Nat):Int) then(aJ (k:Int),tv o) else(aJ (k:Int),tv p))::(Ld (k+1) r).map _=(aJ (k:Int),tv o)::Ld (k+1) r
  rw[if_pos (by simp)]
  congr 1
  refine(b_ λkv hkv=> ?_).trans (List.map_id _)
  obtain⟨j,hj⟩:=List.mem_iff_getElem?.mp hkv
  rw[Dq]at hj
  obtain⟨q,_,rfl⟩:=Option.map_eq_some_iff.mp hj
  exact if_neg λz=>by have:=cE z;lia
 |p::r,k,i+1,o=>by
  show(if (aJ (k:Int):Key)=aJ ((k+(i+1):Nat):Int) then(aJ (k:Int),tv o) else(aJ (k:Int),tv p))::(Ld (k+1) r).map _=(aJ (k:Int),tv p)::Ld (k+1) (r.set i o)
  rw[if_neg (λz=>by have:=cE z;lia),←O_ (k:=k+1),show k+1+i=k+(i+1) by lia]
theorem Tw{os:List (Option Int)}{i:Nat}{o:Option Int}(h:i<os.length):putK (yD os) (aJ (i:Int)) (tv o)=yD (os.set i o):=by
 have e:=Be (os:=os) (k:=0) (i:=i)
 have s:=O_ (os:=os) (k:=0) (i:=i) (o:=o)
 rw[bS]at e s
 unfold putK
 rw[v_,e,au h]
 exact s
theorem qZ.kt{H H':Hp}{as:List V}{xs:List (Int×Int×Int)}(h:qZ H as xs)(f:∀b zs,H b=some (.tup zs)->H' b=some (.tup zs)):qZ H' as xs:=by
 induction h with
 |nil=>exact .nil
 |cons ha _ ih=>exact .cons (f _ _ ha) ih
structure Qw(A:Ad)(H0 H:Hp)(x:Ax)(M:Ms)(N t:Addr)(os:List (Option Int))(ts:List (Option (Int×Int)))(tas:List V):Prop where
 w:Wx A H x {M with os:=os,ts:=ts,sd:=M.sd}
 fn:H N=some (.dK (yD os))
 ft:H t=some (.lst tas)
 ta:qZ H tas (j4 0 ts)
 st:uy (mx x++[N,t]) H0 H (mx x++[N,t])
section
variable{A:Ad}{H0 H H':Hp}{x:Ax}{M:Ms}{N t:Addr}{os:List (Option Int)}{ts:List (Option (Int×Int))}{tas:List V}
theorem Qw.same(b:Qw A H0 H x M N t os ts tas)(s:ja H H'):Qw A H0 H' x M N t os ts tas:=⟨b.w.same s,s _ _ b.fn,s _ _ b.ft,b.ta.same s,b.st.trans (.same s)⟩
theorem Qw.name(b:Qw A H0 H x M N t os ts tas)(nN:N∉mx x)(nt:t∉mx x){os':List (Option Int)}(e:H' N=some (.dK (yD os')))(ev:H' x.v=some (.lst (os'.map tv)))(f:∀c u,H c=some u->c≠x.v->c≠N->H' c=some u):Qw A H0 H' x M N t os' ts tas:=by
 obtain⟨es,l⟩:=b.w.ls
 have nv:x.v≠N:=λz=>nN (by rw[←z];simp[mx])
 have ne:=Ac b.w.nd
 obtain⟨dw,ew⟩:=b.w.wk.ob
 obtain⟨dl,el⟩:=l.ob
 have mxN:∀{c},c∈mx x->c≠N:=λhc z=>nN (by rw[←z];exact hc)
 refine⟨?_,e,f _ _ b.ft (λz=>nt (by rw[z];simp[mx])) (jL b.ft b.fn),b.ta.kt λc zs ec=>f _ _ ec (jL ec b.w.wk.ls) (jL ec b.fn),b.st.trans (.of λc u ec i n=>f _ _ ec (λz=>n (by rw[z];simp[mx])) λz=>n (by rw[z];simp))⟩
 have w1:Wx A (upd H x.v (.lst (os'.map tv))) x {M with os:=os',ts:=ts,sd:=M.sd}:=b.w.tick (b.w.wk.put) (l.kl λc u ec h=>by rw[iW];exact ec;rcases h with rfl|rfl|rfl|h;exact jL el b.w.wk.ls;exact jL l.dc b.w.wk.ls;exact aC ne.2.2.1;exact jL ec b.w.wk.ls (by rw[(beq_iff_eq.mp h:tg u="t")];kernel_rfl)) λc u ec n1 _ _=>pY ec n1
 refine w1.fr λc u ec h=> ?_
 by_cases cv:c=x.v
 ·subst cv;rw[iS]at ec;rw[←ec];exact ev
 ·rw[iW cv]at ec
  refine f _ _ ec cv ?_
  rcases h with h|h
  ·exact mxN h
  ·intro z;rw[z,b.fn]at ec;cases ec;cases h
theorem Qw.give(b:Qw A H0 H x M N t os ts tas)(nN:N∉mx x)(nt:t∉mx x)(nNt:N≠t){H5:Hp}{es5:List We}{p5:Addr}{z:Int×Int}(l5:lN A.ju H5 x.l x.e x.u (ts++[some z]) M.sd es5)(o5:Out x.e x.u H H5)(hp:H5 p5=none):
  H5 t=some (.lst tas)/\Qw A H0 (upd (upd H5 p5 (.tup [.int ts.length,.int z.1,.int z.2])) t (.lst (tas++[.ref p5]))) x M N t os (ts++[some z]) (tas++[.ref p5]):=by
 obtain⟨es,l⟩:=b.w.ls
 have mxN:∀{c},c∈mx x->N≠c:=λhc z=>nN (by rw[z];exact hc)
 have mxt:∀{c},c∈mx x->t≠c:=λhc z=>nt (by rw[z];exact hc)
 have ne:=Ac b.w.nd
 obtain⟨dw,ew⟩:=b.w.wk.ob
 have w5:Wx A H5 x {M with os:=os,ts:=ts++[some z],sd:=M.sd}:=b.w.tick (b.w.wk.keep λc u ec hc=>o5 _ _ (by rcases hc with rfl|rfl;exact jL ew l.dc;exact jL b.w.wk.ls l.dc) (by rcases hc with rfl|rfl;exact jL ew l.sq;exact ne.2.2.1) ec) l5 λc u ec _ n2 n3=>o5 _ _ n2 n3 ec
 have t5:=o5 _ _ (mxt (by simp[mx])) (mxt (by simp[mx])) b.ft
 have n5:=o5 _ _ (mxN (by simp[mx])) (mxN (by simp[mx])) b.fn
 have ta5:qZ H5 tas (j4 0 ts):=b.ta.kt λc zs ec=>o5 _ _ (jL ec l.dc) (jL ec l.sq) ec
 have s6:=ja.upd (o:= .tup [.int ts.length,.int z.1,.int z.2]) hp
 have e6:upd H5 p5 (.tup [.int ts.length,.int z.1,.int z.2]) p5=some (.tup [.int ts.length,.int z.1,.int z.2]):=iS
 refine⟨t5,?_⟩
 have k5:Kp (mx x++[N,t]) H H5:=λc u ec i n=>o5 _ _ (λz=>n (by rw[z];simp[mx])) (λz=>n (by rw[z];simp[mx])) ec
 generalize upd H5 p5 (.tup [.int ts.length,.int z.1,.int z.2])=H6 at*
 have f7:∀c u,H6 c=some u->c≠t->upd H6 t (.lst (tas++[.ref p5])) c=some u:=λc u ec n=>pY ec n
 have t6:=s6 _ _ t5
 refine⟨(w5.same s6).fr λc u ec h=>f7 _ _ ec (λy=> ?_),f7 _ _ (s6 _ _ n5) nNt,iS,?_,b.st.trans (.of λc u ec i n=>f7 _ _ (s6 _ _ (k5 _ _ ec i n)) λz=>n (by rw[z];simp))⟩
 ·rcases h with h|h
  ·exact nt (by rw[←y];exact h)
  ·rw[y,t6]at ec;cases ec;cases h
 ·rw[Bh,bS]
  exact qZ.snoc ((ta5.same s6).kt λc zs ec=>f7 _ _ ec (jL ec t6)) (f7 _ _ e6 (jL e6 t6))
end
noncomputable def Hn (K:aA) (A:Ad):Sp:=λvs H Q _=>∃(C a N t:Addr) (x:Ax) (M:Ms) (cs:List Cl) (o y:Int) (n:Nat) (ns:List Int),vs=[.ref x.r,.ref C,.ref a,.ref N,.ref t]/\Wx A H x M/\H C=some (.dK (va cs))/\Gv o y n cs M/\n<=12/\M.os=[]/\M.ts=[]/\mj K H a (ns.map Z_)/\H N=some (.dK (yD []))/\H t=some (.lst [])/\(mx x++[N,t,C]).Nodup/\
 ∀H' os ts sd tas,Wx A H' x {M with os:=os,ts:=ts,sd:=sd}->H' N=some (.dK (yD os))->H' t=some (.lst tas)->qZ H' tas (j4 0 ts)->sd=M.sd->os.length<=12->ts.length<=12->uy (mx x++[N,t]) H H' (mx x++[N,t])->Q .kT H'
theorem tB:i7 ["_law_roots","_law_cells","_law_script","_law_names","_law_tickets","_law_some","_law_cell","_law_at"] ["_law_roots","_law_cells","_law_script","_law_names","_law_tickets"] (iX xj):=fsc
theorem G2(T:Txt K mg A):jA P w K mg base (lG P w) true 12 A.nT A.pK ["_law_roots","_law_cells","_law_script","_law_names","_law_tickets"] (Hn K A):=by
 refine T.zO.nP tB (λvs H Q E h=> ?_) (λcdv A' outer s H vs Q E hr hx h=> ?_)
 ·obtain⟨_,_,_,_,_,_,_,_,_,_,_,rfl,_⟩:=h
  rfl
 ·obtain⟨C,a,N,t,x,M,cs,o,y,n,ns,rfl,h⟩:=h
  obtain⟨h,wx,ec,gv,n12,eo,et,hS,eN,e0,nd⟩:=WT h
  refine⟨_,mL.run (iP (ji (i:=5) tB.nd rfl lo (qS (Bb (by rfl)) (by rfl) T.yC PyProof.Rows.Boot.«list» (iN (iQ 1) iO)))
   (iP (k7 hx.own rfl (kx (GB Tp (iQ 2) (Dg iU) (Dg iU))) (jO (i:=6) tB.nd rfl lo)
    (iP (jo (jc (Ba (Jw hr)) (iQ 5) (lu iO) (jx _)) (iR P0) jh)
   (iP (ji (i:=7) tB.nd rfl lo (ky lP (iQ 5) (iY kf (iY j3 (iQ 6) iU) (jy qQ (by rfl) T.sU PyProof.Rows.Boot.«len» (iN (iQ 5) iO))) (λ_ _=>rfl)))
   (iR (jo (jc (Ba (Jw hr)) (iY kf (iQ 6) iU) iU (jx _)) (iR (mi (jw hr) (iQ 3) (jr (i8 (iQ 0) rfl) T.m_ T.MN (Lj T).mono hr T.Ma hx (iN (iQ 7) iO)) (iQ 7) rfl)) (iR (i6 (Cb cu cx rP (iQ 4) (iN (vK (iN (jr (i8 (iQ 0) rfl) T.lh T.K5 (IB T).mono hr T.J5 hx (iN (iQ 7) (iN (iY qR (iY kf (iY j3 (iQ 6) iU) iU) iU) iO))) (iN (iQ 7) (iN (iY qR (iY kf (iY j3 (iQ 6) iU) iU) iU) iO)))) iO)))))))))
   (iR (jo (jc Cc (jy Gw (by rfl) T.sU PyProof.Rows.Boot.«len» (iN (iQ 3) iO)) iU (jx _)) (iP (i6 (jr (i8 (iQ 0) rfl) T.m_ T.EJ (Ds T).mono hr T.Et hx (iN iU iO)))
   (iR (mi (jw hr) (iQ 3) iU sS rfl))) jh)))),?_⟩
  have pl:=λp hp=>gv.places (p:=p) hp
  have cl:cs.length<=12:=aH gv.nn n12
  show jM _ _ _ [some (Z9 x.r),some (Z9 C),some (Z9 a),some (Z9 N),some (Z9 t),none,none,none] H
  refine i4 (λσ' H'=>∃l,C4 (H l=none) (ja H H') (H' l=some (.lst ((cs.map Cl.p).map Z_))) (σ'=[some (Z9 x.r),some (Z9 C),some (Z9 a),some (Z9 N),some (Z9 t),some (Z9 l),none,none])) (λR hR=> ?_) ?_
  ·simp only[Bg,iZ,jd,i3,jX,jq,aa,ae,aw,ax,DP,ec]
   have ek:bX (λp=>kV p.fst) (va cs)=(cs.map Cl.p).map Z_:=by rw[va,bB,bB];rfl
   rw[ek]
   exact λl hl=>hR _ _ ⟨l,hl,ja.upd hl,iS,rfl⟩
  rintro _ H1 ⟨l,hl,s1,el,rfl⟩
  refine i4 (λσ' H'=>Y5 λos ts tas a6 a7=>C5 (σ'=[some (Z9 x.r),some (Z9 C),some (Z9 a),some (Z9 N),some (Z9 t),some (Z9 l),a6,a7]) (Qw A H H' x M N t os ts tas) (os.length<=12) (ts.length<=12) (∀o∈os,o.isSome=true)) (λR hR=> ?_) ?_
  ·simp only[tC,i3,jb,lT,qj,S1,Mf,X2,aa,ae,V.ref.injEq,exists_eq_left']
   refine⟨_,s1.seq hS,λp hp=>⟨⟨_,mj.of iS⟩,?_⟩⟩
   obtain⟨is,ei,il⟩:∃is:List Int,HX (ns.map Z_) (some 8) (some 20)=is.map Z_/\is.length<=12:=by
    refine⟨(ns.drop (HT.IK (ns.map Z_).length 0 (some 8))).take (HT.IK (ns.map Z_).length (ns.map Z_).length (some 20)-HT.IK (ns.map Z_).length 0 (some 8)),by unfold HX;rw[←List.map_drop,←List.map_take],?_⟩
    rw[bH,show HT.IK (ns.map Z_).length 0 (some 8)=min 8 (ns.map Z_).length from HT.FA _ _ 8,show HT.IK (ns.map Z_).length (ns.map Z_).length (some 20)=min 20 (ns.map Z_).length from HT.FA _ _ 20]
    lia
   rw[ei]
   have s2:=ja.upd (o:= .lst (is.map Z_)) hp
   have ep:upd H1 p (.lst (is.map Z_)) p=some (.lst (is.map Z_)):=iS
   generalize upd H1 p (.lst (is.map Z_))=H2 at*
   have s12:=s1.trans s2
   have xW:=s2 _ _ el
   have nN:N∉mx x:=λz=>(List.nodup_append.mp nd).2.2 N z N (by simp) rfl
   have nt:t∉mx x:=λz=>(List.nodup_append.mp nd).2.2 t z t (by simp) rfl
   have nNt:N≠t:=λz=>by have:=(List.nodup_append.mp nd).2.1;simp[z]at this
   have Bm:∀b∈mx x++[N,t],∃u,H b=some u/\Bx u=false:=FG wx.Bm λb hb=>by
    simp only[br,bI,or_false]at hb
    rcases hb with rfl|rfl
    ·exact⟨_,eN,rfl⟩
    ·exact⟨_,e0,rfl⟩
   have nl:l∉mx x++[N,t]:=nO Bm hl
   have np:p∉mx x++[N,t]:=nO Bm (s1.free hp)
   refine lA.GG (xs:=is.map Z_) (λi σ H'=>Y5 λos ts tas a6 a7=>C4 (σ=[some (Z9 x.r),some (Z9 C),some (Z9 a),some (Z9 N),some (Z9 t),some (Z9 l),a6,a7]) (Qw A H2 H' x M N t os ts tas) (os.length+ts.length<=i) (∀o∈os,o.isSome=true))
    ⟨[],[],[],none,none,rfl,⟨by have:=wx.same s12;rw[show({M with os:=[],ts:=[],sd:=M.sd}:Ms)=M by rw[←eo,←et]];exact this,s12 _ _ eN,s12 _ _ e0,.nil,.refl⟩,aI _,λo ho=>by cases ho⟩ (λi σ H' _ hz=>by obtain⟨_,_,_,_,_,_,b,_⟩:=hz;exact mj.of (b.st.keep ep rfl np).1) ?_ ?_
   ·rintro i v σ H3 hx' ⟨os,ts,tas,a6,a7,rfl,b3,hi,hs⟩ R2 hR2
    have ii:i<is.length:=by have:=(List.getElem?_eq_some_iff.mp hx').1;rw[aj]at this;exact this
    rw[aS,au ii]at hx'
    cases hx'
    generalize is[i]=c at*
    show jM _ _ _ [some (Z9 x.r),some (Z9 C),some (Z9 a),some (Z9 N),some (Z9 t),some (Z9 l),some (Z_ c),a7] H3
    refine i4 (λσ' H'=>σ'=[some (Z9 x.r),some (Z9 C),some (Z9 a),some (Z9 N),some (Z9 t),some (Z9 l),some (Z_ c),a7]/\ja H3 H'/\cs.map Cl.p≠ []) (λR3 hR3=> ?_) ?_
    ·simp only[Sb,kj,kM,jC,ke,jd,i3,xU,eqv,↓reduceIte,iS,zE,PJ,ai,aa,ae,true_and,aM,Qr,↓jD,(b3.st.keep xW rfl nl).1]
     intro p' hp'
     have s3:=ja.upd (o:= .lst []) hp'
     rw[s3 _ _ (b3.st.keep xW rfl nl).1]
     dsimp only
     by_cases z:cs.map Cl.p=[]
     ·rw[if_pos (by rw[z];rfl),z]
      have b4:=b3.same s3
      exact h _ os ts _ tas b4.w b4.fn b4.ft b4.ta rfl (by lia) (by lia) ((uy.same s12).trans b4.st)
     ·rw[if_neg (by rw[aj];exact λy=>z (List.length_eq_zero_iff.mp y))]
      exact hR3 _ _ ⟨rfl,s3,z⟩
    rintro _ H4 ⟨rfl,s4,nn⟩
    have b4:=b3.same s4
    have Vb:=(b4.st.keep xW rfl nl).1
    have pos:(0:Int)<(cs.map Cl.p).length:=by have:=List.length_pos_iff.mpr nn;lia
    have i0:=d8 (c/3) (show((cs.map Cl.p).length:Int)≠0 by lia)
    have i1:=dO (c/3) pos
    have hm:(cs.map Cl.p).getD (c/3%(cs.map Cl.p).length).toNat 0∈cs.map Cl.p:=by
     rw[az,au (show(c/3%(cs.map Cl.p).length).toNat<(cs.map Cl.p).length by lia)];exact bq _
    refine i4 (λσ' H'=>∃q∈cs.map Cl.p,σ'=[some (Z9 x.r),some (Z9 C),some (Z9 a),some (Z9 N),some (Z9 t),some (Z9 l),some (Z_ c),some (Z_ q)]/\H4=H') (λR3 hR3=> ?_) ?_
    ·simp only[ke,Bg,iZ,jd,tC,i3,jX,jq,m8,rE,DO,zF,tU,aV,aW,aa,ae,aw,ax,and_true,true_and,Vb]
     rw[aj,A2 i0 (by lia)]
     exact⟨pos,hR3 _ _ ⟨_,hm,rfl,rfl⟩⟩
    rintro _ _ ⟨q,hq,rfl,rfl⟩
    have hq2:=pl q hq
    obtain⟨dr,er⟩:=b4.w.ro
    obtain⟨dw,ew⟩:=b4.w.wk.ob
    obtain⟨es,l4⟩:=b4.w.ls
    obtain⟨dl,Ye⟩:=l4.ob
    by_cases c3:c%3=0
    ·simp only[kM,jC,ke,iZ,jd,tC,i3,rE,eqv,and_assoc,aV,aW,↓reduceIte,decide_true,zE,↓jj,↓jg,sN,kJ,aa,ae,V.ref.injEq,ag,and_true,true_and,exists_eq_left',exists_and_left,↓jD,jU,oq,ql,c3,er,T.jR,T.k_,Co,ew,Sq,DG]
     have nv:N≠x.v:=λz=>nN (by rw[z];simp[mx])
     refine⟨x.v,os,b4.w.wk,aD,by lia,?_⟩
     rw[if_pos (DI (by lia) (by lia)),iW nv,b4.fn]
     dsimp only
     rw[show putK (yD os) (aJ (os.length:Int)) (Z_ q)=yD (os++[some q]) from Pa (o:=some q)]
     refine⟨by rw[wG];exact bO (show os.length<=12 by lia) (by decide),hR2 _ _ ⟨os++[some q],ts,tas,_,_,rfl,b4.name nN nt iS (by rw[iW (aC nv),iS];rfl) (λc u e n1 n2=>by rw[iW n2,iW n1];exact e),by rw[aY,cm];lia,λo ho=> ?_⟩⟩
     rcases List.mem_append.mp ho with ho|ho
     ·exact hs o ho
     ·rw[List.mem_singleton.mp ho];rfl
    ·simp only[jB,kM,jC,ke,iZ,jd,tC,i3,Jg,B0,m8,rE,eqv,and_assoc,tU,aV,aW,aT,ao,↓reduceIte,decide_false,zE,↓jj,↓jg,sL,Qq,af,ai,aa,ae,V.ref.injEq,ag,and_true,true_and,exists_eq_left',exists_and_left,aM,aq,Yi,↓jD,jU,oq,ql,c3,er,T.jR,T.lE,Ec,Ye,Rr,BL,b4.ft]
     refine⟨x.e,x.u,ts,M.sd,es,l4,aD,aD,by lia,?_⟩
     rw[if_pos (DI (by lia) (by lia)),if_pos (DI (by lia) (by lia))]
     intro H5 es5 l5 o5 p5 hp5
     obtain⟨t5,b5⟩:=b4.give nN nt nNt l5 o5 hp5
     rw[iW (iT t5 hp5),t5]
     dsimp only
     refine⟨by rw[b4.ta.len];exact bO (aH xV (show ts.length<=12 by lia)) (by decide),hR2 _ _ ⟨os,_,_,_,_,rfl,b5,by rw[aY,cm];lia,hs⟩⟩
   ·rintro σ H3 ⟨os,ts,tas,a6,a7,rfl,b3,hi,hs⟩
    rw[aj]at hi
    exact hR _ _ ⟨os,ts,tas,a6,a7,rfl,⟨b3.w,b3.fn,b3.ft,b3.ta,(uy.same s12).trans b3.st⟩,by lia,by lia,hs⟩
  rintro _ H2 ⟨os,ts,tas,a6,a7,rfl,b2,ol,tl,hs⟩
  have nN:N∉mx x:=λz=>(List.nodup_append.mp nd).2.2 N z N (by simp) rfl
  have nt:t∉mx x:=λz=>(List.nodup_append.mp nd).2.2 t z t (by simp) rfl
  have nv:N≠x.v:=λz=>nN (by rw[z];simp[mx])
  obtain⟨dr,er⟩:=b2.w.ro
  obtain⟨dw,ew⟩:=b2.w.wk.ob
  simp only[kj,jB,jM,kM,jC,ke,Bg,iZ,jd,tC,i3,OO,sJ,jb,↓jj,↓jg,sN,kJ,Jo,aa,ae,decide_eq_true_eq,↓jD,jU,oq,ql,b2.fn,wG]
  by_cases z:(2:Int)<os.length
  ·rw[if_pos z]
   simp only[and_assoc,V.ref.injEq,ag,and_true,true_and,exists_eq_left',exists_and_left,er,T.jR,T.k_,Co,ew,Np,y4]
   have sn:stN os (.int 1)=true:=by
    rw[stN,aQ]
    refine⟨DI (by lia) (by lia),?_⟩
    rw[show(iv (Z_ 1)).toNat=1 from rfl,az,au (show 1<os.length by lia)]
    exact hs _ (bq _)
   refine⟨x.v,os,b2.w.wk,aD,?_⟩
   rw[if_pos sn,iW nv,b2.fn]
   dsimp only
   rw[show putK (yD os) (aJ 1) V.kT=yD (os.set 1 none) from Tw (i:=1) (o:=none) (by lia)]
   have b3:=b2.name (H':=upd (upd H2 x.v (.lst ((os.set 1 none).map tv))) N (.dK (yD (os.set 1 none)))) (os':=os.set 1 none) nN nt iS (by rw[iW (aC nv),iS]) (λc u e n1 n2=>by rw[iW n2,iW n1];exact e)
   exact⟨by rw[wG];exact bO ol (by decide),h _ _ ts _ tas b3.w b3.fn b3.ft b3.ta rfl (by rw[bf];exact ol) tl b3.st⟩
  ·rw[if_neg z]
   exact h H2 os ts _ tas b2.w b2.fn b2.ft b2.ta rfl ol tl b2.st
structure Lx where
 S:Addr
 C:Addr
 h:Addr
 N:Addr
 t:Addr
 d:Addr
noncomputable def CI (l:Lx):List (Key×V):=[(.inr "cells",.ref l.C),(.inr "hands",.ref l.h),(.inr "names",.ref l.N),(.inr "tickets",.ref l.t),(.inr "said",.ref l.d)]
section
variable{l:Lx}{c:Addr}
theorem u7:mX (CI l) (.inr "cells")=some (.ref l.C):=by kernel_rfl
theorem ER:mX (CI l) (.inr "hands")=some (.ref l.h):=by kernel_rfl
theorem ES:mX (CI l) (.inr "names")=some (.ref l.N):=by kernel_rfl
theorem Pn:mX (CI l) (.inr "tickets")=some (.ref l.t):=by kernel_rfl
theorem UH:mX (CI l) (.inr "said")=some (.ref l.d):=by kernel_rfl
theorem Wf:putK (CI l) (.inr "cells") (.ref c)=CI {l with C:=c}:=by kernel_rfl
theorem Wh:putK (CI l) (.inr "hands") (.ref c)=CI {l with h:=c}:=by kernel_rfl
theorem Wi:putK (CI l) (.inr "names") (.ref c)=CI {l with N:=c}:=by kernel_rfl
theorem Wj:putK (CI l) (.inr "tickets") (.ref c)=CI {l with t:=c}:=by kernel_rfl
theorem Wg:putK (CI l) (.inr "said") (.ref c)=CI {l with d:=c}:=by kernel_rfl
theorem DA:(CI l).length=5:=rfl
end
structure Lw(H:Hp)(l:Lx)(cs:List Cl)(M:Ms):Prop where
 s:H l.S=some (.dK (CI l))
 cw:Cw H l.C cs
 h:H l.h=some (.lst (M.hw.map Z_))
 n:H l.N=some (.dK (yD M.os))
 t:∃tas,H l.t=some (.lst tas)/\qZ H tas (j4 0 M.ts)
 d:H l.d=some (.lst (M.sd.map Z_))
noncomputable def ll (l:Lx) (cs:List Cl):List Addr:=l.S::l.h::l.N::l.t::l.d::lc l.C cs
theorem Lw.fr{H H':Hp}{l:Lx}{cs:List Cl}{M:Ms}(w:Lw H l cs M)(f:∀b u,H b=some u->b∈ll l cs∨(∃zs,u= .tup zs)->H' b=some u):Lw H' l cs M where
 s:=f _ _ w.s (.inl (by simp[ll]))
 cw:=w.cw.fr λb u e h=>f b u e (.inl (by simp only[ll,br];exact .inr (.inr (.inr (.inr (.inr h))))))
 h:=f _ _ w.h (.inl (by simp[ll]))
 n:=f _ _ w.n (.inl (by simp[ll]))
 t:=let ⟨tas,e,ta⟩:=w.t;⟨tas,f _ _ e (.inl (by simp[ll])),ta.kt λb zs e=>f _ _ e (.inr ⟨zs,rfl⟩)⟩
 d:=f _ _ w.d (.inl (by simp[ll]))
noncomputable abbrev oj (cs:List Cl) (K:List Int):List (Int×Int):=gl (xX cs) K 0
noncomputable def qY (cs:List Cl) (K:List Int) (i:Nat):Int:=((K.take i).map (xX cs)).sum
section
variable{cs:List Cl}{K:List Int}
theorem Pr(p:Int):1<=xX cs p:=by unfold xX;lia
theorem vI{i:Nat}(h:i<K.length):qY cs K (i+1)=qY cs K i+xX cs K[i]:=by
 unfold qY
 rw[bC h,bo,fq];simp
theorem Uy:qY cs K 0=0:=rfl
theorem Gn{j:Nat}:∀{i:Nat},j<i->i<=K.length->qY cs K j+1<=qY cs K i
 |0,h,_=>by lia
 |i+1,h,hi=>by
  rw[vI (show i<K.length by lia)]
  have:=Pr (cs:=cs) K[i]
  by_cases c:j=i
  ·subst c;lia
  ·have:=Gn (j:=j) (i:=i) (by lia) (by lia);lia
theorem zX{i:Nat}(hi:i<=K.length):0<=qY cs K i:=by
 by_cases c:i=0
 ·subst c;exact eW _
 ·have:=Gn (cs:=cs) (K:=K) (j:=0) (i:=i) (by lia) hi;rw[Uy]at this;lia
theorem CC(nd:K.Nodup){i:Nat}(h:i<K.length):lk (oj cs K) K[i]=some (qY cs K i):=by
 rw[oj,Ra nd h,eJ];rfl
theorem LW(nd:K.Nodup){p:Int}(h:p∈K):∃i,∃hi:i<K.length,K[i]=p/\lk (oj cs K) p=some (qY cs K i):=by
 obtain⟨i,hi,rfl⟩:=List.mem_iff_getElem.mp h
 exact⟨i,hi,rfl,CC nd hi⟩
theorem Sr{p:Int}(h:p∉K):lk (oj cs K) p=none:=KZ (by rw[De];exact h)
theorem Nq{p:Int}(nd:K.Nodup):(lk (oj cs K) p).isSome=decide (p∈K):=by
 by_cases c:p∈K
 ·obtain⟨i,_,_,e⟩:=LW (cs:=cs) nd c
  rw[e,decide_eq_true c];rfl
 ·rw[Sr c,decide_eq_false c];rfl
end
structure Nw(wh:List (Int×Int))(cs:List Cl)(K:List Int)(cs':List Cl):Prop where
 len:cs'.length=K.length
 at_:∀(i:Nat) (c':Cl),cs'[i]? =some c'->∃p,K[i]? =some p/\lk wh p=some c'.p/\c'.w=(FI cs p).map (tw wh)
noncomputable def My (wh:List (Int×Int)) (l:List (Int×Int×Int)):List (Int×Int×Int):=l.filterMap λx=>(lk wh x.2.1).map λg=>(x.1,g,x.2.2)
theorem DH{wh:List (Int×Int)}:∀{ts:List (Option (Int×Int))} {k:Nat},j4 k (ts.map (DZ wh))=My wh (j4 k ts)
 | [],_=>rfl
 |none::r,k=>DH (ts:=r)
 |some y::r,k=>by
  show j4 k (DZ wh (some y)::r.map (DZ wh))=My wh (((k:Int),y.1,y.2)::j4 (k+1) r)
  have e:DZ wh (some y)=(lk wh y.1).map λg=>(g,y.2):=rfl
  rw[e,My,dI]
  cases lk wh y.1 with
  |none=>exact DH
  |some g=>exact congrArg _ DH
theorem JK{wh:List (Int×Int)}{l:List (Int×Int×Int)}{z:Int×Int×Int}:zp wh (l++[z])=zp wh l++(if (lk wh z.2.1).isSome=true then [] else [z.2.2]):=by
 unfold zp
 rw[dS]
 congr 1
 by_cases c:(lk wh z.2.1).isSome=true<;>simp[c]
theorem Jv{wh:List (Int×Int)}{l:List (Int×Int×Int)}{z:Int×Int×Int}:My wh (l++[z])=My wh l++(match lk wh z.2.1 with|some g=>[(z.1,g,z.2.2)]|none=>[]):=by
 unfold My
 rw[dS]
 congr 1
 cases c:lk wh z.2.1<;>simp[c]
noncomputable def Mv (cs:List Cl) (K:List Int) (M:Ms):Ms:={M with hw:=M.hw.map (tw (oj cs K)),os:=M.os.map (Kz (oj cs K)),ts:=M.ts.map (DZ (oj cs K)),sd:=M.sd++zp (oj cs K) (j4 0 M.ts)}
noncomputable def Je:Sp:=λvs H Q _=>Y6 λ(l:Lx) (cs:List Cl) (M:Ms) (o y:Int) (n:Nat)=>C7 (vs=[.ref l.S]) (Lw H l cs M) (Gv o y n cs M) (n<=12) ((ll l cs).Nodup) (M.sd.length<=100) (∀K l' cs' H',Fi (EY cs) (oI M.hw) K->Lw H' l' cs' (Mv cs K M)->l'.S=l.S->Nw (oj cs K) cs K cs'->(∀b u,H b=some u->b≠l.S->H' b=some u)->(∀b∈ll l' cs',b=l.S∨H b=none)->(ll l' cs').Nodup->Q (.int (qY cs K K.length)) H')
theorem lz:i7 ["_law_s","_law_kept","_law_where","_law_top","_law_at","_law_cells","_law_names","_law_name"] ["_law_s"] (iX pf):=fsc
theorem IH(T:Txt K mg A):jA P w K mg base (lG P w) true 12 A.o2 A.qK ["_law_s"] Je:=by
 refine T.Bv.nP lz (λvs H Q E h=> ?_) (λcdv A' outer s H vs Q E hr hx h=> ?_)
 ·obtain⟨_,_,_,_,_,_,rfl,_⟩:=h
  rfl
 ·obtain⟨l,cs,M,o,y,n,rfl,lw,gv,n12,nd,sl,h⟩:=h
  refine⟨_,mL.run (iP (ji (i:=1) lz.nd rfl lo (iV (E_ T).mono hr rfl T.vF T.zg.kp T.FP hx (iN (jk (by exact jw hr) (iQ 0) i5 (λ_ _=>rfl)) (iN (jk (by exact jw hr) (iQ 0) i5 (λ_ _=>rfl)) iO))))
   (iP (ji (i:=2) lz.nd rfl lo mU)
   (iP (ji (i:=3) lz.nd rfl lo iU)
   (iP (k7 hx.own rfl (kx (iQ 1)) (jO (i:=4) lz.nd rfl lo)
    (iP (mi (jw hr) (iQ 2) (iQ 4) (iQ 3) rfl)
   (iR (ji (i:=3) lz.nd rfl lo (iY jv (iY jv (iQ 3) iU) (jy qQ (by rfl) T.sU PyProof.Rows.Boot.«len» (iN (jk (by exact jw hr) (jk (by exact jw hr) (iQ 0) i5 (λ_ _=>rfl)) (iQ 4) (λ_ _=>rfl)) iO)))))))
   (iP (ji (i:=5) lz.nd rfl lo mU)
   (iP (k7 hx.own rfl (kx (iQ 1)) (jO (i:=4) lz.nd rfl lo)
    (iR (mi (jw hr) (iQ 5) (jk (by exact jw hr) (iQ 2) (iQ 4) (λ_ _=>rfl)) (pR (fsc:=iX pf) (N2:=["_law_where"]) (js:=[2]) ⟨rfl,rfl,by decide+kernel,by decide+kernel,by decide+kernel,by decide+kernel,by decide+kernel,by decide+kernel,by decide+kernel⟩ rfl rfl (by rfl) (kx (jk (by exact jw hr) (jk (by exact jw hr) (iQ 0) i5 (λ_ _=>rfl)) (iQ 4) (λ_ _=>rfl))) (λ_ _ _ _=>uk) (λ_ _ _ _=>(iV (Ae T).mono hr rfl T.uC T.vA.kp T.Br wj (iN (iQ 0) (iN (iQ 1) iO))))) rfl)))
   (iP (mi (jw hr) (iQ 0) i5 (iQ 5) rfl)
   (iP (mi (jw hr) (iQ 0) i5 (pR (fsc:=iX pf) (N2:=["_law_where"]) (js:=[2]) ⟨rfl,rfl,by decide+kernel,by decide+kernel,by decide+kernel,by decide+kernel,by decide+kernel,by decide+kernel,by decide+kernel⟩ rfl rfl (by rfl) (kx (jk (by exact jw hr) (iQ 0) i5 (λ_ _=>rfl))) (λ_ _ _ _=>uk) (λ_ _ _ _=>(iV (Ae T).mono hr rfl T.uC T.vA.kp T.Br wj (iN (iQ 0) (iN (iQ 1) iO))))) rfl)
   (iP (ji (i:=6) lz.nd rfl lo mU)
   (iP (xM (k7 hx.own rfl (vL (jk (by exact jw hr) (iQ 0) i5 (λ_ _=>rfl))) (jO (i:=7) lz.nd rfl lo)
    (iR (mi (jw hr) (iQ 6) (iQ 7) (N0 (jw hr) (iQ 2) (uj (by exact jw hr) (jk (by exact jw hr) (iQ 0) i5 (λ_ _=>rfl)) (iQ 7) (λ_ _=>rfl)) ⟨rfl,rfl,rfl,rfl⟩) rfl))))
   (iP (mi (jw hr) (iQ 0) i5 (iQ 6) rfl)
   (iP (mi (jw hr) (iQ 0) i5 (iY KS (jk (by exact jw hr) (iQ 0) i5 (λ_ _=>rfl)) (pR (fsc:=iX pf) (N2:=["_law_where"]) (js:=[2]) ⟨rfl,rfl,by decide+kernel,by decide+kernel,by decide+kernel,by decide+kernel,by decide+kernel,by decide+kernel,by decide+kernel⟩ rfl rfl (by rfl) (kx (jk (by exact jw hr) (iQ 0) i5 (λ_ _=>rfl))) (λ_ _ _ _=>(pe (jc (Ce (jw hr)) (ky lP (iQ 0) iU (λ_ _=>rfl)) (iQ 1) (by with_unfolding_all rfl)))) (λ_ _ _ _=>(ky lP (iQ 0) iU (λ_ _=>rfl))))) rfl)
   (iP (mi (jw hr) (iQ 0) i5 (pR (fsc:=iX pf) (N2:=["_law_where"]) (js:=[2]) ⟨rfl,rfl,by decide+kernel,by decide+kernel,by decide+kernel,by decide+kernel,by decide+kernel,by decide+kernel,by decide+kernel⟩ rfl rfl (by rfl) (kx (jk (by exact jw hr) (iQ 0) i5 (λ_ _=>rfl))) (λ_ _ _ _=>(pe (jc (O4 (jw hr)) (ky lP (iQ 0) iU (λ_ _=>rfl)) (iQ 1) (by with_unfolding_all rfl)))) (λ_ _ _ _=>(vK (iN (ky lP (iQ 0) iU (λ_ _=>rfl)) (iN (jk (by exact jw hr) (iQ 1) (ky lP (iQ 0) iU (λ_ _=>rfl)) (λ_ _=>rfl)) (iN (ky lP (iQ 0) iU (λ_ _=>rfl)) iO)))))) rfl)
   (iR (jf (iQ 3)))))))))))))))),?_⟩
  have cl:cs.length<=12:=aH gv.nn n12
  show jM _ _ _ [some (Z9 l.S),none,none,none,none,none,none,none] H
  refine i4 (λσ' H'=>Y2 λk K=>C5 (σ'=[some (Z9 l.S),some (Z9 k),none,none,none,none,none,none]) (H k=none) (ja H H') (H' k=some (.lst (K.map Z_))) (Fi (EY cs) (oI M.hw) K)) (λR hR=> ?_) ?_
  ·simp only[iZ,jd,tC,i3,jX,jq,i9,kL,kJ,aa,aw,ax,lw.s,u7,ER]
   unfold zl
   refine⟨l.C,l.h,cs,M.hw,rfl,lw.cw.dc,λd hd=>⟨lw.cw.row d hd,(gv.mr.cl d hd).2.2.1⟩,lw.h,gv.hl,gv.mr.nd,cl,λp hp=>gv.rc hp,λk K H1 hk s1 ek hK=>hR _ _ ⟨k,K,rfl,hk,s1,ek,hK⟩⟩
  rintro _ H1 ⟨k,J,rfl,hk,s1,ek,hK⟩
  have ndJ:=hK.nd
  have inJ:∀p∈J,p∈cs.map Cl.p:=λp hp=>gv.rc (hK.mem.mp hp)
  have Jl:J.length<=12:=by have:=sG ndJ inJ;rw[aj]at this;lia
  have cel:∀p∈J,∃c∈cs,c.p=p/\fd cs p=some c/\FI cs p=c.w/\xX cs p=1+(c.w.length:Int)/\c.w.length<=8:=λp hp=>by
   obtain⟨c,hc,e1,e2,e3,e4⟩:=gv.xX (inJ p hp)
   exact⟨c,hc,e1,by rw[←e1];exact F4 gv.mr.nd hc,e2,e3,e4⟩
  refine i4 (λσ' H'=>∃d,C4 (σ'=[some (Z9 l.S),some (Z9 k),some (Z9 d),none,none,none,none,none]) (H1 d=none) (ja H1 H') (H' d=some (.dK (dk [])))) (λR hR=> ?_) ?_
  ·simp only[jX,jq,uu,aw,ax]
   exact λd hd=>hR _ _ ⟨d,rfl,hd,ja.upd hd,iS⟩
  rintro _ H2 ⟨wd,rfl,hwd,s2,ewd⟩
  refine i4 (λσ' H'=>σ'=[some (Z9 l.S),some (Z9 k),some (Z9 wd),some (Z_ 0),none,none,none,none]/\H2=H') (λR hR=> ?_) ?_
  ·simp only[tC,jX,jq,aw,ax]
   exact hR _ _ ⟨rfl,rfl⟩
  rintro _ _ ⟨rfl,rfl⟩
  have s12:=s1.trans s2
  have nkw:k≠wd:=iT ek hwd
  have hwd0:=s1.free hwd
  refine i4 (λσ' H'=>∃a4,C4 (σ'=[some (Z9 l.S),some (Z9 k),some (Z9 wd),some (Z_ (qY cs J J.length)),a4,none,none,none]) (ja H H') (H' k=some (.lst (J.map Z_))) (H' wd=some (.dK (dk (oj cs J))))) (λR hR=> ?_) ?_
  ·simp only[i3,jb,lT,qj,aa,ae,V.ref.injEq,exists_eq_left']
   refine⟨⟨_,mj.of (s2 _ _ ek)⟩,lA.GG (xs:=J.map Z_) (λi σ H'=>∃a4,C3 (σ=[some (Z9 l.S),some (Z9 k),some (Z9 wd),some (Z_ (qY cs J i)),a4,none,none,none]) (H' wd=some (.dK (dk (gl (xX cs) (J.take i) 0)))) (∀b u,H2 b=some u->b≠wd->H' b=some u))
    ⟨none,rfl,ewd,λb u e _=>e⟩ (λi σ H' _ hz=>by obtain⟨_,_,_,f⟩:=hz;exact mj.of (f _ _ (s2 _ _ ek) nkw)) ?_ ?_⟩
   ·rintro i v σ H3 hv ⟨a4,rfl,e3,f3⟩ R2 hR2
    have hi:i<J.length:=by have:=(List.getElem?_eq_some_iff.mp hv).1;rw[aj]at this;exact this
    rw[aS,au hi]at hv
    cases hv
    obtain⟨c,hc,e1,e2,e4,e5,e6⟩:=cel _ (bq hi)
    have nk:J[i]∉(gl (xX cs) (J.take i) 0).map (·.1):=by
     rw[De]
     intro z
     obtain⟨j,hj,ej⟩:=List.mem_iff_getElem.mp z
     rw[bH]at hj
     rw[eT]at ej
     exact(List.pairwise_iff_getElem.mp ndJ) j i (by lia) hi (by lia) ej
    simp only[jM,ke,Bg,iZ,jd,tC,i3,jX,jq,mP,zF,kL,sN,kJ,aa,ae,aw,ax,e3]
    rw[Q0 nk,show qY cs J i=0+((J.take i).map (xX cs)).sum by rw[eJ];rfl,←KN,←bC hi]
    refine⟨by rw[QZ,Rb];exact bO (c9 ..) (aK (show i<64 by lia) (by decide)),?_⟩
    have f4:∀b u,H3 b=some u->b≠wd->upd H3 wd (HO.dK (dk (gl (xX cs) (J.take (i+1)) 0))) b=some u:=λb u eb nb=>pY eb nb
    have e7:upd H3 wd (HO.dK (dk (gl (xX cs) (J.take (i+1)) 0))) wd=some (HO.dK (dk (gl (xX cs) (J.take (i+1)) 0))):=iS
    generalize upd H3 wd (HO.dK (dk (gl (xX cs) (J.take (i+1)) 0)))=H4 at*
    have s4:ja H H4:=λb u eb=>f4 _ _ (f3 _ _ (s12 _ _ eb) (iT eb hwd0)) (iT eb hwd0)
    rw[s4 _ _ lw.s]
    dsimp only
    rw[u7]
    dsimp only
    rw[s4 _ _ lw.cw.dc]
    dsimp only
    rw[sP,e2]
    dsimp only[bG]
    rw[s4 _ _ (lw.cw.row c hc)]
    dsimp only
    refine hR2 _ _ ⟨some (Z_ J[i]),?_,e7,λb u eb nb=>f4 _ _ (f3 _ _ eb nb) nb⟩
    rw[show 0+((J.take i).map (xX cs)).sum+1+((bX Z_ c.w).length:Int)=qY cs J (i+1) by rw[vI hi,e5,aj,eJ];show((J.take i).map (xX cs)).sum+1+_=((J.take i).map (xX cs)).sum+_;lia]
   ·rintro σ H3 ⟨a4,rfl,e3,f3⟩
    rw[aj,bF]at e3
    rw[aj]
    exact hR _ _ ⟨_,rfl,λb u eb=>f3 _ _ (s12 _ _ eb) (iT eb hwd0),f3 _ _ (s2 _ _ ek) nkw,e3⟩
  rintro _ H3 ⟨a4,rfl,s3,ek3,ew3⟩
  refine i4 (λσ' H'=>∃d,C4 (σ'=[some (Z9 l.S),some (Z9 k),some (Z9 wd),some (Z_ (qY cs J J.length)),a4,some (Z9 d),none,none]) (H3 d=none) (ja H3 H') (H' d=some (.dK (va [])))) (λR hR=> ?_) ?_
  ·simp only[jX,jq,uu,aw,ax]
   exact λd hd=>hR _ _ ⟨d,rfl,hd,ja.upd hd,iS⟩
  rintro _ H4 ⟨cd,rfl,hcd,s4,ecd⟩
  have s34:=s3.trans s4
  have hcd0:=s3.free hcd
  have hJ:∀v,(∃c∈cs,c.p∈J/\v∈c.w)∨v∈M.hw->ot v=true->(lk (oj cs J) (v/2)).isSome=true:=λv hv hp=>by
   rw[Nq ndJ,decide_eq_true_eq,hK.mem]
   rcases hv with ⟨c,hc,hcJ,hv⟩|hv
   ·refine .c (hK.mem.mp hcJ) ?_
    rw[Fn,HE gv.mr.nd hc]
    exact uW.mpr ⟨v,hv,hp,rfl⟩
   ·exact .s (uW.mpr ⟨v,hv,hp,rfl⟩)
  have turned:∀{H5:Hp} {a:Addr} {ws:List Int} {Q:VK},H5 a=some (.lst (ws.map Z_))->H5 wd=some (.dK (dk (oj cs J)))->ws.length<=8->(∀v∈ws,ot v=true->(lk (oj cs J) (v/2)).isSome=true)->(∀r,H5 r=none->Q (.ref r) (upd H5 r (.lst ((ws.map (tw (oj cs J))).map Z_))))->
    uN (Qp K a) [some (Z9 wd)] OE (i9 v7 (λ_ _ _ _=>False) (iZ (i3 0) (iZ (i3 1) jd))) H5 Q:=λ{H5 a ws Q} ea ew hl hv q=>by
   refine uN.YG (λv=> .int (tw (oj cs J) (iv v))) (mj.of ea) (by rw[aj];exact aH hl (by decide)) (λv hv' K' hK'=> ?_) λr hr=> ?_
   ·obtain⟨z,hz,rfl⟩:=List.mem_map.mp hv'
    simp only[iZ,jd,i3,i9,and_assoc,aa,ae,V.int.injEq,V.ref.injEq,ag,and_true,exists_eq_left',exists_and_left,v7]
    exact⟨_,ew,hv z hz,hK'⟩
   ·rw[show(ws.map Z_).map (λv=>Z_ (tw (oj cs J) (iv v)))=(ws.map (tw (oj cs J))).map Z_ by rw[bB,bB];rfl]
    exact q r hr
  refine i4 (λσ' H'=>Y2 λa4 cs'=>C7 (σ'=[some (Z9 l.S),some (Z9 k),some (Z9 wd),some (Z_ (qY cs J J.length)),a4,some (Z9 cd),none,none]) (ja H H') (H' wd=some (.dK (dk (oj cs J)))) (Cw H' cd cs') (Nw (oj cs J) cs J cs') ((lc cd cs').Nodup) (∀b∈lc cd cs',H b=none)) (λR hR=> ?_) ?_
  ·simp only[i3,jb,lT,qj,aa,ae,V.ref.injEq,exists_eq_left']
   refine⟨⟨_,mj.of (s4 _ _ ek3)⟩,lA.GG (xs:=J.map Z_) (λi σ H'=>Y2 λa4 cs'=>C6 (σ=[some (Z9 l.S),some (Z9 k),some (Z9 wd),some (Z_ (qY cs J J.length)),a4,some (Z9 cd),none,none]) (Cw H' cd cs') (Nw (oj cs J) cs (J.take i) cs') ((lc cd cs').Nodup) ((∀b∈lc cd cs',H b=none)) (∀b u,H4 b=some u->b≠cd->H' b=some u))
    ⟨a4,[],rfl,⟨ecd,λc hc=>by cases hc⟩,⟨rfl,λi c' e=>by cases e⟩,by simp[lc],λb hb=>by simp[lc]at hb;rw[hb];exact hcd0,λb u e _=>e⟩ (λi σ H' _ hz=>by obtain⟨_,_,_,_,_,_,_,f⟩:=hz;exact mj.of (f _ _ (s4 _ _ ek3) (iT ek3 hcd))) ?_ ?_⟩
   ·rintro i v σ H5 hv ⟨a4,cs',rfl,c5,w5,n5,g5,f5⟩ R2 hR2
    have hi:i<J.length:=by have:=(List.getElem?_eq_some_iff.mp hv).1;rw[aj]at this;exact this
    rw[aS,au hi]at hv
    cases hv
    obtain⟨c,hc,e1,e2,e4,e5,e6⟩:=cel _ (bq hi)
    have s5:ja H H5:=λb u eb=>f5 _ _ (s34 _ _ eb) (iT eb hcd0)
    have ew5:=f5 _ _ (s4 _ _ ew3) (iT ew3 hcd)
    simp only[tC,i3,jq,tJ,uR,qj,kL,sN,kJ,ak,av,aa,ae,aw,ax,V.ref.injEq,exists_eq_left',s5 _ _ lw.s,u7,s5 _ _ lw.cw.dc,sP,e2,bG]
    refine⟨⟨_,mj.of (s5 _ _ (lw.cw.row c hc))⟩,turned (s5 _ _ (lw.cw.row c hc)) ew5 e6 (λv hv=>hJ v (.inl ⟨c,hc,by rw[e1];exact bq hi,hv⟩)) λr hr=> ?_⟩
    have s6:=ja.upd (o:= .lst ((c.w.map (tw (oj cs J))).map Z_)) hr
    have er:upd H5 r (.lst ((c.w.map (tw (oj cs J))).map Z_)) r=some (.lst ((c.w.map (tw (oj cs J))).map Z_)):=iS
    generalize upd H5 r (.lst ((c.w.map (tw (oj cs J))).map Z_))=H6 at*
    have nr:r∉lc cd cs':=nO c5.Bm hr
    have cl5:=w5.len
    rw[bH]at cl5
    have gn:qY cs J i∉cs'.map Cl.p:=λz=>by
     obtain⟨c',hc',ec'⟩:=List.mem_map.mp z
     obtain⟨j,hj⟩:=List.mem_iff_getElem?.mp hc'
     obtain⟨p,ep,el,_⟩:=w5.at_ j c' hj
     have jl:=(List.getElem?_eq_some_iff.mp hj).1
     rw[cZ (by lia),au (show j<J.length by lia)]at ep
     cases ep
     rw[CC ndJ,ec']at el
     have:=bg el
     have:=Gn (cs:=cs) (K:=J) (j:=j) (i:=i) (by lia) (by lia)
     lia
    rw[s6 _ _ ew5]
    dsimp only
    rw[wL,CC ndJ hi]
    dsimp only[bG]
    rw[s6 _ _ c5.dc]
    dsimp only
    rw[OW (w:=c.w.map (tw (oj cs J))) gn]
    have YA:lc cd (cs'++[⟨qY cs J i,r,c.w.map (tw (oj cs J))⟩])=lc cd cs'++[r]:=by simp[lc]
    refine⟨by rw[va,aj];exact bO (show cs'.length<=12 by lia) (by decide),hR2 _ _ ⟨_,cs'++[⟨qY cs J i,r,c.w.map (tw (oj cs J))⟩],rfl,⟨iS,λc' hc'=> ?_⟩,⟨by rw[aY,cm,bH,cl5];lia,λj c' hj=> ?_⟩,?_,λb hb=> ?_,λb u eb nb=>by rw[iW nb];exact s6 _ _ (f5 _ _ eb nb)⟩⟩
    ·have ncd:=(List.nodup_cons.mp n5).1
     rcases List.mem_append.mp hc' with hc'|hc'
     ·rw[iW (λz=>ncd (by rw[←z];exact cb hc'))];exact s6 _ _ (c5.row c' hc')
     ·rw[List.mem_singleton.mp hc',iW (λz=>nr (by have z:r=cd:=z;rw[z];exact a_ ..))];exact er
    ·by_cases z:j<cs'.length
     ·rw[d9 z]at hj
      obtain⟨p,ep,q⟩:=w5.at_ j c' hj
      refine⟨p,?_,q⟩
      rw[cZ (by lia)]at ep⊢
      exact ep
     ·have jl:=(List.getElem?_eq_some_iff.mp hj).1
      rw[aY,cm]at jl
      obtain rfl:j=i:=by lia
      rw[cT (by lia),show j-cs'.length=0 by lia]at hj
      cases hj
      exact⟨J[j],by rw[cZ (by lia),au hi],CC ndJ hi,by rw[e4]⟩
    ·rw[YA,bV]
     exact⟨n5,by simp,λa ha b hb z=>nr (by rw[List.mem_singleton.mp hb]at z;rw[←z];exact ha)⟩
    ·rw[YA]at hb
     rcases List.mem_append.mp hb with hb|hb
     ·exact g5 b hb
     ·rw[List.mem_singleton.mp hb];exact s5.free hr
   ·rintro σ H5 ⟨a4,cs',rfl,c5,w5,n5,g5,f5⟩
    rw[aj,bF]at w5
    exact hR _ _ ⟨a4,cs',rfl,λb u eb=>f5 _ _ (s34 _ _ eb) (iT eb hcd0),f5 _ _ (s4 _ _ ew3) (iT ew3 hcd),c5,w5,n5,g5⟩
  rintro _ H5 ⟨a4',cs',rfl,s5,ew5,c5,w5,n5,g5⟩
  have hS:=lw.s
  have Swd:l.S≠wd:=iT lw.s hwd0
  have Slc:l.S∉lc cd cs':=λz=>by rw[g5 _ z]at hS;cases hS
  refine i4 (λσ' H'=>σ'=[some (Z9 l.S),some (Z9 k),some (Z9 wd),some (Z_ (qY cs J J.length)),a4',some (Z9 cd),none,none]/\H' l.S=some (.dK (CI {l with C:=cd}))/\∀b u,H5 b=some u->b≠l.S->H' b=some u) (λR hR=> ?_) ?_
  ·simp only[tC,i3,sN,kJ,aa,ae,s5 _ _ lw.s,DA,Wf]
   exact⟨by decide,hR _ _ ⟨rfl,iS,λb u e n=>pY e n⟩⟩
  rintro _ H6 ⟨rfl,eS6,f6⟩
  have F6:∀b u,H b=some u->b≠l.S->H6 b=some u:=λb u e n=>f6 _ _ (s5 _ _ e) n
  have ndl:=nd
  simp only[ll,lc,bP,br,not_or]at ndl
  have ew6:=f6 _ _ ew5 (aC Swd)
  have c6:Cw H6 cd cs':=c5.fr λb u e hb=>f6 _ _ e λz=>Slc (by rw[←z];exact hb)
  refine i4 (λσ' H'=>∃r,C5 (σ'=[some (Z9 l.S),some (Z9 k),some (Z9 wd),some (Z_ (qY cs J J.length)),a4',some (Z9 cd),none,none]) (H6 r=none) (H' l.S=some (.dK (CI {l with C:=cd,h:=r}))) (H' r=some (.lst ((M.hw.map (tw (oj cs J))).map Z_))) (∀b u,H6 b=some u->b≠l.S->H' b=some u)) (λR hR=> ?_) ?_
  ·simp only[tC,i3,jb,tJ,uR,qj,kL,sN,kJ,ak,av,aa,ae,V.ref.injEq,exists_eq_left',eS6,ER,F6 _ _ lw.h (aC ndl.1.1)]
   refine⟨⟨_,mj.of (F6 _ _ lw.h (aC ndl.1.1))⟩,turned (F6 _ _ lw.h (aC ndl.1.1)) ew6 (by have:=gv.hl;lia) (λv hv=>hJ v (.inr hv)) λr hr=> ?_⟩
   rw[ja.upd hr _ _ eS6]
   dsimp only
   rw[Wh]
   exact⟨by rw[DA];decide,hR _ _ ⟨r,rfl,hr,iS,by rw[iW (aC (iT eS6 hr)),iS],λb u e n=>by rw[iW n];exact ja.upd hr _ _ e⟩⟩
  rintro _ H7 ⟨hh,rfl,hh6,eS7,eh7,f7⟩
  refine i4 (λσ' H'=>∃r,C4 (σ'=[some (Z9 l.S),some (Z9 k),some (Z9 wd),some (Z_ (qY cs J J.length)),a4',some (Z9 cd),some (Z9 r),none]) (H7 r=none) (ja H7 H') (H' r=some (.dK (yD [])))) (λR hR=> ?_) ?_
  ·simp only[jX,jq,uu,aw,ax]
   exact λd hd=>hR _ _ ⟨d,rfl,hd,ja.upd hd,iS⟩
  rintro _ H8 ⟨nn,rfl,hn7,s8,en8⟩
  have F8:∀b u,H b=some u->b≠l.S->H8 b=some u:=λb u e n=>s8 _ _ (f7 _ _ (F6 _ _ e n) n)
  have eN8:=F8 _ _ lw.n (aC ndl.1.2.1)
  have ew8:=s8 _ _ (f7 _ _ ew6 (aC Swd))
  have nNn:l.N≠nn:=iT (f7 _ _ (F6 _ _ lw.n (aC ndl.1.2.1)) (aC ndl.1.2.1)) hn7
  have eS8:=s8 _ _ eS7
  refine i4 (λσ' H'=>∃a7,C3 (σ'=[some (Z9 l.S),some (Z9 k),some (Z9 wd),some (Z_ (qY cs J J.length)),a4',some (Z9 cd),some (Z9 nn),a7]) (H' nn=some (.dK (yD (M.os.map (Kz (oj cs J)))))) (∀b u,H8 b=some u->b≠nn->H' b=some u)) (λR hR=> ?_) ?_
  ·refine⟨l.N,yD M.os,eN8,λob=> ?_⟩
   have f9:∀b u,H8 b=some u->b≠l.N->upd H8 l.N (.rN ob (.dK (yD M.os))) b=some u:=λb u e n=>pY e n
   have e9:upd H8 l.N (.rN ob (.dK (yD M.os))) l.N=some (.rN ob (.dK (yD M.os))):=iS
   have b9:∀b,b≠l.N->upd H8 l.N (.rN ob (.dK (yD M.os))) b=H8 b:=λb n=>iW n
   generalize upd H8 l.N (.rN ob (.dK (yD M.os)))=H9 at*
   have eS9:=f9 _ _ eS8 ndl.1.2.1
   simp only[tC,i3,lT,kL,kJ,aa,and_false,eS9,ES,e9,Ca]
   have Snn:l.S≠nn:=iT eS7 hn7
   refine lA.QY (λi σ H'=>∃a7,C3 (σ=[some (Z9 l.S),some (Z9 k),some (Z9 wd),some (Z_ (qY cs J J.length)),a4',some (Z9 cd),some (Z9 nn),a7]) (H' nn=some (.dK (yD ((M.os.take i).map (Kz (oj cs J)))))) (∀b u,H9 b=some u->b≠nn->H' b=some u))
    ⟨none,rfl,f9 _ _ en8 (aC nNn),λb u e _=>e⟩ (λi σ H' _ ⟨_,_,_,f⟩=>f _ _ e9 nNn) ?_ ?_
   ·rintro i kv σ H10 hkv ⟨a7,rfl,e10,f10⟩ R2 hR2
    rw[Dq]at hkv
    obtain⟨om,ho,rfl⟩:=Option.map_eq_some_iff.mp hkv
    have hi:=(List.getElem?_eq_some_iff.mp ho).1
    have vi:=Be (os:=M.os) (k:=0) (i:=i)
    rw[ho]at vi
    have ew10:=f10 _ _ (f9 _ _ ew8 (λz=>by rw[z,eN8]at ew8;exact absurd (s8 _ _ (f7 _ _ ew6 (aC Swd))) (by rw[z];intro q;have:=lw.n;rw[←z,hwd0]at this;cases this))) (iT (f7 _ _ ew6 (aC Swd)) hn7)
    simp only[tC,i3,jq,kL,sN,kJ,aa,ae,aw,ax,kV,f10 _ _ eS9 Snn,ES,f10 _ _ e9 nNn,zD,Kg,ew10]
    rw[show mX (yD M.os) (aJ ((0+i:Nat):Int))=some (tv om) from vi]
    dsimp only
    have xl:((M.os.take i).map (Kz (oj cs J))).length=i:=by rw[aj,bH];lia
    have px:putK (yD ((M.os.take i).map (Kz (oj cs J)))) (aJ ((0+i:Nat):Int)) (tv (Kz (oj cs J) om))=yD ((M.os.take (i+1)).map (Kz (oj cs J))):=by
     rw[qV ho,bo,bS]
     have:=Pa (os:=(M.os.take i).map (Kz (oj cs J))) (o:=Kz (oj cs J) om)
     rw[xl]at this
     exact this
    rw[e10]
    dsimp only
    have fin:=λ(q:(yD ((M.os.take i).map (Kz (oj cs J)))).length<sizeLine)=>And.intro q (hR2 [some (Z9 l.S),some (Z9 k),some (Z9 wd),some (Z_ (qY cs J J.length)),a4',some (Z9 cd),some (Z9 nn),some (Z_ ((0+i:Nat):Int))] (upd H10 nn (.dK (putK (yD ((M.os.take i).map (Kz (oj cs J)))) (aJ ((0+i:Nat):Int)) (tv (Kz (oj cs J) om))))) ⟨_,rfl,by rw[px];exact iS,λb u e n=>by rw[iW n];exact f10 _ _ e n⟩)
    have fin:=fin (by rw[wG,xl];exact bO (show i<=12 by have:=gv.on;lia) (by decide))
    cases om with
    |none=>exact .inl ⟨rfl,fin⟩
    |some q=>
     refine .inr ⟨.inl q,rfl,?_⟩
     rw[show(mX (dk (oj cs J)) (aJ q)).getD V.kT=tv (Kz (oj cs J) (some q)) by rw[wL];show((lk (oj cs J) q).map Z_).getD .kT=tv (lk (oj cs J) q);cases lk (oj cs J) q<;>rfl]
     exact fin
   ·rintro σ H10 ⟨a7,rfl,e10,f10⟩
    rw[wG,bF]at e10
    refine⟨f10 _ _ e9 nNn,hR _ _ ⟨a7,rfl,by rw[iW (aC nNn)];exact e10,λb u e n=> ?_⟩⟩
    by_cases c:b=l.N
    ·rw[c,iS,←eN8,←c,e]
    ·rw[iW c];exact f10 _ _ (f9 _ _ e c) n
  rintro _ H9 ⟨a7,rfl,en9,f9⟩
  have Snn:l.S≠nn:=iT eS7 hn7
  have F9:∀b u,H b=some u->b≠l.S->H9 b=some u:=λb u e n=>f9 _ _ (F8 _ _ e n) (iT (f7 _ _ (F6 _ _ e n) n) hn7)
  have eS9:=f9 _ _ eS8 Snn
  have ew9:=f9 _ _ ew8 (iT (f7 _ _ ew6 (aC Swd)) hn7)
  refine i4 (λσ' H'=>σ'=[some (Z9 l.S),some (Z9 k),some (Z9 wd),some (Z_ (qY cs J J.length)),a4',some (Z9 cd),some (Z9 nn),a7]/\H' l.S=some (.dK (CI {l with C:=cd,h:=hh,N:=nn}))/\∀b u,H9 b=some u->b≠l.S->H' b=some u) (λR hR=> ?_) ?_
  ·simp only[tC,i3,sN,kJ,aa,ae,eS9,DA,Wi]
   exact⟨by decide,hR _ _ ⟨rfl,iS,λb u e n=>pY e n⟩⟩
  rintro _ H10 ⟨rfl,eS10,f10⟩
  have F10:∀b u,H b=some u->b≠l.S->H10 b=some u:=λb u e n=>f10 _ _ (F9 _ _ e n) n
  obtain⟨tas,et,ta⟩:=lw.t
  have et10:=F10 _ _ et (aC ndl.1.2.2.1)
  have ed10:=F10 _ _ lw.d (aC ndl.1.2.2.2.1)
  have ew10:=f10 _ _ ew9 (aC Swd)
  have ta10:qZ H10 tas (j4 0 M.ts):=ta.kt λb zs e=>F10 _ _ e (jL e lw.s)
  have tl:tas.length<=12:=by rw[ta.len];exact aH xV gv.tn
  refine i4 (λσ' H'=>∃r,C5 (σ'=[some (Z9 l.S),some (Z9 k),some (Z9 wd),some (Z_ (qY cs J J.length)),a4',some (Z9 cd),some (Z9 nn),a7]) (H10 r=none) (H' l.S=some (.dK (CI {l with C:=cd,h:=hh,N:=nn,d:=r}))) (H' r=some (.lst ((M.sd++zp (oj cs J) (j4 0 M.ts)).map Z_))) (∀b u,H10 b=some u->b≠l.S->H' b=some u)) (λR hR=> ?_) ?_
  ·simp only[ke,tC,i3,jb,tJ,uR,qj,kL,sN,kJ,PH,ak,av,aa,ae,V.ref.injEq,exists_eq_left',eS10,UH,Pn]
   refine⟨⟨_,mj.of et10⟩,zJ (xs:=tas) (λi ys H'=>H10=H'/\ys=(zp (oj cs J) ((j4 0 M.ts).take i)).map Z_) ⟨rfl,rfl⟩ (λi ys H' hP=>by rw[←hP.1];exact mj.of et10) (aH tl (by decide)) (λi ys H' hP=> ?_) (λi v ys H' hv hP K1 hK1=> ?_) λys H' hP r hr=> ?_⟩
   ·rw[hP.2,aj]
    exact aH (dF ..) (c9 ..)
   ·obtain⟨rfl,rfl⟩:=hP
    obtain⟨a,z,rfl,ez,ea⟩:=ta10.at_ hv
    simp only[jC,ke,tC,i3,DO,aN,kJ,zc,Uo,we,aa,ae,↓jD,ea,ew10,wL,cX]
    have nx:=qV ez
    cases hk:lk (oj cs J) z.2.1 with
    |none=>
     refine hK1 _ _ ⟨rfl,?_⟩
     rw[nx,JK,hk,if_neg (by decide),bo];rfl
    |some g=>
     refine hK1 _ _ ⟨rfl,?_⟩
     rw[nx,JK,hk,if_pos (show(some g).isSome=true from rfl),ay]
   ·obtain⟨rfl,rfl⟩:=hP
    rw[ta10.len,bF]
    have s11:=ja.upd (o:= .lst ((zp (oj cs J) (j4 0 M.ts)).map Z_)) hr
    have er:upd H10 r (.lst ((zp (oj cs J) (j4 0 M.ts)).map Z_)) r=some (.lst ((zp (oj cs J) (j4 0 M.ts)).map Z_)):=iS
    generalize upd H10 r (.lst ((zp (oj cs J) (j4 0 M.ts)).map Z_))=H11 at*
    dsimp only
    rw[s11 _ _ ed10,er]
    dsimp only
    have sl2:(zp (oj cs J) (j4 0 M.ts)).length<=12:=aH (dF ..) (aH xV gv.tn)
    refine⟨by rw[aj,aj];exact aH (show _<=112 by lia) (by decide),λp hp=> ?_⟩
    rw[ja.upd hp _ _ (s11 _ _ eS10)]
    dsimp only
    rw[Wg,←bo]
    exact⟨by rw[DA];decide,hR _ _ ⟨p,rfl,s11.free hp,iS,by rw[iW (aC (iT (s11 _ _ eS10) hp)),iS],λb u e n=>by rw[iW n];exact ja.upd hp _ _ (s11 _ _ e)⟩⟩
  rintro _ H11 ⟨sd',rfl,hsd,eS11,ed11,f11⟩
  have F11:∀b u,H b=some u->b≠l.S->H11 b=some u:=λb u e n=>f11 _ _ (F10 _ _ e n) n
  have et11:=F11 _ _ et (aC ndl.1.2.2.1)
  have ew11:=f11 _ _ ew10 (aC Swd)
  have ta11:qZ H11 tas (j4 0 M.ts):=ta.kt λb zs e=>F11 _ _ e (jL e lw.s)
  refine i4 (λσ' H'=>Y2 λr tas'=>C6 (σ'=[some (Z9 l.S),some (Z9 k),some (Z9 wd),some (Z_ (qY cs J J.length)),a4',some (Z9 cd),some (Z9 nn),a7]) (H11 r=none) (H' l.S=some (.dK (CI ⟨l.S,cd,hh,nn,r,sd'⟩))) (H' r=some (.lst tas')) (qZ H' tas' (My (oj cs J) (j4 0 M.ts))) (∀b u,H11 b=some u->b≠l.S->H' b=some u)) (λR hR=> ?_) ?_
  ·simp only[tC,i3,jb,tJ,uR,qj,kL,sN,kJ,ak,av,aa,ae,V.ref.injEq,exists_eq_left',eS11,Pn]
   refine⟨⟨_,mj.of et11⟩,zJ (xs:=tas) (λi ys H'=>ja H11 H'/\qZ H' ys (My (oj cs J) ((j4 0 M.ts).take i))) ⟨ja.refl _,.nil⟩ (λi ys H' hP=>mj.of (hP.1 _ _ et11)) (aH tl (by decide)) (λi ys H' hP=> ?_) (λi v ys H' hv hP K1 hK1=> ?_) λys H' hP r hr=> ?_⟩
   ·rw[hP.2.len]
    exact aH (dF ..) (c9 ..)
   ·obtain⟨s12',tp⟩:=hP
    obtain⟨a,z,rfl,ez,ea⟩:=(ta11.same s12').at_ hv
    simp only[jC,ke,iZ,jd,tC,i3,Jg,DO,ao,kL,kJ,CL,zc,Uo,PK,af,ai,aa,ae,true_and,aq,Yi,↓jD,ea,s12' _ _ ew11,wL,cX]
    have nx:=qV ez
    cases hk:lk (oj cs J) z.2.1 with
    |none=>
     refine hK1 _ _ ⟨s12',?_⟩
     rw[nx,Jv,hk,ay];exact tp
    |some g=>
     intro p hp
     refine hK1 _ _ ⟨s12'.trans (ja.upd hp),?_⟩
     rw[nx,Jv,hk]
     exact(tp.same (ja.upd hp)).snoc iS
   ·obtain⟨s12',tp⟩:=hP
    rw[ta11.len,bF]at tp
    rw[ja.upd hr _ _ (s12' _ _ eS11)]
    dsimp only
    have nSr:=iT (s12' _ _ eS11) hr
    rw[show putK (CI {l with C:=cd,h:=hh,N:=nn,d:=sd'}) (fE (bt "tickets")) (Z9 r)=CI ⟨l.S,cd,hh,nn,r,sd'⟩ from Wj]
    have f13:∀b u,H' b=some u->b≠l.S->upd (upd H' r (.lst ys)) l.S (.dK (CI ⟨l.S,cd,hh,nn,r,sd'⟩)) b=some u:=λb u e n=>by rw[iW n];exact ja.upd hr _ _ e
    exact⟨by rw[DA];decide,hR _ _ ⟨r,ys,rfl,s12'.free hr,iS,by rw[iW (aC nSr),iS],tp.kt λb zs e=>f13 _ _ e (jL e (s12' _ _ eS11)),λb u e n=>f13 _ _ (s12' _ _ e) n⟩⟩
  rintro _ H12 ⟨td,tas',rfl,htd,eS12,et12,ta12,f12⟩
  simp only[kU,i3,aa,ae]
  have G9:∀b u,H9 b=some u->b≠l.S->H12 b=some u:=λb u e n=>f12 _ _ (f11 _ _ (f10 _ _ e n) n) n
  have G7:∀b u,H7 b=some u->b≠l.S->H12 b=some u:=λb u e n=>G9 _ _ (f9 _ _ (s8 _ _ e) (iT e hn7)) n
  have G6:∀b u,H6 b=some u->b≠l.S->H12 b=some u:=λb u e n=>G7 _ _ (f7 _ _ e n) n
  have nSh:=iT eS6 hh6
  have nSd:=iT eS10 hsd
  have nSt:=iT eS11 htd
  have c12:Cw H12 cd cs':=c6.fr λb u e hb=>G6 _ _ e λz=>Slc (by rw[←z];exact hb)
  have bk:∀{G:Hp} {b:Addr},(∀b u,H b=some u->b≠l.S->G b=some u)->G b=none->b≠l.S->H b=none:=λ{G b} g e n=>by
   cases q:H b with
   |none=>rfl
   |some u=>rw[g b u q n]at e;cases e
  have in7:∀b∈hh::lc cd cs',∃u,H7 b=some u/\Bx u=false:=λb hb=>by
   rcases List.mem_cons.mp hb with rfl|hb
   ·exact⟨_,eh7,rfl⟩
   ·obtain⟨u,e,i⟩:=c6.Bm b hb
    exact⟨u,f7 _ _ e (λz=>Slc (by rw[←z];exact hb)),i⟩
  have n1:hh∉lc cd cs':=nO c6.Bm hh6
  have n2:nn∉hh::lc cd cs':=nO in7 hn7
  have in10:∀b∈nn::hh::lc cd cs',∃u,H10 b=some u/\Bx u=false:=λb hb=>by
   rcases List.mem_cons.mp hb with rfl|hb
   ·exact⟨_,f10 _ _ en9 (aC Snn),rfl⟩
   ·obtain⟨u,e,i⟩:=in7 b hb
    have nb:b≠l.S:=by
     rcases List.mem_cons.mp hb with rfl|hb
     ·exact aC nSh
     ·exact λz=>Slc (by rw[←z];exact hb)
    exact⟨u,f10 _ _ (f9 _ _ (s8 _ _ e) (iT e hn7)) nb,i⟩
  have n3:sd'∉nn::hh::lc cd cs':=nO in10 hsd
  have in11:∀b∈sd'::nn::hh::lc cd cs',∃u,H11 b=some u/\Bx u=false:=λb hb=>by
   rcases List.mem_cons.mp hb with rfl|hb
   ·exact⟨_,ed11,rfl⟩
   ·obtain⟨u,e,i⟩:=in10 b hb
    have nb:b≠l.S:=by
     rcases List.mem_cons.mp hb with rfl|hb
     ·exact aC Snn
     ·rcases List.mem_cons.mp hb with rfl|hb
      ·exact aC nSh
      ·exact λz=>Slc (by rw[←z];exact hb)
    exact⟨u,f11 _ _ e nb,i⟩
  have n4:td∉sd'::nn::hh::lc cd cs':=nO in11 htd
  have nS:l.S∉hh::nn::td::sd'::lc cd cs':=by
   simp only[br,not_or]
   exact⟨nSh,Snn,nSt,nSd,Slc⟩
  refine h J ⟨l.S,cd,hh,nn,td,sd'⟩ cs' H12 hK ⟨eS12,c12,G7 _ _ eh7 (aC nSh),G9 _ _ en9 (aC Snn),⟨tas',et12,by show qZ H12 tas' (j4 0 (M.ts.map (DZ (oj cs J))));rw[DH];exact ta12⟩,f12 _ _ ed11 (aC nSd)⟩ rfl w5 (λb u e n=>f12 _ _ (F11 _ _ e n) n) (λb hb=> ?_) ?_
  ·simp only[ll,br]at hb
   rcases hb with hb|rfl|rfl|rfl|rfl|hb
   ·exact .inl hb
   ·exact .inr (bk F6 hh6 (aC nSh))
   ·exact .inr (bk (λb u e n=>f7 _ _ (F6 _ _ e n) n) hn7 (aC Snn))
   ·exact .inr (bk F11 htd (aC nSt))
   ·exact .inr (bk F10 hsd (aC nSd))
   ·exact .inr (g5 b hb)
  ·simp only[ll]
   refine List.nodup_cons.mpr ⟨nS,?_⟩
   simp only[br,not_or]at n2 n3 n4
   simp only[bP,br,not_or]
   exact⟨⟨aC n2.1,aC n4.2.2.1,aC n3.2.1,n1⟩,⟨aC n4.2.1,aC n3.1,n2.2⟩,⟨n4.1,n4.2.2.2⟩,n3.2.2,n5⟩
structure Std(cs:List Cl)(M:Ms):Prop where
 b:M.so.b=0
 y:M.sy.t=M.sy.b
 s:M.ss.t=M.ss.b
 k:M.ks=[]
 w:walks M.ws 0 (cs.map λc=>1+(c.w.length:Int)) M.so.t
 p:D_ 0 (cs.map λc=>1+(c.w.length:Int))=cs.map Cl.p
 h:∀c∈cs,M.ws.getD c.p.toNat 0=8*(c.w.length:Int)+4
theorem QX{H:Hp}(xs:List Int):Bk (dg (EZ H 2) (xs.map Z_) (xs.map Z_))=some true:=by
 induction xs with
 |nil=>rfl
 |cons x r ih=>
  rw[ak,eY,show EZ H 2 (Z_ x) (Z_ x)=some true by simp[EZ,qX,Nt]]
  show(Bk _).map _=_
  rw[ih];rfl
theorem yq{tc:TT}{t u:TS}{D:Ends}{σ:St}{H:Hp}(P:Hp->Prop)(h:∀K:Bool->Hp->Prop,(∀H',P H'->K false H')->tc σ H K)(hu:∀H',P H'->u D σ H'):kM tc t u D σ H:=h _ λH' p=>by rw[if_neg (by intro z;cases z)];exact hu H' p
theorem Ol{tc tc':TT}{σ:St}{H:Hp}{K:Bool->Hp->Prop}(P:Hp->Prop)(h:∀K:Bool->Hp->Prop,(∀H',P H'->K false H')->tc σ H K)(h2:∀H',P H'->tc' σ H' K):Pt tc tc' σ H K:=h _ λH' p=>by rw[if_neg (by intro z;cases z)];exact h2 H' p
theorem sI.kp{H H':Hp}(f:∀b zs,H b=some (.tup zs)->H' b=some (.tup zs)):∀{as:List V} {xs:List (Int×Int)},sI H as xs->sI H' as xs
 | [],[],h=>h
 | .ref a::as,x::xs,h=>⟨f _ _ h.1,sI.kp f h.2⟩
 | [],_::_,h=>h.elim
 | .kT::_,_,h=>by cases h
 | .bl _::_,_,h=>by cases h
 | .int _::_,_,h=>by cases h
 | .str _::_,_,h=>by cases h
 | .byt _::_,_,h=>by cases h
 | .Nu _::_,_,h=>by cases h
 | .ty _::_,_,h=>by cases h
 | .ref _::_,[],h=>h.elim
noncomputable def Hm (A:Ad):Sp:=λvs H Q _=>Y7 λ(l:Lx) (x:Ax) (cs:List Cl) (M:Ms) (o y:Int) (n:Nat)=>Zh (vs=[.ref x.p,.ref x.r,.ref l.S,.int M.so.t]) (Wx A H x M) (Lw H l cs M) (Gv o y n cs M) (n<=12) (Std cs M) (M.sd.length<=1000) (l.N≠x.e) (l.N≠x.d) (l.C≠x.d) (l.C≠x.e) ((ll l cs).Nodup) (∀H',ja H H'->Q (.bl true) H')
theorem qr:i7 ["_law_areas","_law_roots","_law_s","_law_top","_law_at","_law_row","_law_name","_law_due"] ["_law_areas","_law_roots","_law_s","_law_top"] (iX rh):=fsc
theorem G1(T:Txt K mg A):jA P w K mg base (lG P w) true 12 A.nR A.pJ ["_law_areas","_law_roots","_law_s","_law_top"] (Hm A):=by
 refine T.zN.nP qr (λvs H Q E h=> ?_) (λcdv A' outer s H vs Q E hr hx h=> ?_)
 ·obtain⟨_,_,_,_,_,_,_,rfl,_⟩:=h
  rfl
 ·obtain⟨l,x,cs,M,o,y,n,rfl,wx,lw,gv,n12,sd,sl,n1,n2,n3,n4,nd,h⟩:=h
  refine⟨_,mL.run (iP (jo (mq (uH (jc (sR (Jw hr)) (lu (iN (i8 (i8 (iQ 0) rfl) rfl) (iN (kr (i8 (iQ 0) rfl) T.kE T.ve (uJ T).mono hr T.u_ hx) (iN (kr (i8 (iQ 0) rfl) T.kE T.ve (uJ T).mono hr T.u_ hx) iO)))) (lu (iN (iQ 3) (iN iU (iN iU iO)))) (jx _)) (sT (jc (sR (Jw hr)) (kr (i8 (iQ 1) rfl) T.sO T.Ip (GV T).mono hr T.HK hx) (lu iO) (jx _))))) (iR (jf rA)) jh)
   (iP (jo (mq (uH (jc (sR (Jw hr)) (jr (i8 (iQ 0) rfl) T.kE T.Ir (GY T).mono hr T.HN hx (iN (i8 (iQ 0) rfl) iO)) (qS (Bb (by rfl)) (by rfl) T.yC PyProof.Rows.Boot.«list» (iN (jk (by exact jw hr) (iQ 2) i5 (λ_ _=>rfl)) iO)) (jx _)) (sT (jc (sR (Jw hr)) (kr (i8 (iQ 1) rfl) T.qa T.Aa (yF T).mono hr T.zB hx) (jk (by exact jw hr) (iQ 2) i5 (λ_ _=>rfl)) (jx _))))) (iR (jf rA)) jh)
   (iP (xM (k7 hx.own rfl (vL (jk (by exact jw hr) (iQ 2) i5 (λ_ _=>rfl))) (jO (i:=4) qr.nd rfl lo)
    (iP (ji (i:=5) qr.nd rfl lo (iY KS (lu (iN (iY jv (iY uG iU (jy qQ (by rfl) T.sU PyProof.Rows.Boot.«len» (iN (uj (by exact jw hr) (jk (by exact jw hr) (iQ 2) i5 (λ_ _=>rfl)) (iQ 4) (λ_ _=>rfl)) iO))) iU) iO)) (uj (by exact jw hr) (jk (by exact jw hr) (iQ 2) i5 (λ_ _=>rfl)) (iQ 4) (λ_ _=>rfl))))
   (iR (jo (jc (sR (Jw hr)) (pR (fsc:=iX rh) (N2:=["_law_areas","_law_at"]) (js:=[0,4]) ⟨rfl,rfl,by decide+kernel,by decide+kernel,by decide+kernel,by decide+kernel,by decide+kernel,by decide+kernel,by decide+kernel⟩ rfl rfl (by rfl) (oY rfl T.rB (iN (jy qQ (by rfl) T.sU PyProof.Rows.Boot.«len» (iN (iQ 5) iO)) iO)) (λ_ _ _ _=>uk) (λ_ _ _ _=>(jr (MF (K:=K) rfl (iQ 1) rfl) T.jZ T.uI (sV T).mono hr T.uA wj (iN (iY jv (iQ 2) (iQ 0)) iO)))) (iQ 5) (jx _)) (iR (jf rA)) jh)))))
   (iP (xM (k7 hx.own rfl (vL (jk (by exact jw hr) (iQ 2) i5 (λ_ _=>rfl))) (jO (i:=6) qr.nd rfl lo)
    (iR (jo (jc (sR (Jw hr)) (jr (i8 (iQ 1) rfl) T.m_ T.JF (GZ T).mono hr T.Jh hx (iN (iQ 6) iO)) (uj (by exact jw hr) (jk (by exact jw hr) (iQ 2) i5 (λ_ _=>rfl)) (iQ 6) (λ_ _=>rfl)) (jx _)) (iR (jf rA)) jh))))
   (iP (xM (vd (i:=7) (fsc:=iX rh) (N2:=["_law_s"]) (js:=[2]) qr.nd rfl lo ⟨rfl,rfl,by decide+kernel,by decide+kernel,by decide+kernel,by decide+kernel,by decide+kernel,by decide+kernel,by decide+kernel⟩ rfl rfl (by rfl) (vL (jk (by exact jw hr) (iQ 2) i5 (λ_ _=>rfl))) (λ_ _ _ _=>(pe (jc JC (uj (by exact jw hr) (jk (by exact jw hr) (iQ 1) i5 (λ_ _=>rfl)) (iQ 0) (λ_ _=>rfl)) sS (jx _)))) (λ_ _ _ _=>(vK (iN (iQ 0) (iN (uj (by exact jw hr) (jk (by exact jw hr) (iQ 1) i5 (λ_ _=>rfl)) (iQ 0) (λ_ _=>rfl)) iO))))))
   (iP (jo (mq (uH (jc (sR (Jw hr)) (kr (i8 (iQ 1) rfl) T.m_ T.Dp (BA T).mono hr T.CP hx) (iQ 7) (jx _)) (sT (jc (sR (Jw hr)) (kr (i8 (iQ 1) rfl) T.lh T.zi (xQ T).mono hr T.ze hx) (jk (by exact jw hr) (iQ 2) i5 (λ_ _=>rfl)) (jx _))))) (iR (jf rA)) jh)
   (iR (jf (D2 (Ba (Jw hr)) (kr (i8 (iQ 1) rfl) T.lh T.K7 (IE T).mono hr T.J8 hx) (jk (by exact jw hr) (iQ 2) i5 (λ_ _=>rfl)) (jx _)))))))))),?_⟩
  have cl:cs.length<=12:=aH gv.nn n12
  obtain⟨dp,ep⟩:=wx.ar.ob
  obtain⟨d1,eo⟩:=wx.ar.old
  obtain⟨d2,ey⟩:=wx.ar.Fg
  obtain⟨d3,es⟩:=wx.ar.HH
  obtain⟨dr,er⟩:=wx.ro
  obtain⟨db,eb⟩:=wx.bk.ob
  obtain⟨dh,eh⟩:=wx.hd.ob
  show jM _ _ _ [some (Z9 x.p),some (Z9 x.r),some (Z9 l.S),some (Z_ M.so.t),none,none,none,none] H
  refine i4 (λσ' H'=>σ'=[some (Z9 x.p),some (Z9 x.r),some (Z9 l.S),some (Z_ M.so.t),none,none,none,none]/\ja H H') (λR hR=> ?_) ?_
  ·refine yq (ja H) (λK1 hK1=>Ol (ja H) (λK2 hK2=> ?_) λH1 s1=> ?_) λH' s'=>hR _ _ ⟨rfl,s'⟩
   ·simp only[jC,ke,iZ,jd,tC,i3,xU,eqv,jb,ao,iS,BY,BZ,↓jj,↓jg,af,ai,aa,ae,V.ref.injEq,ag,bh,and_true,true_and,exists_eq_left',exists_and_left,aq,Yi,↓jD,jU,oq,ql,ep,T.jF,T.kK,T.lX,T.oJ,Bq,L4,QD,eo,ey,es,T.kE,T.lQ,JL,Dz,rp]
    refine⟨d2,_,_,_,rfl,d3,_,_,_,rfl,λp hp p1 hp1=> ?_⟩
    rw[show M.sy.t-M.sy.b=0 by rw[sd.y];lia,show M.ss.t-M.ss.b=0 by rw[sd.s];lia]at hp1⊢
    rw[ja.upd hp1 _ _ iS]
    dsimp only
    rw[if_pos rfl,show Bk (dg _ [Z_ M.so.t,Z_ 0,Z_ 0] [Z_ M.so.t,Z_ 0,Z_ 0])=some true from QX [M.so.t,0,0]]
    exact hK2 _ ((ja.upd hp).trans (ja.upd hp1))
   ·simp only[jC,ke,jd,i3,xU,eqv,jb,iS,BY,BZ,↓jj,↓jg,ai,aa,ae,V.ref.injEq,ag,and_true,true_and,exists_eq_left',exists_and_left,Qr,↓jD,jU,oq,ql,s1 _ _ er,T.jR,T.oa,Lp,s1 _ _ eb,NJ,AL]
    refine⟨x.d,M.ks,wx.bk.same s1,by rw[sd.k];decide,λp hp p1 hp1=> ?_⟩
    have e0:bX Z_ (oH M.ks)=[]:=by rw[sd.k,show oH []=[] from(xK (gw _) ib).symm];rfl
    rw[ja.upd hp1 _ _ iS]
    dsimp only
    rw[if_pos (by rw[e0]),show Bk (dg _ (bX Z_ (oH M.ks)) ([]:List V))=some true by rw[e0];rfl]
    exact hK1 _ (s1.trans ((ja.upd hp).trans (ja.upd hp1)))
  rintro _ H1 ⟨rfl,s1⟩
  have lw1:=lw.fr (H':=H1) λb u e _=>s1 b u e
  refine i4 (λσ' H'=>σ'=[some (Z9 x.p),some (Z9 x.r),some (Z9 l.S),some (Z_ M.so.t),none,none,none,none]/\ja H H') (λR hR=> ?_) ?_
  ·refine yq (ja H) (λK1 hK1=>Ol (ja H) (λK2 hK2=> ?_) λH2 s2=> ?_) λH' s'=>hR _ _ ⟨rfl,s'⟩
   ·simp only[jC,ke,Bg,iZ,jd,tC,i3,eqv,jb,BY,BZ,↓jj,↓jg,kL,kJ,aa,ae,and_true,true_and,DP,↓jD,jU,oq,ql,s1 _ _ ep,T.jF,T.kK,T.jP,Bq,Bp,s1 _ _ eo,Qi]
    unfold AO
    refine⟨x.o,d1,M.so.b,M.so.e,M.so.t,x.m,x.q,M.ws,_,rfl,s1 _ _ eo,wx.ar.mem.same s1,gv.mr.ok,by rw[sd.b];exact sd.w,by rw[aj];lia,λp H2 s2 hp e2=> ?_⟩
    rw[sd.b,sd.p]at e2
    rw[s2 _ _ lw1.s]
    dsimp only
    rw[u7]
    dsimp only
    rw[s2 _ _ lw1.cw.dc]
    dsimp only
    have ek:bX (λp=>kV p.fst) (va cs)=(cs.map Cl.p).map Z_:=by rw[va,bB,bB];rfl
    rw[ek]
    intro p1 hp1
    rw[ja.upd hp1 _ _ e2,iS]
    dsimp only
    rw[if_pos rfl,QX]
    exact hK2 _ (s1.trans (s2.trans (ja.upd hp1)))
   ·have lw2:=lw.fr (H':=H2) λb u e _=>s2 b u e
    simp only[jC,ke,jd,tC,i3,eqv,jb,BY,BZ,↓jj,↓jg,kL,kJ,aa,ae,V.ref.injEq,ag,and_true,true_and,exists_eq_left',exists_and_left,↓jD,jU,oq,ql,s2 _ _ er,T.jR,T.lD,Eb,s2 _ _ eh,KP,vk]
    refine⟨x.g,M.hw,wx.hd.same s2,λp hp=> ?_⟩
    rw[ja.upd hp _ _ lw2.s]
    dsimp only
    rw[ER]
    dsimp only
    rw[iS,ja.upd hp _ _ lw2.h]
    dsimp only
    rw[if_pos rfl,QX]
    exact hK1 _ (s2.trans (ja.upd hp))
  rintro _ H2 ⟨rfl,s2⟩
  refine i4 (λσ' H'=>Y2 λa4 a5=>σ'=[some (Z9 x.p),some (Z9 x.r),some (Z9 l.S),some (Z_ M.so.t),a4,a5,none,none]/\ja H H') (λR hR=> ?_) ?_
  ·refine⟨l.C,va cs,s2 _ _ lw.cw.dc,λob=> ?_⟩
   have f9:∀b u,H2 b=some u->b≠l.C->upd H2 l.C (.rN ob (.dK (va cs))) b=some u:=λb u e n=>pY e n
   have e9:upd H2 l.C (.rN ob (.dK (va cs))) l.C=some (.rN ob (.dK (va cs))):=iS
   generalize upd H2 l.C (.rN ob (.dK (va cs)))=H3 at*
   have SC:l.S≠l.C:=by simp only[ll,lc,bP,br,not_or]at nd;exact nd.1.2.2.2.2.1
   simp only[tC,i3,lT,kL,kJ,aa,ae,and_false,f9 _ _ (s2 _ _ lw.s) SC,u7,e9,Ca]
   refine lA.QY (λi σ H'=>Y2 λa4 a5=>σ=[some (Z9 x.p),some (Z9 x.r),some (Z9 l.S),some (Z_ M.so.t),a4,a5,none,none]/\ja H3 H')
    ⟨none,none,rfl,ja.refl _⟩ (λi σ H' _ ⟨_,_,_,f⟩=>f _ _ e9) ?_ ?_
   ·rintro i kv σ H4 hkv ⟨a4,a5,rfl,s4⟩ R2 hR2
    rw[va,aS]at hkv
    obtain⟨c,hc,rfl⟩:=Option.map_eq_some_iff.mp hkv
    have hc':=cz hc
    have er4:=s4 _ _ (f9 _ _ (s2 _ _ (lw.cw.row c hc')) (jL (lw.cw.row c hc') lw.cw.dc))
    show jM _ _ _ [some (Z9 x.p),some (Z9 x.r),some (Z9 l.S),some (Z_ M.so.t),some (Z_ c.p),a5,none,none] H4
    refine i4 (λσ' H'=>∃r,C3 (σ'=[some (Z9 x.p),some (Z9 x.r),some (Z9 l.S),some (Z_ M.so.t),some (Z_ c.p),some (Z9 r),none,none]) (ja H4 H') (H' r=some (.lst (((8*(c.w.length:Int)+4)::c.w).map Z_)))) (λR3 hR3=> ?_) ?_
    ·simp only[ke,Bg,iZ,jd,tC,i3,xU,jX,jq,mP,EX,zF,DK,true_or,aV,aW,aT,bD,ao,kL,kJ,PH,af,ai,aa,ae,aw,ax,and_true,true_and,aq,BR,s4 _ _ (f9 _ _ (s2 _ _ lw.s) SC),u7,s4 _ _ e9,zD,sP,F4 gv.mr.nd hc',bG,er4]
     intro p hp
     have s5:=ja.upd (o:= .lst [Z_ (8*((bX Z_ c.w).length:Int)+4)]) hp
     have ep5:upd H4 p (.lst [Z_ (8*((bX Z_ c.w).length:Int)+4)]) p=some (.lst [Z_ (8*((bX Z_ c.w).length:Int)+4)]):=iS
     generalize upd H4 p (.lst [Z_ (8*((bX Z_ c.w).length:Int)+4)])=H5 at*
     rw[s5 _ _ (s4 _ _ (f9 _ _ (s2 _ _ lw.s) SC))]
     dsimp only
     rw[u7]
     dsimp only
     rw[s5 _ _ (s4 _ _ e9)]
     dsimp only
     rw[sP,F4 gv.mr.nd hc']
     dsimp only[bG]
     rw[ep5,s5 _ _ er4]
     dsimp only
     have wl:=(gv.mr.cl c hc').2.2.1
     refine⟨by rw[aj];exact aH (show [Z_ (8*((bX Z_ c.w).length:Int)+4)].length+c.w.length<=9 by simp;lia) (by decide),λp1 hp1=>hR3 _ _ ⟨p1,rfl,s5.trans (ja.upd hp1),?_⟩⟩
     rw[iS,aj];rfl
    rintro _ H5 ⟨r,rfl,s5,er5⟩
    refine yq (ja H5) (λK1 hK1=> ?_) λH' s'=>hR2 _ _ ⟨_,_,rfl,s4.trans (s5.trans s')⟩
    simp only[jC,ke,Bg,iZ,jd,i3,eqv,zF,aT,bD,tJ,uR,BY,BZ,zY,ak,av,af,aa,ae,V.int.injEq,ag,and_true,exists_eq_left',↓jD,er5,cX,aj]
    have ep5:=s5 _ _ (s4 _ _ (f9 _ _ (s2 _ _ ep) (jL ep lw.cw.dc)))
    have m5:kz A.i_ H5 x.m x.q M.ws:=((wx.ar.mem.same s2).keep λb u e hb=>f9 _ _ e (by
     rcases hb with rfl|rfl
     ·obtain⟨dm,em⟩:=wx.ar.mem.ob
      exact jL em lw.cw.dc
     ·exact jL wx.ar.mem.ls lw.cw.dc)).same (s4.trans s5)
    obtain⟨dm,em⟩:=m5.ob
    obtain⟨q0,q1,q2,_⟩:=gv.mr.cl c hc'
    refine⟨by lia,by lia,CY (λi ys H'=>H5=H'/\ys=(((8*(c.w.length:Int)+4)::c.w).take i).map Z_) ⟨rfl,rfl⟩ (aH (show _<=9 by lia) (by decide)) (λi ys H' hP=>by rw[hP.2,aj];exact c9 ..) (λi ys H' hi hP K2 hK2=> ?_) λys H' hP p hp=> ?_⟩
    ·obtain⟨rfl,rfl⟩:=hP
     simp only[ke,iZ,jd,i3,mP,and_assoc,↓reduceIte,OE,↓jj,↓jg,aa,ae,V.ref.injEq,ag,and_true,true_and,exists_eq_left',exists_and_left,jU,oq,ql,ep5,T.jF,T.jP,Bp,em,K9,tE]
     refine⟨x.q,M.ws,m5,aD,?_⟩
     rw[if_pos (DI (by lia) (by lia)),show(iv (Z_ (c.p+(0+(i:Int))))).toNat=c.p.toNat+i by show(c.p+(0+(i:Int))).toNat=_;lia]
     refine hK2 _ _ ⟨rfl,?_⟩
     have il:i<((8*(c.w.length:Int)+4)::c.w).length:=by rw[af];lia
     rw[bC il,bo]
     congr 1
     show [Z_ _]=[Z_ _]
     congr 2
     cases i with
     |zero=>exact sd.h c hc'
     |succ j=>
      have jl:j<c.w.length:=by lia
      rw[eX,show c.p.toNat+(j+1)=c.p.toNat+1+j by lia,gv.mr.wd c hc' j jl,az,au jl];rfl
    ·obtain⟨rfl,rfl⟩:=hP
     dsimp only
     rw[iS,ja.upd hp _ _ er5]
     dsimp only
     rw[List.take_of_length_le (by rw[af];lia),if_pos rfl,QX]
     exact hK1 _ (ja.upd hp)
   ·rintro σ H4 ⟨a4,a5,rfl,s4⟩
    refine⟨s4 _ _ e9,hR _ _ ⟨_,_,rfl,λb u e=> ?_⟩⟩
    by_cases c:b=l.C
    ·rw[c,iS,←lw.cw.dc,←c,e]
    ·rw[iW c];exact s4 _ _ (f9 _ _ (s2 _ _ e) c)
  rintro _ H3 ⟨a4,a5,rfl,s3⟩
  have SN:l.S≠l.N:=by simp only[ll,lc,bP,br,not_or]at nd;exact nd.1.2.1
  obtain⟨dw,ew⟩:=wx.wk.ob
  obtain⟨es',ls⟩:=wx.ls
  obtain⟨dl,el⟩:=ls.ob
  refine i4 (λσ' H'=>∃a6,σ'=[some (Z9 x.p),some (Z9 x.r),some (Z9 l.S),some (Z_ M.so.t),a4,a5,a6,none]/\ja H H') (λR hR=> ?_) ?_
  ·refine⟨l.N,yD M.os,s3 _ _ lw.n,λob=> ?_⟩
   have f9:∀b u,H3 b=some u->b≠l.N->upd H3 l.N (.rN ob (.dK (yD M.os))) b=some u:=λb u e n=>pY e n
   have e9:upd H3 l.N (.rN ob (.dK (yD M.os))) l.N=some (.rN ob (.dK (yD M.os))):=iS
   generalize upd H3 l.N (.rN ob (.dK (yD M.os)))=H4 at*
   have w4:tV A.jE H4 x.w x.v M.os:=(wx.wk.same s3).keep λb u e hb=>f9 _ _ e (by
    rcases hb with rfl|rfl
    ·exact jL ew lw.n
    ·exact jL wx.wk.ls lw.n)
   have er4:=f9 _ _ (s3 _ _ er) (jL er lw.n)
   obtain⟨dw4,ew4⟩:=w4.ob
   simp only[tC,i3,jb,lT,kL,kJ,aa,ae,and_false,f9 _ _ (s3 _ _ lw.s) SN,ES,e9,Ca]
   refine lA.QY (λi σ H'=>∃a6,σ=[some (Z9 x.p),some (Z9 x.r),some (Z9 l.S),some (Z_ M.so.t),a4,a5,a6,none]/\H4=H')
    ⟨none,rfl,rfl⟩ (λi σ H' _ ⟨_,_,f⟩=>by rw[←f];exact e9) ?_ ?_
   ·rintro i kv σ _ hkv ⟨a6,rfl,rfl⟩ R2 hR2
    rw[Dq,bS]at hkv
    obtain⟨om,ho,rfl⟩:=Option.map_eq_some_iff.mp hkv
    have hi:=(List.getElem?_eq_some_iff.mp ho).1
    have vi:=Be (os:=M.os) (k:=0) (i:=i)
    rw[ho,bS]at vi
    refine yq (λH'=>H4=H') (λK1 hK1=> ?_) λH' s'=>hR2 _ _ ⟨_,rfl,s'⟩
    simp only[jC,ke,iZ,jd,tC,i3,eqv,and_assoc,BY,BZ,↓jj,↓jg,kL,kJ,aa,ae,aw,ax,V.ref.injEq,ag,and_true,true_and,exists_eq_left',exists_and_left,↓jD,jU,oq,ql,kV,er4,T.jR,T.k_,Co,ew4,Sn,CA,f9 _ _ (s3 _ _ lw.s) SN,ES,e9,zD,vi]
    refine⟨x.v,M.os,w4,aD,?_⟩
    rw[if_pos (DI (by lia) (by lia)),show(iv (Z_ i)).toNat=i from bU i,az,ho]
    cases om with
    |none=>exact hK1 _ rfl
    |some q=>
     simp only[dH,bG,tv,decide_true]
     exact hK1 _ rfl
   ·rintro σ _ ⟨a6,rfl,rfl⟩
    refine⟨e9,hR _ _ ⟨_,rfl,λb u e=> ?_⟩⟩
    by_cases c:b=l.N
    ·rw[c,iS,←lw.n,←c,e]
    ·rw[iW c];exact f9 _ _ (s3 _ _ e) c
  rintro _ H4 ⟨a6,rfl,s4⟩
  refine i4 (λσ' H'=>Y2 λr as=>C4 (σ'=[some (Z9 x.p),some (Z9 x.r),some (Z9 l.S),some (Z_ M.so.t),a4,a5,a6,some (Z9 r)]) (ja H H') (H' r=some (.lst as)) (sI H' as (Nx 0 M.os))) (λR hR=> ?_) ?_
  ·refine⟨l.N,yD M.os,s4 _ _ lw.n,λob=> ?_⟩
   have f9:∀b u,H4 b=some u->b≠l.N->upd H4 l.N (.rN ob (.dK (yD M.os))) b=some u:=λb u e n=>pY e n
   have e9:upd H4 l.N (.rN ob (.dK (yD M.os))) l.N=some (.rN ob (.dK (yD M.os))):=iS
   generalize upd H4 l.N (.rN ob (.dK (yD M.os)))=H5 at*
   have eS5:=f9 _ _ (s4 _ _ lw.s) SN
   simp only[tC,i3,jX,jq,tJ,uR,kL,kJ,ak,av,aa,ae,aw,ax,eS5,ES,e9,Ca]
   refine Ey (λi ys H'=>ja H5 H'/\sI H' ys (Nx 0 (M.os.take i))/\ys.length<=i) ⟨ja.refl _,aD,aI _⟩ (λi ys H' hP=>hP.1 _ _ e9) (by rw[wG];exact aH gv.on (by decide)) (λi ys H' hP=>hP.2.2) (λi kv ys H' hkv hP K1 hK1=> ?_) λys H' hP r hr=> ?_
   ·obtain⟨s6,pa,hy⟩:=hP
    rw[Dq,bS]at hkv
    obtain⟨om,ho,rfl⟩:=Option.map_eq_some_iff.mp hkv
    have hi:=(List.getElem?_eq_some_iff.mp ho).1
    have vi:=Be (os:=M.os) (k:=0) (i:=i)
    rw[ho,bS]at vi
    have hlt:(M.os.take i).length=i:=by rw[bH];lia
    cases om with
    |none=>
     simp only[jC,ke,iZ,jd,tC,i3,Jg,BX,xI,ao,aN,kL,kJ,af,ai,aa,ae,true_and,aq,Wl,↓jD,kV,cX,s6 _ _ eS5,ES,s6 _ _ e9,zD,vi]
     refine hK1 _ _ ⟨s6,?_,by lia⟩
     rw[qV ho,xR,ay];exact pa
    |some q=>
     simp only[jC,ke,iZ,jd,tC,i3,Jg,BX,xI,ao,aN,kL,kJ,af,ai,aa,ae,true_and,aq,Wl,↓jD,kV,cX,s6 _ _ eS5,ES,s6 _ _ e9,zD,vi]
     intro p hp
     refine hK1 _ _ ⟨s6.trans (ja.upd hp),?_,by rw[aY];exact dG hy⟩
     rw[qV ho,xR,hlt]
     exact sI.snoc (by rw[iS,bS];rfl) (pa.same (ja.upd hp))
   ·obtain⟨s6,pa,hy⟩:=hP
    rw[wG,bF]at pa
    have e10:=ja.upd (o:= .lst ys) hr _ _ (s6 _ _ e9)
    have nr:r≠l.N:=aC (iT (s6 _ _ e9) hr)
    refine⟨e10,hR _ _ ⟨r,ys,rfl,λb u e=> ?_,by rw[iW nr,iS],sI.kp (λb zs e=>by rw[iW (λz=>by rw[z,e10]at e;cases e)];exact e) (pa.same (ja.upd hr))⟩⟩
    by_cases c:b=l.N
    ·rw[c,iS,←lw.n,←c,e]
    ·rw[iW c];exact ja.upd hr _ _ (s6 _ _ (f9 _ _ (s4 _ _ e) c))
  rintro _ H5 ⟨due,as,rfl,s5,ed,pa⟩
  refine i4 (λσ' H'=>σ'=[some (Z9 x.p),some (Z9 x.r),some (Z9 l.S),some (Z_ M.so.t),a4,a5,a6,some (Z9 due)]/\ja H H') (λR hR=> ?_) ?_
  ·refine yq (ja H) (λK1 hK1=>Ol (ja H) (λK2 hK2=> ?_) λH6 s6=> ?_) λH' s'=>hR _ _ ⟨rfl,s'⟩
   ·simp only[jC,ke,jd,i3,eqv,jb,BY,BZ,↓jj,↓jg,aa,ae,V.ref.injEq,ag,and_true,true_and,exists_eq_left',exists_and_left,↓jD,jU,oq,ql,s5 _ _ er,T.jR,T.k_,Co,s5 _ _ ew,JR,xA]
    refine⟨x.v,M.os,wx.wk.same s5,aH gv.on (by decide),λp bs H6 s6 hp ep6 pb=> ?_⟩
    rw[ep6,s6 _ _ ed]
    dsimp only
    rw[if_pos (by rw[pb.len,pa.len]),pb.eq (pa.same s6)]
    exact hK2 _ (s5.trans s6)
   ·simp only[jC,ke,jd,tC,i3,eqv,jb,BY,BZ,↓jj,↓jg,kL,kJ,aa,ae,V.ref.injEq,ag,and_true,true_and,exists_eq_left',exists_and_left,↓jD,jU,oq,ql,s6 _ _ er,T.jR,T.lE,Ec,s6 _ _ el,EG,ur]
    refine⟨x.e,x.u,M.ts,M.sd,es',ls.same s6,by have:=gv.tn;lia,λp bs H7 s7 hp ep7 tb=> ?_⟩
    obtain⟨tas,et,ta⟩:=lw.t
    have s67:=s6.trans s7
    rw[s67 _ _ lw.s]
    dsimp only
    rw[Pn]
    dsimp only
    rw[ep7,s67 _ _ et]
    dsimp only
    rw[if_pos (by rw[tb.len,ta.len]),tb.eq (ta.same s67)]
    exact hK1 _ s67
  rintro _ H6 ⟨rfl,s6⟩
  simp only[kU,ke,jd,tC,i3,eqv,jb,zE,PJ,↓jj,↓jg,kL,kJ,aa,ae,V.ref.injEq,ag,and_true,true_and,exists_eq_left',exists_and_left,jU,oq,ql,s6 _ _ er,T.jR,T.lE,Ec,s6 _ _ el,Rv,BO]
  refine⟨x.e,x.u,M.ts,M.sd,es',ls.same s6,λp hp=> ?_⟩
  rw[ja.upd hp _ _ (s6 _ _ lw.s)]
  dsimp only
  rw[UH]
  dsimp only
  rw[iS,ja.upd hp _ _ (s6 _ _ lw.d)]
  dsimp only
  rw[if_pos rfl,QX]
  exact h _ (s6.trans (ja.upd hp))
structure Sl(cs:List Cl)(M:Ms)(K:List Int)(M':Ms):Prop where
 len:M'.ws.length=M.ws.length
 ok:jJ M'.ws
 cell:∀(i:Nat) (h:i<K.length),M'.ws.getD (qY cs K i).toNat 0=8*((FI cs K[i]).length:Int)+4/\∀k,k<(FI cs K[i]).length->M'.ws.getD ((qY cs K i).toNat+1+k) 0=tw (oj cs K) ((FI cs K[i]).getD k 0)
 so:M'.so=⟨M.so.b,M.so.e,qY cs K K.length⟩
 sy:M'.sy=⟨M.sy.b,M.sy.e,M.sy.b⟩
 ss:M'.ss=⟨M.ss.b,M.ss.e,M.ss.b⟩
 ks:M'.ks=[]
 hw:M'.hw=(Mv cs K M).hw
 os:M'.os=(Mv cs K M).os
 ts:M'.ts=(Mv cs K M).ts
 sd:M'.sd=(Mv cs K M).sd
section
variable{o y:Int}{n:Nat}{cs cs':List Cl}{M M':Ms}{K:List Int}
theorem wX{i j:Nat}(h:i<=j)(hj:j<=K.length):qY cs K i<=qY cs K j:=by
 by_cases c:i=j
 ·subst c;exact eW _
 ·have:=Gn (cs:=cs) (K:=K) (j:=i) (i:=j) (by lia) hj;lia
theorem Gv.CF(g:Gv o y n cs M)(hK:Fi (EY cs) (oI M.hw) K):(∀p∈K,p∈cs.map Cl.p)/\qY cs K K.length<=o:=by
 have h1:∀p∈K,p∈cs.map Cl.p:=λp hp=>g.rc (hK.mem.mp hp)
 refine⟨h1,?_⟩
 have:=g.room h1 hK.lt
 unfold qY
 rw[bF];exact this
theorem Gv.wb(g:Gv o y n cs M)(hK:Fi (EY cs) (oI M.hw) K){v:Int}(hv:(∃c∈cs,c.p∈K/\v∈c.w)∨v∈M.hw):Wb (oj cs K) v:=by
 have oy:=g.oy
 have kk:=g.CF hK
 refine⟨hv.elim (λ⟨c,hc,_,h⟩=>g.wd hc h) λh=>g.ho v h,λhp=> ?_⟩
 have hm:v/2∈K:=by
  rw[hK.mem]
  rcases hv with ⟨c,hc,hcJ,hv⟩|hv
  ·refine .c (hK.mem.mp hcJ) ?_
   rw[Fn,HE g.mr.nd hc]
   exact uW.mpr ⟨v,hv,hp,rfl⟩
  ·exact .s (uW.mpr ⟨v,hv,hp,rfl⟩)
 obtain⟨i,hi,_,e⟩:=LW (cs:=cs) hK.nd hm
 have h1:=zX (cs:=cs) (K:=K) (i:=i) (by lia)
 have h2:=wX (cs:=cs) (K:=K) (i:=i) (j:=K.length) (by lia) (aI _)
 exact⟨_,e,h1,by lia⟩
theorem Nw.of(w:Nw (oj cs K) cs K cs')(nd:K.Nodup){c':Cl}(h:c'∈cs'):∃i,∃hi:i<K.length,cs'[i]? =some c'/\c'.p=qY cs K i/\c'.w=(FI cs K[i]).map (tw (oj cs K)):=by
 obtain⟨i,e⟩:=List.mem_iff_getElem?.mp h
 obtain⟨p,ep,el,ew⟩:=w.at_ i c' e
 have hi:=(List.getElem?_eq_some_iff.mp ep).1
 rw[au hi]at ep
 cases ep
 rw[CC nd hi]at el
 exact⟨i,hi,e,(bg el).symm,ew⟩
theorem Nw.pl(w:Nw (oj cs K) cs K cs')(nd:K.Nodup):cs'.map Cl.p=(bZ K.length).map (qY cs K):=by
 refine eR λi=> ?_
 rw[aS,aS]
 cases e:cs'[i]? with
 |none=>
  have:=List.getElem?_eq_none_iff.mp e
  rw[w.len]at this
  rw[bQ (by rw[dB];exact this)];rfl
 |some c'=>
  obtain⟨p,ep,el,_⟩:=w.at_ i c' e
  have hi:=(List.getElem?_eq_some_iff.mp ep).1
  rw[au hi]at ep
  cases ep
  rw[CC nd hi]at el
  rw[fw hi,bG,bG,←bg el]
theorem Gv.Zd(g:Gv o y n cs M)(hK:Fi (EY cs) (oI M.hw) K)(s:Sl cs M K M')(w:Nw (oj cs K) cs K cs'):Gv o y n cs' M':=by
 have nd:=hK.nd
 obtain⟨CF,tot⟩:=g.CF hK
 have oy:=g.oy
 have wl:=g.wl
 have sl:=s.len
 have sy:=g.sy
 have so:=g.so
 have cel:∀{i:Nat} (hi:i<K.length),(FI cs K[i]).length<=8/\qY cs K (i+1)=qY cs K i+1+(FI cs K[i]).length/\qY cs K (i+1)<=o/\0<=qY cs K i:=λ{i} hi=>by
  obtain⟨c,_,_,e2,e3,e4⟩:=g.xX (CF _ (bq hi))
  have h1:=vI (cs:=cs) hi
  have h2:=wX (cs:=cs) (K:=K) (i:=i+1) (j:=K.length) hi (aI _)
  have h3:=zX (cs:=cs) (K:=K) (i:=i) (by lia)
  rw[e3]at h1
  rw[e2]
  exact⟨e4,by lia,by lia,h3⟩
 have pl:∀{v:Int},ot v=true->(lk (oj cs K) (v/2)).isSome=true->tw (oj cs K) v/2∈cs'.map Cl.p:=λ{v} hp hs=>by
  rw[Nq nd,decide_eq_true_eq]at hs
  obtain⟨i,hi,_,e⟩:=LW (cs:=cs) nd hs
  unfold tw
  rw[if_pos hp,e,dH,w.pl nd,show(2*qY cs K i+1)/2=qY cs K i by lia]
  exact List.mem_map.mpr ⟨i,List.mem_range.mpr hi,rfl⟩
 have tp:∀{v:Int},Wb (oj cs K) v->ot (tw (oj cs K) v)=true->tw (oj cs K) v/2∈cs'.map Cl.p:=λ{v} hw hp=>by
  cases hv:ot v with
  |true=>
   obtain⟨z,e,_⟩:=hw.2 hv
   exact pl hv (by rw[e];rfl)
  |false=>
   unfold tw at hp
   rw[if_neg (by rw[hv];decide),hv]at hp;cases hp
 refine⟨⟨λc' hc=> ?_,λc' hc k hk=> ?_,λa ha b hb hab=> ?_,?_,s.ok⟩,by lia,oy,?_,?_,?_,λc' hc=> ?_,?_,λc' hc v hv hp=> ?_,?_,?_,λv hv hp=> ?_,?_,?_,?_⟩
 ·obtain⟨i,hi,_,e1,e2⟩:=w.of nd hc
  obtain⟨h1,h2,h3,h4⟩:=cel hi
  have e3:c'.w.length=(FI cs K[i]).length:=by rw[e2,aj]
  rw[e1,e3]
  refine⟨h4,by lia,h1,4*((FI cs K[i]).length:Int)+2,?_,by lia⟩
  rw[rg,(s.cell i hi).1,if_pos (by lia)]
  congr 1;lia
 ·obtain⟨i,hi,_,e1,e2⟩:=w.of nd hc
  rw[e2,aj]at hk
  rw[e1,(s.cell i hi).2 k hk,e2,az (l:=bX _ _),aS,az,au hk];rfl
 ·obtain⟨i,hi,_,e1,e2⟩:=w.of nd ha
  obtain⟨j,hj,_,f1,_⟩:=w.of nd hb
  rw[e1,f1]at hab
  rw[e1,f1,e2,aj]
  have ij:i<j:=Nat.lt_of_not_le λz=>by have:=wX (cs:=cs) (K:=K) z (by lia);lia
  have:=wX (cs:=cs) (K:=K) (i:=i+1) (j:=j) ij (by lia)
  have:=(cel hi).2.1
  lia
 ·rw[w.pl nd,List.Nodup,List.pairwise_map]
  refine(List.pairwise_lt_range (n:=K.length)).imp_of_mem λ{a b} ha hb hab z=> ?_
  have:=Gn (cs:=cs) (K:=K) hab (dU (List.mem_range.mp hb))
  lia
 ·rw[s.so];exact⟨so.1,so.2.1,zX (aI _)⟩
 ·rw[s.sy,s.ss];dsimp only;lia
 ·rw[s.so,s.sy];dsimp only;lia
 ·obtain⟨i,hi,_,e1,e2⟩:=w.of nd hc
  have:=wX (cs:=cs) (K:=K) (i:=i+1) (j:=K.length) hi (aI _)
  have:=(cel hi).2.1
  rw[s.so,e1,e2,aj];dsimp only;lia
 ·rw[w.len]
  have:=sG nd CF
  rw[aj]at this
  exact aH this g.nn
 ·obtain⟨i,hi,_,e1,e2⟩:=w.of nd hc
  rw[e2]at hv
  obtain⟨z,hz,rfl⟩:=List.mem_map.mp hv
  obtain⟨c,hcc,f1,f2,_⟩:=g.xX (CF _ (bq hi))
  rw[f2]at hz
  exact tp (g.wb hK (.inl ⟨c,hcc,by rw[f1];exact bq hi,hz⟩)) hp
 ·rw[s.hw];show(M.hw.map _).length<=6;rw[aj];exact g.hl
 ·rw[s.hw]
  intro v hv
  obtain⟨z,hz,rfl⟩:=List.mem_map.mp hv
  exact tw_ok (g.wb hK (.inr hz))
 ·rw[s.hw]at hv
  obtain⟨z,hz,rfl⟩:=List.mem_map.mp hv
  exact tp (g.wb hK (.inr hz)) hp
 ·rw[s.ks];exact⟨cN,λk hk=>by cases hk⟩
 ·rw[s.os];show(M.os.map _).length<=12;rw[aj];exact g.on
 ·rw[s.ts];show(M.ts.map _).length<=12;rw[aj];exact g.tn
end
theorem O8{f:Int->Int}{ws:List Int}{i:Nat}(h:i<ws.length):((ws.take i).map f++ws.drop i).set i (f ws[i])=(ws.take (i+1)).map f++ws.drop (i+1):=by
 have hl:((ws.take i).map f).length=i:=by rw[aj,bH];lia
 rw[List.set_append_right _ _ (by lia),hl,aF,List.drop_eq_getElem_cons h,aw,bC h,bo,c8];rfl
theorem OY{f g:Int->Int}:∀{S:List Int} {b:Int},(∀p∈S,f p=g p)->gl f S b=gl g S b
 | [],_,_=>rfl
 |p::r,b,h=>by rw[gl,gl,h p (a_ ..),OY λq hq=>h q (ba _ hq)]
theorem Ue{u:HO}(h:Bx u=false):(tg u=="b")=false:=by
 cases u with
 |ins _ _ _=>cases h
 |own _=>cases h
 |CB _=>cases h
 |_=>kernel_rfl
theorem Wx.CB{A:Ad}{H H':Hp}{x:Ax}{M:Ms}(w:Wx A H x M)(tb:DM H' lm A.jN)(f:∀b u,H b=some u->(tg u=="b")=false->(tg u=="f")=false->H' b=some u):Wx A H' x M where
 ar:={w.ar with
   ob:=let ⟨d,e⟩:=w.ar.ob;⟨d,f _ _ e (by kernel_rfl) (by kernel_rfl)⟩
   mem:=⟨let ⟨d,e⟩:=w.ar.mem.ob;⟨d,f _ _ e (by kernel_rfl) (by kernel_rfl)⟩,f _ _ w.ar.mem.ls (by kernel_rfl) (by kernel_rfl)⟩
   old:=let ⟨d,e⟩:=w.ar.old;⟨d,f _ _ e (by kernel_rfl) (by kernel_rfl)⟩
   Fg:=let ⟨d,e⟩:=w.ar.Fg;⟨d,f _ _ e (by kernel_rfl) (by kernel_rfl)⟩
   HH:=let ⟨d,e⟩:=w.ar.HH;⟨d,f _ _ e (by kernel_rfl) (by kernel_rfl)⟩}
 ro:=let ⟨d,e⟩:=w.ro;⟨d,f _ _ e (by kernel_rfl) (by kernel_rfl)⟩
 hd:=⟨let ⟨d,e⟩:=w.hd.ob;⟨d,f _ _ e (by kernel_rfl) (by kernel_rfl)⟩,f _ _ w.hd.ls (by kernel_rfl) (by kernel_rfl)⟩
 bk:=⟨let ⟨d,e⟩:=w.bk.ob;⟨d,f _ _ e (by kernel_rfl) (by kernel_rfl)⟩,f _ _ w.bk.dc (by kernel_rfl) (by kernel_rfl)⟩
 wk:=⟨let ⟨d,e⟩:=w.wk.ob;⟨d,f _ _ e (by kernel_rfl) (by kernel_rfl)⟩,f _ _ w.wk.ls (by kernel_rfl) (by kernel_rfl)⟩
 ls:=let ⟨es,l⟩:=w.ls;⟨es,⟨let ⟨d,e⟩:=l.ob;⟨d,f _ _ e (by kernel_rfl) (by kernel_rfl)⟩,f _ _ l.dc (by kernel_rfl) (by kernel_rfl),f _ _ l.sq (by kernel_rfl) (by kernel_rfl),l.xs,λe h=>f _ _ (l.tp e h) (by kernel_rfl) (by kernel_rfl),l.ln⟩⟩
 tb:=tb
 nd:=w.nd
theorem Wx.drop{A:Ad}{H:Hp}{x:Ax}{M:Ms}(w:Wx A H x M){c:Addr}{oz:Obj}{u:Value}(e:H c=some (L2.CG oz))(dz:oz.data= .cell (some u)):Wx A (qW H c) x M:=by
 refine w.CB ?_ λb u eb _ nf=>by rw[mQ (λz=>by rw[z,e]at eb;cases eb;have nf:(("f":Str)=="f")=false:=nf;rw[beq_self_eq_true]at nf;cases nf)];exact eb
 obtain⟨ps,h1,h2,h3⟩:=w.tb
 refine⟨ps,by rw[mQ (λz=>by rw[z,e]at h1;cases h1)];exact h1,h2,λcv z=> ?_⟩
 obtain⟨c',e1,oc,vs,t,q1,q2,q3⟩:=h3 cv z
 exact⟨c',e1,oc,vs,t,by rw[mQ (λz=>by rw[z,e]at q1;cases q1;rw[dz]at q2;cases q2)];exact q1,q2,q3⟩
section
variable{A:Ad}{H:Hp}{x:Ax}{M:Ms}{d:Addr}
theorem Wx.Za(w:Wx A H x M)(e:H x.o=some (.ins A.je d (uK M.so.b M.so.e M.so.t)))(z:Int):Wx A (upd H x.o (.ins A.je d (uK M.so.b M.so.e z))) x {M with so:=⟨M.so.b,M.so.e,z⟩}:=by
 have f:∀b u,H b=some u->b≠x.o->upd H x.o (.ins A.je d (uK M.so.b M.so.e z)) b=some u:=λb u e n=>pY e n
 refine w.L5 (w.ar.VI (z:=⟨M.so.b,M.so.e,z⟩) (w.ar.mem.keep λb u eb hb=>f _ _ eb ?_) ⟨d,iS⟩ λb u e _ n=>f _ _ e n) λb u eb _ ns=>f _ _ eb λz=>by rw[z,e]at eb;cases eb;cases ns
 rcases hb with rfl|rfl
 ·exact w.ar.md.1
 ·exact aC (w.ar.old.ne w.ar.mem.ls)
theorem Wx.Zc(w:Wx A H x M)(e:H x.y=some (.ins A.je d (uK M.sy.b M.sy.e M.sy.t)))(z:Int):Wx A (upd H x.y (.ins A.je d (uK M.sy.b M.sy.e z))) x {M with sy:=⟨M.sy.b,M.sy.e,z⟩}:=by
 have f:∀b u,H b=some u->b≠x.y->upd H x.y (.ins A.je d (uK M.sy.b M.sy.e z)) b=some u:=λb u e n=>pY e n
 refine w.L5 (w.ar.X6 (z:=⟨M.sy.b,M.sy.e,z⟩) (w.ar.mem.keep λb u eb hb=>f _ _ eb ?_) ⟨d,iS⟩ λb u e _ n=>f _ _ e n) λb u eb _ ns=>f _ _ eb λz=>by rw[z,e]at eb;cases eb;cases ns
 rcases hb with rfl|rfl
 ·exact w.ar.md.2.1
 ·exact aC (w.ar.Fg.ne w.ar.mem.ls)
theorem Wx.Zb(w:Wx A H x M)(e:H x.s=some (.ins A.je d (uK M.ss.b M.ss.e M.ss.t)))(z:Int):Wx A (upd H x.s (.ins A.je d (uK M.ss.b M.ss.e z))) x {M with ss:=⟨M.ss.b,M.ss.e,z⟩}:=by
 have f:∀b u,H b=some u->b≠x.s->upd H x.s (.ins A.je d (uK M.ss.b M.ss.e z)) b=some u:=λb u e n=>pY e n
 exact w.L5 (w.ar.Ze (z:=⟨M.ss.b,M.ss.e,z⟩) ⟨d,iS⟩ λb u e n=>f _ _ e n) λb u eb _ ns=>f _ _ eb λz=>by rw[z,e]at eb;cases eb;cases ns
end
structure Sd(cs:List Cl)(K ws0:List Int)(i:Nat)(ws:List Int):Prop where
 len:ws.length=ws0.length
 ok:jJ ws
 done:∀(j:Nat) (h:j<K.length),j<i->ws.getD (qY cs K j).toNat 0=8*((FI cs K[j]).length:Int)+4/\∀k,k<(FI cs K[j]).length->ws.getD ((qY cs K j).toNat+1+k) 0=tw (oj cs K) ((FI cs K[j]).getD k 0)
 rest:∀a:Nat,(∀(j:Nat) (h:j<K.length),j<i->K[j]+xX cs K[j]<=a)->ws.getD a 0=ws0.getD a 0
section
variable{o y:Int}{n:Nat}{cs:List Cl}{M:Ms}{K:List Int}
theorem Sd.step(g:Gv o y n cs M)(hK:Fi (EY cs) (oI M.hw) K){i:Nat}(hi:i<K.length){ws ws1:List Int}(s:Sd cs K M.ws i ws)(r:Yl (oj cs K) ws K[i].toNat (FI cs K[i]).length ws1):
  Sd cs K M.ws (i+1) (cp ws1 ((ws1.drop K[i].toNat).take ((FI cs K[i]).length+1)) (qY cs K i).toNat ((FI cs K[i]).length+1)):=by
 obtain⟨CF,tot⟩:=g.CF hK
 have oy:=g.oy
 have wl:=g.wl
 obtain⟨c,hc,e1,e2,e3,e4⟩:=g.xX (CF _ (bq hi))
 obtain⟨c0,c1,_⟩:=g.mr.cl c hc
 have sep:=g.sep CF hK.lt
 have h1:=vI (cs:=cs) hi
 have h2:=wX (cs:=cs) (K:=K) (i:=i+1) (j:=K.length) hi (aI _)
 have h3:=zX (cs:=cs) (K:=K) (i:=i) (by lia)
 have gk:qY cs K i<=K[i]:=by
  have:=Pk (f:=xX cs) (S:=K) (g:=0) (λx hx=>(g.places (CF x hx)).1) sep (λx _=>by have:=Pr (cs:=cs) x;lia) hi
  unfold qY;lia
 have rl:=r.len
 have sl:=s.len
 rw[e2]at r⊢
 rw[e3]at h1
 have kl:((ws1.drop K[i].toNat).take (c.w.length+1)).length=c.w.length+1:=by rw[bH,dY];lia
 have gd:∀k,k<c.w.length+1->((ws1.drop K[i].toNat).take (c.w.length+1)).getD k 0=ws1.getD (K[i].toNat+k) 0:=λk hk=>by
  rw[az,cZ hk,g_,←az]
 have inn:∀k,k<c.w.length+1->(cp ws1 ((ws1.drop K[i].toNat).take (c.w.length+1)) (qY cs K i).toNat (c.w.length+1)).getD ((qY cs K i).toNat+k) 0=ws1.getD (K[i].toNat+k) 0:=λk hk=>by
  rw[Uu _ (by lia) (by lia) (by lia),show(qY cs K i).toNat+k-(qY cs K i).toNat=k by lia,gd k hk]
 refine⟨by rw[Kk];lia,Uv r.ok (λz hz=>r.ok z (gG (gH hz))) _,λj hj hji=> ?_,λa ha=> ?_⟩
 ·by_cases z:j=i
  ·subst z
   rw[e2]
   refine⟨by have:=inn 0 (by lia);simp only[fU]at this;rw[this,r.hd],λk hk=> ?_⟩
   have:=inn (1+k) (by lia)
   rw[←Nat.add_assoc,←Nat.add_assoc]at this
   rw[this,r.sl k hk,s.rest _ (λm hm hmj=> ?_),show K[j].toNat=c.p.toNat by rw[e1],g.mr.wd c hc k hk]
   have:=List.pairwise_iff_getElem.mp sep m j hm hj hmj
   lia
  ·have jl:qY cs K (j+1)<=qY cs K i:=wX (by lia) (by lia)
   have jn:=vI (cs:=cs) hj
   obtain⟨d,_,_,d2,d3,_⟩:=g.xX (CF _ (bq hj))
   have j0:=zX (cs:=cs) (K:=K) (i:=j) (by lia)
   rw[d3,←d2]at jn
   obtain⟨q1,q2⟩:=s.done j hj (by lia)
   refine⟨?_,λk hk=> ?_⟩
   ·rw[Kl _ (by lia),r.out _ (by lia)];exact q1
   ·rw[Kl _ (by lia),r.out _ (by lia)];exact q2 k hk
 ·have q:=ha i hi (by lia)
  rw[e3]at q
  rw[Kl _ (by lia),r.out _ (by lia)]
  exact s.rest a λj hj hji=>ha j hj (by lia)
end
noncomputable def Ho (A:Ad):Sp:=λvs H Q _=>Y6 λ(x:Ax) (cs:List Cl) (M:Ms) (o y:Int) (n:Nat)=>C5 (vs=[.ref x.p,.ref x.r]) (Wx A H x M) (Gv o y n cs M) (n<=12) (∀K d M' H',Fi (EY cs) (oI M.hw) K->Sl cs M K M'->Wx A H' {x with d:=d} M'->uy (mx x) H H' (mx {x with d:=d})->Q (.int (qY cs K K.length)) H')
theorem mV:i7 ["areas","roots","memory","kept","where","hand","word","at"] ["areas","roots"] (iX rj):=fsc
theorem G3(T:Txt K mg A):jA P w K mg base (lG P w) true 13 A.nV A.mz ["areas","roots"] (Ho A):=by
 refine T.zP.YS mV (λvs H Q E h=> ?_) (λcdv A' outer s H vs Q E hcd hr hx h=> ?_)
 ·obtain⟨_,_,_,_,_,_,rfl,_⟩:=h
  rfl
 ·obtain⟨x,cs,M,o,y,n,rfl,wx,gv,n12,h⟩:=h
  refine⟨_,mL.run (iP (ji (i:=2) mV.nd rfl lo (i8 (iQ 0) rfl))
   (iP (ji (i:=3) mV.nd rfl lo (jy Cf (by rfl) T.vP PyProof.Rows.Boot.«sorted» (iN (iV (Oi T).mono hr rfl T.D1 T.Gg.kp T.PB hx (iN (iQ 2) (iN (kr (iQ 1) T.jR T.GI (E8 T).mono hr T.FL hx) iO))) iO)))
   (iP (ji (i:=4) mV.nd rfl lo (iV (RB T).mono hr rfl T.KI T.Mu.kp T.SK hx (iN (iQ 0) (iN (iQ 3) iO))))
   (iP (k7 hx.own rfl (JD rfl T.wF (iN (kr (i8 (iQ 1) rfl) T.qa T.Aa (yF T).mono hr T.zB hx) iO)) (GC (n:=2) (by rfl) (rS (jO (i:=5) mV.nd rfl lo) (rS (jO (i:=6) mV.nd rfl lo) D3)))
    (iR (i6 (jr (i8 (iQ 1) rfl) T.qa T.z_ (yE T).mono hr T.zA hx (iN (iQ 5) (iN (iV (Ai T).mono hr rfl T.uF T.vD.kp T.Bu hx (iN (iQ 4) (iN (iQ 6) iO))) iO))))))
   (iP (i6 (N8 (L:=lm) (i:=4) (iQ 1) T.jR T.GH (E7 T).mono hr T.FK (hcd.symm.trans T.vN) T.vJ rfl rfl rfl rfl (λ_=>rfl) (by decide+kernel) rfl))
   (iP (i6 (kr (i8 (iQ 1) rfl) T.sO T.K3 (Iw T).mono hr T.J0 hx))
   (iP (i6 (kr (i8 (iQ 0) rfl) T.kE T.wZ (vQ T).mono hr T.wK hx))
   (iP (i6 (kr (i8 (iQ 0) rfl) T.kE T.wZ (vQ T).mono hr T.wK hx))
   (iP (i6 (kr (i8 (iQ 0) rfl) T.kE T.wZ (vQ T).mono hr T.wK hx))
   (iP (k7 hx.own rfl (kx (iQ 3)) (jO (i:=7) mV.nd rfl lo)
    (iP (i6 (iV (RC T).mono hr rfl T.KJ T.Mw.kp T.SM hx (iN (iQ 2) (iN (iQ 4) (iN (iQ 7) iO)))))
   (iR (i6 (iV (RD T).mono hr rfl T.KL T.Mx.kp T.SO hx (iN (iQ 0) (iN (iQ 7) (iN (jk (by exact jw hr) (iQ 4) (iQ 7) (λ_ _=>rfl)) iO))))))))
   (iR (jf (kr (i8 (iQ 0) rfl) T.kE T.ve (uJ T).mono hr T.u_ hx))))))))))))),?_⟩
  have cl:cs.length<=12:=aH gv.nn n12
  have oy:=gv.oy
  have wl:=gv.wl
  have so:=gv.so
  obtain⟨dp,ep⟩:=wx.ar.ob
  obtain⟨dr,er⟩:=wx.ro
  show jM _ _ _ [some (Z9 x.p),some (Z9 x.r),none,none,none,none,none,none] H
  refine i4 (λσ' H'=>σ'=[some (Z9 x.p),some (Z9 x.r),some (Z9 x.m),none,none,none,none,none]/\H=H') (λR hR=> ?_) ?_
  ·simp only[i3,jX,jq,jb,↓jj,aa,aw,ax,and_true,true_and,jU,oq,ep,T.jF,T.jP,Bp]
   exact hR _ _ ⟨rfl,rfl⟩
  rintro _ _ ⟨rfl,rfl⟩
  refine i4 (λσ' H'=>Y2 λk J=>C5 (σ'=[some (Z9 x.p),some (Z9 x.r),some (Z9 x.m),some (Z9 k),none,none,none,none]) (H k=none) (ja H H') (H' k=some (.lst (J.map Z_))) (Fi (EY cs) (oI M.hw) J)) (λR hR=> ?_) ?_
  ·simp only[Bg,iZ,jd,i3,jX,jq,i9,↓jg,A3,aa,ae,aw,ax,V.ref.injEq,ag,and_true,true_and,exists_eq_left',exists_and_left,ql,er,MY,zk]
   refine⟨x.h,x.g,x.b,x.d,M.hw,M.ks,⟨⟨dr,x.w,x.l,er⟩,wx.hd,wx.bk⟩,gv.ho,gv.hl,λf H1 hf s1 ef=> ?_⟩
   unfold Hr
   refine⟨x.m,x.q,f,M.ws,Yg M.hw,cs.map Cl.p,EY cs,rfl,wx.ar.mem.same s1,gv.mr.ok,by lia,ef,?_,by rw[aj];exact cl,λp hp=> ?_,gv.reach,λl H2 res hl s2 hr' el=> ?_⟩
   ·rw[Yg,aj];exact aH (cI _ _) (by have:=gv.hl;lia)
   ·obtain⟨v,hv,hvp,rfl⟩:=uW.mp (show p∈oI M.hw from hp)
    exact gv.hp v hv hvp
   dsimp only
   rw[el]
   dsimp only
   rw[A_]
   dsimp only
   have ik:Fi (EY cs) (oI M.hw) (oH res):=Reach.YE hr'
   have rl:res.length<=12:=by
    have:=sG ik.nd λp hp=>gv.rc (ik.mem.mp hp)
    rw[(ui res).length_eq,aj]at this;lia
   exact⟨by lia,λk hk=>hR _ _ ⟨k,_,rfl,(s1.trans s2).free hk,(s1.trans s2).trans (ja.upd hk),iS,ik⟩⟩
  rintro _ H1 ⟨k,J,rfl,hk,s1,ek,hK⟩
  obtain⟨CF,tot⟩:=gv.CF hK
  have ndJ:=hK.nd
  have Jl:J.length<=12:=by have:=sG ndJ CF;rw[aj]at this;lia
  have w1:=wx.same s1
  refine i4 (λσ' H'=>∃d,C4 (σ'=[some (Z9 x.p),some (Z9 x.r),some (Z9 x.m),some (Z9 k),some (Z9 d),none,none,none]) (H1 d=none) (ja H1 H') (H' d=some (.dK (dk (oj cs J))))) (λR hR=> ?_) ?_
  ·simp only[iZ,jd,i3,jX,jq,i9,and_assoc,aa,ae,aw,ax,V.ref.injEq,ag,and_true,exists_eq_left',exists_and_left,Nf]
   refine⟨_,_,_,_,_,_,_,_,_,w1.ar,J,ek,by lia,ndJ,gv.mr.ok,λp hp=> ?_,λd H2 hd s2 ed=> ?_⟩
   ·obtain⟨c,hc,rfl⟩:=List.mem_map.mp (CF p hp)
    obtain⟨q0,q1,_,n',q3,_⟩:=gv.mr.cl c hc
    exact⟨q0,by lia,by rw[q3];rfl⟩
   ·refine hR _ _ ⟨d,rfl,hd,s2,?_⟩
    rw[ed,so.1,←xK (gw J) (hK.lt.imp λz=>Int.le_of_lt z),oj,OY λp hp=> ?_]
    obtain⟨c,hc,e1,e2,e3,_⟩:=gv.xX (CF p hp)
    obtain⟨_,_,_,n',q3,q4⟩:=gv.mr.cl c hc
    rw[e3,Su,←e1,q3]
    show n'/4+1=_;lia
  rintro _ H2 ⟨wd,rfl,hwd,s2,ew⟩
  have s12:=s1.trans s2
  have w2:=wx.same s12
  have ek2:=s2 _ _ ek
  have hwd0:=s1.free hwd
  have nkw:k≠wd:=iT ek hwd
  have xk:k∉mx x:=nO wx.Bm hk
  have xw:wd∉mx x:=nO wx.Bm hwd0
  refine i4 (λσ' H'=>Y2 λa5 a6=>C3 (σ'=[some (Z9 x.p),some (Z9 x.r),some (Z9 x.m),some (Z9 k),some (Z9 wd),a5,a6,none]) (Wx A H' x {M with hw:=M.hw.map (tw (oj cs J))}) (∀b u,H2 b=some u->b≠x.g->H' b=some u)) (λR hR=> ?_) ?_
  ·obtain⟨dr2,er2⟩:=w2.ro
   obtain⟨dh,eh⟩:=w2.hd.ob
   simp only[iZ,jd,i3,jb,lT,↓jj,↓jg,OZ,aa,ae,V.ref.injEq,ag,and_true,true_and,exists_eq_left',exists_and_left,jU,oq,ql,er2,T.jR,T.lD,Eb,eh,KP,vk]
   refine⟨x.g,M.hw,w2.hd,λr hr'=>⟨⟨_,mj.of iS⟩,?_⟩⟩
   have s3:=ja.upd (o:= .lst (M.hw.map Z_)) hr'
   have er3:upd H2 r (.lst (M.hw.map Z_)) r=some (.lst (M.hw.map Z_)):=iS
   generalize upd H2 r (.lst (M.hw.map Z_))=H3 at*
   have xr:x.g≠r:=iT w2.hd.ls hr'
   have xwg:wd≠x.g:=λz=>xw (by rw[z];simp[mx])
   refine lA.enum (xs:=M.hw.map Z_) (λi σ H'=>Y2 λa5 a6=>C3 (σ=[some (Z9 x.p),some (Z9 x.r),some (Z9 x.m),some (Z9 k),some (Z9 wd),a5,a6,none]) (Wx A H' x {M with hw:=(M.hw.take i).map (tw (oj cs J))++M.hw.drop i}) (∀b u,H3 b=some u->b≠x.g->H' b=some u))
    ⟨none,none,rfl,by rw[fA,List.drop_zero];exact w2.same s3,λb u e _=>e⟩ (λi σ H' _ hz=>by obtain⟨_,_,_,_,f⟩:=hz;exact mj.of (f _ _ er3 (aC xr))) ?_ ?_
   ·rintro i v σ H4 p hv ⟨a5,a6,rfl,w4,f4⟩ hp R2 hR2
    have hi:i<M.hw.length:=by have:=(List.getElem?_eq_some_iff.mp hv).1;rw[aj]at this;exact this
    rw[aS,au hi]at hv
    cases hv
    have s5:=ja.upd (o:= .tup [Z_ i,Z_ M.hw[i]]) hp
    have e5:upd H4 p (.tup [Z_ i,Z_ M.hw[i]]) p=some (.tup [Z_ i,Z_ M.hw[i]]):=iS
    generalize upd H4 p (.tup [Z_ i,Z_ M.hw[i]])=H5 at*
    have w5:=w4.same s5
    obtain⟨dr5,er5⟩:=w5.ro
    obtain⟨dh5,eh5⟩:=w5.hd.ob
    have ew5:=s5 _ _ (f4 _ _ (s3 _ _ ew) xwg)
    have wb:=gv.wb hK (.inr (bq hi))
    obtain⟨z,ez⟩:=Option.isSome_iff_exists.mp (tw_ok wb)
    refine⟨p,_,rfl,JV.of e5,rfl,_,_,rfl,_,_,rfl,rfl,?_⟩
    simp only[jB,iZ,jd,i3,i9,and_assoc,↓jj,↓jg,aa,ae,aw,ax,V.int.injEq,V.ref.injEq,ag,and_true,true_and,exists_eq_left',exists_and_left,jU,oq,ql,er5,T.jR,T.lD,Eb,eh5,KO,v8,vj]
    have hl5:((M.hw.take i).map (tw (oj cs J))++M.hw.drop i).length=M.hw.length:=by rw[aY,aj,bH,dY];lia
    refine⟨_,ew5,wb,x.g,_,w5.hd,aD,aD,?_⟩
    rw[if_pos (DI (by lia) (by rw[hl5];lia)),ez]
    dsimp only
    rw[show(iv (Z_ i)).toNat=i from bU i,show iv (Z_ (tw (oj cs J) M.hw[i]))=tw (oj cs J) M.hw[i] from rfl,O8 hi]
    refine hR2 _ _ ⟨_,_,rfl,?_,λb u e nb=>by rw[iW nb];exact s5 _ _ (f4 _ _ e nb)⟩
    exact w5.hand (by have:=w5.hd.put i (tw (oj cs J) M.hw[i]);rw[O8 hi]at this;exact this) λb u e nb=>pY e nb
   ·rintro σ H4 ⟨a5,a6,rfl,w4,f4⟩
    rw[aj,bF,List.drop_length,ay]at w4
    exact hR _ _ ⟨_,_,rfl,w4,λb u e nb=>f4 _ _ (s3 _ _ e) nb⟩
  rintro _ H3 ⟨a5,a6,rfl,w3,f3⟩
  have ew3:=f3 _ _ ew (λz=>xw (by rw[z];simp[mx]))
  have ek3:=f3 _ _ ek2 (λz=>xk (by rw[z];simp[mx]))
  obtain⟨es3,l3⟩:=w3.ls
  refine i4 (λσ' H'=>C5 (σ'=[some (Z9 x.p),some (Z9 x.r),some (Z9 x.m),some (Z9 k),some (Z9 wd),a5,a6,none]) (Wx A H' x (Mv cs J M)) (H' wd=some (.dK (dk (oj cs J)))) (H' k=some (.lst (J.map Z_))) (Kp (mx x) H3 H')) (λR hR=> ?_) ?_
  ·obtain⟨dr3,er3⟩:=w3.ro
   have np:∀b,b=A.jN->(∃ps,H3 b=some (.CB ps)):=λb e=>by obtain⟨ps,q,_⟩:=w3.tb;exact⟨ps,by rw[e];exact q⟩
   refine⟨x.r,dr3,_,.ref wd,rfl,er3,by kernel_rfl,rfl,w3.tb,λH4 lf c f4 tb4 hlf hcc clo=> ?_⟩
   have g4:∀{b u},H3 b=some u->(tg u=="b")=false->H4 b=some u:=λ{b u} e nt=>f4 b u (λz=>by obtain⟨ps,q⟩:=np b z;rw[q]at e;cases e;have nt:(("b":Str)=="b")=false:=nt;rw[beq_self_eq_true]at nt;cases nt) e
   have w4:=w3.CB tb4 λb u e n1 _=>g4 e n1
   obtain⟨es4,l4⟩:=w4.ls
   have ew4:=g4 ew3 (by kernel_rfl)
   have ne:=Ac w4.nd
   have nwe:wd≠x.e:=λz=>xw (by rw[z];simp[mx])
   have ncv:∀{b u},H3 b=some u->b≠c:=λ{b u} e z=>by rw[z,hcc]at e;cases e
   unfold zj
   refine⟨x.r,lf,c,x.h,x.b,x.w,x.v,x.l,x.e,x.u,wd,oj cs J,M.os,M.ts,M.sd,es4,rfl,w4.ro,w4.wk,l4,ne.2.2.1,clo,ew4,nwe,by have:=gv.on;lia,by have:=gv.tn;lia,λp g e=> ?_,λH5 es5 k5 l5 f5=> ?_⟩
   ·by_cases z:p∈J
    ·obtain⟨i,hi,_,e2⟩:=LW (cs:=cs) ndJ z
     rw[e2]at e
     cases e
     have h1:=zX (cs:=cs) (K:=J) (i:=i) (by lia)
     have h2:=wX (cs:=cs) (K:=J) (i:=i) (j:=J.length) (by lia) (aI _)
     exact⟨h1,by lia⟩
    ·rw[Sr z]at e;cases e
   ·have w5:=w4.tick k5 l5 f5
    obtain⟨_,_,oz,uz,_,_,ez,dz,_⟩:=clo
    have ez5:=f5 _ _ ez (jL ez w4.wk.ls) (jL ez l4.dc) (jL ez l4.sq)
    have nmx:∀{b},b∉mx x->b≠x.v/\b≠x.e/\b≠x.u:=λ{b} n=>⟨λz=>n (by rw[z];simp[mx]),λz=>n (by rw[z];simp[mx]),λz=>n (by rw[z];simp[mx])⟩
    have F5:∀b u,H3 b=some u->Bx u=false->b∉mx x->qW H5 c b=some u:=λb u e i n=>by
     rw[mQ (ncv e)]
     exact f5 _ _ (g4 e (Ue i)) (nmx n).1 (nmx n).2.1 (nmx n).2.2
    exact hR _ _ ⟨rfl,w5.drop ez5 dz,F5 _ _ ew3 rfl xw,F5 _ _ ek3 rfl xk,F5⟩
  rintro _ H4 ⟨rfl,w4,ew4,ek4,k4⟩
  have k04:Kp (mx x) H H4:=λb u e i n=>k4 _ _ (f3 _ _ (s12 _ _ e) (λz=>n (by rw[z];simp[mx]))) i n
  refine i4 (λσ' H'=>∃d',C6 (σ'=[some (Z9 x.p),some (Z9 x.r),some (Z9 x.m),some (Z9 k),some (Z9 wd),a5,a6,none]) (Wx A H' {x with d:=d'} {Mv cs J M with ks:=[]}) (H' wd=some (.dK (dk (oj cs J)))) (H' k=some (.lst (J.map Z_))) (Kp (mx x) H H') (H4 d'=none)) (λR hR=> ?_) ?_
  ·obtain⟨dr4,er4⟩:=w4.ro
   obtain⟨db4,eb4⟩:=w4.bk.ob
   simp only[jB,jd,i3,jb,↓jj,↓jg,aa,ae,V.ref.injEq,ag,and_true,true_and,exists_eq_left',exists_and_left,jU,oq,ql,er4,T.jR,T.oa,Lp,eb4,PC,BI]
   refine⟨x.d,_,w4.bk,λd' H5 hd' b5 f5=> ?_⟩
   have nd':d'∉mx x:=nO w4.Bm hd'
   have g5:∀b u,H4 b=some u->Bx u=false->H5 b=some u:=λb u e i=>f5 _ _ e (λz=>by rw[z,eb4]at e;cases e;cases i)
   refine hR _ _ ⟨d',rfl,w4.book b5 ?_ λb u e n _=>f5 b u e n,g5 _ _ ew4 rfl,g5 _ _ ek4 rfl,λb u e i n=>g5 _ _ (k04 _ _ e i n) i,hd'⟩
   have nn:=w4.nd
   simp only[mx,bP,br,not_or,bI,not_false_eq_true,cN,and_true]at nn nd'⊢
   exact⟨⟨nn.1.1,nn.1.2.1,nn.1.2.2.1,aC nd'.1,nn.1.2.2.2.2⟩,⟨nn.2.1.1,nn.2.1.2.1,aC nd'.2.1,nn.2.1.2.2.2⟩,⟨nn.2.2.1.1,aC nd'.2.2.1,nn.2.2.1.2.2⟩,⟨aC nd'.2.2.2.1,nn.2.2.2.1.2⟩,nd'.2.2.2.2.2⟩
  rintro _ H5 ⟨d',rfl,w5,ew5,ek5,k5,hd'⟩
  have kins:∀{G:Hp} {a:Addr} {c1 d1:Addr} {f1 f2:List (Str×V)},G a=some (.ins c1 d1 f1)->∀b u,G b=some u->Bx u=false->upd G a (.ins c1 d1 f2) b=some u:=λ{G a c1 d1 f1 f2} ea b u e i=>by rw[iW (λz=>by rw[z,ea]at e;cases e;cases i)];exact e
  refine i4 (λσ' H'=>σ'=[some (Z9 x.p),some (Z9 x.r),some (Z9 x.m),some (Z9 k),some (Z9 wd),a5,a6,none]/\Wx A H' {x with d:=d'} {Mv cs J M with ks:=[],so:=⟨M.so.b,M.so.e,M.so.b⟩}/\∀b u,H5 b=some u->Bx u=false->H' b=some u) (λR hR=> ?_) ?_
  ·obtain⟨dp5,ep5⟩:=w5.ar.ob
   obtain⟨d1,eo⟩:=w5.ar.old
   simp only[jB,jd,i3,jb,↓jj,↓jg,aa,V.ref.injEq,ag,bh,and_true,true_and,exists_eq_left',exists_and_left,jU,oq,ql,ep5,T.jF,T.kK,Bq,eo,Ej,tG]
   exact⟨d1,_,_,_,rfl,hR _ _ ⟨rfl,w5.Za eo _,kins eo⟩⟩
  rintro _ H6 ⟨rfl,w6,f6⟩
  refine i4 (λσ' H'=>σ'=[some (Z9 x.p),some (Z9 x.r),some (Z9 x.m),some (Z9 k),some (Z9 wd),a5,a6,none]/\Wx A H' {x with d:=d'} {Mv cs J M with ks:=[],so:=⟨M.so.b,M.so.e,M.so.b⟩,sy:=⟨M.sy.b,M.sy.e,M.sy.b⟩}/\∀b u,H6 b=some u->Bx u=false->H' b=some u) (λR hR=> ?_) ?_
  ·obtain⟨dp5,ep5⟩:=w6.ar.ob
   obtain⟨d1,eo⟩:=w6.ar.Fg
   simp only[jB,jd,i3,jb,↓jj,↓jg,aa,V.ref.injEq,ag,bh,and_true,true_and,exists_eq_left',exists_and_left,jU,oq,ql,ep5,T.jF,T.lX,L4,eo,Ej,tG]
   exact⟨d1,_,_,_,rfl,hR _ _ ⟨rfl,w6.Zc eo _,kins eo⟩⟩
  rintro _ H7 ⟨rfl,w7,f7⟩
  refine i4 (λσ' H'=>σ'=[some (Z9 x.p),some (Z9 x.r),some (Z9 x.m),some (Z9 k),some (Z9 wd),a5,a6,none]/\Wx A H' {x with d:=d'} {Mv cs J M with ks:=[],so:=⟨M.so.b,M.so.e,M.so.b⟩,sy:=⟨M.sy.b,M.sy.e,M.sy.b⟩,ss:=⟨M.ss.b,M.ss.e,M.ss.b⟩}/\∀b u,H7 b=some u->Bx u=false->H' b=some u) (λR hR=> ?_) ?_
  ·obtain⟨dp5,ep5⟩:=w7.ar.ob
   obtain⟨d1,eo⟩:=w7.ar.HH
   simp only[jB,jd,i3,jb,↓jj,↓jg,aa,V.ref.injEq,ag,bh,and_true,true_and,exists_eq_left',exists_and_left,jU,oq,ql,ep5,T.jF,T.oJ,QD,eo,Ej,tG]
   exact⟨d1,_,_,_,rfl,hR _ _ ⟨rfl,w7.Zb eo _,kins eo⟩⟩
  rintro _ H8 ⟨rfl,w8,f8⟩
  have F8:∀b u,H5 b=some u->Bx u=false->H8 b=some u:=λb u e i=>f8 _ _ (f7 _ _ (f6 _ _ e i) i) i
  have ew8:=F8 _ _ ew5 rfl
  have ek8:=F8 _ _ ek5 rfl
  have kq:k≠x.q:=λz=>xk (by rw[z];simp[mx])
  have wq:wd≠x.q:=λz=>xw (by rw[z];simp[mx])
  refine i4 (λσ' H'=>Y2 λa7 ws=>C4 (σ'=[some (Z9 x.p),some (Z9 x.r),some (Z9 x.m),some (Z9 k),some (Z9 wd),a5,a6,a7]) (Wx A H' {x with d:=d'} {Mv cs J M with ks:=[],ws:=ws,so:=⟨M.so.b,M.so.e,qY cs J J.length⟩,sy:=⟨M.sy.b,M.sy.e,M.sy.b⟩,ss:=⟨M.ss.b,M.ss.e,M.ss.b⟩}) (Sd cs J M.ws J.length ws) (∀b u,H8 b=some u->Bx u=false->b≠x.q->H' b=some u)) (λR hR=> ?_) ?_
  ·simp only[i3,jb,lT,qj,aa,ae,V.ref.injEq,exists_eq_left']
   refine⟨⟨_,mj.of ek8⟩,lA.GG (xs:=J.map Z_) (λi σ H'=>Y2 λa7 ws=>C4 (σ=[some (Z9 x.p),some (Z9 x.r),some (Z9 x.m),some (Z9 k),some (Z9 wd),a5,a6,a7]) (Wx A H' {x with d:=d'} {Mv cs J M with ks:=[],ws:=ws,so:=⟨M.so.b,M.so.e,qY cs J i⟩,sy:=⟨M.sy.b,M.sy.e,M.sy.b⟩,ss:=⟨M.ss.b,M.ss.e,M.ss.b⟩}) (Sd cs J M.ws i ws) (∀b u,H8 b=some u->Bx u=false->b≠x.q->H' b=some u))
    ⟨none,M.ws,rfl,by rw[Uy];rw[so.1]at w8⊢;exact w8,⟨rfl,gv.mr.ok,λj _ z=>by lia,λa _=>rfl⟩,λb u e _ _=>e⟩ (λi σ H' _ hz=>by obtain⟨_,_,_,_,_,f⟩:=hz;exact mj.of (f _ _ ek8 rfl kq)) ?_ ?_⟩
   ·rintro i v σ H9 hv ⟨a7,ws,rfl,w9,sd,f9⟩ R2 hR2
    have hi:i<J.length:=by have:=(List.getElem?_eq_some_iff.mp hv).1;rw[aj]at this;exact this
    rw[aS,au hi]at hv
    cases hv
    obtain⟨c,hc,e1,e2,e3,e4⟩:=gv.xX (CF _ (bq hi))
    obtain⟨c0,c1,_,n',q3,q4⟩:=gv.mr.cl c hc
    have sep:=gv.sep CF hK.lt
    have rst:∀k',k'<=c.w.length->ws.getD (J[i].toNat+k') 0=M.ws.getD (J[i].toNat+k') 0:=λk' hk'=>sd.rest _ λm hm hmj=>by
     have:=List.pairwise_iff_getElem.mp sep m i hm hi hmj
     lia
    have ew9:=f9 _ _ ew8 rfl wq
    have h1:=vI (cs:=cs) hi
    have h2:=wX (cs:=cs) (K:=J) (i:=i+1) (j:=J.length) hi (aI _)
    have h3:=zX (cs:=cs) (K:=J) (i:=i) (by lia)
    have sl:=sd.len
    show jM _ _ _ [some (Z9 x.p),some (Z9 x.r),some (Z9 x.m),some (Z9 k),some (Z9 wd),a5,a6,some (Z_ J[i])] H9
    refine i4 (λσ' H'=>∃ws1,C4 (σ'=[some (Z9 x.p),some (Z9 x.r),some (Z9 x.m),some (Z9 k),some (Z9 wd),a5,a6,some (Z_ J[i])]) (kz A.i_ H' x.m x.q ws1) (Yl (oj cs J) ws J[i].toNat (FI cs J[i]).length ws1) (∀b u,H9 b=some u->b≠x.q->H' b=some u)) (λR3 hR3=> ?_) ?_
    ·simp only[jB,iZ,jd,i3,i9,aa,ae]
     unfold Ng
     refine⟨x.m,x.q,wd,ws,oj cs J,J[i].toNat,(FI cs J[i]).length,by rw[cP (by lia)],w9.ar.mem,sd.ok,by lia,ew9,by rw[e2];exact e4,by rw[e2];lia,⟨n',?_,by rw[e2];exact q4⟩,λk' hk'=> ?_,λH10 ws1 m10 rn f10=>hR3 _ _ ⟨ws1,rfl,m10,rn,f10⟩⟩
     ·have:=rst 0 (cD _)
      rw[fU]at this
      rw[wg sl this,←e1];exact q3
     ·rw[e2]at hk'
      rw[show J[i].toNat+1+k'=J[i].toNat+(1+k') by lia,rst (1+k') (by lia),←e1,show c.p.toNat+(1+k')=c.p.toNat+1+k' by lia,gv.mr.wd c hc k' hk']
      refine gv.wb hK (.inl ⟨c,hc,by rw[e1];exact bq hi,?_⟩)
      rw[az,au hk'];exact bq hk'
    rintro _ H10 ⟨ws1,rfl,m10,rn,f10⟩
    have st:=sd.step gv hK hi rn
    have a10:=w9.ar.Vx (ws':=ws1) rn.len m10.ls λb u e ⟨_,_,_,z⟩=>f10 b u e (λy=>by rw[y,w9.ar.mem.ls]at e;cases e;cases z)
    have w10:=w9.L5 a10 λb u e n _=>f10 b u e n
    simp only[jB,iZ,jd,i3,i9,kL,kJ,aa,ae,f10 _ _ ew9 wq,wL,CC ndJ hi]
    dsimp only[bG]
    rw[e2]at rn st
    have rl:=rn.len
    unfold Nh
    refine⟨x.p,x.m,x.q,x.o,x.y,x.s,ws1,_,_,_,J[i],(c.w.length:Int),qY cs J i,rfl,a10,rn.ok,by lia,by lia,by lia,by lia,by lia,⟨4*(c.w.length:Int)+2,?_,by lia⟩,h3,by lia,?_,λH11 a11 f11=> ?_⟩
    ·rw[rg,rn.hd,if_pos (by lia)]
     congr 1;lia
    ·show(c.w.length:Int)+1<=M.so.e-qY cs J i
     lia
    rw[show((c.w.length:Int)+1).toNat=c.w.length+1 by lia]at a11
    obtain⟨d1,eo⟩:=w10.ar.old
    have g11:∀b u,H10 b=some u->b≠x.q->Yh u=false->H11 b=some u:=λb u e nq ns=>f11 b u e nq (λz=>by rw[z,eo]at e;cases e;cases ns)
    have w11:=w10.L5 a11 g11
    refine hR2 _ _ ⟨_,_,rfl,?_,st,λb u e i n=>g11 _ _ (f10 _ _ (f9 _ _ e i n) n) n (Ph i)⟩
    rw[show qY cs J (i+1)=qY cs J i+((c.w.length:Int)+1) by rw[h1,e3];lia]
    exact w11
   ·rintro σ H9 ⟨a7,ws,rfl,w9,sd,f9⟩
    rw[aj]at w9 sd
    exact hR _ _ ⟨_,_,rfl,w9,sd,f9⟩
  rintro _ H9 ⟨a7,ws,rfl,w9,sd,f9⟩
  obtain⟨dp9,ep9⟩:=w9.ar.ob
  obtain⟨d1,eo⟩:=w9.ar.old
  simp only[kU,jd,i3,jb,↓jj,↓jg,aa,V.ref.injEq,ag,bh,and_true,true_and,exists_eq_left',exists_and_left,jU,oq,ql,ep9,T.jF,T.kK,Bq,eo,Dz,rp]
  refine⟨d1,_,_,_,rfl,?_⟩
  rw[so.1,Int.sub_zero]
  refine h J d' {Mv cs J M with ks:=[],ws:=ws,so:=⟨M.so.b,M.so.e,qY cs J J.length⟩,sy:=⟨M.sy.b,M.sy.e,M.sy.b⟩,ss:=⟨M.ss.b,M.ss.e,M.ss.b⟩} H9 hK ⟨sd.len,sd.ok,λi hi=>sd.done i hi hi,rfl,rfl,rfl,rfl,rfl,rfl,rfl,rfl⟩ w9 ⟨λb u e i n=>f9 _ _ (F8 _ _ (k5 _ _ e i n) i) i (λz=>n (by rw[z];simp[mx])),λb hb=> ?_⟩
  simp only[mx,br,bI,or_false]at hb
  rcases hb with rfl|rfl|rfl|rfl|rfl|rfl
  ·exact .inl (by simp[mx])
  ·exact .inl (by simp[mx])
  ·exact .inl (by simp[mx])
  ·exact .inl (by simp[mx])
  ·exact .inr (k04.fresh hd' (nO w4.Bm hd'))
  ·exact .inl (by simp[mx])
section
variable{o y:Int}{n:Nat}{cs:List Cl}{M:Ms}
theorem Gv.Zv(g:Gv o y n cs M){c:Cl}(hc:c∈cs){a:Int}(a0:0<=a)(a2:a<=2):Gv o y n cs {M with ws:=M.ws.set c.p.toNat (2*(4*(c.w.length:Int)+a))}:=by
 obtain⟨p0,p1,p2,_⟩:=g.mr.cl c hc
 have gd:∀j,j≠c.p.toNat->(M.ws.set c.p.toNat (2*(4*(c.w.length:Int)+a))).getD j 0=M.ws.getD j 0:=λj hj=>by rw[xH,if_neg (by lia)]
 have ne:∀d∈cs,∀j,1<=j->j<=d.w.length->d.p.toNat+j≠c.p.toNat:=λd hd j h1 h2=>by
  obtain⟨q0,_,_,_⟩:=g.mr.cl d hd
  by_cases z:d.p=c.p
  ·rw[z];lia
  ·rcases g8 z with z|z
   ·have:=g.mr.sep d hd c hc z;lia
   ·lia
 refine{g with mr:=⟨λd hd=> ?_,λd hd k hk=> ?_,g.mr.sep,g.mr.nd,g.mr.ok.set (by rw[wB,if_neg (by lia),if_pos (by lia)];rfl)⟩,wl:=by rw[bf];exact g.wl}
 ·obtain⟨q0,q1,q2,m,q3,q4⟩:=g.mr.cl d hd
  rw[bf]
  refine⟨q0,q1,q2,?_⟩
  by_cases z:d.p=c.p
  ·have:=xO g.mr.nd hd hc z
   subst this
   refine⟨4*(d.w.length:Int)+a,?_,by lia⟩
   have e:(M.ws.set d.p.toNat (2*(4*(d.w.length:Int)+a))).getD d.p.toNat 0=2*(4*(d.w.length:Int)+a):=by rw[xH,if_pos ⟨rfl,by lia⟩]
   rw[rg,e,bf,if_pos (by lia)]
   congr 1;lia
  ·exact⟨m,by rw[wg (bf ..) (gd _ (by lia))];exact q3,q4⟩
 ·rw[gd _ (by have:=ne d hd (1+k) (by lia) (by lia);lia)]
  exact g.mr.wd d hd k hk
end
noncomputable def LQ (K:aA) (A:Ad):Sp:=λvs H Q _=>Y7 λ(x:Ax) (M:Ms) (rm a:Addr) (o y:Int) (ns:List Int)=>C9 (vs=[.ref x.p,.ref rm,.ref a]) (Wx A H x M) (Gv o y 0 [] M) (M.so.t=0) (M.sy.t=M.sy.b) (H rm=some (.lst [Z_ o,Z_ y])) (rm∉mx x) (mj K H a (ns.map Z_)) (∀C cs H' ws so sy,Wx A H' x {M with ws:=ws,so:=so,sy:=sy}->Cw H' C cs->(mx x++lc C cs).Nodup->Gv o y 10 cs {M with ws:=ws,so:=so,sy:=sy}->uy (mx x) H H' (mx x++lc C cs)->Q (.ref C) H')
theorem lR:i7 ["_law_areas","_law_rooms","_law_script","_law_cells","_law_seed","_law_used","_law_k","_law_slots","_law_side","_law_at"] ["_law_areas","_law_rooms","_law_script"] (iX Av):=fsc
theorem Lk(T:Txt K mg A):jA P w K mg base (lG P w) true 13 A.qd A.sh ["_law_areas","_law_rooms","_law_script"] (LQ K A):=by
 refine T.C_.nP lR (λvs H Q E h=> ?_) (λcdv A' outer s H vs Q E hr hx h=> ?_)
 ·obtain⟨_,_,_,_,_,_,_,rfl,_⟩:=h
  rfl
 ·obtain⟨x,M,rm,a,o,y,ns,rfl,wx,gv,t0,t1,erm,nrm,hS,h⟩:=h
  refine⟨_,mL.run (iP (ji (i:=3) lR.nd rfl lo mU)
   (iP (ji (i:=4) lR.nd rfl lo (iV (nM T).mono hr rfl T.mI T.ml.kp T.oN hx (iN (iV (lb T).mono hr rfl T.kF T.kI.kp T.lB hx (iN (iQ 2) (iN iU iO))) iO)))
   (iP (ji (i:=5) lR.nd rfl lo (lu (iN iU (iN iU iO))))
   (iP (k7 hx.own rfl (oY rfl T.rB (iN (iY jv iU (iY kf (iY j3 (iV (lb T).mono hr rfl T.kF T.kI.kp T.lB hx (iN (iQ 2) (iN iU iO))) iU) iU)) iO)) (jO (i:=6) lR.nd rfl lo)
    (iP (ji (i:=4) lR.nd rfl lo (iV (nM T).mono hr rfl T.mI T.ml.kp T.oN hx (iN (iY jv (iQ 4) (iQ 6)) iO)))
   (iP (ji (i:=7) lR.nd rfl lo (iY kf (iY j3 (iQ 4) iU) iU))
   (iP (jo (jc rQ (iY kf (iY j3 (iQ 4) iU) iU) iU (jx _)) (iR (ji (i:=7) lR.nd rfl lo (iY kf (iY j3 (iQ 4) iU) iU))) jh)
   (iP (ji (i:=8) lR.nd rfl lo (iY kf (iY j3 (iQ 4) iU) iU))
   (iR (jo (mq (pv (jc Cd (iY jv (iY jv (ky lP (iQ 5) (iQ 8) (λ_ _=>rfl)) (iQ 7)) iU) (ky lP (iQ 1) (iQ 8) (λ_ _=>rfl)) (jx _)) (pS (jc Cd (iY jv (iY jv (iY jv (ky lP (iQ 5) iU (λ_ _=>rfl)) (ky lP (iQ 5) iU (λ_ _=>rfl))) (iQ 7)) iU) (ky lP (iQ 1) iU (λ_ _=>rfl)) (jx _))))) (iP (ji (i:=9) lR.nd rfl lo (iV (EK T).mono hr rfl T.yj T.zM.kp T.FO hx (iN (iQ 0) (iN (iQ 8) (iN (iQ 7) (iN (iQ 3) iO))))))
   (iP (uT (iY jv (iY jv (ky lP (iQ 5) (iQ 8) (λ_ _=>rfl)) (iQ 7)) iU) (uS (iQ 5) (iQ 8) wA))
   (iR (jo (mq (pv (jc rQ (iQ 8) iU (jx _)) (pS (jc rQ (iY kf (iY j3 (iQ 4) iU) iU) iU (jx _))))) (iR (i6 (iV (Ll T).mono hr rfl T.Gm T.Ft.kp T.NG hx (iN (i8 (iQ 0) rfl) (iN (iQ 9) (iN iU iO)))))) jh)))) jh)))))))
   (iR (jf (iQ 3))))))),?_⟩
  show jM _ _ _ [some (Z9 x.p),some (Z9 rm),some (Z9 a),none,none,none,none,none,none,none] H
  refine i4 (λσ' H'=>∃C,C4 (σ'=[some (Z9 x.p),some (Z9 rm),some (Z9 a),some (Z9 C),none,none,none,none,none,none]) (H C=none) (ja H H') (H' C=some (.dK (va [])))) (λR hR=> ?_) ?_
  ·simp only[jX,jq,uu,aw,ax]
   exact λd hd=>hR _ _ ⟨d,rfl,hd,ja.upd hd,iS⟩
  rintro _ H1 ⟨C,rfl,hC,s1,eC⟩
  refine i4 (λσ' H'=>∃sd:Int,σ'=[some (Z9 x.p),some (Z9 rm),some (Z9 a),some (Z9 C),some (Z_ sd),none,none,none,none,none]/\H1=H') (λR hR=> ?_) ?_
  ·simp only[iZ,jd,tC,i3,jX,jq,i9,and_assoc,cQ,aa,ae,aw,ax,V.int.injEq,V.ref.injEq,ag,and_true,true_and,exists_eq_left',exists_and_left,lg,my]
   exact⟨ns,s1.seq hS,hR _ _ ⟨_,rfl,rfl⟩⟩
  rintro _ _ ⟨sd,rfl,rfl⟩
  refine i4 (λσ' H'=>∃us,C4 (σ'=[some (Z9 x.p),some (Z9 rm),some (Z9 a),some (Z9 C),some (Z_ sd),some (Z9 us),none,none,none,none]) (H1 us=none) (ja H1 H') (H' us=some (.lst [Z_ 0,Z_ 0]))) (λR hR=> ?_) ?_
  ·simp only[iZ,jd,tC,xU,jX,jq,ao,af,ai,aw,ax,true_and,aq,Wl]
   exact λd hd=>hR _ _ ⟨d,rfl,hd,ja.upd hd,iS⟩
  rintro _ H2 ⟨us,rfl,hus,s2,eus⟩
  have s12:=s1.trans s2
  have L0:mx x++lc C []=mx x++[C]:=rfl
  have nC:C∉mx x:=nO wx.Bm hC
  have hus0:=s1.free hus
  have nus:us∉mx x++lc C []:=λz=>by
   rcases List.mem_append.mp z with z|z
   ·exact nO wx.Bm hus0 z
   ·rw[List.mem_singleton.mp z,eC]at hus;cases hus
  refine i4 (λσ' H'=>Y9 λcs ws so sy a4 a6 a7 a8 a9=>C6 (σ'=[some (Z9 x.p),some (Z9 rm),some (Z9 a),some (Z9 C),a4,some (Z9 us),a6,a7,a8,a9]) (Wx A H' x {M with ws:=ws,so:=so,sy:=sy}) (Cw H' C cs) ((mx x++lc C cs).Nodup) (Gv o y 10 cs {M with ws:=ws,so:=so,sy:=sy}) (uy (mx x) H H' (mx x++lc C cs))) (λR hR=> ?_) ?_
  ·simp only[ke,iZ,jd,tC,i3,i9,mP,m8,rE,UW,jb,and_assoc,tU,aV,aW,cQ,aT,bD,lT,zY,aa,ae,V.int.injEq,V.ref.injEq,ag,and_true,true_and,exists_eq_left',exists_and_left,lg]
   refine⟨ns,s12.seq hS,by lia,by lia,lA.Hc (λi σ' H'=>Y9 λcs ws so sy a4 a6 a7 a8 a9=>C8 (σ'=[some (Z9 x.p),some (Z9 rm),some (Z9 a),some (Z9 C),some (Z_ a4),some (Z9 us),a6,a7,a8,a9]) (Wx A H' x {M with ws:=ws,so:=so,sy:=sy}) (Cw H' C cs) ((mx x++lc C cs).Nodup) (Gv o y i cs {M with ws:=ws,so:=so,sy:=sy}) (H' us=some (.lst [Z_ so.t,Z_ (sy.t-sy.b)])) (us∉mx x++lc C cs) (uy (mx x) H H' (mx x++lc C cs))) ⟨[],M.ws,M.so,M.sy,sd,none,none,none,none,rfl,wx.same s12,⟨s2 _ _ eC,λc hc=>by cases hc⟩,?_,gv,by rw[t0,t1,Int.sub_self];exact eus,nus,λb u e _ _=>s12 b u e,λb hb=> ?_⟩ (λi σ' H' hi hP R' hR'=> ?_) λσ' H' hP=> ?_⟩
   ·rw[L0,bV]
    exact⟨wx.nd,by simp,λa ha b hb z=>nC (by rw[List.mem_singleton.mp hb]at z;rw[←z];exact ha)⟩
   ·rcases List.mem_append.mp hb with hb|hb
    ·exact .inl hb
    ·rw[List.mem_singleton.mp hb];exact .inr λu e=>by rw[hC]at e;cases e
   rotate_left
   ·obtain⟨cs,ws,so,sy,a4,a6,a7,a8,a9,rfl,w,c,nd,g,_,_,st⟩:=hP
    exact hR _ _ ⟨cs,ws,so,sy,_,a6,a7,a8,a9,rfl,w,c,nd,{g with nn:=aH g.nn (by lia)},st⟩
   obtain⟨cs,ws,so,sy,a4,a6,a7,a8,a9,rfl,w,c,nd,g,eu,nu,st⟩:=hP
   have oy:=g.oy
   have gso:=g.so
   have gsy:=g.sy
   have gus:=g.us
   dsimp only at gso gsy gus
   have er:=(st.keep erm rfl nrm).1
   show jM _ _ _ [some (Z9 x.p),some (Z9 rm),some (Z9 a),some (Z9 C),some (Z_ a4),some (Z9 us),some (Z_ (0+(i:Int))),a7,a8,a9] H'
   refine i4 (λσ' H1=>∃a4,σ'=[some (Z9 x.p),some (Z9 rm),some (Z9 a),some (Z9 C),some (Z_ a4),some (Z9 us),some (Z_ (0+(i:Int))),a7,a8,a9]/\H'=H1) (λR hR=> ?_) ?_
   ·simp only[ke,iZ,jd,i3,jX,jq,i9,mP,aa,ae,aw,ax,V.int.injEq,ag,and_true,exists_eq_left',my]
    exact hR _ _ ⟨_,rfl,rfl⟩
   rintro _ _ ⟨a4,rfl,rfl⟩
   refine i4 (λσ' H1=>∃k:Int,C4 (σ'=[some (Z9 x.p),some (Z9 rm),some (Z9 a),some (Z9 C),some (Z_ a4),some (Z9 us),some (Z_ (0+(i:Int))),some (Z_ k),a8,a9]) (0<=k) (k<=8) (H'=H1)) (λR hR=> ?_) ?_
   ·simp only[ke,tC,i3,jX,jq,m8,rE,tU,aV,aW,aa,ae,aw,ax,and_true,true_and]
    exact hR _ _ ⟨_,rfl,by lia,by lia,rfl⟩
   rintro _ _ ⟨k,rfl,k0,k8,rfl⟩
   refine i4 (λσ' H1=>∃k:Int,C4 (σ'=[some (Z9 x.p),some (Z9 rm),some (Z9 a),some (Z9 C),some (Z_ a4),some (Z9 us),some (Z_ (0+(i:Int))),some (Z_ k),a8,a9]) (0<=k) (k<=8) (H'=H1)) (λR hR=> ?_) ?_
   ·simp only[kj,kM,jC,ke,tC,i3,jX,jq,m8,rE,Md,eqv,tU,aV,aW,aa,ae,aw,ax,and_true,true_and,decide_eq_true_eq,↓jD]
    split
    ·exact hR _ _ ⟨_,rfl,by lia,by lia,rfl⟩
    ·exact hR _ _ ⟨_,rfl,k0,k8,rfl⟩
   rintro _ _ ⟨k,rfl,k0,k8,rfl⟩
   refine i4 (λσ' H1=>∃s:Int,C3 (σ'=[some (Z9 x.p),some (Z9 rm),some (Z9 a),some (Z9 C),some (Z_ a4),some (Z9 us),some (Z_ (0+(i:Int))),some (Z_ k),some (Z_ s),a9]) ((s=0∨s=1)) (H'=H1)) (λR hR=> ?_) ?_
   ·simp only[ke,tC,i3,jX,jq,m8,rE,tU,aV,aW,aa,ae,aw,ax,and_true,true_and]
    exact hR _ _ ⟨_,rfl,by lia,rfl⟩
   rintro _ _ ⟨s,rfl,hs,rfl⟩
   have zt:R' [some (Z9 x.p),some (Z9 rm),some (Z9 a),some (Z9 C),some (Z_ a4),some (Z9 us),some (Z_ (0+(i:Int))),some (Z_ k),some (Z_ s),a9] H':=hR' _ _ ⟨cs,ws,so,sy,a4,_,_,_,_,rfl,w,c,nd,{g with nn:=fM g.nn},eu,nu,st⟩
   by_cases hc:(if s=0 then so.t else sy.t-sy.b)+k+1<=(if s=0 then o else y)/\so.t+(sy.t-sy.b)+k+1<=o
   rotate_left
   ·refine Mz (λK1 hK=> ?_) zt
    rcases hs with rfl|rfl
    ·rw[if_pos rfl,if_pos rfl]at hc
     simp only[jC,ke,zu,tC,i3,mP,sJ,DO,CL,zc,aa,ae,decide_eq_true_eq,↓jD,eu,er]
     split
     ·rw[decide_eq_false (λz=>hc ⟨by assumption,z⟩)];exact hK
     ·exact hK
    ·rw[if_neg (by decide),if_neg (by decide)]at hc
     simp only[jC,ke,zu,tC,i3,mP,sJ,DO,CL,zc,aa,ae,decide_eq_true_eq,↓jD,eu,er]
     split
     ·rw[decide_eq_false (λz=>hc ⟨by assumption,z⟩)];exact hK
     ·exact hK
   refine Gp (λK1 hK=> ?_) ?_
   ·rcases hs with rfl|rfl
    ·rw[if_pos rfl,if_pos rfl]at hc
     simp only[jC,ke,zu,tC,i3,mP,sJ,DO,CL,zc,aa,ae,decide_eq_true_eq,↓jD,eu,er]
     rw[if_pos hc.1,decide_eq_true hc.2];exact hK
    ·rw[if_neg (by decide),if_neg (by decide)]at hc
     simp only[jC,ke,zu,tC,i3,mP,sJ,DO,CL,zc,aa,ae,decide_eq_true_eq,↓jD,eu,er]
     rw[if_pos hc.1,decide_eq_true hc.2];exact hK
   refine i4 (λσ' H2=>Y5 λcs' ws' so' sy' t=>X7 (σ'=[some (Z9 x.p),some (Z9 rm),some (Z9 a),some (Z9 C),some (Z_ a4),some (Z9 us),some (Z_ (0+(i:Int))),some (Z_ k),some (Z_ s),some (Z_ t)]) (Wx A H2 x {M with ws:=ws',so:=so',sy:=sy'}) (Cw H2 C cs') ((mx x++lc C cs').Nodup) (Gv o y (i+1) cs' {M with ws:=ws',so:=so',sy:=sy'}) (H2 us=some (.lst [Z_ so.t,Z_ (sy.t-sy.b)])) (us∉mx x++lc C cs') ((s=0->so'.t=so.t+k+1/\sy'=sy)) ((s=1->so'=so/\sy'.t=sy.t+k+1/\sy'.b=sy.b/\l_ ws' t.toNat=some (4*k)/\∃r,⟨t,r,ah k.toNat (-1)⟩∈cs')) (uy (mx x) H H2 (mx x++lc C cs'))) (λR hR=> ?_) ?_
   ·simp only[iZ,jd,i3,jX,jq,i9,aa,ae,aw,ax]
    refine⟨C,x,_,cs,o,y,k,i,s,rfl,w,c,nd,g,by lia,k0,k8,hs,by dsimp only;lia,λz=> ?_,?_⟩
    ·rw[if_neg (by lia),if_neg (by lia)]at hc;dsimp only;lia
    refine λH2 t r ws' so' sy' w2 c2 n2 g2 h0 h1 st2=> ?_
    exact hR _ _ ⟨_,ws',so',sy',t,rfl,w2,c2,n2,g2,(st2.keep eu rfl nu).1,(st2.keep eu rfl nu).2,h0,λz=>⟨(h1 z).1,(h1 z).2.1,(h1 z).2.2.1,(h1 z).2.2.2,r,by simp⟩,st.trans st2⟩
   rintro _ H2 ⟨cs',ws',so',sy',t,rfl,w2,c2,n2,g2,eu2,nu2,h0,h1,st2⟩
   refine i4 (λσ' H3=>σ'=[some (Z9 x.p),some (Z9 rm),some (Z9 a),some (Z9 C),some (Z_ a4),some (Z9 us),some (Z_ (0+(i:Int))),some (Z_ k),some (Z_ s),some (Z_ t)]/\H3 us=some (.lst [Z_ so'.t,Z_ (sy'.t-sy'.b)])/\∀b u,H2 b=some u->b≠us->H3 b=some u) (λR hR=> ?_) ?_
   ·rcases hs with rfl|rfl
    ·simp only[ke,tC,i3,jX,mP,DO,ao,xD,E4,CL,af,ai,aa,ae,aq,eu2]
     refine hR _ _ ⟨rfl,?_,λb u e n=>pY e n⟩
     rw[iS,(h0 rfl).1,(h0 rfl).2]
     try rfl
    ·simp only[ke,tC,i3,jX,mP,DO,ao,xD,E4,zc,af,ai,aa,ae,aq,eu2]
     refine hR _ _ ⟨rfl,?_,λb u e n=>pY e n⟩
     rw[iS,(h1 rfl).1,(h1 rfl).2.1,(h1 rfl).2.2.1,show sy.t+k+1-sy.b=sy.t-sy.b+k+1 by lia]
     try rfl
   rintro _ H3 ⟨rfl,eu3,f3⟩
   have w3:=w2.fr (H':=H3) λb u e z=>f3 b u e λy=>by
    rcases z with z|z
    ·rw[y]at z;exact nu2 (bj _ z)
    ·rw[y,eu2]at e;cases e;cases z
   have c3:Cw H3 C cs':=c2.fr λb u e z=>f3 b u e λy=>nu2 (aO _ (by rw[←y];exact z))
   have st3:uy (mx x) H H3 (mx x++lc C cs'):=⟨λb u e i n=>f3 _ _ (st2.1 b u e i n) λz=>(by rw[z,hus0]at e;cases e),st2.2⟩
   obtain⟨dp,ep⟩:=w3.ar.ob
   by_cases hs1:s=1/\a4/1000%2=1
   ·refine Gp (λK1 hK=> ?_) ?_
    ·simp only[jC,ke,zu,tC,i3,m8,rE,Md,eqv,tU,aV,aW,aa,ae,and_true,true_and,decide_eq_true_eq,↓jD]
     rw[if_pos hs1.1,decide_eq_true hs1.2];exact hK
    ·simp only[jB,iZ,jd,tC,i3,i9,and_assoc,↓jj,aa,ae,V.ref.injEq,ag,and_true,true_and,exists_eq_left',exists_and_left,jU,oq,ep,T.jF,T.jP,Bp,FC]
     obtain⟨_,_,_,hcn,r,hm⟩:=h1 hs1.1
     obtain⟨p0,p1,p2,_⟩:=g2.mr.cl _ hm
     dsimp only at p0 p1
     rw[bw]at p1
     refine⟨x.q,ws',w3.ar.mem,aD,aD,g2.mr.ok,?_⟩
     rw[if_pos (DI (by lia) (by lia)),show(iv (Z_ t)).toNat=t.toNat from rfl,hcn]
     dsimp only
     rw[if_pos (by decide),show 2*(4*(4*k/4)+iv (Z_ 1))=2*(4*((ah k.toNat (-1:Int)).length:Int)+1) by rw[bw];show 2*(4*(4*k/4)+1)=_;lia]
     have m4:=w3.ar.mem.put t.toNat (2*(4*((ah k.toNat (-1:Int)).length:Int)+1))
     have f4:∀b u,H3 b=some u->b≠x.q->upd H3 x.q (.lst ((ws'.set t.toNat (2*(4*((ah k.toNat (-1:Int)).length:Int)+1))).map Z_)) b=some u:=λb u e nb=>pY e nb
     generalize upd H3 x.q _=H4 at*
     have w4:=w3.L5 (w3.ar.Vx (bf ..) m4.ls λb u e ⟨_,_,_,z⟩=>f4 b u e (λy=>by rw[y,w3.ar.mem.ls]at e;cases e;cases z)) λb u e n _=>f4 b u e n
     have xq:x.q∈mx x:=by simp[mx]
     exact hR' _ _ ⟨cs',_,so',sy',a4,_,_,_,_,rfl,w4,c3.fr λb u e z=>f4 b u e (λy=>(List.nodup_append.mp n2).2.2 x.q xq b z y.symm),n2,g2.Zv hm (by decide) (by decide),f4 _ _ eu3 (λz=>nu2 (bj _ (by rw[z];exact xq))),nu2,⟨λb u e i n=>f4 _ _ (st3.1 b u e i n) λz=>n (by rw[z];exact xq),st3.2⟩⟩
   ·refine Mz (λK1 hK=> ?_) ?_
    ·simp only[jC,ke,zu,tC,i3,m8,rE,Md,eqv,tU,aV,aW,aa,ae,and_true,true_and,decide_eq_true_eq,↓jD]
     split
     ·rw[decide_eq_false (λz=>hs1 ⟨by assumption,z⟩)];exact hK
     ·exact hK
    exact hR' _ _ ⟨cs',ws',so',sy',a4,_,_,_,_,rfl,w3,c3,n2,g2,eu3,nu2,st3⟩
  rintro _ H3 ⟨cs,ws,so,sy,a4,a6,a7,a8,a9,rfl,w3,c3,n3,g3,st3⟩
  simp only[kU,i3,aa,ae]
  exact h C cs H3 ws so sy w3 c3 n3 g3 st3
theorem Si{cs:List Cl}{d:Cl}(h:d∈cs){k:Nat}{v:Int}:(⟨d.p,d.r,d.w.set k v⟩:Cl)∈zw cs d.p k v:=List.mem_map.mpr ⟨d,h,by rw[if_pos rfl]⟩
noncomputable def Hl (A:Ad):Sp:=λvs H Q _=>Y8 λ(C:Addr) (x:Ax) (M:Ms) (cs:List Cl) (o y:Int) (N:Nat) (sd:Int)=>C7 (vs=[.ref x.p,.ref x.r,.ref C,.int sd]) (Wx A H x M) (Cw H C cs) ((mx x++lc C cs).Nodup) (Gv o y N cs M) (N<=12) (∀H' cs' ws ks,let M':={M with ws:=ws,ks:=ks};Wx A H' x M'->Cw H' C cs'->lc C cs'=lc C cs->Gv o y N cs' M'->uy (mx x++lc C cs) H H' (mx x++lc C cs)->Q .kT H')
theorem tu:i7 ["_law_areas","_law_roots","_law_cells","_law_seed","_law_at","_law_slot"] ["_law_areas","_law_roots","_law_cells","_law_seed"] (iX xi):=fsc
theorem G0(T:Txt K mg A):jA P w K mg base (lG P w) true 13 A.nQ A.pI ["_law_areas","_law_roots","_law_cells","_law_seed"] (Hl A):=by
 refine T.zL.nP tu (λvs H Q E h=> ?_) (λcdv A' outer s H vs Q E hr hx h=> ?_)
 ·obtain⟨_,_,_,_,_,_,_,_,rfl,_⟩:=h
  rfl
 ·obtain⟨C,x,M,cs,o,y,N,sd,rfl,wx,cw,nd,gv,n12,h⟩:=h
  refine⟨_,mL.run (iR (k7 hx.own rfl (kx (qS (Bb (by rfl)) (by rfl) T.yC PyProof.Rows.Boot.«list» (iN (iQ 2) iO))) (jO (i:=4) tu.nd rfl lo)
    (iR (k7 hx.own rfl (oY rfl T.rB (iN (jy qQ (by rfl) T.sU PyProof.Rows.Boot.«len» (iN (jk (by exact jw hr) (iQ 2) (iQ 4) (λ_ _=>rfl)) iO)) iO)) (jO (i:=5) tu.nd rfl lo)
    (iP (ji (i:=3) tu.nd rfl lo (iV (nM T).mono hr rfl T.mI T.ml.kp T.oN hx (iN (iY jv (iQ 3) (iQ 5)) iO)))
   (iR (i6 (iV (BB T).mono hr rfl T.vb T.wM.kp T.CQ hx (iN (iQ 0) (iN (iQ 1) (iN (iQ 2) (iN (iQ 4) (iN (iQ 5) (iN (iV (vg T).mono hr rfl T.sE T.sQ.kp T.wc hx (iN (iQ 2) (iN (iQ 3) iO))) iO)))))))))))))),?_⟩
  have cl:cs.length<=12:=aH gv.nn n12
  have ek:bX (λp=>kV p.fst) (va cs)=(cs.map Cl.p).map Z_:=by rw[va,bB,bB];rfl
  simp only[Bg,iZ,jd,i3,zF,jb,aT,bD,ao,bx,lT,zY,qj,kL,kJ,L2.start,ak,av,af,ai,ah,aL,bc,aa,ae,V.int.injEq,V.ref.injEq,ag,and_true,exists_eq_left',bz,aq,DP,cw.dc]
  intro l hl
  rw[ek]
  have s1:=ja.upd (o:= .lst ((cs.map Cl.p).map Z_)) hl
  have el:upd H l (.lst ((cs.map Cl.p).map Z_)) l=some (.lst ((cs.map Cl.p).map Z_)):=iS
  generalize upd H l (.lst ((cs.map Cl.p).map Z_))=H1 at*
  have nl:l∉mx x++lc C cs:=nO (FG wx.Bm cw.Bm) hl
  refine⟨⟨_,.of el⟩,lA.GG (λi σ' H'=>Y6 λcs' ws ks sd a4 a5=>C7 (σ'=[some (Z9 x.p),some (Z9 x.r),some (Z9 C),some (Z_ sd),a4,a5]) (Wx A H' x {M with ws:=ws,ks:=ks}) (Cw H' C cs') (lc C cs'=lc C cs) (cs'.map Cl.p=cs.map Cl.p) (Gv o y N cs' {M with ws:=ws,ks:=ks}) (uy (mx x++lc C cs) H1 H' (mx x++lc C cs))) ⟨cs,M.ws,M.ks,sd,none,none,rfl,wx.same s1,cw.fr λb u e _=>s1 b u e,rfl,rfl,gv,.refl⟩ (λi σ' H' _ ⟨cs',ws,ks,sd,a4,a5,_,_,_,_,_,_,st⟩=> .of (st.keep el rfl nl).1) (λi v σ' H' hi hP R hR=> ?_) λσ' H' hP=> ?_⟩
  rotate_left
  ·obtain⟨cs',ws,ks,sd,a4,a5,_,w,c,e1,e2,g,st⟩:=hP
   exact h H' cs' ws ks w c e1 g ((uy.same s1).trans st)
  obtain⟨cs',ws,ks,sd,a4,a5,rfl,w,c,e1,e2,g,st⟩:=hP
  obtain⟨hi',rfl,_⟩:=ints_get hi
  have hm:(cs.map Cl.p)[i]∈cs'.map Cl.p:=by rw[e2];exact bq hi'
  obtain⟨d,hd,ed⟩:=List.mem_map.mp hm
  rw[←ed]
  have nd':(mx x++lc C cs').Nodup:=by rw[e1];exact nd
  simp only[jq,aT,aa,ae,aw,ax,c.dc,sP,F4 g.mr.nd hd,bG,c.row d hd]
  obtain⟨q0,q1,q2,_⟩:=g.mr.cl d hd
  rw[aj]
  refine⟨by lia,by lia,lA.Hc (λj σ' H'=>Y5 λcs' ws ks sd a5=>C8 (σ'=[some (Z9 x.p),some (Z9 x.r),some (Z9 C),some (Z_ sd),some (Z_ d.p),a5]) (Wx A H' x {M with ws:=ws,ks:=ks}) (Cw H' C cs') (lc C cs'=lc C cs) (cs'.map Cl.p=cs.map Cl.p) (Gv o y N cs' {M with ws:=ws,ks:=ks}) (uy (mx x++lc C cs) H1 H' (mx x++lc C cs)) (∃f∈cs',f.p=d.p/\f.w.length=d.w.length)) ⟨cs',ws,ks,sd,a5,rfl,w,c,e1,e2,g,st,d,hd,rfl,rfl⟩ (λj σ' H' hj hP R' hR'=> ?_) λσ' H' hP=> ?_⟩
  rotate_left
  ·obtain⟨cs',ws,ks,sd,a5,rfl,w,c,e1,e2,g,st,_⟩:=hP
   exact hR _ _ ⟨cs',ws,ks,sd,_,_,rfl,w,c,e1,e2,g,st⟩
  clear c w nd' g st hm e1 e2
  obtain⟨cs',ws,ks,sd,a5,rfl,w,c,e1,e2,g,st,f,hf,ep,eL⟩:=hP
  have nd':(mx x++lc C cs').Nodup:=by rw[e1];exact nd
  have cl':cs'.length<=12:=aH g.nn n12
  simp only[jB,jM,ke,iZ,jd,i3,jX,jq,i9,mP,aa,ae,aw,ax,V.int.injEq,ag,and_true,exists_eq_left',my]
  refine⟨C,cs',_,rfl,c.dc,cl',λH2 s2=> ?_⟩
  obtain⟨v1,v2⟩:=FH (ks:=cs'.map Cl.p) (s:=nx (sd+(0+(j:Int)))) λp hp=>⟨(g.places hp).1,fS (g.places hp).2.1 (by decide)⟩
  generalize Eo _ _=v at*
  refine⟨C,x,_,cs',o,y,N,f,j,v,by rw[ep,eJ],w.same s2,c.fr λb u e _=>s2 b u e,nd',g,hf,by lia,v1,v2,λH3 ks' w3 c3 g3 st3=> ?_⟩
  rw[e1]at st3
  exact hR' _ _ ⟨_,_,ks',_,_,rfl,w3,c3,MJ.trans e1,LV.trans e2,g3,(st.trans (uy.same s2)).trans st3,_,Si hf,ep,by rw[bf];exact eL⟩
theorem Wx.Sf{A:Ad}{H:Hp}{x:Ax}{M:Ms}(w:Wx A H x M):∀b∈mx x,∃u,H b=some u/\nl u=false:=λb hb=>by
 obtain⟨es,l⟩:=w.ls
 simp only[mx,br,bI,or_false]at hb
 rcases hb with rfl|rfl|rfl|rfl|rfl|rfl
 ·exact⟨_,w.ar.mem.ls,rfl⟩
 ·exact⟨_,w.hd.ls,rfl⟩
 ·exact⟨_,w.wk.ls,rfl⟩
 ·exact⟨_,l.sq,rfl⟩
 ·exact⟨_,w.bk.dc,rfl⟩
 ·exact⟨_,l.dc,rfl⟩
theorem Cw.Sf{H:Hp}{C:Addr}{cs:List Cl}(w:Cw H C cs):∀b∈lc C cs,∃u,H b=some u/\nl u=false:=λb hb=>by
 rcases List.mem_cons.mp hb with rfl|hb
 ·exact⟨_,w.dc,rfl⟩
 ·obtain⟨c,hc,rfl⟩:=List.mem_map.mp hb
  exact⟨_,w.row c hc,rfl⟩
noncomputable def l5 (l:Lx):List Addr:=[l.S,l.h,l.N,l.t,l.d]
theorem vO{l:Lx}{cs:List Cl}:ll l cs=l5 l++lc l.C cs:=rfl
theorem uy.mem{L L' L1 L1':List Addr}{H H':Hp}(s:uy L1 H H' L1')(a:∀b,b∈L1->b∈L)(d:∀b,b∈L'->b∈L1'∨b∈L):uy L H H' L':=⟨λb u e i n=>s.1 b u e i λz=>n (a b z),λb hb=>by
 rcases d b hb with z|z
 ·rcases s.2 b z with z|z
  ·exact .inl (a b z)
  ·exact .inr z
 ·exact .inl z⟩
theorem G8{A B C:List Addr}:(A++(B++C)).Perm (B++(A++C)):=by
 rw[←c8,←c8]
 exact List.perm_append_comm.append_right C
theorem Lw.step{A:Ad}{H H':Hp}{x:Ax}{l:Lx}{cs cs':List Cl}{M M' M0:Ms}(lw:Lw H l cs M)(wx:Wx A H x M0)(nd:(mx x++ll l cs).Nodup)(st:uy (mx x++lc l.C cs) H H' (mx x++lc l.C cs'))(cw:Cw H' l.C cs')(n':(mx x++lc l.C cs').Nodup)(e1:M'.hw=M.hw)(e2:M'.os=M.os)(e3:M'.ts=M.ts)(e4:M'.sd=M.sd):
  Lw H' l cs' M'/\(mx x++ll l cs').Nodup/\uy (mx x++ll l cs) H H' (mx x++ll l cs'):=by
 have nd2:(l5 l++(mx x++lc l.C cs)).Nodup:=G8.nodup (by rw[←vO];exact nd)
 have nn:=List.nodup_append.mp nd2
 have no:∀b∈l5 l,b∉mx x++lc l.C cs:=λb hb z=>nn.2.2 b hb b z rfl
 obtain⟨tas,et,ta⟩:=lw.t
 have kS:=st.keep lw.s rfl (no l.S (by simp[l5]))
 have kh:=st.keep lw.h rfl (no l.h (by simp[l5]))
 have kN:=st.keep lw.n rfl (no l.N (by simp[l5]))
 have kt:=st.keep et rfl (no l.t (by simp[l5]))
 have kd:=st.keep lw.d rfl (no l.d (by simp[l5]))
 have tt:∀b zs,H b=some (.tup zs)->H' b=some (.tup zs):=λb zs e=>st.1 b _ e rfl λz=>by
  obtain⟨u,eu,i⟩:∃u,H b=some u/\nl u=false:=(List.mem_append.mp z).elim (wx.Sf b) (lw.cw.Sf b)
  rw[e]at eu;cases eu;cases i
 refine⟨⟨kS.1,cw,by rw[e1];exact kh.1,by rw[e2];exact kN.1,⟨tas,kt.1,by rw[e3];exact ta.kt tt⟩,by rw[e4];exact kd.1⟩,?_,st.mem (λb hb=> ?_) λb hb=> ?_⟩
 ·rw[vO]
  refine G8.symm.nodup (List.nodup_append.mpr ⟨nn.1,n',λa ha b hb z=> ?_⟩)
  subst z
  simp only[l5,br,bI,or_false]at ha
  rcases ha with rfl|rfl|rfl|rfl|rfl
  ·exact kS.2 hb
  ·exact kh.2 hb
  ·exact kN.2 hb
  ·exact kt.2 hb
  ·exact kd.2 hb
 ·rw[vO];simp only[dQ]at hb⊢;rcases hb with z|z;exact .inl z;exact .inr (.inr z)
 ·rw[vO]at hb⊢;simp only[dQ]at hb⊢;rcases hb with z|z|z;exact .inl (.inl z);exact .inr (.inr (.inl z));exact .inl (.inr z)
theorem Tf{tc:TT}{t u:TS}{D:Ends}{σ:St}{H:Hp}(P:Hp->Prop)(h:∀K:Bool->Hp->Prop,(∀H',P H'->K true H')->tc σ H K)(ht:∀H',P H'->t D σ H'):kM tc t u D σ H:=h _ λH' p=>by rw[if_pos rfl];exact ht H' p
noncomputable def Ff (A:Ad):Sp:=λvs H Q _=>Y9 λ(l:Lx) (x:Ax) (M:Ms) (cs:List Cl) (o y:Int) (N:Nat) (ce:Int) (rm:Addr)=>X7 (vs=[.ref x.p,.ref x.r,.ref l.S,.int ce,.ref rm]) (Wx A H x M) (Lw H l cs M) ((mx x++ll l cs).Nodup) (Gv o y N cs M) (N<12) (M.sy.t=M.sy.b) (H rm=some (.lst [Z_ o,Z_ y])) (rm∉mx x++ll l cs) (∀H' cs' M',Wx A H' x M'->Lw H' l cs' M'->(mx x++ll l cs').Nodup->Gv o y (N+1) cs' M'->M'.sd=M.sd->uy (mx x++ll l cs) H H' (mx x++ll l cs')->Q .kT H')
theorem lM:i7 ["_law_areas","_law_roots","_law_s","_law_cell","_law_rooms","_law_seed","_law_hand","_law_slots","_law_wide","_law_at","_law_slot"] ["_law_areas","_law_roots","_law_s","_law_cell","_law_rooms"] (iX tf):=fsc
theorem E9(T:Txt K mg A):jA P w K mg base (lG P w) true 13 A.mS A.oE ["_law_areas","_law_roots","_law_s","_law_cell","_law_rooms"] (Ff A):=by
 refine T.zf.nP lM (λvs H Q E h=> ?_) (λcdv A' outer s H vs Q E hr hx h=> ?_)
 ·obtain⟨_,_,_,_,_,_,_,_,_,rfl,_⟩:=h
  rfl
 ·obtain⟨l,x,M,cs,o,y,N,ce,rm,rfl,wx,lw,nd,gv,n12,ty,erm,nrm,h⟩:=h
  refine⟨_,mL.run (iP (ji (i:=5) lM.nd rfl lo (iV (nM T).mono hr rfl T.mI T.ml.kp T.oN hx (iN (iQ 3) iO)))
   (iP (k7 hx.own rfl (oY rfl T.rB (iN (jy qQ (by rfl) T.sU PyProof.Rows.Boot.«len» (iN (jk (by exact jw hr) (iQ 2) i5 (λ_ _=>rfl)) iO)) iO)) (jO (i:=6) lM.nd rfl lo)
    (iP (ji (i:=5) lM.nd rfl lo (iV (nM T).mono hr rfl T.mI T.ml.kp T.oN hx (iN (iY jv (iQ 5) (iQ 6)) iO)))
   (iR (jo (jc (Ba (Jw hr)) (iY kf (iY j3 (iQ 5) iU) iU) iU (jx _)) (iP (uT (iV (vg T).mono hr rfl T.sE T.sQ.kp T.wc hx (iN (jk (by exact jw hr) (iQ 2) i5 (λ_ _=>rfl)) (iN (iQ 5) iO))) (uS (jk (by exact jw hr) (iQ 2) i5 (λ_ _=>rfl)) (iQ 6) wA))
   (iR (i6 (jr (i8 (iQ 1) rfl) T.qa T.z_ (yE T).mono hr T.zA hx (iN (iQ 6) (iN (ky lP (jk (by exact jw hr) (iQ 2) i5 (λ_ _=>rfl)) (iQ 6) (λ_ _=>rfl)) iO)))))) jh))))
   (iP (ji (i:=7) lM.nd rfl lo (iY kf (iY j3 (iQ 5) iU) iU))
   (iP (jo (mq (pv (jc Cd (iY jv (iQ 7) iU) (ky lP (iQ 4) iU (λ_ _=>rfl)) (jx _)) (pS (jc Cd (iY jv (iY jv (kr (i8 (iQ 0) rfl) T.kE T.ve (uJ T).mono hr T.u_ hx) (iQ 7)) iU) (ky lP (iQ 4) iU (λ_ _=>rfl)) (jx _))))) (iR (i6 (iV (EK T).mono hr rfl T.yj T.zM.kp T.FO hx (iN (iQ 0) (iN iU (iN (iQ 7) (iN (jk (by exact jw hr) (iQ 2) i5 (λ_ _=>rfl)) iO))))))) jh)
   (iP (xM (vd (i:=8) (fsc:=iX tf) (N2:=["_law_s"]) (js:=[2]) lM.nd rfl lo ⟨rfl,rfl,by decide+kernel,by decide+kernel,by decide+kernel,by decide+kernel,by decide+kernel,by decide+kernel,by decide+kernel⟩ rfl rfl (by rfl) (vL (jk (by exact jw hr) (iQ 2) i5 (λ_ _=>rfl))) (λ_ _ _ _=>(pe (jc (sR (Jw hr)) (uj (by exact jw hr) (jk (by exact jw hr) (iQ 1) i5 (λ_ _=>rfl)) (iQ 0) (λ_ _=>rfl)) (lu iO) (jx _)))) (λ_ _ _ _=>(iQ 0))))
   (iR (jo (jc (sR (Jw hr)) (iQ 8) (lu iO) (jx _)) (iP (ji (i:=9) lM.nd rfl lo (ky lP (iQ 8) (iY kf (iY j3 (iQ 5) iU) (jy qQ (by rfl) T.sU PyProof.Rows.Boot.«len» (iN (iQ 8) iO))) (λ_ _=>rfl)))
   (iP (ji (i:=10) lM.nd rfl lo (iY kf (iY j3 (iQ 5) iU) (jy qQ (by rfl) T.sU PyProof.Rows.Boot.«len» (iN (jk (by exact jw hr) (jk (by exact jw hr) (iQ 2) i5 (λ_ _=>rfl)) (iQ 9) (λ_ _=>rfl)) iO))))
   (iR (i6 (iV (BB T).mono hr rfl T.vb T.wM.kp T.CQ hx (iN (iQ 0) (iN (iQ 1) (iN (jk (by exact jw hr) (iQ 2) i5 (λ_ _=>rfl)) (iN (iQ 9) (iN (iQ 10) (iN (iV (vg T).mono hr rfl T.sE T.sQ.kp T.wc hx (iN (jk (by exact jw hr) (iQ 2) i5 (λ_ _=>rfl)) (iN (iV (nM T).mono hr rfl T.mI T.ml.kp T.oN hx (iN (iQ 5) iO)) iO))) iO))))))))))) jh))))))),?_⟩
  have cl:cs.length<=12:=by have:=gv.nn;lia
  have xl:=(List.nodup_append.mp nd).2.2
  have ndl:=(List.nodup_append.mp nd).2.1
  simp only[ll,bP,br,not_or]at ndl
  show jM _ _ _ [some (Z9 x.p),some (Z9 x.r),some (Z9 l.S),some (Z_ ce),some (Z9 rm),none,none,none,none,none,none] H
  refine i4 (λσ' H'=>∃sd:Int,σ'=[some (Z9 x.p),some (Z9 x.r),some (Z9 l.S),some (Z_ ce),some (Z9 rm),some (Z_ sd),none,none,none,none,none]/\H=H') (λR hR=> ?_) ?_
  ·simp only[iZ,jd,i3,jX,jq,i9,aa,ae,aw,ax,V.int.injEq,ag,and_true,exists_eq_left',my]
   exact hR _ _ ⟨_,rfl,rfl⟩
  rintro _ _ ⟨sd,rfl,rfl⟩
  refine i4 (λσ' H'=>Y3 λhw sd a6=>C5 (σ'=[some (Z9 x.p),some (Z9 x.r),some (Z9 l.S),some (Z_ ce),some (Z9 rm),some (Z_ sd),a6,none,none,none,none]) (Wx A H' x {M with hw:=hw}) (Lw H' l cs {M with hw:=hw}) (Gv o y N cs {M with hw:=hw}) (uy (mx x++ll l cs) H H' (mx x++ll l cs))) (λR hR=> ?_) ?_
  ·simp only[Bg,iZ,jd,tC,i3,zF,jb,aT,bD,lT,zY,kL,kJ,aa,ae,V.int.injEq,ag,and_true,exists_eq_left',lw.s,ER,lw.h]
   have hl:=gv.hl
   rw[aj]
   refine⟨by lia,by lia,lA.Hc (λi σ' H'=>Y3 λhw sd a6=>C6 (σ'=[some (Z9 x.p),some (Z9 x.r),some (Z9 l.S),some (Z_ ce),some (Z9 rm),some (Z_ sd),a6,none,none,none,none]) (Wx A H' x {M with hw:=hw}) (Lw H' l cs {M with hw:=hw}) (Gv o y N cs {M with hw:=hw}) (uy (mx x++ll l cs) H H' (mx x++ll l cs)) (hw.length=M.hw.length)) ⟨M.hw,sd,none,rfl,wx,lw,gv,.refl,rfl⟩ (λi σ' H' hi hP R' hR'=> ?_) λσ' H' hP=> ?_⟩
   rotate_left
   ·obtain⟨hw,sd,a6,rfl,w,l2,g,st,_⟩:=hP
    exact hR _ _ ⟨hw,sd,a6,rfl,w,l2,g,st⟩
   obtain⟨hw,sd,a6,rfl,w,l2,g,st,ehl⟩:=hP
   show jM _ _ _ [some (Z9 x.p),some (Z9 x.r),some (Z9 l.S),some (Z_ ce),some (Z9 rm),some (Z_ sd),some (Z_ (0+(i:Int))),none,none,none,none] H'
   refine i4 (λσ' H1=>∃sd:Int,σ'=[some (Z9 x.p),some (Z9 x.r),some (Z9 l.S),some (Z_ ce),some (Z9 rm),some (Z_ sd),some (Z_ (0+(i:Int))),none,none,none,none]/\H'=H1) (λR hR=> ?_) ?_
   ·simp only[ke,iZ,jd,i3,jX,jq,i9,mP,aa,ae,aw,ax,V.int.injEq,ag,and_true,exists_eq_left',my]
    exact hR _ _ ⟨_,rfl,rfl⟩
   rintro _ _ ⟨sd,rfl,rfl⟩
   by_cases hc:sd/7%3=0
   rotate_left
   ·refine Mz (λK1 hK=> ?_) (hR' _ _ ⟨hw,sd,_,rfl,w,l2,g,st,ehl⟩)
    simp only[jC,ke,tC,i3,m8,rE,eqv,tU,aV,aW,zE,aa,ae,and_true,true_and,↓jD]
    rw[decide_eq_false hc];exact hK
   refine Gp (λK1 hK=> ?_) ?_
   ·simp only[jC,ke,tC,i3,m8,rE,eqv,tU,aV,aW,zE,aa,ae,and_true,true_and,↓jD]
    rw[decide_eq_true hc];exact hK
   refine i4 (λσ' H2=>∃v,C5 (σ'=[some (Z9 x.p),some (Z9 x.r),some (Z9 l.S),some (Z_ ce),some (Z9 rm),some (Z_ sd),some (Z_ (0+(i:Int))),none,none,none,none]) ((kd (.int v)).isSome=true) ((ot v=true->v/2∈cs.map Cl.p)) (H2 l.h=some (.lst ((hw.set i v).map Z_))) (∀b u,H' b=some u->b≠l.h->H2 b=some u)) (λR hR=> ?_) ?_
   ·simp only[iZ,jd,tC,i3,jX,i9,xD,kL,kJ,E4,aa,ae,l2.s,u7]
    refine⟨l.C,cs,sd,rfl,l2.cw.dc,cl,λH2 s2=> ?_⟩
    dsimp only
    obtain⟨v1,v2⟩:=FH (ks:=cs.map Cl.p) (s:=sd) λp hp=>⟨(g.places hp).1,fS (g.places hp).2.1 (by decide)⟩
    generalize Eo _ _=v at*
    rw[s2 _ _ l2.s]
    dsimp only
    rw[ER]
    dsimp only
    rw[s2 _ _ l2.h]
    dsimp only
    rw[Fw (show(0:Int)<=0+(i:Int) by lia) (show(0:Int)+i<=hw.length-1 by lia),show(0+(i:Int)).toNat=i by lia]
    dsimp only
    rw[AI]
    exact hR _ _ ⟨v,rfl,v1,v2,iS,λb u e n=>by rw[iW n];exact s2 _ _ e⟩
   rintro _ H2 ⟨v,rfl,v1,v2,e2,f2⟩
   have w2:=w.fr (H':=H2) λb u e z=>f2 b u e λy=>by
    rcases z with z|z
    ·exact xl b z l.h (by simp[ll]) y
    ·rw[y,l2.h]at e;cases e;cases z
   obtain⟨dr,er⟩:=w2.ro
   obtain⟨dh,eh⟩:=w2.hd.ob
   simp only[jB,ke,iZ,jd,tC,i3,DO,and_assoc,↓jj,↓jg,kL,kJ,aa,ae,V.ref.injEq,ag,and_true,true_and,exists_eq_left',exists_and_left,jU,oq,ql,er,T.jR,T.lD,Eb,eh,KO,f2 _ _ l2.s ndl.1.1,ER,e2,A2 (ws:=hw.set i v) (show(0:Int)<=0+(i:Int) by lia) (show(0:Int)+i<=(hw.set i v).length-1 by rw[bf];lia),vj]
   have ev:(hw.set i v).getD (0+(i:Int)).toNat 0=v:=by rw[show(0+(i:Int)).toNat=i by lia,xH,if_pos ⟨rfl,by lia⟩]
   rw[ev]
   refine⟨x.g,hw,w2.hd,aD,aD,?_⟩
   obtain⟨z,ez⟩:=Option.isSome_iff_exists.mp v1
   rw[if_pos (DI (by lia) (by lia)),ez,show(iv (Z_ (0+(i:Int)))).toNat=i by show(0+(i:Int)).toNat=i;lia]
   dsimp only
   have h3:=w2.hd.put i v
   have f3:∀b u,H2 b=some u->b≠x.g->upd H2 x.g (.lst ((hw.set i v).map Z_)) b=some u:=λb u e n=>pY e n
   show R' _ (upd H2 x.g (.lst ((hw.set i v).map Z_)))
   generalize upd H2 x.g (.lst ((hw.set i v).map Z_))=H3 at*
   have w3:=w2.hand h3 f3
   have gl:∀b∈ll l cs,b≠x.g:=λb hb z=>xl x.g (by simp[mx]) b hb z.symm
   obtain⟨tas,et,ta⟩:=l2.t
   have f23:∀b u,H' b=some u->b∈ll l cs->b≠l.h->H3 b=some u:=λb u e hb n=>f3 _ _ (f2 _ _ e n) (gl b hb)
   refine hR' _ _ ⟨hw.set i v,sd,_,rfl,w3,⟨f23 _ _ l2.s (by simp[ll]) ndl.1.1,l2.cw.fr λb u e hb=>f23 b u e (by rw[vO];exact aO _ hb) λz=>ndl.2.1.2.2.2 (by rw[←z];exact hb),f3 _ _ e2 (gl _ (by simp[ll])),f23 _ _ l2.n (by simp[ll]) (aC ndl.2.1.1),⟨tas,f23 _ _ et (by simp[ll]) (aC ndl.2.1.2.1),ta.kt λb zs e=>f3 _ _ (f2 _ _ e λz=>by rw[z,l2.h]at e;cases e) λz=>by have:=f2 _ _ e (λz=>by rw[z,l2.h]at e;cases e);rw[z,w2.hd.ls]at this;cases this⟩,f23 _ _ l2.d (by simp[ll]) (aC ndl.2.1.2.2.1)⟩,{g with hl:=by rw[bf];exact g.hl,ho:=g.ho.set v1,hp:=λu hu hp=> ?_},st.trans (.of λb u e i n=>f3 _ _ (f2 _ _ e λz=>n (aO _ (by rw[z];simp[ll]))) λz=>n (bj _ (by rw[z];simp[mx]))),by rw[bf];exact ehl⟩
   rcases dD hu with hu|rfl
   ·exact g.hp u hu hp
   ·exact v2 hp
  rintro _ H1 ⟨hw,sd,a6,rfl,w1,l1,g1,st1⟩
  refine i4 (λσ' H'=>∃k:Int,C4 (σ'=[some (Z9 x.p),some (Z9 x.r),some (Z9 l.S),some (Z_ ce),some (Z9 rm),some (Z_ sd),a6,some (Z_ k),none,none,none]) (0<=k) (k<=3) (H1=H')) (λR hR=> ?_) ?_
  ·simp only[ke,tC,i3,jX,jq,m8,rE,tU,aV,aW,aa,ae,aw,ax,and_true,true_and]
   exact hR _ _ ⟨_,rfl,by lia,by lia,rfl⟩
  rintro _ _ ⟨k,rfl,k0,k3,rfl⟩
  have er1:=(st1.keep erm rfl nrm).1
  refine i4 (λσ' H'=>Y4 λcs' ws so sy=>C6 (σ'=[some (Z9 x.p),some (Z9 x.r),some (Z9 l.S),some (Z_ ce),some (Z9 rm),some (Z_ sd),a6,some (Z_ k),none,none,none]) (Wx A H' x {M with hw:=hw,ws:=ws,so:=so,sy:=sy}) (Lw H' l cs' {M with hw:=hw,ws:=ws,so:=so,sy:=sy}) ((mx x++ll l cs').Nodup) (Gv o y (N+1) cs' {M with hw:=hw,ws:=ws,so:=so,sy:=sy}) (uy (mx x++ll l cs) H H' (mx x++ll l cs'))) (λR hR=> ?_) ?_
  ·obtain⟨dp,ep⟩:=w1.ar.ob
   obtain⟨d1,eo⟩:=w1.ar.old
   have gso:=g1.so
   have gsy:=g1.sy
   dsimp only at gso gsy
   by_cases hc:k+1<=y/\M.so.t-M.so.b+k+1<=o
   ·refine Gp (λK1 hK=> ?_) ?_
    ·simp only[jC,ke,zu,jd,tC,i3,mP,UW,sJ,DO,jb,↓jj,↓jg,CL,zc,aa,ae,V.ref.injEq,ag,bh,and_true,true_and,exists_eq_left',exists_and_left,decide_eq_true_eq,↓jD,jU,oq,ql,er1,ep,T.jF,T.kK,Bq,eo,Dz,rp]
     rw[if_pos hc.1]
     refine⟨d1,_,_,_,rfl,?_⟩
     rw[decide_eq_true hc.2];exact hK
    ·simp only[jB,iZ,jd,tC,i3,i9,kL,kJ,aa,ae,l1.s,u7]
     refine⟨l.C,x,_,cs,o,y,k,N,1,rfl,w1,l1.cw,?_,g1,n12,k0,by lia,.inr rfl,by dsimp only;lia,λ_=>by dsimp only;lia,λH2 t r ws so sy w2 c2 n2 g2 _ _ st2=> ?_⟩
     ·exact(List.nodup_append.mp (G8.nodup (by rw[←vO];exact nd))).2.1
     obtain⟨a1,a2,a3⟩:=l1.step (M':={M with hw:=hw,ws:=ws,so:=so,sy:=sy}) w1 nd st2 c2 n2 rfl rfl rfl rfl
     exact hR _ _ ⟨_,ws,so,sy,rfl,w2,a1,a2,g2,st1.trans a3⟩
   ·refine Mz (λK1 hK=> ?_) ?_
    ·simp only[jC,ke,zu,jd,tC,i3,mP,UW,sJ,DO,jb,↓jj,↓jg,CL,zc,aa,ae,V.ref.injEq,ag,bh,and_true,true_and,exists_eq_left',exists_and_left,decide_eq_true_eq,↓jD,jU,oq,ql,er1,ep,T.jF,T.kK,Bq,eo,Dz,rp]
     split
     ·refine⟨d1,_,_,_,rfl,?_⟩
      rw[decide_eq_false (λz=>hc ⟨by assumption,z⟩)];exact hK
     ·exact hK
    ·exact hR _ _ ⟨cs,M.ws,M.so,M.sy,rfl,w1,l1,nd,{g1 with nn:=fM g1.nn},st1⟩
  rintro _ H3 ⟨cs',ws,so,sy,rfl,w3,l3,n3,g3,st3⟩
  have cl':cs'.length<=12:=by have:=g3.nn;lia
  have ndl3:=(List.nodup_append.mp n3).2.1
  simp only[ll,lc,bP,br,not_or]at ndl3
  have SC:l.S≠l.C:=ndl3.1.2.2.2.2.1
  refine i4 (λσ' H'=>Y2 λ(r:Addr) (ps:List Int)=>C5 (σ'=[some (Z9 x.p),some (Z9 x.r),some (Z9 l.S),some (Z_ ce),some (Z9 rm),some (Z_ sd),a6,some (Z_ k),some (Z9 r),none,none]) (ja H3 H') (H' r=some (.lst (ps.map Z_))) (ps.length<=12) (∀p∈ps,∃c∈cs',c.p=p/\c.w≠ [])) (λR hR=> ?_) ?_
  ·refine⟨l.C,va cs',l3.cw.dc,λob=> ?_⟩
   have f9:∀b u,H3 b=some u->b≠l.C->upd H3 l.C (.rN ob (.dK (va cs'))) b=some u:=λb u e n=>pY e n
   have e9:upd H3 l.C (.rN ob (.dK (va cs'))) l.C=some (.rN ob (.dK (va cs'))):=iS
   generalize upd H3 l.C (.rN ob (.dK (va cs')))=H5 at*
   have eS5:=f9 _ _ l3.s SC
   simp only[tC,i3,jX,jq,tJ,uR,kL,kJ,ak,av,aa,ae,aw,ax,eS5,u7,e9,Ca]
   refine Ey (λi ys H'=>ja H5 H'/\∃ps:List Int,ys=ps.map Z_/\ps.length<=i/\∀p∈ps,∃c∈cs',c.p=p/\c.w≠ []) ⟨ja.refl _,[],rfl,aI _,λp hp=>by cases hp⟩ (λi ys H' hP=>hP.1 _ _ e9) (by rw[va,aj];exact aH cl' (by decide)) (λi ys H' ⟨_,ps,e,hl,_⟩=>by rw[e,aj];exact hl) (λi kv ys H' hkv hP K1 hK1=> ?_) λys H' hP r hr=> ?_
   ·obtain⟨s6,ps,rfl,hl,hp⟩:=hP
    rw[va,aS]at hkv
    obtain⟨c,hc,rfl⟩:=Option.map_eq_some_iff.mp hkv
    have hc':=cz hc
    have er6:=s6 _ _ (f9 _ _ (l3.cw.row c hc') (jL (l3.cw.row c hc') l3.cw.dc))
    simp only[jC,ke,jd,tC,i3,xU,eqv,↓reduceIte,aN,iS,BY,BZ,kL,kJ,ai,aa,ae,true_and,Qr,↓jD,kV,cX,s6 _ _ eS5,u7,s6 _ _ e9,zD,sP,F4 g3.mr.nd hc',bG]
    intro p hp9
    rw[ja.upd hp9 _ _ er6]
    dsimp only
    have s7:=s6.trans (ja.upd (o:= .lst []) hp9)
    generalize upd H' p (.lst [])=H7 at*
    cases ecw:c.w with
    |nil=>
     rw[av,if_pos rfl]
     exact hK1 _ _ ⟨s7,ps,rfl,fM hl,hp⟩
    |cons a b=>
     rw[if_neg (by simp)]
     refine hK1 _ _ ⟨s7,ps++[c.p],by rw[bo];rfl,by rw[aY];exact dG hl,λp hp'=> ?_⟩
     rcases List.mem_append.mp hp' with z|z
     ·exact hp p z
     ·rw[List.mem_singleton.mp z];exact⟨c,hc',rfl,by rw[ecw];simp⟩
   ·obtain⟨s6,ps,rfl,hl,hp⟩:=hP
    have e10:=ja.upd (o:= .lst (ps.map Z_)) hr _ _ (s6 _ _ e9)
    have nr:r≠l.C:=aC (iT (s6 _ _ e9) hr)
    refine⟨e10,hR _ _ ⟨r,ps,rfl,λb u e=> ?_,by rw[iW nr,iS],by rw[va,aj]at hl;lia,hp⟩⟩
    by_cases c:b=l.C
    ·rw[c,iS,←l3.cw.dc,←c,e]
    ·rw[iW c];exact ja.upd hr _ _ (s6 _ _ (f9 _ _ e c))
  rintro _ H4 ⟨r,ps,rfl,s4,er4,pl,hp⟩
  have w4:=w3.same s4
  have l4:=l3.fr λb u e _=>s4 b u e
  have st4:=st3.trans (uy.same s4)
  by_cases c0:ps=[]
  ·refine yq (ja H4) (λK1 hK=> ?_) λH' s'=>h H' cs' _ (w4.same s') (l4.fr λb u e _=>s' b u e) n3 g3 rfl (st4.trans (uy.same s'))
   simp only[jC,ke,jd,i3,xU,eqv,iS,BY,BZ,ai,aa,ae,true_and,Qr,↓jD]
   intro p hp9
   rw[ja.upd hp9 _ _ er4]
   dsimp only
   rw[c0,av,if_pos rfl]
   exact hK _ (ja.upd hp9)
  refine Tf (ja H4) (λK1 hK=> ?_) λH5 s5=> ?_
  ·simp only[jC,ke,jd,i3,xU,eqv,iS,BY,BZ,ai,aa,ae,true_and,Qr,↓jD]
   intro p hp9
   rw[ja.upd hp9 _ _ er4]
   dsimp only
   rw[if_neg (by rw[aj];exact λz=>c0 (List.length_eq_zero_iff.mp z))]
   exact hK _ (ja.upd hp9)
  have w5:=w4.same s5
  have l5':=l4.fr λb u e _=>s5 b u e
  have st5:=st4.trans (uy.same s5)
  have er5:=s5 _ _ er4
  have pos:0<ps.length:=List.length_pos_iff.mpr c0
  refine i4 (λσ' H'=>∃c∈cs',c.w≠ []/\σ'=[some (Z9 x.p),some (Z9 x.r),some (Z9 l.S),some (Z_ ce),some (Z9 rm),some (Z_ sd),a6,some (Z_ k),some (Z9 r),some (Z_ c.p),none]/\H5=H') (λR hR=> ?_) ?_
  ·have i0:=d8 (sd/84) (show(ps.length:Int)≠0 by lia)
   have i1:=dO (sd/84) (show(0:Int)<ps.length by lia)
   simp only[ke,Bg,iZ,jd,tC,i3,jX,jq,m8,rE,DO,zF,tU,aV,aW,aa,ae,aw,ax,and_true,true_and,er5,aj]
   refine⟨by lia,?_⟩
   rw[A2 i0 (by lia)]
   have hm:ps.getD (sd/84%ps.length).toNat 0∈ps:=by
    rw[az,au (by lia)];exact bq _
   obtain⟨c,hc,ec,ne⟩:=hp _ hm
   exact hR _ _ ⟨c,hc,ne,by rw[ec],rfl⟩
  rintro _ _ ⟨c,hc,ne,rfl,rfl⟩
  have wpos:0<c.w.length:=List.length_pos_iff.mpr ne
  obtain⟨q0,q1,q2,_⟩:=g3.mr.cl c hc
  refine i4 (λσ' H'=>∃j:Nat,C3 (j<c.w.length) (σ'=[some (Z9 x.p),some (Z9 x.r),some (Z9 l.S),some (Z_ ce),some (Z9 rm),some (Z_ sd),a6,some (Z_ k),some (Z9 r),some (Z_ c.p),some (Z_ j)]) (H5=H')) (λR hR=> ?_) ?_
  ·have i0:=d8 (sd/5) (show(c.w.length:Int)≠0 by lia)
   have i1:=dO (sd/5) (show(0:Int)<c.w.length by lia)
   simp only[ke,Bg,iZ,jd,tC,i3,jX,jq,m8,rE,zF,tU,aV,aW,kL,kJ,aa,ae,aw,ax,and_true,true_and,l5'.s,u7,l5'.cw.dc,sP,F4 g3.mr.nd hc,bG,l5'.cw.row c hc,aj]
   refine⟨by lia,hR _ _ ⟨(sd/5%c.w.length).toNat,by lia,by rw[cP i0],rfl⟩⟩
  rintro _ _ ⟨j,hj,rfl,rfl⟩
  simp only[jB,iZ,jd,tC,i3,i9,kL,kJ,aa,ae,V.int.injEq,ag,and_true,exists_eq_left',l5'.s,u7,my]
  refine⟨l.C,cs',_,rfl,l5'.cw.dc,cl',λH6 s6=> ?_⟩
  obtain⟨v1,v2⟩:=FH (ks:=cs'.map Cl.p) (s:=nx sd) λp hp=>⟨(g3.places hp).1,fS (g3.places hp).2.1 (by decide)⟩
  generalize Eo _ _=v at*
  have w6:=w5.same s6
  have l6:=l5'.fr λb u e _=>s6 b u e
  refine⟨l.C,x,_,cs',o,y,N+1,c,j,v,rfl,w6,l6.cw,?_,g3,hc,hj,v1,v2,λH7 ks w7 c7 g7 st7=> ?_⟩
  ·exact(List.nodup_append.mp (G8.nodup (by rw[←vO];exact n3))).2.1
  obtain⟨a1,a2,a3⟩:=l6.step (cs':=zw cs' c.p j v) (M':={M with hw:=hw,ws:=ws.set (c.p.toNat+1+j) v,so:=so,sy:=sy,ks:=ks}) w6 n3 (by rw[MJ];exact st7) c7 (by rw[MJ];exact(List.nodup_append.mp (G8.nodup (by rw[←vO];exact n3))).2.1) rfl rfl rfl rfl
  exact h H7 _ _ w7 a1 a2 g7 rfl ((st5.trans (uy.same s6)).trans a3)
section
variable{o y:Int}{n:Nat}{cs cs':List Cl}{M M':Ms}{K:List Int}
theorem Gv.walk(g:Gv o y n cs M)(hK:Fi (EY cs) (oI M.hw) K)(s:Sl cs M K M'):∀i,i<=K.length->walks M'.ws 0 ((K.take i).map (K16.xX cs)) (qY cs K i)/\D_ 0 ((K.take i).map (K16.xX cs))=(bZ i).map (qY cs K)
 |0,_=>⟨rfl,rfl⟩
 |i+1,hi=>by
  obtain⟨h1,h2⟩:=g.walk hK s i (by lia)
  obtain⟨CF,tot⟩:=g.CF hK
  have oy:=g.oy
  have wl:=g.wl
  have sl:=s.len
  obtain⟨c,_,_,e2,e3,e4⟩:=g.xX (CF _ (bq (show i<K.length from hi)))
  have g1:=vI (cs:=cs) (show i<K.length from hi)
  have g2:=wX (cs:=cs) (K:=K) (i:=i+1) (j:=K.length) hi (aI _)
  have g3:=zX (cs:=cs) (K:=K) (i:=i) (by lia)
  have hw:=(s.cell i hi).1
  rw[e2]at hw
  rw[bC (show i<K.length from hi),bo,g1]
  refine⟨Hz h1 g3 (by lia) (n:=4*(c.w.length:Int)+2) ?_ (by rw[e3];lia),?_⟩
  ·rw[rg,hw,if_pos (by lia)]
   congr 1;lia
  ·rw[ak,av,Ea,h2,List.range_succ,bo,eJ];rfl
theorem Gv.Zz(g:Gv o y n cs M)(hK:Fi (EY cs) (oI M.hw) K)(s:Sl cs M K M')(w:Nw (oj cs K) cs K cs'):Std cs' M':=by
 have nd:=hK.nd
 obtain⟨h1,h2⟩:=g.walk hK s K.length (aI _)
 have es:(cs'.map λc=>1+(c.w.length:Int))=(K.take K.length).map (K16.xX cs):=by
  refine iw (by rw[aj,aj,bF,w.len]) λi hi _=> ?_
  rw[aj]at hi
  obtain⟨p,e1,_,e3⟩:=w.at_ i cs'[i] (au hi)
  have hi':i<K.length:=by rw[←w.len];exact hi
  rw[au hi']at e1
  simp only[b8,bF]
  rw[e3,aj,bg e1];rfl
 refine⟨by rw[s.so];exact g.so.1,by rw[s.sy],by rw[s.ss],s.ks,by rw[es,s.so];exact h1,by rw[es,h2,w.pl nd],λc hc=> ?_⟩
 obtain⟨i,hi,_,e1,e2⟩:=w.of nd hc
 rw[e1,(s.cell i hi).1,e2,aj]
end
noncomputable def wJ (A:Ad):Sp:=λvs H Q _=>Y7 λ(l:Lx) (x:Ax) (M:Ms) (cs:List Cl) (o y:Int) (n:Nat)=>C8 (vs=[.ref x.p,.ref x.r,.ref l.S]) (Wx A H x M) (Lw H l cs M) ((mx x++ll l cs).Nodup) (Gv o y n cs M) (n<=12) (M.sd.length<=100) (∀H' x' l' cs' M',x'.p=x.p->x'.r=x.r->l'.S=l.S->Wx A H' x' M'->Lw H' l' cs' M'->(mx x'++ll l' cs').Nodup->Gv o y n cs' M'->M'.sy.t=M'.sy.b->M'.sd.length<=M.sd.length+12->uy (mx x++ll l cs) H H' (mx x'++ll l' cs')->Q (.bl true) H')
theorem tm:i7 ["_law_areas","_law_roots","_law_s","_law_top","_law_found"] ["_law_areas","_law_roots","_law_s"] (iX uq):=fsc
theorem sX(T:Txt K mg A):jA P w K mg base (lG P w) true 14 A.lO A.mO ["_law_areas","_law_roots","_law_s"] (wJ A):=by
 refine T.pW.nP tm (λvs H Q E h=> ?_) (λcdv A' outer s H vs Q E hr hx h=> ?_)
 ·obtain⟨_,_,_,_,_,_,_,rfl,_⟩:=h
  rfl
 ·obtain⟨l,x,M,cs,o,y,n,rfl,wx,lw,nd,gv,n12,sl,h⟩:=h
  refine⟨_,mL.run (iP (ji (i:=3) tm.nd rfl lo (iV (IH T).mono hr rfl T.yk T.Bv.kp T.Ka hx (iN (iQ 2) iO)))
   (iP (ji (i:=4) tm.nd rfl lo (iV (G3 T).mono hr rfl T.wU T.zP.kp T.HS hx (iN (iQ 0) (iN (iQ 1) iO))))
   (iP (jo (mq (uH (kH (jz (jy yt (by rfl) T.qT PyProof.Rows.Boot.«isinstance» (iN (iQ 4) (iN (Fx T.O9 PyProof.Rows.Boot.«int») iO))) (λ_=>rfl))) (uH (jz (jy yt (by rfl) T.qT PyProof.Rows.Boot.«isinstance» (iN (iQ 4) (iN (Fx T.Lb PyProof.Rows.Boot.«bool») iO))) (λ_=>rfl)) (sT (jc N3 (iQ 4) (iQ 3) (jx _)))))) (iR (jf rA)) jh)
   (iR (jf (iV (G1 T).mono hr rfl T.wQ T.zN.kp T.HQ hx (iN (iQ 0) (iN (iQ 1) (iN (iQ 2) (iN (iQ 3) iO)))))))))),?_⟩
  have nn:=List.nodup_append.mp nd
  have Sm:l.S∈ll l cs:=by simp[ll]
  show jM _ _ _ [some (Z9 x.p),some (Z9 x.r),some (Z9 l.S),none,none] H
  refine i4 (λσ' H'=>Y3 λK l' cs'=>C8 (σ'=[some (Z9 x.p),some (Z9 x.r),some (Z9 l.S),some (Z_ (qY cs K K.length)),none]) (Fi (EY cs) (oI M.hw) K) (Lw H' l' cs' (Mv cs K M)) (l'.S=l.S) (Nw (oj cs K) cs K cs') ((∀b u,H b=some u->b≠l.S->H' b=some u)) ((∀b∈ll l' cs',b=l.S∨H b=none)) ((ll l' cs').Nodup)) (λR hR=> ?_) ?_
  ·simp only[iZ,jd,i3,jX,jq,i9,aa,ae,aw,ax]
   refine⟨l,cs,M,o,y,n,rfl,lw,gv,n12,nn.2.1,sl,λK l' cs' H' hK h1 h2 h3 h4 h5 h6=>hR _ _ ⟨K,l',cs',rfl,hK,h1,h2,h3,h4,h5,h6⟩⟩
  rintro _ H1 ⟨K,l',cs',rfl,hK,lw1,eS,nw,f1,fr1,nd1⟩
  have w1:=wx.fr (H':=H1) λb u e z=>f1 b u e λq=>by
   rcases z with z|z
   ·exact nn.2.2 b z l.S Sm q
   ·rw[q,lw.s]at e;cases e;cases z
  have nx1:∀b∈ll l' cs',b∉mx x:=λb hb z=>by
   rcases fr1 b hb with q|q
   ·exact nn.2.2 b z l.S Sm q
   ·exact nO wx.Bm q z
  refine i4 (λσ' H'=>Y2 λd M'=>C4 (σ'=[some (Z9 x.p),some (Z9 x.r),some (Z9 l.S),some (Z_ (qY cs K K.length)),some (Z_ (qY cs K K.length))]) (Sl cs M K M') (Wx A H' {x with d:=d} M') (uy (mx x) H1 H' (mx {x with d:=d}))) (λR hR=> ?_) ?_
  ·simp only[iZ,jd,i3,jX,jq,i9,aa,ae,aw,ax]
   refine⟨x,cs,M,o,y,n,rfl,w1,gv,n12,λK2 d M' H' hK2 h1 h2 h3=> ?_⟩
   have:=hK.uniq hK2
   subst this
   exact hR _ _ ⟨d,M',rfl,h1,h2,h3⟩
  rintro _ H2 ⟨d,M',rfl,s2,w2,st2⟩
  have g2:=gv.Zd hK s2 nw
  have sd2:=gv.Zz hK s2 nw
  obtain⟨tas,et,ta⟩:=lw1.t
  have kp:∀{b:Addr} {u:HO},H1 b=some u->Bx u=false->b∈ll l' cs'->H2 b=some u/\b∉mx {x with d:=d}:=λe i hb=>st2.keep e i (nx1 _ hb)
  have tt:∀b zs,H1 b=some (.tup zs)->H2 b=some (.tup zs):=λb zs e=>st2.1 b _ e rfl λz=>by
   obtain⟨u,eu,i⟩:=w1.Sf b z
   rw[e]at eu;cases eu;cases i
  have lw2:Lw H2 l' cs' M':=⟨(kp lw1.s rfl (by simp[ll])).1,lw1.cw.fr λb u e hb=>by
    obtain⟨u',e',i⟩:=lw1.cw.Bm b hb
    rw[e]at e';cases e'
    exact(kp e i (by rw[vO];exact aO _ hb)).1,by rw[s2.hw];exact(kp lw1.h rfl (by simp[ll])).1,by rw[s2.os];exact(kp lw1.n rfl (by simp[ll])).1,⟨tas,(kp et rfl (by simp[ll])).1,by rw[s2.ts];exact ta.kt tt⟩,by rw[s2.sd];exact(kp lw1.d rfl (by simp[ll])).1⟩
  have trk1:∀b∈ll l' cs',∃u,H1 b=some u/\Bx u=false:=λb hb=>by
   rw[vO]at hb
   rcases List.mem_append.mp hb with hb|hb
   ·simp only[l5,br,bI,or_false]at hb
    rcases hb with rfl|rfl|rfl|rfl|rfl
    ·exact⟨_,lw1.s,rfl⟩
    ·exact⟨_,lw1.h,rfl⟩
    ·exact⟨_,lw1.n,rfl⟩
    ·exact⟨_,et,rfl⟩
    ·exact⟨_,lw1.d,rfl⟩
   ·exact lw1.cw.Bm b hb
  have nd2:(mx {x with d:=d}++ll l' cs').Nodup:=List.nodup_append.mpr ⟨w2.nd,nd1,λa ha b hb z=>by
   obtain⟨u,e,i⟩:=trk1 b hb
   exact(kp e i hb).2 (by rw[←z];exact ha)⟩
  have nn2:=(List.nodup_append.mp nd2).2.2
  have st:uy (mx x++ll l cs) H H2 (mx {x with d:=d}++ll l' cs'):=by
   refine⟨λb u e i z=>st2.1 b u (f1 b u e λq=>z (aO _ (by rw[q];exact Sm))) i λq=>z (bj _ q),λb hb=> ?_⟩
   rcases List.mem_append.mp hb with hb|hb
   ·rcases st2.2 b hb with z|z
    ·exact .inl (bj _ z)
    ·by_cases q:b=l.S
     ·exact .inl (aO _ (by rw[q];exact Sm))
     ·exact .inr λu e=>z u (f1 b u e q)
   ·rcases fr1 b hb with z|z
    ·exact .inl (aO _ (by rw[z];exact Sm))
    ·exact .inr λu e=>by rw[z]at e;cases e
  have sdl:M'.sd.length<=M.sd.length+12:=by
   rw[s2.sd]
   show(M.sd++zp (oj cs K) (j4 0 M.ts)).length<=_
   rw[aY]
   have h1:(zp (oj cs K) (j4 0 M.ts)).length<=(j4 0 M.ts).length:=dF ..
   have h2:=xV (ws:=M.ts) (k:=0)
   have h3:=gv.tn
   lia
  have nx2:∀{a b:Addr},a∈ll l' cs'->b∈mx {x with d:=d}->a≠b:=λha hb z=>nn2 _ hb _ ha z.symm
  have Nm:l'.N∈ll l' cs':=by simp[ll]
  have Cm:l'.C∈ll l' cs':=by simp[ll,lc]
  have xd:d∈mx {x with d:=d}:=by simp[mx]
  have xe:x.e∈mx {x with d:=d}:=by simp[mx]
  simp only[kU,kj,jM,kM,jC,ke,Pt,q9,Bg,iZ,jd,tC,i3,i9,Uq,eqv,R1,Vp,jb,pX,↓reduceIte,aN,gK,decide_true,bR,aa,ae,true_and,exists_eq_left,aM,↓jD,Wo,NB,T.yy,T.wD]
  refine⟨l',{x with d:=d},cs',M',o,y,n,by rw[s2.so,eS],w2,lw2,g2,n12,sd2,by lia,nx2 Nm xe,nx2 Nm xd,nx2 Cm xd,nx2 Cm xe,nd1,λH' s'=> ?_⟩
  exact h H' {x with d:=d} l' cs' M' rfl rfl eS (w2.same s') (lw2.fr λb u e _=>s' b u e) nd2 g2 sd2.y sdl (st.trans (uy.same s'))
noncomputable def WN (K:aA) (H:Hp) (a:Addr) (ns:List Int):Prop:=(∃o,H a=some (.rN o (.lst (ns.map Z_))))∨∀H',mj K H' a (ns.map Z_)
theorem Y_{K:aA}{H:Hp}{a p:Addr}{ns:List Int}(hO:OH [p] H)(h:mj K H a (ns.map Z_)):WN K H a ns:=by
 rcases h with (h|⟨o,h⟩)|h
 ·by_cases z:a∈ [p]
  ·rw[hO.2 a z]at h;cases h
  ·rcases hO.1 a z with y|⟨o,xs,y⟩<;>rw[y]at h<;>cases h
 ·exact .inl ⟨o,h⟩
 ·exact .inr λH'=> .inr h
noncomputable def Sc (K:aA) (H:Hp) (L:List Addr) (a:Addr) (ns:List Int):Prop:=(∃o,H a=some (.rN o (.lst (ns.map Z_)))/\a∉L)∨∀H',mj K H' a (ns.map Z_)
theorem Sc.sq{K:aA}{H:Hp}{L:List Addr}{a:Addr}{ns:List Int}(h:Sc K H L a ns):mj K H a (ns.map Z_):=h.elim (λ⟨o,e,_⟩=> .inl (.inr ⟨o,e⟩)) λh=>h H
theorem Sc.Ud{K:aA}{H H':Hp}{L L':List Addr}{a:Addr}{ns:List Int}(h:Sc K H L a ns)(s:uy L H H' L'):Sc K H' L' a ns:=h.imp (λ⟨o,e,n⟩=>⟨o,s.keep e rfl n⟩) id
theorem Pg{G:Hp}{x dx:Addr}{o:HO}(hx:G x=none)(hd:G dx=none):ja G (upd (upd G dx (HO.own x)) x o):=λb u e=>by rw[iW (iT e hx),iW (iT e hd)];exact e
theorem qZ.XC{H:Hp}{as:List V}(h:qZ H as []):as=[]:=by cases h;rfl
noncomputable def Qv (K:aA) (A:Ad) (H:Hp) (a:Addr) (ns:List Int) (rm:Addr) (o y:Int) (p r S:Addr) (n b:Nat) (e:Prop):Prop:=∃(x:Ax) (l:Lx) (cs:List Cl) (M:Ms),x.p=p/\x.r=r/\l.S=S/\Wx A H x M/\Lw H l cs M/\(mx x++ll l cs).Nodup/\Gv o y n cs M/\M.sd.length<=b/\(e->M.sy.t=M.sy.b)/\H rm=some (.lst [Z_ o,Z_ y])/\rm∉mx x++ll l cs/\Sc K H (mx x++ll l cs) a ns
theorem Qv.U_{K:aA}{A:Ad}{H:Hp}{a rm p r S:Addr}{ns:List Int}{o y:Int}{n b:Nat}{e:Prop}{Q:V->Hp->Prop}{E:XK}(h:Qv K A H a ns rm o y p r S n b e)(n12:n<=12)(hb:b<=100)(q:∀H',Qv K A H' a ns rm o y p r S n (b+12) True->Q (.bl true) H'):wJ A [.ref p,.ref r,.ref S] H Q E:=by
 obtain⟨x,l,cs,M,rfl,rfl,rfl,w,lw,nd,g,sl,_,er,nr,sc⟩:=h
 refine⟨l,x,M,cs,o,y,n,rfl,w,lw,nd,g,n12,by lia,λH' x' l' cs' M' e1 e2 e3 w' l'' nd' g' ty sl' st=>q H' ⟨x',l',cs',M',e1,e2,e3,w',l'',nd',g',by lia,λ_=>ty,(st.keep er rfl nr).1,(st.keep er rfl nr).2,sc.Ud st⟩⟩
noncomputable def FE (K:aA) (p:Addr):Sp:=λvs H Q _=>Y2 λ(a:Addr) (ns:List Int)=>C5 (vs=[.ref a]) (WN K H a ns) (ns.length<=63) (H p=some (.CB #[])) (∀H',Q (.bl true) H')
noncomputable def Wk (K:aA) (A:Ad):Sp:=FE K A.jN
theorem AG:i7 ["_law_script","_law_rooms","_law_areas","_law_many","_law_roots","_law_s","_law_hand","_law_k"] ["_law_script"] (iX JJ):=fsc
theorem VG(T:Txt K mg A):jA P w K mg base (lG P w) true 15 A.Mo A.OS ["_law_script"] (Wk K A):=by
 refine T.Ve.nP AG (λvs H Q E h=> ?_) (λcdv A' outer s H vs Q E hr hx h=> ?_)
 ·obtain⟨_,_,rfl,_⟩:=h
  rfl
 ·obtain⟨a,ns,rfl,hS,l63,et,q⟩:=h
  refine⟨_,mL.run (iP (ji (i:=1) AG.nd rfl lo (lu (iN (iY jv iU (iY kf (iV (lb T).mono hr rfl T.kF T.kI.kp T.lB hx (iN (iQ 0) (iN iU iO))) iU)) (iN (iY jv iU (iY kf (iY j3 (iV (lb T).mono hr rfl T.kF T.kI.kp T.lB hx (iN (iQ 0) (iN iU iO))) iU) iU)) iO))))
   (iP (ji (i:=2) AG.nd rfl lo (rR T.GO (Iv T).mono hr rfl T.KA T.JZ hx (iN (ky lP (iQ 1) iU (λ_ _=>rfl)) (iN (ky lP (iQ 1) iU (λ_ _=>rfl)) iO))))
   (iP (jo (jc rQ (iY kf (iV (lb T).mono hr rfl T.kF T.kI.kp T.lB hx (iN (iQ 0) (iN iU iO))) iU) iU (jx _)) (iR (i6 (kr (iQ 2) T.jF T.K0 (Iu T).mono hr T.JY hx))) jh)
   (iP (ji (i:=3) AG.nd rfl lo (iY jv iU (iY kf (iV (lb T).mono hr rfl T.kF T.kI.kp T.lB hx (iN (iQ 0) (iN iU iO))) iU)))
   (iP (ji (i:=4) AG.nd rfl lo (rR T.GR (IF T).mono hr rfl T.KG T.J9 hx (iN (iQ 3) iO)))
   (iP (ji (i:=5) AG.nd rfl lo (PY (vM i5 (iV (Lk T).mono hr rfl T.zW T.C_.kp T.Mb hx (iN (iQ 2) (iN (iQ 1) (iN (iQ 0) iO)))) (vM i5 (lu iO) (vM i5 mU (vM i5 (lu iO) (vM i5 (lu iO) PZ)))))))
   (iP (i6 (iV (G0 T).mono hr rfl T.wO T.zL.kp T.HP hx (iN (iQ 2) (iN (iQ 4) (iN (jk (by exact jw hr) (iQ 5) i5 (λ_ _=>rfl)) (iN (iV (nM T).mono hr rfl T.mI T.ml.kp T.oN hx (iN (iV (lb T).mono hr rfl T.kF T.kI.kp T.lB hx (iN (iQ 0) (iN iU iO))) iO)) iO))))))
   (iP (k7 hx.own rfl (oY rfl T.rB (iN (iQ 3) iO)) (jO (i:=6) AG.nd rfl lo)
    (iP (i6 (Cb cu cx rP (jk (by exact jw hr) (iQ 5) i5 (λ_ _=>rfl)) (iN (iV (vg T).mono hr rfl T.sE T.sQ.kp T.wc hx (iN (jk (by exact jw hr) (iQ 5) i5 (λ_ _=>rfl)) (iN (iV (nM T).mono hr rfl T.mI T.ml.kp T.oN hx (iN (iY jv (iV (lb T).mono hr rfl T.kF T.kI.kp T.lB hx (iN (iQ 0) (iN iU iO))) (iY uG iU (iQ 6))) iO)) iO))) iO)))
   (iR (i6 (jr (i8 (iQ 4) rfl) T.qa T.z_ (yE T).mono hr T.zA hx (iN (iQ 6) (iN (ky lP (jk (by exact jw hr) (iQ 5) i5 (λ_ _=>rfl)) (iQ 6) (λ_ _=>rfl)) iO)))))))
   (iP (i6 (iV (G2 T).mono hr rfl T.wR T.zO.kp T.HR hx (iN (iQ 4) (iN (jk (by exact jw hr) (iQ 5) i5 (λ_ _=>rfl)) (iN (iQ 0) (iN (jk (by exact jw hr) (iQ 5) i5 (λ_ _=>rfl)) (iN (jk (by exact jw hr) (iQ 5) i5 (λ_ _=>rfl)) iO)))))))
   (iP (jo (kH (jz (iV (sX T).mono hr rfl T.oG T.pW.kp T.tW hx (iN (iQ 2) (iN (iQ 4) (iN (iQ 5) iO)))) (λ_=>rfl))) (iR (jf rA)) jh)
   (iP (k7 hx.own rfl (oY rfl T.rB (iN iU iO)) (jO (i:=7) AG.nd rfl lo)
    (iP (jo (kH (jz (iV (sX T).mono hr rfl T.oG T.pW.kp T.tW hx (iN (iQ 2) (iN (iQ 4) (iN (iQ 5) iO)))) (λ_=>rfl))) (iR (jf rA)) jh)
   (iP (i6 (iV (E9 T).mono hr rfl T.vE T.zf.kp T.FN hx (iN (iQ 2) (iN (iQ 4) (iN (iQ 5) (iN (iV (lb T).mono hr rfl T.kF T.kI.kp T.lB hx (iN (iQ 0) (iN (iY jv iU (iQ 7)) iO))) (iN (iQ 1) iO)))))))
   (iR (jo (kH (jz (iV (sX T).mono hr rfl T.oG T.pW.kp T.tW hx (iN (iQ 2) (iN (iQ 4) (iN (iQ 5) iO)))) (λ_=>rfl))) (iR (jf rA)) jh)))))
   (iR (jf rA))))))))))))),?_⟩
  have hS0:mj K H a (ns.map Z_):=hS.elim (λ⟨o,e⟩=> .inl (.inr ⟨o,e⟩)) λh=>h H
  show jM _ _ _ [some (Z9 a),none,none,none,none,none,none,none] H
  refine i4 (λσ' H'=>Y3 λ(o y:Int) (rm:Addr)=>C8 (σ'=[some (Z9 a),some (Z9 rm),none,none,none,none,none,none]) (20<=o) (o<=80) (4<=y) (y<=20) (H rm=none) (ja H H') (H' rm=some (.lst [Z_ o,Z_ y]))) (λR hR=> ?_) ?_
  ·simp only[ke,iZ,jd,tC,i3,xU,jX,jq,i9,mP,m8,rE,and_assoc,tU,aV,aW,cQ,ao,af,ai,aa,aw,ax,V.int.injEq,V.ref.injEq,ag,and_true,true_and,exists_eq_left',exists_and_left,aq,Wl,lg]
   refine⟨ns,hS0,ns,hS0,λp hp=>hR _ _ ⟨_,_,p,rfl,?_,?_,?_,?_,hp,ja.upd hp,iS⟩⟩<;>lia
  rintro _ H1 ⟨o,y,rm,rfl,o0,o1,y0,y1,hrm,s1,erm⟩
  refine i4 (λσ' H'=>Y6 λ(p m q O Y S:Addr)=>C5 (σ'=[some (Z9 a),some (Z9 rm),some (Z9 p),none,none,none,none,none]) (pZ A.jm A.i_ A.je H' p m q O Y S (ah (o+2*y).toNat (-1)) ⟨0,o,0⟩ ⟨o,o+y,o⟩ ⟨o+y,o+2*y,o+y⟩) (ja H1 H') (H1 q=none) (H1 p=none)) (λR hR=> ?_) ?_
  ·simp only[ke,iZ,jd,tC,i3,jX,jq,DO,and_assoc,aT,iS,rT,CL,zc,aa,ae,aw,ax,V.ref.injEq,ag,bh,and_true,true_and,exists_eq_left',exists_and_left,erm,BH]
   intro p dx hp hd _
   have s9:=Pg (o:= .ins A.jm dx []) hp hd
   generalize upd (upd H1 dx (HO.own p)) p (HO.ins A.jm dx [])=G at*
   refine⟨dx,rfl,aD,aD,?_⟩
   rw[if_pos ⟨DI (by lia) (by lia),DI (by lia) (by lia)⟩]
   exact λm q O Y S H' ar f n=>hR _ _ ⟨p,m,q,O,Y,S,rfl,ar,λb u e=>f b u (s9 b u e) (iT e hp),s9.free n.2.1,hp⟩
  rintro _ H2 ⟨p,m,q',O,Y,S,rfl,a2,s2,hq2,hp2⟩
  have hS2:=(s1.trans s2).seq hS0
  refine i4 (λσ' H'=>Y4 λ(Y S:Addr) (sy ss:S3)=>C4 (σ'=[some (Z9 a),some (Z9 rm),some (Z9 p),none,none,none,none,none]) (pZ A.jm A.i_ A.je H' p m q' O Y S (ah (o+2*y).toNat (-1)) ⟨0,o,0⟩ sy ss) (ja H1 H') ((sy=⟨o,o+y,o⟩/\ss=⟨o+y,o+2*y,o+y⟩∨ss=⟨o,o+y,o⟩/\sy=⟨o+y,o+2*y,o+y⟩))) (λR hR=> ?_) ?_
  ·obtain⟨dp,ep⟩:=a2.ob
   simp only[kj,jB,kM,jC,ke,iZ,jd,tC,i3,i9,rE,Md,eqv,and_assoc,aV,aW,cQ,↓jg,aa,ae,V.int.injEq,V.ref.injEq,ag,bh,and_true,true_and,exists_eq_left',exists_and_left,decide_eq_true_eq,↓jD,ql,lg,BG,ep,Qz]
   refine⟨ns,hS2,?_⟩
   split
   ·refine⟨dp,m,O,Y,S,rfl,hR _ _ ⟨S,Y,_,_,rfl,a2.flip iS λb u e n=>pY e n,λb u e=>by rw[iW (iT e hp2)];exact s2 b u e,.inr ⟨rfl,rfl⟩⟩⟩
   ·exact hR _ _ ⟨Y,S,_,_,rfl,a2,s2,.inl ⟨rfl,rfl⟩⟩
  rintro _ H3 ⟨Y,S,sy,ss,rfl,a3,s3,hsy⟩
  have hS3:=(s1.trans s3).seq hS0
  refine i4 (λσ' H'=>∃h:Int,C4 (σ'=[some (Z9 a),some (Z9 rm),some (Z9 p),some (Z_ h),none,none,none,none]) (1<=h) (h<=6) (H3=H')) (λR hR=> ?_) ?_
  ·simp only[ke,iZ,jd,tC,i3,jX,jq,i9,mP,rE,and_assoc,aV,aW,cQ,aa,aw,ax,V.int.injEq,V.ref.injEq,ag,and_true,true_and,exists_eq_left',exists_and_left,lg]
   exact⟨ns,hS3,hR _ _ ⟨_,rfl,by lia,by lia,rfl⟩⟩
  rintro _ _ ⟨h,rfl,h1,h6,rfl⟩
  refine i4 (λσ' H'=>∃x:Ax,C5 (σ'=[some (Z9 a),some (Z9 rm),some (Z9 x.p),some (Z_ h),some (Z9 x.r),none,none,none]) (Wx A H' x ⟨ah (o+2*y).toNat (-1),⟨0,o,0⟩,sy,ss,ah h.toNat (-1),[],[],[],[]⟩) (H' rm=some (.lst [Z_ o,Z_ y])) (rm∉mx x) (Sc K H' (mx x) a ns)) (λR hR=> ?_) ?_
  ·simp only[iZ,jd,i3,jX,jq,and_assoc,aT,iS,rT,aa,ae,aw,ax,V.ref.injEq,ag,bh,and_true,true_and,exists_eq_left',exists_and_left,BP]
   intro r dx hr hd _
   have s9:=Pg (o:= .ins A.jK dx []) hr hd
   generalize upd (upd H3 dx (HO.own r)) r (HO.ins A.jK dx [])=G at*
   refine⟨dx,rfl,aD,?_⟩
   rw[if_pos (DI (by lia) (by lia))]
   intro hh g b d W H' h2 h3 h4 h5 rt wl ne n3 f
   have s4:ja H3 H':=λc u e=>f c u (s9 c u e) (iT e hr)
   have eq3:=s9 _ _ a3.mem.ls
   have nq:∀c,G c=none->q'≠c:=λc e z=>by rw[z,e]at eq3;cases eq3
   obtain⟨es,le⟩:=wl.ls
   have w:Wx A H' ⟨p,m,q',O,Y,S,r,hh,g,b,d,W.w,W.wq,W.l,W.ld,W.lq⟩ ⟨ah (o+2*y).toNat (-1),⟨0,o,0⟩,sy,ss,ah h.toNat (-1),[],[],[],[]⟩:=
    ⟨a3.same s4,wl.ob,rt.hd,rt.bk,wl.wk,wl.ls,DM.new (s4 _ _ ((s1.trans s3) _ _ et)),by
     simp only[mx,bP,br,not_or,bI,not_false_eq_true,cN,and_true]
     exact⟨⟨nq _ h3,nq _ n3.1,nq _ n3.2.1,nq _ h5,nq _ n3.2.2⟩,⟨ne.1,ne.2.1,jL rt.hd.ls rt.bk.dc,jL rt.hd.ls le.dc⟩,⟨wl.ne,jL wl.wk.ls rt.bk.dc,jL wl.wk.ls le.dc⟩,⟨jL le.sq rt.bk.dc,jL le.sq le.dc⟩,ne.2.2⟩⟩
   have er:=s9 _ _ (s3 _ _ erm)
   refine hR _ _ ⟨⟨p,m,q',O,Y,S,r,hh,g,b,d,W.w,W.wq,W.l,W.ld,W.lq⟩,rfl,w,s4 _ _ (s3 _ _ erm),λz=> ?_,?_⟩
   ·simp only[mx,br,bI,or_false]at z
    rcases z with z|z|z|z|z|z<;>rw[z]at er erm
    ·rw[hq2]at erm;cases erm
    ·rw[h3]at er;cases er
    ·rw[n3.1]at er;cases er
    ·rw[n3.2.1]at er;cases er
    ·rw[h5]at er;cases er
    ·rw[n3.2.2]at er;cases er
   ·refine hS.imp (λ⟨o,e⟩=> ?_) id
    have e':=s4 _ _ ((s1.trans s3) _ _ e)
    refine⟨o,e',λz=> ?_⟩
    obtain⟨u,eu,i⟩:=w.Sf a z
    rw[e']at eu;cases eu;cases i
  rintro _ H4 ⟨x,rfl,w4,er4,nr4,sc4⟩
  have g4:Gv o y 0 [] ⟨ah (o+2*y).toNat (-1),⟨0,o,0⟩,sy,ss,ah h.toNat (-1),[],[],[],[]⟩:=by
   refine⟨⟨λ_ z=>(nomatch z),λ_ z=>(nomatch z),λ_ z=>(nomatch z),cN,?_⟩,by simp only[bw];lia,⟨o0,o1,y0,y1⟩,⟨rfl,rfl,eW _⟩,?_,?_,λ_ z=>(nomatch z),aI _,λ_ z=>(nomatch z),by simp only[bw];lia,?_,λv hv hp=> ?_,⟨cN,λ_ z=>(nomatch z)⟩,by simp,by simp⟩
   ·exact λw hw=>by rw[dE hw];rfl
   ·rcases hsy with ⟨rfl,rfl⟩|⟨rfl,rfl⟩
    ·exact⟨.inl ⟨rfl,rfl⟩,rfl,by show o+2*y=o+y+y;lia,eW _,by show o<=o+y;lia⟩
    ·exact⟨.inr ⟨rfl,rfl⟩,by show o+2*y=o+y+y;lia,rfl,eW _,by show o+y<=o+2*y;lia⟩
   ·show 0+(sy.t-sy.b)<=o
    rcases hsy with ⟨rfl,rfl⟩|⟨rfl,rfl⟩<;>dsimp only<;>lia
   ·exact λw hw=>by rw[dE hw];rfl
   ·rw[dE hv]at hp;cases hp
  have ty4:sy.t=sy.b:=by rcases hsy with ⟨rfl,rfl⟩|⟨rfl,rfl⟩<;>rfl
  refine i4 (λσ' H'=>Y3 λ(l:Lx) (cs:List Cl) (M:Ms)=>X8 (σ'=[some (Z9 a),some (Z9 rm),some (Z9 x.p),some (Z_ h),some (Z9 x.r),some (Z9 l.S),none,none]) (Wx A H' x M) (Lw H' l cs {M with hw:=[]}) ((mx x++ll l cs).Nodup) (Gv o y 10 cs M) (M.hw.length=h.toNat) (M.os=[]) (M.ts=[]) (M.sd=[]) (H' rm=some (.lst [Z_ o,Z_ y])) (rm∉mx x++ll l cs) (Sc K H' (mx x++ll l cs) a ns)) (λR hR=> ?_) ?_
  ·simp only[iZ,jd,tC,i3,xU,jX,jq,i9,uu,ai,aa,ae,aw,ax,true_and,Qr,R9,LS]
   intro S hS9
   have s5:=ja.upd (o:= .dK []) hS9
   have eS:upd H4 S (.dK []) S=some (.dK []):=iS
   generalize upd H4 S (.dK [])=H5 at*
   have nS:S∉mx x:=nO w4.Bm hS9
   refine⟨x,_,rm,a,o,y,ns,rfl,w4.same s5,g4,rfl,ty4,s5 _ _ er4,nr4,s5.seq sc4.sq,λC cs H6 ws so' sy' w6 c6 n6 g6 st6 hh p1 N p2 t p3 d p4=> ?_⟩
   obtain⟨eS6,nS6⟩:=st6.keep eS rfl nS
   obtain⟨er6,nr6⟩:=st6.keep (s5 _ _ er4) rfl nr4
   have sc6:Sc K H6 (mx x++lc C cs) a ns:=(sc4.Ud (uy.same s5)).Ud st6
   have trk6:=FG w6.Bm c6.Bm
   have sA:=ja.upd (o:= .lst []) p1
   have eA:upd H6 hh (.lst []) hh=some (.lst []):=iS
   generalize upd H6 hh (.lst [])=HA at*
   have sB:=ja.upd (o:= .dK []) p2
   have eB:upd HA N (.dK []) N=some (.dK []):=iS
   generalize upd HA N (.dK [])=HB at*
   have sC:=ja.upd (o:= .lst []) p3
   have eC:upd HB t (.lst []) t=some (.lst []):=iS
   generalize upd HB t (.lst [])=HC at*
   have sD:=ja.upd (o:= .lst []) p4
   have eD:upd HC d (.lst []) d=some (.lst []):=iS
   generalize upd HC d (.lst [])=HD at*
   have sAD:=(sA.trans sB).trans (sC.trans sD)
   have eSD:=sAD _ _ eS6
   refine⟨eSD,[(.inr "cells",.ref C),(.inr "hands",.ref hh),(.inr "names",.ref N),(.inr "tickets",.ref t),(.inr "said",.ref d)],rfl,by simp,?_⟩
   have em:D7 [] [(.inr "cells",Z9 C),(.inr "hands",.ref hh),(.inr "names",.ref N),(.inr "tickets",.ref t),(.inr "said",.ref d)]=CI ⟨S,C,hh,N,t,d⟩:=by kernel_rfl
   rw[em]
   have f9:∀b u,HD b=some u->b≠S->upd HD S (.dK (CI ⟨S,C,hh,N,t,d⟩)) b=some u:=λb u e n=>pY e n
   have e9:upd HD S (.dK (CI ⟨S,C,hh,N,t,d⟩)) S=some (.dK (CI ⟨S,C,hh,N,t,d⟩)):=iS
   generalize upd HD S (.dK (CI ⟨S,C,hh,N,t,d⟩))=H9 at*
   have k6:Kp (mx x) H4 H6:=λb u e i n=>st6.1 b u (s5 _ _ e) i n
   have kA:Kp (mx x) H4 HA:=λb u e i n=>sA _ _ (k6 b u e i n)
   have kB:Kp (mx x) H4 HB:=λb u e i n=>sB _ _ (kA b u e i n)
   have kC:Kp (mx x) H4 HC:=λb u e i n=>sC _ _ (kB b u e i n)
   have t6:∀b∈mx x++lc C cs,∃u,H6 b=some u:=λb hb=>let ⟨u,e,_⟩:=trk6 b hb;⟨u,e⟩
   have o6:∀{b:Addr} {u:HO} {G:Hp} {z:Addr},ja H6 G->H6 b=some u->G z=none->z≠b:=λs e n y=>by rw[←y]at e;rw[s _ _ e]at n;cases n
   have nn:∀{G:Hp} {z:Addr},ja H6 G->G z=none->z∉mx x++lc C cs:=λs n y=>let ⟨u,e⟩:=t6 _ y;o6 s e n rfl
   have sB6:=sA.trans sB
   have sC6:=sB6.trans sC
   have h1:=nn (ja.refl _) p1
   have h2:=nn sA p2
   have h3:=nn sB6 p3
   have h4:=nn sC6 p4
   have hS1:=o6 (ja.refl _) eS6 p1
   have hS2:=o6 sA eS6 p2
   have hS3:=o6 sB6 eS6 p3
   have hS4:=o6 sC6 eS6 p4
   have q1:N≠hh:=aC (iT eA p2)
   have q2:t≠hh:=aC (iT (sB _ _ eA) p3)
   have q3:t≠N:=aC (iT eB p3)
   have q4:d≠hh:=aC (iT (sC _ _ (sB _ _ eA)) p4)
   have q5:d≠N:=aC (iT (sC _ _ eB) p4)
   have q6:d≠t:=aC (iT eC p4)
   have nd9:(mx x++ll ⟨S,C,hh,N,t,d⟩ cs).Nodup:=by
    rw[vO]
    refine G8.symm.nodup (List.nodup_append.mpr ⟨?_,n6,λb hb c hc z=> ?_⟩)
    ·simp only[l5,bP,br,not_or,bI,not_false_eq_true,cN,and_true]
     exact⟨⟨hS1.symm,hS2.symm,hS3.symm,hS4.symm⟩,⟨q1.symm,q2.symm,q4.symm⟩,⟨q3.symm,q5.symm⟩,q6.symm⟩
    ·subst z
     simp only[l5,br,bI,or_false]at hb
     rcases hb with rfl|rfl|rfl|rfl|rfl
     ·exact nS6 hc
     ·exact h1 hc
     ·exact h2 hc
     ·exact h3 hc
     ·exact h4 hc
   have st9:uy (mx x) H4 H9 (mx x++ll ⟨S,C,hh,N,t,d⟩ cs):=by
    refine⟨λb u e i n=>f9 _ _ (sAD _ _ (k6 b u e i n)) (iT e hS9),λb hb=> ?_⟩
    rw[vO]at hb
    simp only[l5,dQ,br,bI,or_false]at hb
    have nm:∀{z:Addr},z∉mx x++lc C cs->z∉mx x:=λh y=>h (bj _ y)
    rcases hb with hb|(rfl|rfl|rfl|rfl|rfl)|hb
    ·exact .inl hb
    ·exact .inr λu e=>by rw[hS9]at e;cases e
    ·exact .inr (k6.fresh p1 (nm h1))
    ·exact .inr (kA.fresh p2 (nm h2))
    ·exact .inr (kB.fresh p3 (nm h3))
    ·exact .inr (kC.fresh p4 (nm h4))
    ·rcases st6.2 b (aO _ hb) with z|z
     ·exact .inl z
     ·exact .inr λu e=>z u (s5 _ _ e)
   obtain⟨er9,nr9⟩:=st9.keep er4 rfl nr4
   refine hR _ _ ⟨⟨S,C,hh,N,t,d⟩,cs,⟨ws,so',sy',ss,ah h.toNat (-1),[],[],[],[]⟩,rfl,w6.fr λb u e z=>f9 _ _ (sAD _ _ e) λy=> ?_,⟨e9,c6.fr λb u e hb=>f9 _ _ (sAD _ _ e) λy=>nS6 (aO _ (by rw[←y];exact hb)),f9 _ _ (sD _ _ (sC _ _ (sB _ _ eA))) hS1,f9 _ _ (sD _ _ (sC _ _ eB)) hS2,⟨[],f9 _ _ (sD _ _ eC) hS3,.nil⟩,f9 _ _ eD hS4⟩,nd9,g6,bw ..,rfl,rfl,rfl,er9,nr9,sc4.Ud st9⟩
   rcases z with z|z
   ·exact nS6 (bj _ (by rw[←y];exact z))
   ·rw[y,eS6]at e;cases e;cases z
  rintro _ H5 ⟨l,cs,M,rfl,w5,l5',n5,g5,hl5,eos,ets,esd,er5,nr5,sc5⟩
  have nlc:∀{cs:List Cl},(mx x++ll l cs).Nodup->(mx x++lc l.C cs).Nodup:=λn=>(List.nodup_append.mp (G8.nodup (by rw[←vO];exact n))).2.1
  refine i4 (λσ' H'=>Y2 λ(cs:List Cl) (M:Ms)=>X8 (σ'=[some (Z9 a),some (Z9 rm),some (Z9 x.p),some (Z_ h),some (Z9 x.r),some (Z9 l.S),none,none]) (Wx A H' x M) (Lw H' l cs {M with hw:=[]}) ((mx x++ll l cs).Nodup) (Gv o y 10 cs M) (M.hw.length=h.toNat) (M.os=[]) (M.ts=[]) (M.sd=[]) (H' rm=some (.lst [Z_ o,Z_ y])) (rm∉mx x++ll l cs) (Sc K H' (mx x++ll l cs) a ns)) (λR hR=> ?_) ?_
  ·simp only[jB,iZ,jd,tC,i3,i9,and_assoc,cQ,kL,kJ,aa,ae,V.int.injEq,V.ref.injEq,ag,and_true,true_and,exists_eq_left',exists_and_left,l5'.s,u7,lg,my]
   refine⟨ns,sc5.sq,l.C,x,M,cs,o,y,10,_,rfl,w5,l5'.cw,nlc n5,g5,by decide,λH6 cs' ws ks w6 c6 ec g6 st6=> ?_⟩
   obtain⟨a1,a2,a3⟩:=l5'.step (cs':=cs') (M':={M with ws:=ws,ks:=ks,hw:=[]}) w5 n5 (by rw[ec];exact st6) c6 (by rw[ec];exact nlc n5) rfl rfl rfl rfl
   obtain⟨er6,nr6⟩:=a3.keep er5 rfl nr5
   exact hR _ _ ⟨cs',_,rfl,w6,a1,a2,g6,hl5,eos,ets,esd,er6,nr6,sc5.Ud a3⟩
  clear w5 l5' n5 g5 hl5 eos ets esd er5 nr5 sc5
  rintro _ H5 ⟨cs,M,rfl,w5,l5',n5,g5,hl5,eos,ets,esd,er5,nr5,sc5⟩
  have xl:=(List.nodup_append.mp n5).2.2
  have ndl:=(List.nodup_append.mp n5).2.1
  simp only[ll,bP,br,not_or]at ndl
  have cl:cs.length<=12:=aH g5.nn (by decide)
  refine i4 (λσ' H'=>Y2 λ(hw:List Int) (a6:Option V)=>C5 (σ'=[some (Z9 a),some (Z9 rm),some (Z9 x.p),some (Z_ h),some (Z9 x.r),some (Z9 l.S),a6,none]) (Wx A H' x {M with hw:=hw}) (Lw H' l cs {M with hw:=hw}) (Gv o y 10 cs {M with hw:=hw}) (uy (mx x++ll l cs) H5 H' (mx x++ll l cs))) (λR hR=> ?_) ?_
  ·simp only[iZ,jd,i3,jb,aT,bD,lT,zY,aa,ae,V.int.injEq,ag,and_true,exists_eq_left']
   refine⟨by lia,by lia,lA.Hc (λi σ' H'=>Y2 λ(hw:List Int) (a6:Option V)=>C6 (σ'=[some (Z9 a),some (Z9 rm),some (Z9 x.p),some (Z_ h),some (Z9 x.r),some (Z9 l.S),a6,none]) (Wx A H' x {M with hw:=hw}) (Lw H' l cs {M with hw:=hw.take i}) (Gv o y 10 cs {M with hw:=hw}) (uy (mx x++ll l cs) H5 H' (mx x++ll l cs)) (hw.length=h.toNat)) ⟨M.hw,none,rfl,w5,by rw[fA];exact l5',g5,.refl,hl5⟩ (λi σ' H' hi hP R' hR'=> ?_) λσ' H' hP=> ?_⟩
   rotate_left
   ·obtain⟨hw,a6,rfl,w,l2,g,st,ehl⟩:=hP
    rw[←ehl,bF]at l2
    exact hR _ _ ⟨hw,a6,rfl,w,l2,g,st⟩
   obtain⟨hw,a6,rfl,w,l2,g,st,ehl⟩:=hP
   have hi':i<hw.length:=by rw[ehl];exact hi
   have htl:(hw.take i).length=i:=by rw[bH];lia
   show jM _ _ _ [some (Z9 a),some (Z9 rm),some (Z9 x.p),some (Z_ h),some (Z9 x.r),some (Z9 l.S),some (Z_ (0+(i:Int))),none] H'
   refine i4 (λσ' H2=>∃v,C5 (σ'=[some (Z9 a),some (Z9 rm),some (Z9 x.p),some (Z_ h),some (Z9 x.r),some (Z9 l.S),some (Z_ (0+(i:Int))),none]) ((kd (.int v)).isSome=true) ((ot v=true->v/2∈cs.map Cl.p)) (H2 l.h=some (.lst ((hw.take i++[v]).map Z_))) (∀b u,H' b=some u->b≠l.h->H2 b=some u)) (λR hR=> ?_) ?_
   ·simp only[jB,ke,iZ,jd,tC,i3,i9,mP,EX,and_assoc,DK,true_or,aV,aW,cQ,aT,bD,sL,Qq,kL,kJ,aa,ae,V.int.injEq,V.ref.injEq,ag,and_true,true_and,exists_eq_left',exists_and_left,l2.s,ER,u7,l2.h,lg,my]
    refine⟨ns,(sc5.Ud st).sq,l.C,cs,_,rfl,l2.cw.dc,cl,λH2 s2=> ?_⟩
    dsimp only
    obtain⟨v1,v2⟩:=FH (ks:=cs.map Cl.p) (s:=nx (cat ns 5+977*(0+(i:Int)))) λp hp=>⟨(g.places hp).1,fS (g.places hp).2.1 (by decide)⟩
    generalize Eo _ _=v at*
    rw[s2 _ _ l2.h]
    dsimp only
    refine⟨by rw[aj,htl];exact aK (show i<6 by lia) (by decide),hR _ _ ⟨v,rfl,v1,v2,by rw[iS,bo];rfl,λb u e n=>by rw[iW n];exact s2 _ _ e⟩⟩
   rintro _ H2 ⟨v,rfl,v1,v2,e2,f2⟩
   have w2:=w.fr (H':=H2) λb u e z=>f2 b u e λy=>by
    rcases z with z|z
    ·exact xl b z l.h (by simp[ll]) y
    ·rw[y,l2.h]at e;cases e;cases z
   obtain⟨dr,er⟩:=w2.ro
   obtain⟨dh,eh⟩:=w2.hd.ob
   have hl2:(hw.take i++[v]).length=i+1:=by rw[aY,htl];rfl
   simp only[jB,ke,iZ,jd,tC,i3,DO,and_assoc,↓jj,↓jg,kL,kJ,aa,ae,V.ref.injEq,ag,and_true,true_and,exists_eq_left',exists_and_left,jU,oq,ql,er,T.jR,T.lD,Eb,eh,KO,f2 _ _ l2.s ndl.1.1,ER,e2,A2 (ws:=hw.take i++[v]) (show(0:Int)<=0+(i:Int) by lia) (show(0:Int)+i<=(hw.take i++[v]).length-1 by rw[hl2];lia),vj]
   have ev:(hw.take i++[v]).getD (0+(i:Int)).toNat 0=v:=by rw[show(0+(i:Int)).toNat=i by lia,az,cT (by lia),htl,aF];rfl
   rw[ev]
   refine⟨x.g,hw,w2.hd,aD,aD,?_⟩
   obtain⟨z,ez⟩:=Option.isSome_iff_exists.mp v1
   rw[if_pos (DI (by lia) (by lia)),ez,show(iv (Z_ (0+(i:Int)))).toNat=i by show(0+(i:Int)).toNat=i;lia]
   dsimp only
   have h3:=w2.hd.put i v
   have f3:∀b u,H2 b=some u->b≠x.g->upd H2 x.g (.lst ((hw.set i v).map Z_)) b=some u:=λb u e n=>pY e n
   show R' _ (upd H2 x.g (.lst ((hw.set i v).map Z_)))
   generalize upd H2 x.g (.lst ((hw.set i v).map Z_))=H3 at*
   have w3:=w2.hand h3 f3
   have gl:∀b∈ll l cs,b≠x.g:=λb hb z=>xl x.g (by simp[mx]) b hb z.symm
   obtain⟨tas,et',ta⟩:=l2.t
   have f23:∀b u,H' b=some u->b∈ll l cs->b≠l.h->H3 b=some u:=λb u e hb n=>f3 _ _ (f2 _ _ e n) (gl b hb)
   have tk:(hw.set i v).take (i+1)=hw.take i++[v]:=by
    rw[bC (by rw[bf];exact hi'),List.take_set,List.getElem_set_self,List.set_eq_of_length_le (by lia)]
   refine hR' _ _ ⟨hw.set i v,_,rfl,w3,by rw[tk];exact⟨f23 _ _ l2.s (by simp[ll]) ndl.1.1,l2.cw.fr λb u e hb=>f23 b u e (by rw[vO];exact aO _ hb) λz=>ndl.2.1.2.2.2 (by rw[←z];exact hb),f3 _ _ e2 (gl _ (by simp[ll])),f23 _ _ l2.n (by simp[ll]) (aC ndl.2.1.1),⟨tas,f23 _ _ et' (by simp[ll]) (aC ndl.2.1.2.1),ta.kt λb zs e=>f3 _ _ (f2 _ _ e λz=>by rw[z,l2.h]at e;cases e) λz=>by have:=f2 _ _ e (λz=>by rw[z,l2.h]at e;cases e);rw[z,w2.hd.ls]at this;cases this⟩,f23 _ _ l2.d (by simp[ll]) (aC ndl.2.1.2.2.1)⟩,{g with hl:=by rw[bf];exact g.hl,ho:=g.ho.set v1,hp:=λu hu hp=> ?_},st.trans (.of λb u e i n=>f3 _ _ (f2 _ _ e λz=>n (aO _ (by rw[z];simp[ll]))) λz=>n (bj _ (by rw[z];simp[mx]))),by rw[bf];exact ehl⟩
   rcases dD hu with hu|rfl
   ·exact g.hp u hu hp
   ·exact v2 hp
  rintro _ H6 ⟨hw,a6,rfl,w6,l6,g6,st6⟩
  refine i4 (λσ' H'=>∃M:Ms,C6 (σ'=[some (Z9 a),some (Z9 rm),some (Z9 x.p),some (Z_ h),some (Z9 x.r),some (Z9 l.S),a6,none]) (Wx A H' x M) (Lw H' l cs M) (Gv o y 10 cs M) (M.sd=[]) (uy (mx x++ll l cs) H5 H' (mx x++ll l cs))) (λR hR=> ?_) ?_
  ·simp only[jB,iZ,jd,tC,i3,i9,kL,kJ,aa,ae,l6.s,u7,ES,Pn]
   obtain⟨tas0,et0,ta0⟩:=l6.t
   have e0:tas0=[]:=by
    dsimp only at ta0
    rw[ets]at ta0
    exact ta0.XC
   subst e0
   have en:=l6.n
   dsimp only at en
   rw[eos]at en
   refine⟨l.C,a,l.N,l.t,x,_,cs,o,y,10,ns,rfl,w6,l6.cw.dc,g6,by decide,eos,ets,(sc5.Ud st6).sq,en,et0,?_,λH7 os ts sd tas w7 eN et ta esd' ol tl st7=> ?_⟩
   ·refine List.nodup_append.mpr ⟨w6.nd,?_,λb hb c hc z=>xl b hb c ?_ z⟩
    ·simp only[lc,br,not_or,bP]at ndl
     simp only[bP,br,not_or,bI,not_false_eq_true,cN,and_true]
     exact⟨⟨ndl.2.2.1.1,ndl.2.2.1.2.2.1⟩,ndl.2.2.2.1.2.1⟩
    ·simp only[br,bI,or_false]at hc
     rcases hc with rfl|rfl|rfl<;>simp[ll,lc]
   have st:uy (mx x++ll l cs) H6 H7 (mx x++ll l cs):=st7.mem (λb hb=>by
    simp only[dQ,br,bI,or_false]at hb⊢
    rcases hb with z|z|z
    ·exact .inl z
    ·exact .inr (by rw[z];simp[ll])
    ·exact .inr (by rw[z];simp[ll])) λb hb=> .inr hb
   have no:∀b∈ll l cs,b≠l.N->b≠l.t->b∉mx x++[l.N,l.t]:=λb hb n1 n2 z=>by
    simp only[dQ,br,bI,or_false]at z
    rcases z with z|z|z
    ·exact xl b z b hb rfl
    ·exact n1 z
    ·exact n2 z
   have l7:Lw H7 l cs {M with hw:=hw,os:=os,ts:=ts,sd:=sd}:=by
    refine⟨(st7.keep l6.s rfl (no l.S (by simp[ll]) ndl.1.2.1 ndl.1.2.2.1)).1,l6.cw.fr λb u e hb=> ?_,(st7.keep l6.h rfl (no l.h (by simp[ll]) ndl.2.1.1 ndl.2.1.2.1)).1,eN,⟨tas,et,ta⟩,?_⟩
    ·obtain⟨u',e',i⟩:=l6.cw.Bm b hb
     rw[e]at e';cases e'
     exact(st7.keep e i (no b (by rw[vO];exact aO _ hb) (λz=>ndl.2.2.1.2.2 (by rw[←z];exact hb)) λz=>ndl.2.2.2.1.2 (by rw[←z];exact hb))).1
    ·rw[esd']
     exact(st7.keep l6.d rfl (no l.d (by simp[ll]) (aC ndl.2.2.1.2.1) (aC ndl.2.2.2.1.1))).1
   exact hR _ _ ⟨_,rfl,w7,l7,{g6 with on:=ol,tn:=tl},esd'.trans esd,st6.trans st⟩
  rintro _ H7 ⟨M7,rfl,w7,l7,g7,sd7,st7⟩
  have er7:=st7.keep er5 rfl nr5
  have sc7:=sc5.Ud st7
  generalize ep:x.p=p at*
  generalize er:x.r=r at*
  generalize eS:l.S=S at*
  refine i4 (λσ' H'=>σ'=[some (Z9 a),some (Z9 rm),some (Z9 p),some (Z_ h),some (Z9 r),some (Z9 S),a6,none]/\Qv K A H' a ns rm o y p r S 10 12 True) (λR hR=> ?_) ?_
  ·refine yq (λH'=>Qv K A H' a ns rm o y p r S 10 12 True) (λK1 hK=> ?_) λH' hP=>hR _ _ ⟨rfl,hP⟩
   simp only[q9,iZ,jd,i3,i9,jb,pX,aa,ae]
   exact(show Qv K A H7 a ns rm o y p r S 10 0 False from⟨x,l,cs,M7,ep,er,eS,w7,l7,n5,g7,by rw[sd7];exact aI _,λz=>z.elim,er7.1,er7.2,sc7⟩).U_ (by decide) (by decide) λH' hP=>⟨true,rfl,hK H' hP⟩
  rintro _ H8 ⟨rfl,P8⟩
  refine i4 (λσ' H'=>True) (λR hR=> ?_) ?_
  ·simp only[iZ,jd,tC,i3,i9,jb,pX,aV,aW,cQ,aT,bD,Int.reduceToNat,lT,zY,V.int.injEq,ag,and_true,true_and,exists_eq_left']
   refine lA.Hc (λi σ' H'=>∃(a7:Option V),σ'=[some (Z9 a),some (Z9 rm),some (Z9 p),some (Z_ h),some (Z9 r),some (Z9 S),a6,a7]/\Qv K A H' a ns rm o y p r S (10+i) (12+24*i) True) ⟨none,rfl,P8⟩ (λi σ' H' hi hP R' hR'=> ?_) λσ' H' hP=>hR _ _ aD
   obtain⟨a7,rfl,P1⟩:=hP
   show jM _ _ _ [some (Z9 a),some (Z9 rm),some (Z9 p),some (Z_ h),some (Z9 r),some (Z9 S),a6,some (Z_ (0+(i:Int)))] H'
   refine i4 (λσ' H2=>σ'=[some (Z9 a),some (Z9 rm),some (Z9 p),some (Z_ h),some (Z9 r),some (Z9 S),a6,some (Z_ (0+(i:Int)))]/\Qv K A H2 a ns rm o y p r S (10+i) (24+24*i) True) (λR hR=> ?_) ?_
   ·refine yq (λH2=>Qv K A H2 a ns rm o y p r S (10+i) (24+24*i) True) (λK1 hK=> ?_) λH2 hP=>hR _ _ ⟨rfl,hP⟩
    simp only[q9,aa,ae]
    exact P1.U_ (by lia) (by lia) λH2 hP=>⟨true,rfl,hK H2 (by rw[show 24+24*i=12+24*i+12 by lia];exact hP)⟩
   rintro _ H2 ⟨rfl,x,l,cs,M,e1,e2,e3,w,lw,nd,g,sl,ty,er2,nr,sc⟩
   subst e1 e2 e3
   refine i4 (λσ' H3=>σ'=[some (Z9 a),some (Z9 rm),some (Z9 x.p),some (Z_ h),some (Z9 x.r),some (Z9 l.S),a6,some (Z_ (0+(i:Int)))]/\Qv K A H3 a ns rm o y x.p x.r l.S (10+(i+1)) (24+24*i) False) (λR hR=> ?_) ?_
   ·simp only[jB,ke,iZ,jd,tC,i3,i9,mP,and_assoc,aa,ae,V.int.injEq,V.ref.injEq,ag,and_true,exists_eq_left',exists_and_left,lg]
    refine⟨ns,sc.sq,by lia,l,x,M,cs,o,y,10+i,_,rm,rfl,w,lw,nd,g,by lia,ty aD,er2,nr,λH3 cs' M' w' l' nd' g' es st=>hR _ _ ⟨rfl,x,l,cs',M',rfl,rfl,rfl,w',l',nd',g',by rw[es];exact sl,λz=>z.elim,(st.keep er2 rfl nr).1,(st.keep er2 rfl nr).2,sc.Ud st⟩⟩
   rintro _ H3 ⟨rfl,P3⟩
   refine yq (λH4=>Qv K A H4 a ns rm o y x.p x.r l.S (10+(i+1)) (12+24*(i+1)) True) (λK1 hK=> ?_) λH4 hP=>hR' _ _ ⟨_,rfl,hP⟩
   simp only[q9,aa,ae]
   exact P3.U_ (by lia) (by lia) λH4 hP=>⟨true,rfl,hK H4 (by rw[show 12+24*(i+1)=24+24*i+12 by lia];exact hP)⟩
  rintro σ9 H9 _
  simp only[kU,tC]
  exact q H9
structure mW(K:aA)(f:Addr)(x q:Str)(st:Stmt)(d:FuncData):Prop where
 ex:∃(oc:Value) (od:Option Addr) (kV dc pm:Value) (an:Option Addr) (cd ct:Value) (sl:Array (Option Value)),K.lookup f=some ⟨oc,od,.func (di x q (yb st) (uB st) (iX st) .none kV dc pm an cd ct),sl⟩/\fB K cd q=true/\bL K (.ref f)=true/\d=di x q (yb st) (uB st) (iX st) .none kV dc pm an cd ct
theorem mW.fn{K:aA}{f:Addr}{x q:Str}{st:Stmt}{d:FuncData}(h:mW K f x q st d):mK K x q st f d:=by
 obtain⟨oc,od,kV,dc,pm,an,cd,ct,sl,l,e,k,rfl⟩:=h.ex
 exact Vf (st:=st) l e k
theorem mW.kp{K:aA}{f:Addr}{x q:Str}{st:Stmt}{d:FuncData}(h:mW K f x q st d):bL K (.ref f)=true:=by
 obtain⟨oc,od,kV,dc,pm,an,cd,ct,sl,l,e,k,rfl⟩:=h.ex
 exact k
theorem all_mk{l:gb}{w:World}{K:aA}{h:Heap}{mg:Str->Option Value}{fa rJ rK nH nI nK mG ng oO mB nj oQ nD lJ nF oV nL mR qe qi nJ j5 qh rH o_ ug B5 mD j_ jV oS nA kQ oR sv nZ o9 B6 mE mC lH j6 nX o8 yf lU nh nz qb oP nB nE oX oW oU nG qg nW qc lW F2 rL rM B4 nY rG yc mF lr uh kP lI n9 qf mT nU yd ye lV rF o7 nT o2 nR nV qd nQ mS lO Mo m9 pA kb jI rb pj uQ ow i_ je jm jY j8 ju jE jK pT jN:Addr}  {t_NOTHING:Tok}{t_MOST_NUMBER:Tok}{t_MOST_PLACE:Tok}{t_MOST_SLOTS:Tok}{t_MOST_AGE:Tok}{t_MOST_WORDS:Tok}{t_LEAST_OLD_WORDS:Tok}{t_MOST_OLD_WORDS:Tok}{t_LEAST_YOUNG_WORDS:Tok}{t_MOST_YOUNG_WORDS:Tok}{t_MOST_HANDS:Tok}{ub uc qF qG qI pH qv rX pB qx rZ qB m6 qD se qJ oC si su qH lj sr ua qO vq DT pE lF kW r9 qz me r6 vp pP qN DU pF pC mY lp pN qM A7 ox qw qy tX rY qA qC sg sf r_ qE sk pM tY oB Js ud ue DS pO t_ A4 pG mM vt ma mZ pQ sj oF pL A5 A6 oA tZ qL pK qK pJ mz sh pI oE mO OS:FuncData}
  (X:K.In h) (G:h.Ns mainGlobals mg) (hfa:mg "law"=some (.ref fa))
  (zU:aE K mainGlobals "BadNumber"=some (some (.ref m9)))
  (A9:aE K mainGlobals "BadWord"=some (some (.ref pA)))
  (n_:aE K mainGlobals "BadCount"=some (some (.ref kb)))
  (vw:aE K mainGlobals "NoPlace"=some (some (.ref jI)))
  (Gk:aE K mainGlobals "NoRoom"=some (some (.ref rb)))
  (Dc:aE K mainGlobals "NoCell"=some (some (.ref pj)))
  (Gj:aE K mainGlobals "NoHand"=some (some (.ref uQ)))
  (zV:aE K mainGlobals "NoName"=some (some (.ref ow)))
  (Gi:aE K mainGlobals "Memory"=some (some (.ref i_)))
  (Dd:aE K mainGlobals "Space"=some (some (.ref je)))
  (KA:aE K mainGlobals "Areas"=some (some (.ref jm)))
  (NT:aE K mainGlobals "Book"=some (some (.ref jY)))
  (KC:aE K mainGlobals "Hands"=some (some (.ref j8)))
  (KD:aE K mainGlobals "Lasts"=some (some (.ref ju)))
  (NU:aE K mainGlobals "Weak"=some (some (.ref jE)))
  (KG:aE K mainGlobals "Roots"=some (some (.ref jK)))
  (pg_Memory:bT K i_ dt=true)
  (hd_Memory:bW K i_=true)
  (po_Memory:cj K i_=true)
  (sa_Memory:aB K (.ref i_) "__setattr__"=some (some (.builtin "object.__setattr__")))
  (D8:cG K i_=true)
  (kc_Memory:bL K (.ref i_)=true)
  (oM:aB K (.ref i_) "size"=some none)
  (mh:aB K (.ref i_) "words"=some none)
  (pg_Space:bT K je dt=true)
  (hd_Space:bW K je=true)
  (po_Space:cj K je=true)
  (sa_Space:aB K (.ref je) "__setattr__"=some (some (.builtin "object.__setattr__")))
  (Ab:cG K je=true)
  (kc_Space:bL K (.ref je)=true)
  (lY:aB K (.ref je) "begin"=some none)
  (vf:aB K (.ref je) "end"=some none)
  (lQ:aB K (.ref je) "top"=some none)
  (pg_Areas:bT K jm dt=true)
  (hd_Areas:bW K jm=true)
  (po_Areas:cj K jm=true)
  (sa_Areas:aB K (.ref jm) "__setattr__"=some (some (.builtin "object.__setattr__")))
  (GO:cG K jm=true)
  (kc_Areas:bL K (.ref jm)=true)
  (jP:aB K (.ref jm) "memory"=some none)
  (kK:aB K (.ref jm) "old"=some none)
  (lX:aB K (.ref jm) "young"=some none)
  (oJ:aB K (.ref jm) "spare"=some none)
  (pg_Book:bT K jY dt=true)
  (hd_Book:bW K jY=true)
  (po_Book:cj K jY=true)
  (sa_Book:aB K (.ref jY) "__setattr__"=some (some (.builtin "object.__setattr__")))
  (K_:cG K jY=true)
  (kc_Book:bL K (.ref jY)=true)
  (lK:aB K (.ref jY) "written"=some none)
  (pg_Hands:bT K j8 dt=true)
  (hd_Hands:bW K j8=true)
  (po_Hands:cj K j8=true)
  (sa_Hands:aB K (.ref j8) "__setattr__"=some (some (.builtin "object.__setattr__")))
  (GP:cG K j8=true)
  (kc_Hands:bL K (.ref j8)=true)
  (oK:aB K (.ref j8) "words"=some none)
  (pg_Lasts:bT K ju dt=true)
  (hd_Lasts:bW K ju=true)
  (po_Lasts:cj K ju=true)
  (sa_Lasts:aB K (.ref ju) "__setattr__"=some (some (.builtin "object.__setattr__")))
  (GQ:cG K ju=true)
  (kc_Lasts:bL K (.ref ju)=true)
  (jQ:aB K (.ref ju) "waiting"=some none)
  (m7:aB K (.ref ju) "spoken"=some none)
  (pg_Weak:bT K jE dt=true)
  (hd_Weak:bW K jE=true)
  (po_Weak:cj K jE=true)
  (sa_Weak:aB K (.ref jE) "__setattr__"=some (some (.builtin "object.__setattr__")))
  (La:cG K jE=true)
  (kc_Weak:bL K (.ref jE)=true)
  (mw:aB K (.ref jE) "told"=some none)
  (pg_Roots:bT K jK dt=true)
  (hd_Roots:bW K jK=true)
  (po_Roots:cj K jK=true)
  (sa_Roots:aB K (.ref jK) "__setattr__"=some (some (.builtin "object.__setattr__")))
  (GR:cG K jK=true)
  (kc_Roots:bL K (.ref jK)=true)
  (lD:aB K (.ref jK) "hands"=some none)
  (oa:aB K (.ref jK) "book"=some none)
  (k_:aB K (.ref jK) "weaks"=some none)
  (lE:aB K (.ref jK) "lasts"=some none)
  (rO:aE K mainGlobals "is_whole"=some (some (.ref rJ)))
  (yn:aE K mainGlobals "meet_new"=some (some (.ref rK)))
  (a_Space_init:aB K (.ref je) "__init__"=some (some (.ref nH)))
  (i_Space_init:aR K (.ref nH)=true)
  (a_Space_room:aB K (.ref je) "room"=some (some (.ref nI)))
  (i_Space_room:aR K (.ref nI)=true)
  (a_Space_used:aB K (.ref je) "used"=some (some (.ref nK)))
  (i_Space_used:aR K (.ref nK)=true)
  (a_Space_empty:aB K (.ref je) "empty"=some (some (.ref mG)))
  (i_Space_empty:aR K (.ref mG)=true)
  (a_Areas_flip:aB K (.ref jm) "flip"=some (some (.ref ng)))
  (i_Areas_flip:aR K (.ref ng)=true)
  (a_Book_init:aB K (.ref jY) "__init__"=some (some (.ref oO)))
  (i_Book_init:aR K (.ref oO)=true)
  (a_Book_places:aB K (.ref jY) "places"=some (some (.ref mB)))
  (i_Book_places:aR K (.ref mB)=true)
  (a_Book_clear:aB K (.ref jY) "clear"=some (some (.ref nj)))
  (i_Book_clear:aR K (.ref nj)=true)
  (a_Hands_row:aB K (.ref j8) "row"=some (some (.ref oQ)))
  (i_Hands_row:aR K (.ref oQ)=true)
  (a_Lasts_init:aB K (.ref ju) "__init__"=some (some (.ref nD)))
  (i_Lasts_init:aR K (.ref nD)=true)
  (a_Lasts_pending:aB K (.ref ju) "pending"=some (some (.ref lJ)))
  (i_Lasts_pending:aR K (.ref lJ)=true)
  (a_Lasts_said:aB K (.ref ju) "said"=some (some (.ref nF)))
  (i_Lasts_said:aR K (.ref nF)=true)
  (a_Weak_init:aB K (.ref jE) "__init__"=some (some (.ref oV)))
  (i_Weak_init:aR K (.ref oV)=true)
  (a_Weak_names:aB K (.ref jE) "names"=some (some (.ref nL)))
  (i_Weak_names:aR K (.ref nL)=true)
  (kF:aE K mainGlobals "_law_cell_at"=some (some (.ref mR)))
  (mI:aE K mainGlobals "_law_next"=some (some (.ref qe)))
  (j7:aE K mainGlobals "is_within"=some (some (.ref qi)))
  (a_Space_take:aB K (.ref je) "take"=some (some (.ref nJ)))
  (i_Space_take:aR K (.ref nJ)=true)
  (a_Lasts_want_pending:aB K (.ref ju) "want_pending"=some (some (.ref j5)))
  (i_Lasts_want_pending:aR K (.ref j5)=true)
  (wz:aE K mainGlobals "is_number"=some (some (.ref qh)))
  (yl:aE K mainGlobals "is_place"=some (some (.ref rH)))
  (vc:aE K mainGlobals "want_slots"=some (some (.ref o_)))
  (D0:aE K mainGlobals "is_head"=some (some (.ref ug)))
  (KH:aE K mainGlobals "fits"=some (some (.ref B5)))
  (a_Memory_init:aB K (.ref i_) "__init__"=some (some (.ref mD)))
  (i_Memory_init:aR K (.ref mD)=true)
  (a_Memory_want_place:aB K (.ref i_) "want_place"=some (some (.ref j_)))
  (i_Memory_want_place:aR K (.ref j_)=true)
  (a_Memory_want_stretch:aB K (.ref i_) "want_stretch"=some (some (.ref jV)))
  (i_Memory_want_stretch:aR K (.ref jV)=true)
  (a_Space_has:aB K (.ref je) "has"=some (some (.ref oS)))
  (i_Space_has:aR K (.ref oS)=true)
  (a_Hands_init:aB K (.ref j8) "__init__"=some (some (.ref nA)))
  (i_Hands_init:aR K (.ref nA)=true)
  (a_Hands_want_hand:aB K (.ref j8) "want_hand"=some (some (.ref kQ)))
  (i_Hands_want_hand:aR K (.ref kQ)=true)
  (a_Lasts_say:aB K (.ref ju) "say"=some (some (.ref oR)))
  (i_Lasts_say:aR K (.ref oR)=true)
  (a_Weak_at:aB K (.ref jE) "at"=some (some (.ref sv)))
  (i_Weak_at:aR K (.ref sv)=true)
  (uE:aE K mainGlobals "want_number"=some (some (.ref nZ)))
  (mn:aE K mainGlobals "want_place"=some (some (.ref o9)))
  (ym:aE K mainGlobals "kind"=some (some (.ref B6)))
  (a_Memory_read:aB K (.ref i_) "read"=some (some (.ref mE)))
  (i_Memory_read:aR K (.ref mE)=true)
  (a_Memory_copy:aB K (.ref i_) "copy"=some (some (.ref mC)))
  (i_Memory_copy:aR K (.ref mC)=true)
  (a_Areas_area_of:aB K (.ref jm) "area_of"=some (some (.ref lH)))
  (i_Areas_area_of:aR K (.ref lH)=true)
  (a_Weak_want_standing:aB K (.ref jE) "want_standing"=some (some (.ref j6)))
  (i_Weak_want_standing:aR K (.ref j6)=true)
  (wW:aE K mainGlobals "number_word"=some (some (.ref nX)))
  (yo:aE K mainGlobals "place_word"=some (some (.ref o8)))
  (yp:aE K mainGlobals "worth"=some (some (.ref yf)))
  (a_Memory_write:aB K (.ref i_) "write"=some (some (.ref lU)))
  (i_Memory_write:aR K (.ref lU)=true)
  (a_Areas_init:aB K (.ref jm) "__init__"=some (some (.ref nh)))
  (i_Areas_init:aR K (.ref nh)=true)
  (a_Book_write:aB K (.ref jY) "write"=some (some (.ref nz)))
  (i_Book_write:aR K (.ref nz)=true)
  (a_Book_has:aB K (.ref jY) "has"=some (some (.ref qb)))
  (i_Book_has:aR K (.ref qb)=true)
  (a_Hands_put:aB K (.ref j8) "put"=some (some (.ref oP)))
  (i_Hands_put:aR K (.ref oP)=true)
  (a_Lasts_give:aB K (.ref ju) "give"=some (some (.ref nB)))
  (i_Lasts_give:aR K (.ref nB)=true)
  (a_Lasts_move:aB K (.ref ju) "move"=some (some (.ref nE)))
  (i_Lasts_move:aR K (.ref nE)=true)
  (a_Weak_name:aB K (.ref jE) "name"=some (some (.ref oX)))
  (i_Weak_name:aR K (.ref oX)=true)
  (a_Weak_move:aB K (.ref jE) "move"=some (some (.ref oW)))
  (i_Weak_move:aR K (.ref oW)=true)
  (a_Weak_gone:aB K (.ref jE) "gone"=some (some (.ref oU)))
  (i_Weak_gone:aR K (.ref oU)=true)
  (a_Roots_init:aB K (.ref jK) "__init__"=some (some (.ref nG)))
  (i_Roots_init:aR K (.ref nG)=true)
  (wy:aE K mainGlobals "head_word"=some (some (.ref qg)))
  (wV:aE K mainGlobals "head_number"=some (some (.ref nW)))
  (a_Book_rub:aB K (.ref jY) "rub"=some (some (.ref qc)))
  (i_Book_rub:aR K (.ref qc)=true)
  (a_Roots_starts:aB K (.ref jK) "starts"=some (some (.ref lW)))
  (i_Roots_starts:aR K (.ref lW)=true)
  (Q9:aE K mainGlobals "lay"=some (some (.ref F2)))
  (vG:aE K mainGlobals "slots_of"=some (some (.ref rL)))
  (vH:aE K mainGlobals "words_of"=some (some (.ref rM)))
  (Gm:aE K mainGlobals "aged"=some (some (.ref B4)))
  (uD:aE K mainGlobals "slot_places"=some (some (.ref nY)))
  (B9:aE K mainGlobals "children"=some (some (.ref rG)))
  (KI:aE K mainGlobals "goals"=some (some (.ref yc)))
  (a_Space_cells:aB K (.ref je) "cells"=some (some (.ref mF)))
  (i_Space_cells:aR K (.ref mF)=true)
  (a_Areas_lay_into:aB K (.ref jm) "lay_into"=some (some (.ref lr)))
  (i_Areas_lay_into:aR K (.ref lr)=true)
  (D1:aE K mainGlobals "reached"=some (some (.ref uh)))
  (a_Areas_lay_young:aB K (.ref jm) "lay_young"=some (some (.ref kP)))
  (i_Areas_lay_young:aR K (.ref kP)=true)
  (a_Areas_lay_old:aB K (.ref jm) "lay_old"=some (some (.ref lI)))
  (i_Areas_lay_old:aR K (.ref lI)=true)
  (uF:aE K mainGlobals "word_behind"=some (some (.ref n9)))
  (sE:aE K mainGlobals "_law_word"=some (some (.ref qf)))
  (vF:aE K mainGlobals "_law_reached"=some (some (.ref mT)))
  (uC:aE K mainGlobals "_law_turned"=some (some (.ref nU)))
  (KJ:aE K mainGlobals "renew"=some (some (.ref yd)))
  (KL:aE K mainGlobals "slide"=some (some (.ref ye)))
  (a_Roots_follow:aB K (.ref jK) "follow"=some (some (.ref lV)))
  (i_Roots_follow:aR K (.ref lV)=true)
  (yj:aE K mainGlobals "_law_lay"=some (some (.ref rF)))
  (vb:aE K mainGlobals "_law_write"=some (some (.ref o7)))
  (wR:aE K mainGlobals "_law_tabled"=some (some (.ref nT)))
  (yk:aE K mainGlobals "_law_moved"=some (some (.ref o2)))
  (wQ:aE K mainGlobals "_law_stands"=some (some (.ref nR)))
  (wU:aE K mainGlobals "collect_all"=some (some (.ref nV)))
  (zW:aE K mainGlobals "_law_laid"=some (some (.ref qd)))
  (wO:aE K mainGlobals "_law_filled"=some (some (.ref nQ)))
  (vE:aE K mainGlobals "_law_changed"=some (some (.ref mS)))
  (oG:aE K mainGlobals "_law_collected"=some (some (.ref lO)))
  (g_law:aE K mainGlobals "law"=some (some (.ref Mo)))
  (vx:aE K mainGlobals "NOTHING"=some (some (.int (-1) t_NOTHING)))
  (uM:aE K mainGlobals "MOST_NUMBER"=some (some (.int (1000000000000) t_MOST_NUMBER)))
  (za:aE K mainGlobals "MOST_PLACE"=some (some (.int (9999) t_MOST_PLACE)))
  (vn:aE K mainGlobals "MOST_SLOTS"=some (some (.int (8) t_MOST_SLOTS)))
  (uv:aE K mainGlobals "MOST_AGE"=some (some (.int (2) t_MOST_AGE)))
  (zb:aE K mainGlobals "MOST_WORDS"=some (some (.int (4000) t_MOST_WORDS)))
  (tK:aE K mainGlobals "LEAST_OLD_WORDS"=some (some (.int (4) t_LEAST_OLD_WORDS)))
  (uw:aE K mainGlobals "MOST_OLD_WORDS"=some (some (.int (2000) t_MOST_OLD_WORDS)))
  (q_:aE K mainGlobals "LEAST_YOUNG_WORDS"=some (some (.int (2) t_LEAST_YOUNG_WORDS)))
  (rV:aE K mainGlobals "MOST_YOUNG_WORDS"=some (some (.int (500) t_MOST_YOUNG_WORDS)))
  (y_:aE K mainGlobals "MOST_HANDS"=some (some (.int (6) t_MOST_HANDS)))
  (Lb:aE K mainGlobals "bool"=some none)
  (wF:aE K mainGlobals "enumerate"=some none)
  (O9:aE K mainGlobals "int"=some none)
  (qT:aE K mainGlobals "isinstance"=some none)
  (sU:aE K mainGlobals "len"=some none)
  (yC:aE K mainGlobals "list"=some none)
  (rB:aE K mainGlobals "range"=some none)
  (vP:aE K mainGlobals "sorted"=some none)
  (l_is_whole:mW K rJ "is_whole" "is_whole" Cs ub)
  (l_meet_new:mW K rK "meet_new" "meet_new" Ct uc)
  (l_Space_init:mW K nH "__init__" "Space.__init__" yS qF)
  (l_Space_room:mW K nI "room" "Space.room" yT qG)
  (l_Space_used:mW K nK "used" "Space.used" yV qI)
  (l_Space_empty:mW K mG "empty" "Space.empty" xh pH)
  (l_Areas_flip:mW K ng "flip" "Areas.flip" yI qv)
  (l_Book_init:mW K oO "__init__" "Book.__init__" Al rX)
  (l_Book_places:mW K mB "places" "Book.places" xa pB)
  (l_Book_clear:mW K nj "clear" "Book.clear" yK qx)
  (l_Hands_row:mW K oQ "row" "Hands.row" An rZ)
  (l_Lasts_init:mW K nD "__init__" "Lasts.__init__" yO qB)
  (l_Lasts_pending:mW K lJ "pending" "Lasts.pending" rD m6)
  (l_Lasts_said:mW K nF "said" "Lasts.said" yQ qD)
  (l_Weak_init:mW K oV "__init__" "Weak.__init__" Ar se)
  (l_Weak_names:mW K nL "names" "Weak.names" vh qJ)
  (l__law_cell_at:mW K mR "_law_cell_at" "_law_cell_at" vT oC)
  (l__law_next:mW K qe "_law_next" "_law_next" Aw si)
  (l_is_within:mW K qi "is_within" "is_within" AB su)
  (l_Space_take:mW K nJ "take" "Space.take" yU qH)
  (l_Lasts_want_pending:mW K j5 "want_pending" "Lasts.want_pending" qo lj)
  (l_is_number:mW K qh "is_number" "is_number" AA sr)
  (l_is_place:mW K rH "is_place" "is_place" Cr ua)
  (l_want_slots:mW K o_ "want_slots" "want_slots" y2 qO)
  (l_is_head:mW K ug "is_head" "is_head" Ee vq)
  (l_fits:mW K B5 "fits" "fits" Ow DT)
  (l_Memory_init:mW K mD "__init__" "Memory.__init__" xc pE)
  (l_Memory_want_place:mW K j_ "want_place" "Memory.want_place" q8 lF)
  (l_Memory_want_stretch:mW K jV "want_stretch" "Memory.want_stretch" pU kW)
  (l_Space_has:mW K oS "has" "Space.has" Ap r9)
  (l_Hands_init:mW K nA "__init__" "Hands.__init__" yM qz)
  (l_Hands_want_hand:mW K kQ "want_hand" "Hands.want_hand" sZ me)
  (l_Lasts_say:mW K oR "say" "Lasts.say" Ao r6)
  (l_Weak_at:mW K sv "at" "Weak.at" Ed vp)
  (l_want_number:mW K nZ "want_number" "want_number" xt pP)
  (l_want_place:mW K o9 "want_place" "want_place" yZ qN)
  (l_kind:mW K B6 "kind" "kind" Ox DU)
  (l_Memory_read:mW K mE "read" "Memory.read" xf pF)
  (l_Memory_copy:mW K mC "copy" "Memory.copy" xb pC)
  (l_Areas_area_of:mW K lH "area_of" "Areas.area_of" u1 mY)
  (l_Weak_want_standing:mW K j6 "want_standing" "Weak.want_standing" qp lp)
  (l_number_word:mW K nX "number_word" "number_word" xo pN)
  (l_place_word:mW K o8 "place_word" "place_word" yY qM)
  (l_worth:mW K yf "worth" "worth" Lv A7)
  (l_Memory_write:mW K lU "write" "Memory.write" vR ox)
  (l_Areas_init:mW K nh "__init__" "Areas.__init__" yJ qw)
  (l_Book_write:mW K nz "write" "Book.write" yL qy)
  (l_Book_has:mW K qb "has" "Book.has" Cp tX)
  (l_Hands_put:mW K oP "put" "Hands.put" Am rY)
  (l_Lasts_give:mW K nB "give" "Lasts.give" yN qA)
  (l_Lasts_move:mW K nE "move" "Lasts.move" yP qC)
  (l_Weak_name:mW K oX "name" "Weak.name" Au sg)
  (l_Weak_move:mW K oW "move" "Weak.move" As sf)
  (l_Weak_gone:mW K oU "gone" "Weak.gone" Aq r_)
  (l_Roots_init:mW K nG "__init__" "Roots.__init__" yR qE)
  (l_head_word:mW K qg "head_word" "head_word" Az sk)
  (l_head_number:mW K nW "head_number" "head_number" xn pM)
  (l_Book_rub:mW K qc "rub" "Book.rub" Cq tY)
  (l_Roots_starts:mW K lW "starts" "Roots.starts" s_ oB)
  (l_lay:mW K F2 "lay" "lay" R4 Js)
  (l_slots_of:mW K rL "slots_of" "slots_of" Cu ud)
  (l_words_of:mW K rM "words_of" "words_of" Cv ue)
  (l_aged:mW K B4 "aged" "aged" Ov DS)
  (l_slot_places:mW K nY "slot_places" "slot_places" xp pO)
  (l_children:mW K rG "children" "children" vU t_)
  (l_goals:mW K yc "goals" "goals" Lr A4)
  (l_Space_cells:mW K mF "cells" "Space.cells" xg pG)
  (l_Areas_lay_into:mW K lr "lay_into" "Areas.lay_into" uo mM)
  (l_reached:mW K uh "reached" "reached" Ef vt)
  (l_Areas_lay_young:mW K kP "lay_young" "Areas.lay_young" sY ma)
  (l_Areas_lay_old:mW K lI "lay_old" "Areas.lay_old" u3 mZ)
  (l_word_behind:mW K n9 "word_behind" "word_behind" xu pQ)
  (l__law_word:mW K qf "_law_word" "_law_word" Ay sj)
  (l__law_reached:mW K mT "_law_reached" "_law_reached" qq oF)
  (l__law_turned:mW K nU "_law_turned" "_law_turned" xm pL)
  (l_renew:mW K yd "renew" "renew" Ls A5)
  (l_slide:mW K ye "slide" "slide" Lu A6)
  (l_Roots_follow:mW K lV "follow" "Roots.follow" vS oA)
  (l__law_lay:mW K rF "_law_lay" "_law_lay" yW tZ)
  (l__law_write:mW K o7 "_law_write" "_law_write" yX qL)
  (l__law_tabled:mW K nT "_law_tabled" "_law_tabled" xj pK)
  (l__law_moved:mW K o2 "_law_moved" "_law_moved" pf qK)
  (l__law_stands:mW K nR "_law_stands" "_law_stands" rh pJ)
  (l_collect_all:mW K nV "collect_all" "collect_all" rj mz)
  (l__law_laid:mW K qd "_law_laid" "_law_laid" Av sh)
  (l__law_filled:mW K nQ "_law_filled" "_law_filled" xi pI)
  (l__law_changed:mW K mS "_law_changed" "_law_changed" tf oE)
  (l__law_collected:mW K lO "_law_collected" "_law_collected" uq mO)
  (l_law:mW K Mo "law" "law" JJ OS)
  (vN:mz.code= .ref pT)
  (oo:cU K kb Sz "ValueError.__new__"=true)
  (AZ:cU K m9 Sz "ValueError.__new__"=true)
  (Bj:cU K pA Sz "ValueError.__new__"=true)
  (DJ:cU K pj Sz "ValueError.__new__"=true)
  (HF:cU K uQ Sz "ValueError.__new__"=true)
  (A0:cU K ow Sz "ValueError.__new__"=true)
  (vy:cU K jI Sz "ValueError.__new__"=true)
  (HG:cU K rb Sz "ValueError.__new__"=true)
  (vJ:de K pT jN=true)
  (u0:bb K (.type "NoneType") (.type "int")=some false)
  (um:bb K (.type "NoneType") (.type "bool")=some false)
  (z0:bb K (.type "bool") (.type "int")=some true)
  (yw:bb K (.type "bool") (.type "bool")=some true)
  (yy:bb K (.type "int") (.type "int")=some true)
  (wD:bb K (.type "int") (.type "bool")=some false)
  (Cj:bb K (.type "str") (.type "int")=some false)
  (z6:bb K (.type "str") (.type "bool")=some false)
  (z5:bb K (.type "list") (.type "int")=some false)
  (yz:bb K (.type "list") (.type "bool")=some false)
  (yA:bb K (.type "tuple") (.type "int")=some false)
  (wY:bb K (.type "tuple") (.type "bool")=some false)
  (z4:bb K (.type "dict") (.type "int")=some false)
  (yx:bb K (.type "dict") (.type "bool")=some false)
  :∃fd:FuncData,(∀(s:Shared) (v:Value),BindsTo s fd ⟨[v],[]⟩ [("_law_script",v)])/\∀base:Heap,K.In base->base.Ns mainGlobals mg->jA l.prog w K mg base (lG l.prog w) true 15 fa fd ["_law_script"] (FE K jN):=by
 have e:=hfa.symm.trans (aG X G g_law)
 cases e
 obtain⟨oc,od,kV,dc,pm,an,cd,ct,sl,_,_,_,rfl⟩:=id l_law.ex
 let A:Ad:=⟨rJ,ub,rK,uc,nH,qF,nI,qG,nK,qI,mG,pH,ng,qv,oO,rX,mB,pB,nj,qx,oQ,rZ,nD,qB,lJ,m6,nF,qD,oV,se,nL,qJ,mR,oC,qe,si,qi,su,nJ,qH,j5,lj,qh,sr,rH,ua,o_,qO,ug,vq,B5,DT,mD,pE,j_,lF,jV,kW,oS,r9,nA,qz,kQ,me,oR,r6,sv,vp,nZ,pP,o9,qN,B6,DU,mE,pF,mC,pC,lH,mY,j6,lp,nX,pN,o8,qM,yf,A7,lU,ox,nh,qw,nz,qy,qb,tX,oP,rY,nB,qA,nE,qC,oX,sg,oW,sf,oU,r_,nG,qE,qg,sk,nW,pM,qc,tY,lW,oB,F2,Js,rL,ud,rM,ue,B4,DS,nY,pO,rG,t_,yc,A4,mF,pG,lr,mM,uh,vt,kP,ma,lI,mZ,n9,pQ,qf,sj,mT,oF,nU,pL,yd,A5,ye,A6,lV,oA,rF,tZ,o7,qL,nT,pK,o2,qK,nR,pJ,nV,mz,qd,sh,nQ,pI,mS,oE,lO,mO,fa,(di "law" "law" (yb JJ) (uB JJ) (iX JJ) .none kV dc pm an cd ct),pT,jN,m9,pA,kb,jI,rb,pj,uQ,ow,i_,je,jm,jY,j8,ju,jE,jK⟩
 have T:Txt K mg A:=⟨l_is_whole.fn,
  l_is_whole.fn.binds (ps:=["thing"]) λ_ _ _ _ _ _=>DV λ_=>rfl,
  aG X G rO,
  l_meet_new.fn,
  l_meet_new.fn.binds (ps:=["places","met","seen"]) λ_ _ _ _ _ _=>F1 λ_ _ _=>rfl,
  aG X G yn,
  l_Space_init.fn,
  l_Space_init.fn.binds (ps:=["self","begin","end"]) λ_ _ _ _ _ _=>F1 λ_ _ _=>rfl,
  l_Space_room.fn,
  l_Space_room.fn.binds (ps:=["self"]) λ_ _ _ _ _ _=>DV λ_=>rfl,
  ⟨a_Space_room,i_Space_room,l_Space_room.kp⟩,
  l_Space_used.fn,
  l_Space_used.fn.binds (ps:=["self"]) λ_ _ _ _ _ _=>DV λ_=>rfl,
  ⟨a_Space_used,i_Space_used,l_Space_used.kp⟩,
  l_Space_empty.fn,
  l_Space_empty.fn.binds (ps:=["self"]) λ_ _ _ _ _ _=>DV λ_=>rfl,
  ⟨a_Space_empty,i_Space_empty,l_Space_empty.kp⟩,
  l_Areas_flip.fn,
  l_Areas_flip.fn.binds (ps:=["self"]) λ_ _ _ _ _ _=>DV λ_=>rfl,
  ⟨a_Areas_flip,i_Areas_flip,l_Areas_flip.kp⟩,
  l_Book_init.fn,
  l_Book_init.fn.binds (ps:=["self"]) λ_ _ _ _ _ _=>DV λ_=>rfl,
  l_Book_places.fn,
  l_Book_places.fn.binds (ps:=["self"]) λ_ _ _ _ _ _=>DV λ_=>rfl,
  ⟨a_Book_places,i_Book_places,l_Book_places.kp⟩,
  l_Book_clear.fn,
  l_Book_clear.fn.binds (ps:=["self"]) λ_ _ _ _ _ _=>DV λ_=>rfl,
  ⟨a_Book_clear,i_Book_clear,l_Book_clear.kp⟩,
  l_Hands_row.fn,
  l_Hands_row.fn.binds (ps:=["self"]) λ_ _ _ _ _ _=>DV λ_=>rfl,
  ⟨a_Hands_row,i_Hands_row,l_Hands_row.kp⟩,
  l_Lasts_init.fn,
  l_Lasts_init.fn.binds (ps:=["self"]) λ_ _ _ _ _ _=>DV λ_=>rfl,
  l_Lasts_pending.fn,
  l_Lasts_pending.fn.binds (ps:=["self"]) λ_ _ _ _ _ _=>DV λ_=>rfl,
  ⟨a_Lasts_pending,i_Lasts_pending,l_Lasts_pending.kp⟩,
  l_Lasts_said.fn,
  l_Lasts_said.fn.binds (ps:=["self"]) λ_ _ _ _ _ _=>DV λ_=>rfl,
  ⟨a_Lasts_said,i_Lasts_said,l_Lasts_said.kp⟩,
  l_Weak_init.fn,
  l_Weak_init.fn.binds (ps:=["self"]) λ_ _ _ _ _ _=>DV λ_=>rfl,
  l_Weak_names.fn,
  l_Weak_names.fn.binds (ps:=["self"]) λ_ _ _ _ _ _=>DV λ_=>rfl,
  ⟨a_Weak_names,i_Weak_names,l_Weak_names.kp⟩,
  l__law_cell_at.fn,
  l__law_cell_at.fn.binds (ps:=["_law_script","_law_k"]) λ_ _ _ _ _ _=>xW λ_ _=>rfl,
  aG X G kF,
  l__law_next.fn,
  l__law_next.fn.binds (ps:=["_law_seed"]) λ_ _ _ _ _ _=>DV λ_=>rfl,
  aG X G mI,
  l_is_within.fn,
  l_is_within.fn.binds (ps:=["thing","least","most"]) λ_ _ _ _ _ _=>F1 λ_ _ _=>rfl,
  aG X G j7,
  l_Space_take.fn,
  l_Space_take.fn.binds (ps:=["self","many"]) λ_ _ _ _ _ _=>xW λ_ _=>rfl,
  ⟨a_Space_take,i_Space_take,l_Space_take.kp⟩,
  l_Lasts_want_pending.fn,
  l_Lasts_want_pending.fn.binds (ps:=["self","ticket"]) λ_ _ _ _ _ _=>xW λ_ _=>rfl,
  ⟨a_Lasts_want_pending,i_Lasts_want_pending,l_Lasts_want_pending.kp⟩,
  l_is_number.fn,
  l_is_number.fn.binds (ps:=["thing"]) λ_ _ _ _ _ _=>DV λ_=>rfl,
  aG X G wz,
  l_is_place.fn,
  l_is_place.fn.binds (ps:=["thing"]) λ_ _ _ _ _ _=>DV λ_=>rfl,
  aG X G yl,
  l_want_slots.fn,
  l_want_slots.fn.binds (ps:=["slots"]) λ_ _ _ _ _ _=>DV λ_=>rfl,
  aG X G vc,
  l_is_head.fn,
  l_is_head.fn.binds (ps:=["number"]) λ_ _ _ _ _ _=>DV λ_=>rfl,
  aG X G D0,
  l_fits.fn,
  l_fits.fn.binds (ps:=["memory","at","slots"]) λ_ _ _ _ _ _=>F1 λ_ _ _=>rfl,
  aG X G KH,
  l_Memory_init.fn,
  l_Memory_init.fn.binds (ps:=["self","size"]) λ_ _ _ _ _ _=>xW λ_ _=>rfl,
  l_Memory_want_place.fn,
  l_Memory_want_place.fn.binds (ps:=["self","at"]) λ_ _ _ _ _ _=>xW λ_ _=>rfl,
  ⟨a_Memory_want_place,i_Memory_want_place,l_Memory_want_place.kp⟩,
  l_Memory_want_stretch.fn,
  l_Memory_want_stretch.fn.binds (ps:=["self","begin","many"]) λ_ _ _ _ _ _=>F1 λ_ _ _=>rfl,
  ⟨a_Memory_want_stretch,i_Memory_want_stretch,l_Memory_want_stretch.kp⟩,
  l_Space_has.fn,
  l_Space_has.fn.binds (ps:=["self","at"]) λ_ _ _ _ _ _=>xW λ_ _=>rfl,
  ⟨a_Space_has,i_Space_has,l_Space_has.kp⟩,
  l_Hands_init.fn,
  l_Hands_init.fn.binds (ps:=["self","many"]) λ_ _ _ _ _ _=>xW λ_ _=>rfl,
  l_Hands_want_hand.fn,
  l_Hands_want_hand.fn.binds (ps:=["self","hand"]) λ_ _ _ _ _ _=>xW λ_ _=>rfl,
  ⟨a_Hands_want_hand,i_Hands_want_hand,l_Hands_want_hand.kp⟩,
  l_Lasts_say.fn,
  l_Lasts_say.fn.binds (ps:=["self","ticket"]) λ_ _ _ _ _ _=>xW λ_ _=>rfl,
  ⟨a_Lasts_say,i_Lasts_say,l_Lasts_say.kp⟩,
  l_Weak_at.fn,
  l_Weak_at.fn.binds (ps:=["self","name"]) λ_ _ _ _ _ _=>xW λ_ _=>rfl,
  ⟨a_Weak_at,i_Weak_at,l_Weak_at.kp⟩,
  l_want_number.fn,
  l_want_number.fn.binds (ps:=["thing"]) λ_ _ _ _ _ _=>DV λ_=>rfl,
  aG X G uE,
  l_want_place.fn,
  l_want_place.fn.binds (ps:=["thing"]) λ_ _ _ _ _ _=>DV λ_=>rfl,
  aG X G mn,
  l_kind.fn,
  l_kind.fn.binds (ps:=["word"]) λ_ _ _ _ _ _=>DV λ_=>rfl,
  aG X G ym,
  l_Memory_read.fn,
  l_Memory_read.fn.binds (ps:=["self","at"]) λ_ _ _ _ _ _=>xW λ_ _=>rfl,
  ⟨a_Memory_read,i_Memory_read,l_Memory_read.kp⟩,
  l_Memory_copy.fn,
  l_Memory_copy.fn.binds (ps:=["self","start","goal","many"]) λ_ _ _ _ _ _=>Vb λ_ _ _ _=>rfl,
  ⟨a_Memory_copy,i_Memory_copy,l_Memory_copy.kp⟩,
  l_Areas_area_of.fn,
  l_Areas_area_of.fn.binds (ps:=["self","at"]) λ_ _ _ _ _ _=>xW λ_ _=>rfl,
  ⟨a_Areas_area_of,i_Areas_area_of,l_Areas_area_of.kp⟩,
  l_Weak_want_standing.fn,
  l_Weak_want_standing.fn.binds (ps:=["self","name"]) λ_ _ _ _ _ _=>xW λ_ _=>rfl,
  ⟨a_Weak_want_standing,i_Weak_want_standing,l_Weak_want_standing.kp⟩,
  l_number_word.fn,
  l_number_word.fn.binds (ps:=["n"]) λ_ _ _ _ _ _=>DV λ_=>rfl,
  aG X G wW,
  l_place_word.fn,
  l_place_word.fn.binds (ps:=["at"]) λ_ _ _ _ _ _=>DV λ_=>rfl,
  aG X G yo,
  l_worth.fn,
  l_worth.fn.binds (ps:=["word"]) λ_ _ _ _ _ _=>DV λ_=>rfl,
  aG X G yp,
  l_Memory_write.fn,
  l_Memory_write.fn.binds (ps:=["self","at","word"]) λ_ _ _ _ _ _=>F1 λ_ _ _=>rfl,
  ⟨a_Memory_write,i_Memory_write,l_Memory_write.kp⟩,
  l_Areas_init.fn,
  l_Areas_init.fn.binds (ps:=["self","old_words","young_words"]) λ_ _ _ _ _ _=>F1 λ_ _ _=>rfl,
  l_Book_write.fn,
  l_Book_write.fn.binds (ps:=["self","place"]) λ_ _ _ _ _ _=>xW λ_ _=>rfl,
  ⟨a_Book_write,i_Book_write,l_Book_write.kp⟩,
  l_Book_has.fn,
  l_Book_has.fn.binds (ps:=["self","place"]) λ_ _ _ _ _ _=>xW λ_ _=>rfl,
  ⟨a_Book_has,i_Book_has,l_Book_has.kp⟩,
  l_Hands_put.fn,
  l_Hands_put.fn.binds (ps:=["self","hand","word"]) λ_ _ _ _ _ _=>F1 λ_ _ _=>rfl,
  ⟨a_Hands_put,i_Hands_put,l_Hands_put.kp⟩,
  l_Lasts_give.fn,
  l_Lasts_give.fn.binds (ps:=["self","at","number"]) λ_ _ _ _ _ _=>F1 λ_ _ _=>rfl,
  ⟨a_Lasts_give,i_Lasts_give,l_Lasts_give.kp⟩,
  l_Lasts_move.fn,
  l_Lasts_move.fn.binds (ps:=["self","ticket","at"]) λ_ _ _ _ _ _=>F1 λ_ _ _=>rfl,
  ⟨a_Lasts_move,i_Lasts_move,l_Lasts_move.kp⟩,
  l_Weak_name.fn,
  l_Weak_name.fn.binds (ps:=["self","at"]) λ_ _ _ _ _ _=>xW λ_ _=>rfl,
  ⟨a_Weak_name,i_Weak_name,l_Weak_name.kp⟩,
  l_Weak_move.fn,
  l_Weak_move.fn.binds (ps:=["self","name","at"]) λ_ _ _ _ _ _=>F1 λ_ _ _=>rfl,
  ⟨a_Weak_move,i_Weak_move,l_Weak_move.kp⟩,
  l_Weak_gone.fn,
  l_Weak_gone.fn.binds (ps:=["self","name"]) λ_ _ _ _ _ _=>xW λ_ _=>rfl,
  ⟨a_Weak_gone,i_Weak_gone,l_Weak_gone.kp⟩,
  l_Roots_init.fn,
  l_Roots_init.fn.binds (ps:=["self","many"]) λ_ _ _ _ _ _=>xW λ_ _=>rfl,
  l_head_word.fn,
  l_head_word.fn.binds (ps:=["slots","age"]) λ_ _ _ _ _ _=>xW λ_ _=>rfl,
  aG X G wy,
  l_head_number.fn,
  l_head_number.fn.binds (ps:=["memory","at"]) λ_ _ _ _ _ _=>xW λ_ _=>rfl,
  aG X G wV,
  l_Book_rub.fn,
  l_Book_rub.fn.binds (ps:=["self","place"]) λ_ _ _ _ _ _=>xW λ_ _=>rfl,
  ⟨a_Book_rub,i_Book_rub,l_Book_rub.kp⟩,
  l_Roots_starts.fn,
  l_Roots_starts.fn.binds (ps:=["self"]) λ_ _ _ _ _ _=>DV λ_=>rfl,
  ⟨a_Roots_starts,i_Roots_starts,l_Roots_starts.kp⟩,
  l_lay.fn,
  l_lay.fn.binds (ps:=["memory","at","slots"]) λ_ _ _ _ _ _=>F1 λ_ _ _=>rfl,
  aG X G Q9,
  l_slots_of.fn,
  l_slots_of.fn.binds (ps:=["memory","at"]) λ_ _ _ _ _ _=>xW λ_ _=>rfl,
  aG X G vG,
  l_words_of.fn,
  l_words_of.fn.binds (ps:=["memory","at"]) λ_ _ _ _ _ _=>xW λ_ _=>rfl,
  aG X G vH,
  l_aged.fn,
  l_aged.fn.binds (ps:=["memory","at","age"]) λ_ _ _ _ _ _=>F1 λ_ _ _=>rfl,
  aG X G Gm,
  l_slot_places.fn,
  l_slot_places.fn.binds (ps:=["memory","at"]) λ_ _ _ _ _ _=>xW λ_ _=>rfl,
  aG X G uD,
  l_children.fn,
  l_children.fn.binds (ps:=["memory","at"]) λ_ _ _ _ _ _=>xW λ_ _=>rfl,
  aG X G B9,
  l_goals.fn,
  l_goals.fn.binds (ps:=["areas","kept"]) λ_ _ _ _ _ _=>xW λ_ _=>rfl,
  aG X G KI,
  l_Space_cells.fn,
  l_Space_cells.fn.binds (ps:=["self","memory"]) λ_ _ _ _ _ _=>xW λ_ _=>rfl,
  ⟨a_Space_cells,i_Space_cells,l_Space_cells.kp⟩,
  l_Areas_lay_into.fn,
  l_Areas_lay_into.fn.binds (ps:=["self","space","slots","age"]) λ_ _ _ _ _ _=>Vb λ_ _ _ _=>rfl,
  ⟨a_Areas_lay_into,i_Areas_lay_into,l_Areas_lay_into.kp⟩,
  l_reached.fn,
  l_reached.fn.binds (ps:=["memory","starts"]) λ_ _ _ _ _ _=>xW λ_ _=>rfl,
  aG X G D1,
  l_Areas_lay_young.fn,
  l_Areas_lay_young.fn.binds (ps:=["self","slots"]) λ_ _ _ _ _ _=>xW λ_ _=>rfl,
  ⟨a_Areas_lay_young,i_Areas_lay_young,l_Areas_lay_young.kp⟩,
  l_Areas_lay_old.fn,
  l_Areas_lay_old.fn.binds (ps:=["self","slots"]) λ_ _ _ _ _ _=>xW λ_ _=>rfl,
  ⟨a_Areas_lay_old,i_Areas_lay_old,l_Areas_lay_old.kp⟩,
  l_word_behind.fn,
  l_word_behind.fn.binds (ps:=["where","word"]) λ_ _ _ _ _ _=>xW λ_ _=>rfl,
  aG X G uF,
  l__law_word.fn,
  l__law_word.fn.binds (ps:=["_law_cells","_law_seed"]) λ_ _ _ _ _ _=>xW λ_ _=>rfl,
  aG X G sE,
  l__law_reached.fn,
  l__law_reached.fn.binds (ps:=["_law_cells","_law_hands"]) λ_ _ _ _ _ _=>xW λ_ _=>rfl,
  aG X G vF,
  l__law_turned.fn,
  l__law_turned.fn.binds (ps:=["_law_word_here","_law_where"]) λ_ _ _ _ _ _=>xW λ_ _=>rfl,
  aG X G uC,
  l_renew.fn,
  l_renew.fn.binds (ps:=["memory","where","at"]) λ_ _ _ _ _ _=>F1 λ_ _ _=>rfl,
  aG X G KJ,
  l_slide.fn,
  l_slide.fn.binds (ps:=["areas","at","goal"]) λ_ _ _ _ _ _=>F1 λ_ _ _=>rfl,
  aG X G KL,
  l_Roots_follow.fn,
  l_Roots_follow.fn.binds (ps:=["self","goal_of"]) λ_ _ _ _ _ _=>xW λ_ _=>rfl,
  ⟨a_Roots_follow,i_Roots_follow,l_Roots_follow.kp⟩,
  l__law_lay.fn,
  l__law_lay.fn.binds (ps:=["_law_areas","_law_side","_law_slots","_law_cells"]) λ_ _ _ _ _ _=>Vb λ_ _ _ _=>rfl,
  aG X G yj,
  l__law_write.fn,
  l__law_write.fn.binds (ps:=["_law_areas","_law_roots","_law_cells","_law_at","_law_slot","_law_word_here"]) λ_ _ _ _ _ _=>Zw λ_ _ _ _ _ _=>rfl,
  aG X G vb,
  l__law_tabled.fn,
  l__law_tabled.fn.binds (ps:=["_law_roots","_law_cells","_law_script","_law_names","_law_tickets"]) λ_ _ _ _ _ _=>Ye λ_ _ _ _ _=>rfl,
  aG X G wR,
  l__law_moved.fn,
  l__law_moved.fn.binds (ps:=["_law_s"]) λ_ _ _ _ _ _=>DV λ_=>rfl,
  aG X G yk,
  l__law_stands.fn,
  l__law_stands.fn.binds (ps:=["_law_areas","_law_roots","_law_s","_law_top"]) λ_ _ _ _ _ _=>Vb λ_ _ _ _=>rfl,
  aG X G wQ,
  l_collect_all.fn,
  l_collect_all.fn.binds (ps:=["areas","roots"]) λ_ _ _ _ _ _=>xW λ_ _=>rfl,
  vN,
  vJ,
  aG X G wU,
  l__law_laid.fn,
  l__law_laid.fn.binds (ps:=["_law_areas","_law_rooms","_law_script"]) λ_ _ _ _ _ _=>F1 λ_ _ _=>rfl,
  aG X G zW,
  l__law_filled.fn,
  l__law_filled.fn.binds (ps:=["_law_areas","_law_roots","_law_cells","_law_seed"]) λ_ _ _ _ _ _=>Vb λ_ _ _ _=>rfl,
  aG X G wO,
  l__law_changed.fn,
  l__law_changed.fn.binds (ps:=["_law_areas","_law_roots","_law_s","_law_cell","_law_rooms"]) λ_ _ _ _ _ _=>Ye λ_ _ _ _ _=>rfl,
  aG X G vE,
  l__law_collected.fn,
  l__law_collected.fn.binds (ps:=["_law_areas","_law_roots","_law_s"]) λ_ _ _ _ _ _=>F1 λ_ _ _=>rfl,
  aG X G oG,
  l_law.fn,
  aG X G Gi,
  ⟨pg_Memory,hd_Memory,po_Memory,sa_Memory⟩,
  ⟨D8,a_Memory_init,i_Memory_init,kc_Memory⟩,
  oM,
  mh,
  aG X G Dd,
  ⟨pg_Space,hd_Space,po_Space,sa_Space⟩,
  ⟨Ab,a_Space_init,i_Space_init,kc_Space⟩,
  lY,
  vf,
  lQ,
  aG X G KA,
  ⟨pg_Areas,hd_Areas,po_Areas,sa_Areas⟩,
  ⟨GO,a_Areas_init,i_Areas_init,kc_Areas⟩,
  jP,
  kK,
  lX,
  oJ,
  aG X G NT,
  ⟨pg_Book,hd_Book,po_Book,sa_Book⟩,
  ⟨K_,a_Book_init,i_Book_init,kc_Book⟩,
  lK,
  aG X G KC,
  ⟨pg_Hands,hd_Hands,po_Hands,sa_Hands⟩,
  ⟨GP,a_Hands_init,i_Hands_init,kc_Hands⟩,
  oK,
  aG X G KD,
  ⟨pg_Lasts,hd_Lasts,po_Lasts,sa_Lasts⟩,
  ⟨GQ,a_Lasts_init,i_Lasts_init,kc_Lasts⟩,
  jQ,
  m7,
  aG X G NU,
  ⟨pg_Weak,hd_Weak,po_Weak,sa_Weak⟩,
  ⟨La,a_Weak_init,i_Weak_init,kc_Weak⟩,
  mw,
  aG X G KG,
  ⟨pg_Roots,hd_Roots,po_Roots,sa_Roots⟩,
  ⟨GR,a_Roots_init,i_Roots_init,kc_Roots⟩,
  lD,
  oa,
  k_,
  lE,
  ⟨_,aG X G vx,⟨_,rfl⟩⟩,
  ⟨_,aG X G uM,⟨_,rfl⟩⟩,
  ⟨_,aG X G za,⟨_,rfl⟩⟩,
  ⟨_,aG X G vn,⟨_,rfl⟩⟩,
  ⟨_,aG X G uv,⟨_,rfl⟩⟩,
  ⟨_,aG X G zb,⟨_,rfl⟩⟩,
  ⟨_,aG X G tK,⟨_,rfl⟩⟩,
  ⟨_,aG X G uw,⟨_,rfl⟩⟩,
  ⟨_,aG X G q_,⟨_,rfl⟩⟩,
  ⟨_,aG X G rV,⟨_,rfl⟩⟩,
  ⟨_,aG X G y_,⟨_,rfl⟩⟩,
  aG X G zU,
  aG X G A9,
  aG X G n_,
  aG X G vw,
  aG X G Gk,
  aG X G Dc,
  aG X G Gj,
  aG X G zV,
  oo,
  AZ,
  Bj,
  DJ,
  HF,
  A0,
  vy,
  HG,
  u0,
  um,
  z0,
  yw,
  yy,
  wD,
  Cj,
  z6,
  z5,
  yz,
  yA,
  wY,
  z4,
  yx,
  cJ X G Lb,
  cJ X G wF,
  cJ X G O9,
  cJ X G qT,
  cJ X G sU,
  cJ X G yC,
  cJ X G rB,
  cJ X G vP⟩
 exact⟨_,λs v=> .of_eq rfl,λbase _ _=>VG T⟩
theorem walk{l:gb}{q:Program}{loose:List Str}{XP:(Str->Option Value)->Heap->Prop}{d:DefRec}{K:Params->aA}{as:List Addr}{e:∀P,as=(K P).map (·.1)}{jN:Addr}(hn:l.most=some 63)(hdf:d.params.defaults=[])
  (hK_collect_all:∀w:World,(K w.params).lookup jN=none) (hc_collect_all:∀w:World,∃c,de (K w.params) c jN=true)
  (F:∀(w:World) (mg:Str->Option Value) (fa:Addr) (h:Heap),(K w.params).In h->h.Ns mainGlobals mg->mg d.name=some (.ref fa)->
   ∃fd:FuncData,(∀(s:Shared) (u:Value),BindsTo s fd ⟨[u],[]⟩ [("_law_script",u)])/\∀base:Heap,(K w.params).In base->base.Ns mainGlobals mg->jA l.prog w (K w.params) mg base (lG l.prog w) true 15 fa fd ["_law_script"] (FE (K w.params) jN)):
  iK q loose XP (PySem.W.kmHook K as e [jN]).says l.row.toRowW d [] (λf vs=>iC f vs):=
 L2.Sk (ts:=[jN]) (n:=63) (k:=15) (x:="_law_script") (ca:=true) (CX:=λw=>lG l.prog w) (sp:=λw=>FE (K w.params) jN) hn (by decide) hdf ⟨λ_=>rfl,by decide,by decide⟩ (λ_ _ Y=>PySem.W.km_in_of Y) (λ_ _ Y=>PySem.W.km_tabs_of Y)
  (λw=>List.forall_mem_cons.mpr ⟨hK_collect_all w,λ_ z=>nomatch z⟩) (λw=>List.forall_mem_cons.mpr ⟨hc_collect_all w,λ_ z=>nomatch z⟩) F (λ_ _ a ns hl hO hS=>⟨a,ns,rfl,Y_ hO hS,hl,hO.2 _ (a_ ..),λ_=>rfl⟩)
  λ_ _ _ _ _ ⟨_,_,_,_,_,_,_,_,_,_,_,_,z⟩=>z
end
end K16
structure PySem.W.Fast:Prop where
 (tw7053325453702129645 tw7990095725393225383 tw1258285530138209155 tw17883397248393577237 tw16817972716708799767 tw7634962502405750696 tw3038317975164714150 tw12574292783711099805 tw7708283821225980373 tw5542205986972549067 tw6565328903656662416 tw13128665971565644011 tw1668019513319128363 tw5338019206769525053 tw6459200527971755103 tw10837054118386759232 tw7316594888779130293 tw789120158784882290 tw11685364459186594747 tw16199424567202956155 tw14835113077238494367 tw7024066456492649334 tw10971706031841161696 tw17428510766488852501 tw2604048589331861815 tw16807003328040377956 tw12896101248228365587 tw7084174086993395869 tw5273639767898984377 tw4105987867601546045 tw2656211865566453115 tw8928994783731221909 tw354876059586330222 tw16916626317614548349 tw9497009161335894440 tw3711282670857955721 tw8138778957511779384 tw17156255336390811807 tw8631712590198741558 tw14777917825124537968 tw4071795960052237781 tw10531028402532708213 tw8762909624543953116 tw15118348061290246005 tw16450179507750637410 tw960523637866250575 tw16442446754518128957 tw10789585960104682120 tw5712316954233060491 tw284072661357497303 tw4867387053520576049 tw18001328055872296110 tw16241457594809021515 tw3189062372524623920 tw15017359936805741849 tw1741436648762482188 tw1516190575515747774 tw6697377018614113807 tw6829004426346811148 tw3752392707716581182 tw10704814866104177204 tw3676050252660335568 tw4301506095921427831 tw10561359626998189543 tw15962067357901483975 tw1264457135923386407 tw10329839917460519738 tw1014640279874451268 tw1137944043913212114 tw10411889550203695059 tw1598651699897796067 tw3123460553135161201 tw7893713052450917753 tw14955519642594987845 tw4766759027267256994 tw8966318129466877435 tw11789949862819167742 tw15183110915618524461 tw5813969373321251236 tw15591857784130340241 tw5105523944992104265 tw5903614078766407018 tw7456750524847529521 tw9643420333124908034 tw5827073252749646052 tw18120092923572307614 tw1492630272091891650 tw13367962933280455112 tw11263804297824132850 tw17143831280722808202 tw5529392148509128550 tw3395304539176531293 tw18400091859635021605 tw14454051748509713569 tw13100499801306419698 tw10302694806110471497 tw3407716541505704996 tw5430985192857265540 tw5767545082181126098 tw10825089594554925437 tw9862139519364984118 tw14537587781960278747 tw14283290652473463099 tw3990843652535373849 tw17413293045386431138 tw14961882624141176675 tw10846344621220509014 tw817951995688173082 tw13094883460178323995 tw9265103008920377066 tw12983590284979894498 tw433864521014166504 tw12154318627651696064 tw16816375745140030364 tw6879768872655301723 tw10073894962233556049 tw3050198949033554701 tw9697740537520873234 tw2883730493771767123 tw7013289940255142598 tw4715376327188845511 tw10603818076010673254 tw5140728158705188669 tw16965541749260605099 tw16434080698602394020 tw14028478915712509755 tw18051318747430109856 tw15850668278416953635 tw10509493340702746240 tw3561643975424464272 tw5225751842603343084 tw17926946993316140119 tw13466657095488770160 tw8706434002808172154 tw15708044796802222019 tw16749420669103729792 tw3736105937874066777 tw8510690037829775156 tw1679581938077268067 tw8761677811185767970 tw5474002646078893909 tw9834772437016387081 tw14658865740256499786 tw8075931250551549545 tw5020853783381459899 tw16662026601128488802 tw18189139098454789577 tw2876613571408291201 tw4123706955279796555 tw13370588646066923655 tw1532254717859350511 tw5409383250389689371 tw15877833346564937604 tw3126268506229853204 tw3802328091235349681 tw7078326325150492592 tw10963822563881351832 tw9195622346716910782 tw6747873155552015116 tw4185429007776884092 tw15172597136895052221 tw18004000707326053367 tw17932872668233439706 tw4978763435611296986 tw17716326569948481723 tw2953548886725056681 tw8536867442685916424 tw6803732329779047058 tw9411777796934821102 tw2223826140096125351 tw12743336187680031315 tw11954962833027296390 tw7578193718558854273 tw3811825224985222591 tw16526719255283708684 tw6243643493097215062 tw10073456409705950065 tw1663547553164010646 tw9799732128423290114 tw13179437808335482004 tw11992818220364874391 tw7137119277285645862 tw13736521477350970360 tw7230517649317169603 tw15595570855446381831 tw5303873137929404437 tw10498281765030598349 tw17346043375891100808 tw12733502929251826609 tw8059052493022943006 tw2716826272385258170 tw16372393627910500638 tw16870161632602752047 tw13772840777930314729 tw5325410218289858203 tw13862904189089571449 tw1495574476430503225 tw17209590932772056314 tw14796727578320706228 tw18339587720440199718 tw756348903554763521 tw11646713572025410911 tw15969343441424524238 tw7483031609092478873 tw9312556291480116525 tw6841414914450810062 tw15331827847863774753 tw17646631827182042300 tw13362504663110185833 tw16128351331126610358 tw8627023864146500776 tw113525709190947490 tw13446558867140397278 tw3393003400633545543 tw16167584619797415139 tw410259141444819219 tw16704406318659213664 tw2483004494943632086 tw1238369042453531009 tw2897323421286199743 tw679884203475364628 tw5279909697841245900 tw3229233774209347638 tw9375806506848787490 tw1620398185830776653 tw7127226527484511432 tw14213207287490844696 tw15628534325615905558 tw5691519055719337139 tw2225509990233667702 tw13552802648282277076 tw11922127445983233700 tw13632357648460027149 tw3870221617094386312 tw10563403275563748056 tw6338514194090565286 tw14657801985171025923 tw517844919922464156 tw13726553268924409752 tw11325071012423178928 tw11150829598894470461 tw4387029171069406022 tw5134664940093613020 tw10904695751659090950 tw13209691278142094788 tw15479258951502465314 tw14370134048321467883 tw12029313107097499826 tw9000268214672574770 tw4545750697260126326 tw9102797039000398865 tw13578045286215058159 tw6187357804831288061 tw13544185964885367420 tw11756056536329934710 tw315775287987484805 tw8257737692463034040 tw1510594753145733171 tw14901904429541366143 tw13542435712868579990 tw8807489234804795288 tw11020865710526181621 tw11474954597666470080 tw18215457776179750055 tw9455427711507785325 tw18085935617596195922 tw14239023288299657432 tw8987061846882670004 tw18345994910986809793 tw8259646116562602570 tw2513575253514403173 tw6873299527078826232 tw6711870909470700114 tw15964842028329959202 tw6849443117509059176 tw14032431126725772873 tw1123507269973259499 tw11302370731494352859 tw6968584469430370603 tw8816032623474058858 tw17115318521901559691 tw16200502421026013915 tw7854164273319426523 tw2718068861460239415 tw8014743108338042139 tw13334511494477147254 tw8281040284765196091 tw5653166006196441787 tw11058651565181158170 tw5416440900209979964 tw13864929112168545533 tw2688566198047503856 tw5720107843634482964 tw18009795432082859070 tw14041273572429170866 tw6983914865859445510 tw194018041290297275 tw9025263652217267739 tw3474758025482631803 tw13126688796186659045 tw6917511224218494479 tw7584735148990799882 tw11266555274710681181 tw15920997679462403901 tw6208032936122536805 tw16880372889344043392 tw6693266313721466424 tw18427784928920661893 tw1861521848914450663 tw4477501667729925693 tw8469701298265528667 tw16162992845099236391 tw4593585864154952149 tw8745681316035391360 tw17271751262285189183 tw12102675513178105811 tw9216389163472097827 tw16955150126085435134 tw4178121939354562073 tw17284461353439968043 tw425364519299383440 tw17327784731169377669 tw11533346742122290522 tw14128336036804201687 tw4403073835757236956 tw11481598869894736757 tw8433948241598372628 tw5251463215028795108 tw8419739099067357283 tw8209242692852440222 tw2476152656468104146 tw8953552897070183480 tw12633467474169393762 tw1567369885709960093 tw11730199441394621056 tw15484110806408761099 tw7329953824575212644 tw10285974320989376838 tw10749652294492850820 tw4970427455738255274 tw10711749079133571609 tw13671129704341965756 tw15072135269292919215 tw15951832971506197068 tw2442851145977996953 tw2521812939078702499 tw11520223795715943174 tw6020689005865060812 tw3860060392069438606 tw5440719124132497108 tw15223584461275236478 tw11545112377681234160 tw14448610637145408798 tw249266308047839364 tw13492423164302331670 tw7667106877226930076 tw15900531680886899696 tw8080432885041285241 tw16737678611484144430 tw3437289399870142357 tw4410617050927134454 tw12534393979117999632 tw4486624867794454047 tw12617594105841597181 tw7591242836311421937 tw15670539760151217659 tw11345376603157207547 tw16529061066995737004 tw1036329910170830532 tw834120333220608828 tw2478541472770622255 tw14456940055317503792 tw1984105625565807817 tw12321353544488358899 tw15159807565250074936 tw7539249657432685021 tw14971331667970289921 tw4566567497153966868 tw11691081986759899195 tw572232461423838795 tw17172041872979319937 tw12437763605564445904 tw11731991801009798814 tw17996482051643940218 tw1459850401162082506 tw4027427797279161114 tw10316513805249433891 tw1912424518906741035 tw4097668468760903985 tw15533353636569671417 tw11243365486235451881 tw11600284611740993684 tw13706908386654327896 tw12724900305785978047 tw10887783980456492581 tw258181128932885106 tw8006080953986841812 tw17456442102554731510 tw12001493421834429337 tw12590717233407736836 tw10768071896016214214 tw4272741507157855193 tw7123596506316247140 tw17566129149570539076 tw16796949594503532844 tw7627014447122332660 tw9180233707806296248 tw4296240144924929515 tw4189661680816121311 tw6144726477886491207 tw10235123151818388821 tw2033460103679641911 tw14716514682048645671 tw14904928664722148191 tw5252131511936247481 tw6240538397284853293 tw18127954925139548675 tw10835402029360279181:True)
open PySem PySem.W PyProof.Rows
set_option maxRecDepth 100000 in
set_option maxHeartbeats 0 in
theorem PySem.Challenge.cw_cellkeep_k16_whole_slid_holds : PySem.Challenge.rw_cellkeep_k16_whole_slid.Holds := by
 w_on; o_law; k_head; (case hw => w_witness2)
 k_fill
 refine K16.walk (l := PySem.Challenge.rw_cellkeep_k16_whole_slid) rfl rfl (fun _ => ?hK) (fun _ => ?hC) ?F
 case hK => kernel_rfl
 case hC => exact ⟨302, by kernel_rfl⟩
 case F =>
  intro w mg fa h KX G hmg
  refine' K16.all_mk KX G hmg ?a0 ?a1 ?a2 ?a3 ?a4 ?a5 ?a6 ?a7 ?a8 ?a9 ?a10 ?a11 ?a12 ?a13 ?a14 ?a15 ?a16 ?a17 ?a18 ?a19 ?a20 ?a21 ?a22 ?a23 ?a24 ?a25 ?a26 ?a27 ?a28 ?a29 ?a30 ?a31 ?a32 ?a33 ?a34 ?a35 ?a36 ?a37 ?a38 ?a39 ?a40 ?a41 ?a42 ?a43 ?a44 ?a45 ?a46 ?a47 ?a48 ?a49 ?a50 ?a51 ?a52 ?a53 ?a54 ?a55 ?a56 ?a57 ?a58 ?a59 ?a60 ?a61 ?a62 ?a63 ?a64 ?a65 ?a66 ?a67 ?a68 ?a69 ?a70 ?a71 ?a72 ?a73 ?a74 ?a75 ?a76 ?a77 ?a78 ?a79 ?a80 ?a81 ?a82 ?a83 ?a84 ?a85 ?a86 ?a87 ?a88 ?a89 ?a90 ?a91 ?a92 ?a93 ?a94 ?a95 ?a96 ?a97 ?a98 ?a99 ?a100 ?a101 ?a102 ?a103 ?a104 ?a105 ?a106 ?a107 ?a108 ?a109 ?a110 ?a111 ?a112 ?a113 ?a114 ?a115 ?a116 ?a117 ?a118 ?a119 ?a120 ?a121 ?a122 ?a123 ?a124 ?a125 ?a126 ?a127 ?a128 ?a129 ?a130 ?a131 ?a132 ?a133 ?a134 ?a135 ?a136 ?a137 ?a138 ?a139 ?a140 ?a141 ?a142 ?a143 ?a144 ?a145 ?a146 ?a147 ?a148 ?a149 ?a150 ?a151 ?a152 ?a153 ?a154 ?a155 ?a156 ?a157 ?a158 ?a159 ?a160 ?a161 ?a162 ?a163 ?a164 ?a165 ?a166 ?a167 ?a168 ?a169 ?a170 ?a171 ?a172 ?a173 ?a174 ?a175 ?a176 ?a177 ?a178 ?a179 ?a180 ?a181 ?a182 ?a183 ?a184 ?a185 ?a186 ?a187 ?a188 ?a189 ?a190 ?a191 ?a192 ?a193 ?a194 ?a195 ?a196 ?a197 ?a198 ?a199 ?a200 ?a201 ?a202 ?a203 ?a204 ?a205 ?a206 ?a207 ?a208 ?a209 ?a210 ?a211 ?a212 ?a213 ?a214 ?a215 ?a216 ?a217 ?a218 ?a219 ?a220 ?a221 ?a222 ?a223 ?a224 ?a225 ?a226 ?a227 ?a228 ?a229 ?a230 ?a231 ?a232 ?a233 ?a234 ?a235 ?a236 ?a237 ?a238 ?a239 ?a240 ?a241 ?a242 ?a243 ?a244 ?a245 ?a246 ?a247 ?a248 ?a249 ?a250 ?a251 ?a252 ?a253 ?a254 ?a255 ?a256 ?a257 ?a258 ?a259 ?a260 ?a261 ?a262 ?a263 ?a264 ?a265 ?a266 ?a267 ?a268 ?a269 ?a270 ?a271 ?a272 ?a273 ?a274 ?a275 ?a276 ?a277 ?a278 ?a279 ?a280 ?a281 ?a282 ?a283 ?a284 ?a285 ?a286 ?a287 ?a288 ?a289 ?a290 ?a291 ?a292 ?a293 ?a294 ?a295 ?a296 ?a297 ?a298 ?a299 ?a300 ?a301 ?a302 ?a303 ?a304 ?a305 ?a306 ?a307 ?a308 ?a309 ?a310 ?a311 ?a312 ?a313 ?a314 ?a315 ?a316 ?a317 ?a318 ?a319 ?a320 ?a321 ?a322 ?a323 ?a324 ?a325 ?a326 ?a327 ?a328 ?a329 ?a330 ?a331 ?a332 ?a333 ?a334 ?a335 ?a336 ?a337 ?a338 ?a339 ?a340 ?a341 ?a342 ?a343 ?a344 ?a345 ?a346 ?a347 ?a348
  case a0 | a1 | a2 | a3 | a4 | a5 | a6 | a7 | a8 | a9 | a10 | a11 | a12 | a13 | a14 | a15 | a16 | a17 | a18 | a19 | a20 | a21 | a22 | a23 | a24 | a25 | a26 | a27 | a28 | a29 | a30 | a31 | a32 | a33 | a34 | a35 | a36 | a37 | a38 | a39 | a40 | a41 | a42 | a43 | a44 | a45 | a46 | a47 | a48 | a49 | a50 | a51 | a52 | a53 | a54 | a55 | a56 | a57 | a58 | a59 | a60 | a61 | a62 | a63 | a64 | a65 | a66 | a67 | a68 | a69 | a70 | a71 | a72 | a73 | a74 | a75 | a76 | a77 | a78 | a79 | a80 | a81 | a82 | a83 | a84 | a85 | a86 | a87 | a88 | a89 | a90 | a91 | a92 | a93 | a94 | a95 | a96 | a97 | a98 | a99 | a100 | a101 | a102 | a103 | a104 | a105 | a106 | a107 | a108 | a109 | a110 | a111 | a112 | a113 | a114 | a115 | a116 | a117 | a118 | a119 | a120 | a121 | a122 | a123 | a124 | a125 | a126 | a127 | a128 | a129 | a130 | a131 | a132 | a133 | a134 | a135 | a136 | a137 | a138 | a139 | a140 | a141 | a142 | a143 | a144 | a145 | a146 | a147 | a148 | a149 | a150 | a151 | a152 | a153 | a154 | a155 | a156 | a157 | a158 | a159 | a160 | a161 | a162 | a163 | a164 | a165 | a166 | a167 | a168 | a169 | a170 | a171 | a172 | a173 | a174 | a175 | a176 | a177 | a178 | a179 | a180 | a181 | a182 | a183 | a184 | a185 | a186 | a187 | a188 | a189 | a190 | a191 | a192 | a193 | a194 | a195 | a196 | a197 | a198 | a199 | a200 | a201 | a202 | a203 | a204 | a205 | a206 | a207 | a208 | a209 | a210 | a211 | a212 | a213 | a214 | a215 | a216 | a217 | a218 | a219 | a220 | a221 | a222 | a223 | a224 | a225 | a226 | a227 | a228 | a229 | a230 | a231 | a232 | a233 | a234 | a235 => k_is
  case a236 | a237 | a238 | a239 | a240 | a241 | a242 | a243 | a244 | a245 | a246 | a247 | a248 | a249 | a250 | a251 | a252 | a253 | a254 | a255 | a256 | a257 | a258 | a259 | a260 | a261 | a262 | a263 | a264 | a265 | a266 | a267 | a268 | a269 | a270 | a271 | a272 | a273 | a274 | a275 | a276 | a277 | a278 | a279 | a280 | a281 | a282 | a283 | a284 | a285 | a286 | a287 | a288 | a289 | a290 | a291 | a292 | a293 | a294 | a295 | a296 | a297 | a298 | a299 | a300 | a301 | a302 | a303 | a304 | a305 | a306 | a307 | a308 | a309 | a310 | a311 | a312 | a313 | a314 | a315 | a316 | a317 | a318 | a319 | a320 | a321 | a322 | a323 | a324 => exact ⟨⟨_, _, _, _, _, _, _, _, _, by k_is, by k_is, by k_is, rfl⟩⟩
  case a325 => rfl
  case a326 | a327 | a328 | a329 | a330 | a331 | a332 | a333 => k_exc
  case a334 => kernel_rfl
  case a335 | a336 | a337 | a338 | a339 | a340 | a341 | a342 | a343 | a344 | a345 | a346 | a347 | a348 => kit_is
