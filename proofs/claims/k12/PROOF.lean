import PyProof.Rows.All
import Wide.All
import OpenK.AllK
import Wide.FinOn
import Lean
import PyProof.EqAt
import PyProof.EqKinds
import PyProof.TupleCall
import PySem.Challenge.RW_cellkeep_k12_whole_young
set_option Elab.async false
set_option linter.all false
set_option maxRecDepth 100000
set_option maxHeartbeats 4000000
open List renaming getElem?_cons_zero->aa,getElem?_cons_succ->ae,getElem?_eq_getElem->af,replicate->ah,length_cons->ai,length_map->aj,map_cons->ao,length_nil->aq,getD_eq_getElem?_getD->au,set_cons_succ->ax,set_cons_zero->ay,map_nil->aB,append_nil->aD,mem_cons_self->aM,mem_cons_of_mem->aP,getElem?_map->aT,mem_singleton->aU,size_toArray->aX,length_append->aY,length_set->bf,map_append->bo,cons_append->bq,mem_append_right->br,nil_append->bw,lookup->bx,not_mem_nil->bz,length_replicate->bA,getElem?_set->bC,range->bG,getElem_mem->bH,mem_cons->bI,mem_map_of_mem->bK,all_cons->bP,filter_cons_of_neg->bR,filter_cons_of_pos->bS,map_map->bU,mem_append_left->bV,mem_of_getElem?->bW,sum_cons->b8,length_range->cb,take_add_one->cx,getElem?_append_right->cz,nodup_nil->cD,take_length->cF,replicate_succ->cG,getElem?_eq_none->cK,getElem?_append_left->cO,getElem?_zipWith->cT,length_filter_le->cU,getElem?_replicate->cV,length_zipWith->cY,map_congr_left->cZ,length_take->c_,lookup_cons->de,filter_append->df,filter_nil->dj,mem_append->dk,zipWith->dD,flatten_cons->dJ,find?_cons->dS,flatMap_cons->dU,getElem_map->dY,any_cons->d7,filterMap_cons->d8,filter_map->d_,mem_or_eq_of_mem_set->eA,sum_append->eB,eq_of_mem_replicate->eK,pairwise_cons->eM,append_assoc->eN,length->eR,all_eq_true->eU,length_drop->eV,map_id'->fc,map_set->fh,of_mem_zip->fj,sum_nil->fk,exists_mem_of_length_pos->fw,getElem?_range->fA,map_drop->fM,getElem?_take_of_lt->fU,range_succ->f9,flatMap_singleton->gm,getElem?_set_self->gn,length_pos_of_mem->gp,map_id->gq,range_succ_eq_map->gr,take_of_length_le->gu,getElem?_set_ne->gK,map->gL,mem_of_mem_drop->gM,mem_of_mem_take->gN,filter_sublist->gR,flatMap_append->gS,getElem?_drop->hJ,map_replicate->hU,mem_map->hV,ext_getElem?->ik,filter_congr->iq,foldl_append->ir,all_toArray->iD,filter_cons->iE,flatMap_nil->iF,mem_flatMap->iG,nodup_range->iH,foldl->iM,forIn_cons->iN,mem_filter->iO,mem_range->iS,take_zero->iT
open Option.some renaming injEq->ak,inj->bp
open List.cons renaming injEq->av
open Int renaming reduceAdd->az,reduceNeg->bc,reduceLT->bt,toNat_natCast->bB,reducePow->bD,reduceSub->bE,zero_add->bM,le_refl->cN,toNat_of_nonneg->dB,emod_nonneg->e8,reduceLE->e_,reduceEq->fT,emod_lt_of_pos->g_,le_trans->hE,reduceToNat->iL
open Nat renaming reduceAdd->aA,sub_self->aL,le_refl->aN,lt_of_lt_of_le->aR,le_trans->aW,ne_of_lt->bh,reduceLT->bu,reduceSub->bF,lt_of_le_of_lt->bQ,zero_le->b7,lt_irrefl->b_,le_add_right->cg,not_lt_zero->cP,min_self->dt,ne_of_gt->du,le_of_lt->dW,lt_succ_self->eW,min_eq_left->fm,le_succ->fG,lt_of_not_le->fV,succ_le_succ->fW,add_le_add_left->gT,le_of_eq->hX,lt_or_gt_of_ne->hZ,zero_add->h_
open PySem.W renaming Frag->aC,findIn->aG,nsIn->aH,mg_of->aI,kitOne->a_,isFn->ba,keepIn->bO,mg_none_of->cc,plainGet->cm,hasDictIn->cy,kia_one->cE,emptyDict->cI,plainOver->cJ,makesIn->cQ,instObj->cX,excIn->dv,fnOf->dE,Looks->dH,codeHdIn->dO,looks_findIn->dZ,hideAll_get->d9,mroIn->eT,hideAll->fq,plainGet_of->fB,codeIn->fE,lookIn->fF,callWith_K->fJ,of_hideAll->fK,clsIn->fO,methodObj->fQ,specialIn->fR,OpenLaw->gb,takerIn->gc,takesIn->gh,cellsFrom_some->gx,methodCall_KW->gI,callWith_K0->gU,codeHd_of_K->gW,looks_mroIn->gX,kitx_dict->iw,kitx_list->iy,handedIn->iJ,WalkO->iV
open Ne renaming symm->aE
open True renaming intro->aF
open Prod renaming fst->aJ,snd->cj
open Bool renaming false_eq_true->aK,and_eq_true->aQ,not_eq_true'->aS,false_ne_true->aZ,true_eq_false->bJ,not_true->dG,not_false->dM,true_and->eS,eq_iff_iff->eY
open PySem.Heap renaming get?_push_of_some->aO,lt_size->aV,get?_push_size->bT,SameBut->eJ,get?_update_other->eQ,size_push->fD,get?_update_self->gC,get?_update_ne->gQ
open PySem.Str renaming ofString->bg,empty->dF,ofString_eq_toList->gz
open PySem.Value renaming ref->bj,int->dA,type->dC,str->eX,none->fv,bool->gP,float->iA,isStrOf->iW
open Option renaming join_some->bN,getD_some->fX,map_some->f_,or_none->gE,isSome_map->iu,getD_none->iI
open PySem.F renaming slot_list_append->bX,type_list_append->bY,args_tuple_add_2->fY,entry_tuple_add->fZ,slot_tuple_add->gv,slot_dict_pop->gH
open Sum renaming inl->bZ,inr->dQ
open PyProof.Rows renaming callWith_type1->cq
open PySem.NameKind renaming free->c8,cell->iU
open PySem.Obj renaming mapSeq->c9,data_mapFields->ia
open False renaming elim->dg
open PySem.Builtin.List renaming listTooLong->dN,listItems->eO
open PySem renaming mem_of_lookup->dP,Within->ib,call->iP
open ForInStep renaming yield->dR
open PySem.Around renaming in1_units->dX,under->gY
open PySem.Calls renaming evalArgs_plain->eZ,spliced_cons->fI,Name_function_global->fL,spliced_nil->fP,call_function_entry->fS,callWith_builtin->gj
open List.Pairwise renaming filter->fb,sublist->gD
open String renaming reduceEq->ft
open Array renaming length_toList->fz,append_empty->fH,size_map->gB,append_assoc->gZ
open PySem.Paired renaming length->fN
open Sum.inl renaming inj->gA
open Or renaming inr->gG
open Char renaming toNat->gJ
open PySem.Code renaming isFrame->g9
open PySem.SeqAt.EqAt renaming int_str->ic,of_refs->ie,str_int->ig,same->iR
open PySem.Data renaming fields->iz,seq->iB
open List.Sublist renaming map->iC
open Array.Perm renaming refl->iK
open PySem.SeqAt renaming EqAt->iQ
open PySem.IsRange renaming new->iX
namespace L2
open PySem PySem.Spec PyProof.Rows
noncomputable abbrev Key:=Sum Int Str
noncomputable def EM:Key->Value->Bool
 | .inl k,v=>Value.isInt k v
 | .inr x,v=>iW x v
noncomputable def W7 (w:World):Key->Int
 | .inl k=>hashInt k
 | .inr x=>hashStr w x
theorem mJ:∀{k:Key} {v:Value},EM k v=true->(∃i t,k=bZ i/\v=dA i t)∨(∃x t,k=dQ x/\v=eX x t)
 | .inl i,v,h=>by
  obtain⟨t,e⟩:=Value.isInt_shape (k:=i) (v:=v) h
  exact .inl ⟨i,t,rfl,e⟩
 | .inr x,v,h=>by
  obtain⟨t,e⟩:=Value.isStrOf_shape (x:=x) (v:=v) h
  exact .inr ⟨x,t,rfl,e⟩
theorem Of(i:Int)(t:Tok):EM (.inl i) (.int i t)=true:=by simp[EM,Value.isInt]
theorem Og(x:Str)(t:Tok):EM (.inr x) (.str x t)=true:=by simp[EM,iW]
theorem TL(a b:Int):decide ((bZ a:Key)=bZ b)=(a==b):=by
 by_cases e:a=b
 ·subst e;simp
 ·have h:¬(bZ a:Key)=bZ b:=λq=>e (gA q)
  rw[decide_eq_false h]
  exact(beq_eq_false_iff_ne.mpr e).symm
theorem TQ(a b:Str):decide ((dQ a:Key)=dQ b)=decide (a=b):=by
 by_cases e:a=b
 ·subst e;simp
 ·have h:¬(dQ a:Key)=dQ b:=λq=>e (Sum.inr.inj q)
  rw[decide_eq_false h,decide_eq_false e]
theorem TM(a:Int)(b:Str):decide ((bZ a:Key)=dQ b)=false:=decide_eq_false (λq=>nomatch q)
theorem TN(a:Str)(b:Int):decide ((dQ a:Key)=bZ b)=false:=decide_eq_false (λq=>nomatch q)
noncomputable def mX (prog:Program) (w:World):PySem.KeyKind prog w Key where
 is:=EM
 hash:=W7 w
 inj:=λv a b ha hb=>by
  rcases mJ ha with ⟨i,t,rfl,rfl⟩|⟨x,t,rfl,rfl⟩
  ·rcases mJ hb with ⟨j,u,rfl,e⟩|⟨y,u,rfl,e⟩
   ·injection e with e1 _;rw[e1]
   ·exact nomatch e
  ·rcases mJ hb with ⟨j,u,rfl,e⟩|⟨y,u,rfl,e⟩
   ·exact nomatch e
   ·injection e with e1 _;rw[e1]
 byValue:=λk v h=>by
  rcases mJ h with ⟨i,t,rfl,rfl⟩|⟨x,t,rfl,rfl⟩<;>rfl
 pyHash:=λhv h=>by
  rcases mJ hv with ⟨i,t,rfl,rfl⟩|⟨x,t,rfl,rfl⟩
  ·exact wpAny_pyHash_int h
  ·exact wpAny_pyHash_str h
 eqBool:=λhu hv h=>by
  rcases mJ hu with ⟨i,t,rfl,rfl⟩|⟨x,t,rfl,rfl⟩
  ·rcases mJ hv with ⟨j,u,rfl,rfl⟩|⟨y,u,rfl,rfl⟩
   ·rw[TL]at h;exact wpAny_eqBool_int h
   ·rw[TM]at h;exact ic i t y u _ _ _ _ h
  ·rcases mJ hv with ⟨j,u,rfl,rfl⟩|⟨y,u,rfl,rfl⟩
   ·rw[TN]at h;exact ig x t j u _ _ _ _ h
   ·rw[TQ]at h;exact wpAny_eqBool_str h
 «strs»:=λk x t v h=>by
  rcases mJ h with ⟨i,u,rfl,e⟩|⟨y,u,rfl,e⟩
  ·exact nomatch e
  ·injection e with e1 _
   subst e1
   cases v<;>rfl
theorem Ld(prog:Program)(w:World)(i:Int)(t:Tok):(mX prog w).is (.inl i) (.int i t)=true:=Of i t
theorem Le(prog:Program)(w:World)(x:Str)(t:Tok):(mX prog w).is (.inr x) (.str x t)=true:=Og x t
end L2
namespace L2
open PySem PySem.Spec PyProof.Rows
inductive V where
 |kG|bl (b:Bool)|int (i:Int)|str (x:Str)|byt (b:Array UInt8)|Po (b:UInt64)|ref (a:Addr)|ty (n:String)
 deriving DecidableEq
noncomputable def RelV:V->Value->Prop
 | .kG,u=>u=fv
 | .bl b,u=>u=gP b
 | .int i,u=>∃t,u=dA i t
 | .str x,u=>∃t,u=eX x t
 | .byt b,u=>∃t,u=Value.bytes b t
 | .Po b,u=>∃t,u=iA b t
 | .ref a,u=>u=bj a
 | .ty n,u=>u=dC n
noncomputable abbrev Vals:List V->List Value->Prop:=Paired RelV
theorem Vals.length{xs:List V}{us:List Value}(r:Vals xs us):xs.length=us.length:=fN r
theorem Vals.get:∀{xs:List V} {us:List Value} {i:Nat} {x:V},Vals xs us->xs[i]? =some x->∃u,us[i]? =some u/\RelV x u
 |_,_,_,_,.nil,e=>by simp at e
 |_,_,0,_,.cons r _,e=>by simp at e;subst e;exact⟨_,rfl,r⟩
 |_,_,i+1,x,.cons _ t,e=>by
  obtain⟨u,h1,h2⟩:=Vals.get (i:=i) (x:=x) t (by simpa using e)
  exact⟨u,by simpa using h1,h2⟩
theorem Vals.set{x:V}{u:Value}(r:RelV x u):∀{xs:List V} {us:List Value} (i:Nat),Vals xs us->Vals (xs.set i x) (us.set i u)
 |_,_,_,.nil=> .nil
 |_,_,0,.cons _ t=> .cons r t
 |_,_,i+1,.cons q t=> .cons q (Vals.set r i t)
theorem Vals.append:∀{xs ys:List V} {us ws:List Value},Vals xs us->Vals ys ws->Vals (xs++ys) (us++ws)
 |_,_,_,_,.nil,s=>s
 |_,_,_,_,.cons r t,s=> .cons r (Vals.append t s)
theorem Vals.take:∀{xs:List V} {us:List Value} (n:Nat),Vals xs us->Vals (xs.take n) (us.take n)
 |_,_,0,_=> .nil
 |_,_,_+1,.nil=> .nil
 |_,_,n+1,.cons r t=> .cons r (Vals.take n t)
theorem Vals.drop:∀{xs:List V} {us:List Value} (n:Nat),Vals xs us->Vals (xs.drop n) (us.drop n)
 |_,_,0,r=>r
 |_,_,_+1,.nil=> .nil
 |_,_,n+1,.cons _ t=>Vals.drop n t
noncomputable def zT:Option V->Option Value->Prop
 |some v,some u=>RelV v u
 |none,none=>True
 |_,_=>False
noncomputable def KV {κ:Type}:List (κ×V)->List (κ×Value)->Prop:=Paired λ(p:κ×V) (q:κ×Value)=>p.1=q.1/\RelV p.2 q.2
noncomputable def kV:Key->V
 | .inl i=> .int i
 | .inr x=> .str x
inductive HO where
 |lst (xs:List V)
 |tup (xs:List V)
 |dK (kvs:List (Key×V))|dT (kvs:List (List Key×V))
 |set (S:Int->Bool) (n:Nat)
 |ins (C dx:Addr) (fs:List (Str×V))
 |own (x:Addr)
 |xd (fs:List (Str×V))
 |met (f x:Addr)
 |WH (lo hi:Int)
 |F8 (o:Obj) (u:HO)
 |G_ (ps:Array Value)
 |ext (φ:Heap->Prop)
 |exc (cls:Value)
noncomputable abbrev Hp:=Addr->Option HO
noncomputable def upd (H:Hp) (a:Addr) (o:HO):Hp:=λb=>if b=a then some o else H b
theorem i8{H:Hp}{a:Addr}{o:HO}:upd H a o a=some o:=by unfold upd;rw[if_pos rfl]
theorem i_{H:Hp}{a b:Addr}{o:HO}(h:b≠a):upd H a o b=H b:=by unfold upd;rw[if_neg h]
theorem NP{H:Hp}{a:Addr}{o u:HO}:upd (upd H a o) a u=upd H a u:=by
 funext b;unfold upd;split<;>rfl
theorem V4{H:Hp}{a b:Addr}{o u:HO}(h:H a=some o)(h':H b=some u)(d:o≠u):a≠b:=by
 intro e;subst e;rw[h]at h';exact d (bp h')
theorem i5{H:Hp}{a b:Addr}{o:HO}(h:H a=some o)(h':H b=none):a≠b:=by
 intro e;subst e;rw[h]at h';cases h'
section
variable(P:Program)(w:World)
noncomputable def mQ (H:Hp) (h:Heap) (a:Addr):HO->Prop
 | .lst xs=>xs.length<=sizeLine/\∃(its:List Value) (n:Nat),Vals xs its/\h.get? a=some {cls:= .type "list",data:= .seq its.toArray n}
 | .tup xs=>xs.length<=sizeLine/\∃its:List Value,Vals xs its/\IsTup h a its.toArray
 | .dK kvs=>kvs.length<=sizeLine/\(a==sysModules)=false/\∃vs,KV kvs vs/\h.DictOf (mX P w) a vs
 | .dT kvs=>kvs.length<=sizeLine/\(a==sysModules)=false/\∃xs:List (List Key×Addr×Value),
   Paired (λ(p:List Key×V) (q:List Key×Addr×Value)=>p.1=q.1/\H q.2.1=some (.tup (p.1.map kV))/\RelV p.2 q.2.2) kvs xs/\
   ∃o es ep,h.get? a=some o/\o.ExactDict/\o.data= .dict es ep/\es.toList=xs.map (entryOfKey (tupleKind (mX P w)))/\(xs.map (·.1)).Nodup
 | .set S n=>h.SetOf (intKind P w) a S n
 | .ins C dx fs=>H dx=some (.own a)/\fs.length<=1000/\dx≠a/\h.get? a=some (cX C dx)/\
   ∃mA,h.Ns1 dx mA/\(∀f,zT (fs.lookup f) (mA f))/\ib mA (fs.map (·.1))
 | .own _=>∃o,h.get? a=some o
 | .xd fs=>∃mA,h.Ns1 a mA/\∀f,zT (fs.lookup f) (mA f)
 | .WH lo hi=>∃t u v,h.get? a=some {cls:= .type "range",data:= .fields #[.int lo t,.int hi u,.int 1 v]}
 | .F8 o u=>h.get? a=some o/\mQ H h a u
 | .G_ ps=>h.get? a=some {cls:= .none,data:= .fields ps}
 | .met f x=>h.get? a=some (fQ (.ref f) (.ref x))
 | .exc cls=>∃o vs,h.get? a=some o/\o.cls=cls/\o.data= .fields vs
 | .ext φ=>φ h/\(∃o,h.get? a=some o)/\∀h1 h2:Heap,φ h1->(∀o,h1.get? a=some o->h2.get? a=some o)->φ h2
noncomputable def zQ (H:Hp) (h:Heap):Prop:=∀a o,H a=some o->mQ P w H h a o
end
section
variable{P:Program}{w:World}{H H':Hp}{h h':Heap}{a:Addr}{o:HO}
theorem mQ.lt(x:mQ P w H h a o):a<h.objs.size:=by
 cases o with
 |lst xs=>obtain⟨_,_,_,_,e⟩:=x;exact aV e
 |tup xs=>obtain⟨_,_,_,p⟩:=x;exact p.lt
 |dK kvs=>obtain⟨_,_,_,_,o,_,_,e,_⟩:=x;exact aV e
 |dT kvs=>obtain⟨_,_,_,_,o,_,_,e,_⟩:=x;exact aV e
 |set S n=>obtain⟨o,_,_,_,e,_⟩:=x;exact aV e
 |ins C dx fs=>obtain⟨_,_,_,e,_⟩:=x;exact aV e
 |own y=>obtain⟨_,e⟩:=x;exact aV e
 |xd fs=>obtain⟨_,⟨_,_,_,e,_⟩,_⟩:=x;exact aV e
 |WH lo hi=>obtain⟨_,_,_,e⟩:=x;exact aV e
 |F8 ob u=>obtain⟨e,_⟩:=x;exact aV e
 |G_ ps=>exact aV (show h.get? a=some _ from x)
 |met f y=>exact aV (show h.get? a=some _ from x)
 |ext φ=>obtain⟨_,⟨_,e⟩,_⟩:=x;exact aV e
 |exc cls=>obtain⟨_,_,e,_⟩:=x;exact aV e
theorem Paired.TZ{α β:Type}{F G:α->β->Prop}:∀{l₁:List α} {l₂:List β},Paired F l₁ l₂->(∀a b,F a b->G a b)->Paired G l₁ l₂
 |_,_,.nil,_=> .nil
 |_,_,.cons r t,f=> .cons (f _ _ r) (Paired.TZ t f)
theorem mQ.A4(x:mQ P w H h a o)(k:∀b u,(b=a∨H b=some (.own a))->h.get? b=some u->h'.get? b=some u)
  (ho:∀b,H b=some (.own a)->H' b=some (.own a)) (ht:∀b xs,H b=some (.tup xs)->H' b=some (.tup xs)):mQ P w H' h' a o:=by
 induction o with
 |lst xs=>obtain⟨z,its,n,r,e⟩:=x;exact⟨z,its,n,r,k _ _ (.inl rfl) e⟩
 |tup xs=>obtain⟨z,its,r,ob,e,c⟩:=x;exact⟨z,its,r,ob,k _ _ (.inl rfl) e,c⟩
 |dK kvs=>obtain⟨z,y,vs,r,ob,es,ep,e,c⟩:=x;exact⟨z,y,vs,r,ob,es,ep,k _ _ (.inl rfl) e,c⟩
 |dT kvs=>
  obtain⟨z,y,xs,r,ob,es,ep,e,c⟩:=x
  exact⟨z,y,xs,Paired.TZ r λp q z=>⟨z.1,ht _ _ z.2.1,z.2.2⟩,ob,es,ep,k _ _ (.inl rfl) e,c⟩
 |set S n=>obtain⟨ob,es,ep,t,e,c⟩:=x;exact⟨ob,es,ep,t,k _ _ (.inl rfl) e,c⟩
 |ins C dx fs=>
  obtain⟨d,z,ne,e,mA,⟨od,es,ep,e2,c⟩,r⟩:=x
  exact⟨ho _ d,z,ne,k _ _ (.inl rfl) e,mA,⟨od,es,ep,k _ _ (.inr d) e2,c⟩,r⟩
 |own y=>obtain⟨ob,e⟩:=x;exact⟨ob,k _ _ (.inl rfl) e⟩
 |xd fs=>obtain⟨mA,⟨od,es,ep,e,c⟩,r⟩:=x;exact⟨mA,⟨od,es,ep,k _ _ (.inl rfl) e,c⟩,r⟩
 |WH lo hi=>obtain⟨t,u,v,e⟩:=x;exact⟨t,u,v,k _ _ (.inl rfl) e⟩
 |F8 ob u ih=>obtain⟨e,q⟩:=x;exact⟨k _ _ (.inl rfl) e,ih q⟩
 |G_ ps=>
  have e:h.get? a=some {cls:= .none,data:= .fields ps}:=x
  show h'.get? a=some {cls:= .none,data:= .fields ps}
  exact k a _ (.inl rfl) e
 |met f y=>
  have e:h.get? a=some (fQ (.ref f) (.ref y)):=x
  show h'.get? a=some (fQ (.ref f) (.ref y))
  exact k a _ (.inl rfl) e
 |exc cls=>obtain⟨o,vs,e,c⟩:=x;exact⟨o,vs,k _ _ (.inl rfl) e,c⟩
 |ext φ=>obtain⟨p,⟨o,e⟩,st⟩:=x;exact⟨st _ _ p λo q=>k _ _ (.inl rfl) q,⟨o,k _ _ (.inl rfl) e⟩,st⟩
theorem zQ.lt(x:zQ P w H h)(e:H a=some o):a<h.objs.size:=(x a o e).lt
theorem zQ.fresh(x:zQ P w H h)(e:h.objs.size<=a):H a=none:=by
 cases q:H a with
 |none=>rfl
 |some u=>exact absurd (aR (x.lt q) e) (b_ _)
theorem zQ.kept(x:zQ P w H h)(k:∀b u,h.get? b=some u->h'.get? b=some u):zQ P w H h':=λa o e=>
 (x a o e).A4 (λb u _ q=>k b u q) (λ_ q=>q) λ_ _ q=>q
theorem zQ.laid(x:zQ P w H h)(k:∀b u,h.get? b=some u->h'.get? b=some u)(hp:h.objs.size<=a)(new:mQ P w (upd H a o) h' a o):zQ P w (upd H a o) h':=λb u e=>by
 have hn:=x.fresh hp
 by_cases hb:b=a
 ·subst hb;rw[i8]at e;cases e;exact new
 ·rw[i_ hb]at e
  exact(x b u e).A4 (λc v _ q=>k c v q) (λc q=>by rw[i_ (i5 q hn)];exact q) λc xs q=>by rw[i_ (i5 q hn)];exact q
end
noncomputable def Rd (H:Hp) (a:Addr) (u:HO):Prop:=H a=some u∨∃o,H a=some (.F8 o u)
theorem Rd.ok{P:Program}{w:World}{H:Hp}{h:Heap}{a:Addr}{u:HO}(r:Rd H a u)(x:zQ P w H h):mQ P w H h a u:=by
 rcases r with r|⟨o,r⟩
 ·exact x a u r
 ·obtain⟨_,q⟩:=x a _ r
  exact q
noncomputable def Ve:Option HO->Prop
 |some (.lst _)=>True
 |some (.dK _)=>True
 |some (.dT _)=>True
 |some (.set _ _)=>True
 |some (.ins _ _ _)=>True
 |some (.ext _)=>True
 |_=>False
section
variable{P:Program}{w:World}{H:Hp}{h h':Heap}{x e:Addr}{o':HO}
theorem zQ.write(ok:zQ P w H h)(mu:Ve (H x))(he:e=x∨H e=some (.own x))(k:∀b u,b≠e->h.get? b=some u->h'.get? b=some u)(heo:∃u,h'.get? e=some u)
  (new:mQ P w (upd H x o') h' x o'):zQ P w (upd H x o') h':=λb u q=>by
 have nown:∀c y,H c=some (.own y)->c≠x:=λc y r z=>by subst z;rw[r]at mu;exact mu
 have ntup:∀c xs,H c=some (.tup xs)->c≠x:=λc xs r z=>by subst z;rw[r]at mu;exact mu
 by_cases hb:b=x
 ·subst hb;rw[i8]at q;cases q;exact new
 ·rw[i_ hb]at q
  by_cases hbe:b=e
  ·have q':H b=some (.own x):=by
    rcases he with z|z
    ·exact absurd (hbe.trans z) hb
    ·rw[hbe];exact z
   rw[q]at q';cases q'
   obtain⟨v,hv⟩:=heo
   exact⟨v,by rw[hbe];exact hv⟩
  ·refine(ok b u q).A4 (λc v hc r=>k c v ?_ r) (λc r=>by rw[i_ (nown c b r)];exact r) λc xs r=>by rw[i_ (ntup c xs r)];exact r
   rcases hc with rfl|hc
   ·exact hbe
   ·rintro rfl
    rcases he with z|z
    ·exact nown c b hc z
    ·rw[hc]at z;cases z;exact hb rfl
end
structure Un(fs ex:List Addr)(H H':Hp)(h h':Heap):Prop where
 keep:∀b o,h.get? b=some o->H b=none->b∉fs->b∉ex->h'.get? b=some o
 slot:∀b o,h.get? b=some o->H b=none->b∈fs->b∉ex->∃sl,h'.get? b=some {o with slots:=sl}
 free:∀b o,h.get? b=some o->H b=none->b∉ex->H' b=none
 there:∀b o,h.get? b=some o->b∉ex->∃o',h'.get? b=some o'
 Cs:∀b xs,H b=some (.tup xs)->H' b=some (.tup xs)
 Bn:∀b o u,H b=some (.F8 o u)->H' b=some (.F8 o u)
 Bp:∀b ps,H b=some (.G_ ps)->∃more,H' b=some (.G_ (ps++more))
section
variable{fs fs' ex ex':List Addr}{H H1 H2:Hp}{h h1 h2 h':Heap}{a x e:Addr}{o:HO}
theorem Un.any(u:Un fs ex H H1 h h1){b:Addr}{ob:Obj}(q:h.get? b=some ob)(n:H b=none)(hx:b∉ex):∃sl,h1.get? b=some {ob with slots:=sl}:=by
 by_cases hb:b∈fs
 ·exact u.slot b ob q n hb hx
 ·exact⟨ob.slots,u.keep b ob q n hb hx⟩
theorem Un.kept(k:∀b u,h.get? b=some u->h'.get? b=some u):Un fs ex H H h h':=
 ⟨λb ob q _ _ _=>k b ob q,λb ob q _ _ _=>⟨ob.slots,k b ob q⟩,λ_ _ _ n _=>n,λb ob q _=>⟨ob,k b ob q⟩,λ_ _ q=>q,λ_ _ _ q=>q,λ_ ps q=>⟨#[],by rw[q];simp⟩⟩
theorem Un.refl:Un fs ex H H h h:=Un.kept λ_ _ q=>q
theorem Un.laid(k:∀b u,h.get? b=some u->h'.get? b=some u)(hp:h.objs.size<=a)(hn:H a=none):Un fs ex H (upd H a o) h h' where
 keep:=λb u q _ _ _=>k b u q
 slot:=λb u q _ _ _=>⟨u.slots,k b u q⟩
 free:=λb u q n _=>by rw[i_ (bh (aR (aV q) hp))];exact n
 there:=λb u q _=>⟨u,k b u q⟩
 Cs:=λb xs q=>by rw[i_ (i5 q hn)];exact q
 Bn:=λb u xs q=>by rw[i_ (i5 q hn)];exact q
 Bp:=λb ps q=>⟨#[],by rw[i_ (i5 q hn),q];simp⟩
theorem Un.write(mu:Ve (H x))(he:e=x∨H e=some (.own x))(k:∀b u,b≠e->h.get? b=some u->h'.get? b=some u)(heo:∃u,h'.get? e=some u):Un fs ex H (upd H x o) h h':=by
 have hx:∀b,H b=none->b≠x:=λb n z=>by subst z;rw[n]at mu;exact mu
 have hb:∀b,H b=none->b≠e:=λb n z=>by
  subst z
  rcases he with r|r
  ·exact hx b n r
  ·rw[n]at r;cases r
 have hm:∀b u,H b=some u->¬Ve (some u)->b≠x:=λb u q nm z=>by subst z;rw[q]at mu;exact nm mu
 refine⟨λb u q n _ _=>k b u (hb b n) q,λb u q n _ _=>⟨u.slots,k b u (hb b n) q⟩,λb u q n _=>by rw[i_ (hx b n)];exact n,λb u q _=> ?_,
  λb xs q=>by rw[i_ (hm b _ q λz=>z)];exact q,λb u xs q=>by rw[i_ (hm b _ q λz=>z)];exact q,λb ps q=>⟨#[],by rw[i_ (hm b _ q λz=>z),q];simp⟩⟩
 by_cases hbe:b=e
 ·subst hbe;exact heo
 ·exact⟨u,k b u hbe q⟩
end
noncomputable def WJ (h:Heap) (H:Hp):List Addr:=(bG h.objs.size).filter λa=>(H a).isSome
noncomputable def Ji (h:Heap) (H:Hp):Heap:=fq h (WJ h H)
theorem N6(h:Heap)(H:Hp):(Ji h H).objs.size=h.objs.size:=PySem.W.hideAll_size _ _
theorem Px{h:Heap}{H:Hp}{b:Addr}{o:Obj}(e:h.get? b=some o)(n:H b=none):(Ji h H).get? b=some o:=
 d9 _ e λhm=>by
  have q:(H b).isSome=true:=(List.mem_filter.mp hm).2
  rw[n]at q;simp at q
theorem RQ{h:Heap}{H:Hp}{b:Addr}{o:Obj}(e:(Ji h H).get? b=some o):h.get? b=some o/\H b=none:=by
 have e':h.get? b=some o:=fK (WJ h H) e
 refine⟨e',?_⟩
 cases q:H b with
 |none=>rfl
 |some x=>
  have hm:b∈WJ h H:=List.mem_filter.mpr ⟨List.mem_range.mpr (aV e'),by simp[q]⟩
  have z:(Ji h H).get? b=none:=PySem.W.hideAll_none (WJ h H) hm
  rw[z]at e;cases e
noncomputable def Q1 (g h:Heap) (L:Addr):List (Addr×Obj):=(bG h.objs.size).filterMap λa=>if a=L∨(g.get? a).isSome=true then none else(h.get? a).map λo=>(a,o)
noncomputable def rest (g h:Heap) (L d:Addr):List (Addr×Obj):=(Q1 g h L).filter λp=>decide (p.1≠d)
end L2
namespace L2
open PySem PySem.Spec PyProof.Rows
noncomputable def BMain (mg:Str->Option Value) (h:Heap):Prop:=∃bm ob,mg "__builtins__"=some (.ref bm)/\bm≠builtinsNs/\h.get? bm=some ob/\ob.cls= .type "module"/\ob.dict=some builtinsNs/\ob.data= .plain
structure Mod(K:aC)(mg:Str->Option Value)(base:Heap):Prop where
 U7:K.In base
 glob:base.Ns mainGlobals mg
 blt:∃mb,base.Ns builtinsNs mb/\∀x:Str,x≠"__name__"->mb x=bootBuiltins x
 nolimit:base.NoLimit
 bmain:BMain mg base
structure Cx where
 prog:Program
 w:World
 K:aC
 mg:Str->Option Value
 base:Heap
 A:Around
 N:List Str
 s₀:Shared
 H₀:Hp
 env:Env
 outer:List Env
 stack:List Env
 ex:List Addr
 fn:Str->Bool
 calm:Bool
 pn:List (Addr×Obj)
 xe:Value->Shared->Prop
noncomputable def F4 (l:List Env):List Addr:=l.filterMap (·.frame)
noncomputable abbrev Cx.fs (X:Cx):List Addr:=F4 X.outer
noncomputable def WB (sc:Scope) (x:Str):Prop:=sc.names.lookup x=some .local∨sc.names.lookup x=some .cell∨sc.names.lookup x=some .free
noncomputable def Loc (sc:Scope) (x:Str):Prop:=sc.names.lookup x=some .local∨sc.names.lookup x=some .cell
noncomputable def Look (env:Env) (h:Heap) (m:Str->Option Value) (x:Str) (u:Value):Prop:=
 (env.kindOf x=some .local/\m x=some u)∨((env.kindOf x=some .cell∨env.kindOf x=some .free)/\∃c,env.cells.lookup x=some c/\h.IsCell c (some u))
structure Cx.Ok(X:Cx):Prop where
 mod:Mod X.K X.mg X.base
 kind:X.env.scope.kind= .function
 glob:X.env.globals=mainGlobals
 blt:X.env.builtins=builtinsNs
 above:X.s₀.heap.objs.size<=X.env.locals
 inj:∀x y c,X.env.cells.lookup x=some c->X.env.cells.lookup y=some c->x=y
 has:∀x,(X.env.kindOf x=some .cell∨X.env.kindOf x=some .free)->∃c,X.env.cells.lookup x=some c
 U2:∀x c,X.fn x=true->X.env.cells.lookup x=some c->X.s₀.heap.objs.size<=c
 hd:X.calm=true->X.A.handled=none
 frames:X.A.frames=some X.stack
 Wq:X.stack=X.outer∨(X.stack=X.env::X.outer/\X.env.frame=some X.env.locals)
 W4:∀b∈X.ex,b≠X.env.locals/\∀x c,X.env.cells.lookup x=some c->c≠b
 bs:∀b o,X.base.get? b=some o->X.s₀.heap.get? b=some o/\X.H₀ b=none
 QR:X.base.objs.size<=X.s₀.heap.objs.size
 GA:∀b o,X.base.get? b=some o->b∉X.ex
 Pm:∀b∈X.ex,b∉X.fs
 CZ:X.s₀.heap.FunFrames X.base X.outer
 Rv:∀b∈X.fs,X.H₀ b=none
structure Inv(X:Cx)(pins:List (Addr×Obj))(σ:List (Option V))(H:Hp)(s:Shared):Prop where
 ok:X.Ok
 os:s.os=X.s₀.os
 bare:AllBare s.gens
 base:Un X.fs X.ex X.H₀ H X.s₀.heap s.heap
 loc:∃m,s.heap.Ns X.env.locals m/\∀(i:Nat) (x:Str) (v:V),X.N[i]? =some x->σ[i]? =some (some v)->WB X.env.scope x->∃u,RelV v u/\Look X.env s.heap m x u
 cell:∀x c,X.env.cells.lookup x=some c->∃v,s.heap.IsCell c v
 free:H X.env.locals=none
 wK:∀x c,X.env.cells.lookup x=some c->H c=none
 pin:∀p∈X.pn++pins,s.heap.get? p.1=some p.2/\H p.1=none/\p.1≠X.env.locals/\p.1∉X.fs/\∀v,p.2.data≠ .cell v
 lB:zQ X.prog X.w H s.heap
 len:σ.length=X.N.length
section
variable{X:Cx}{pins:List (Addr×Obj)}{σ:List (Option V)}{H H':Hp}{s:Shared}{h':Heap}
theorem Cx.Ok.Xi(ok:X.Ok){b:Addr}{o:Obj}(e:X.base.get? b=some o):b∉X.fs:=λhb=>by
 have:=(ok.CZ.mem hb).1
 rw[e]at this;cases this
theorem Inv.bs(I:Inv X pins σ H s):∀b o,X.base.get? b=some o->s.heap.get? b=some o/\H b=none:=λb o e=>
 ⟨I.base.keep b o (I.ok.bs b o e).1 (I.ok.bs b o e).2 (I.ok.Xi e) (I.ok.GA b o e),I.base.free b o (I.ok.bs b o e).1 (I.ok.bs b o e).2 (I.ok.GA b o e)⟩
theorem Inv.bk(I:Inv X pins σ H s):∀b o,X.base.get? b=some o->s.heap.get? b=some o:=λb o e=>(I.bs b o e).1
theorem Inv.mod(I:Inv X pins σ H s):Mod X.K X.mg X.base:=I.ok.mod
theorem Inv.DR(I:Inv X pins σ H s):X.K.In s.heap:=I.ok.mod.U7.keeps I.bk
theorem Inv.lt(I:Inv X pins σ H s):X.env.locals<s.heap.objs.size:=let ⟨_,hn,_⟩:=I.loc;hn.lt
theorem Inv.sz(I:Inv X pins σ H s):X.s₀.heap.objs.size<=s.heap.objs.size:=aW I.ok.above (dW I.lt)
theorem Inv.Xj(I:Inv X pins σ H s){a:Addr}(h:s.heap.objs.size<=a):a∉X.fs:=λhb=>by
 obtain⟨_,o,ho,_⟩:=I.ok.CZ.mem hb
 exact absurd (aR (aV ho) (aW I.sz h)) (b_ _)
theorem Inv.Tu(I:Inv X pins σ H s):∀x c,X.env.cells.lookup x=some c->c≠X.env.locals:=λx c e z=>by
 obtain⟨v,o,ho,hd⟩:=I.cell x c e
 obtain⟨m,⟨o',es,ep,ho',hd',_⟩,_⟩:=I.loc
 rw[z,ho']at ho;cases ho;rw[hd']at hd;cases hd
theorem Inv.CZ(I:Inv X pins σ H s):s.heap.FunFrames X.base X.outer:=by
 have all:∀(l:List Env),(∀b∈F4 l,b∈X.fs)->X.s₀.heap.FunFrames X.base l->s.heap.FunFrames X.base l:=by
  intro l
  induction l with
  |nil=>intro _ _;trivial
  |cons env r ih=>
   intro hs hl
   obtain⟨hk,⟨L,o,hf,hn,ho,hd⟩,hr⟩:=hl
   have hL:L∈X.fs:=hs L (by unfold F4;rw[d8,hf];exact aM)
   obtain⟨sl,e⟩:=I.base.slot L o ho (I.ok.Rv L hL) hL λz=>I.ok.Pm L z hL
   exact⟨hk,⟨L,_,hf,hn,e,hd⟩,ih (λb hb=>hs b (by unfold F4;rw[d8,hf];exact aP _ hb)) hr⟩
 exact all X.outer (λ_ hb=>hb) I.ok.CZ
theorem Inv.stack(I:Inv X pins σ H s):s.heap.FunFrames X.base X.stack:=by
 rcases I.ok.Wq with e|⟨e,hf⟩
 ·rw[e];exact I.CZ
 ·rw[e]
  obtain⟨m,hn,_⟩:=I.loc
  refine .cons (by rw[I.ok.kind];decide) hf hn ?_ I.CZ
  exact Heap.get?_none_of_le (aW I.ok.QR I.ok.above)
theorem Inv.Kl(I:Inv X pins σ H s):∀b∈F4 X.stack,b∈X.env.locals::X.fs:=λb hb=>by
 rcases I.ok.Wq with e|⟨e,hf⟩
 ·rw[e]at hb;exact aP _ hb
 ·rw[e]at hb
  unfold F4 at hb
  rw[d8,hf]at hb
  exact hb
theorem Inv.FF(I:Inv X pins σ H s):∀b∈F4 X.stack,H b=none:=λb hb=>by
 rcases List.mem_cons.mp (I.Kl b hb) with e|hb
 ·rw[e];exact I.free
 ·obtain⟨_,o,ho,_⟩:=I.ok.CZ.mem hb
  exact I.base.free b o ho (I.ok.Rv b hb) λz=>I.ok.Pm b z hb
theorem Inv.step{g':Array GenState}{t':Nat}{d':Drawn}{ch:List Addr}(I:Inv X pins σ H s)
  (hch:∀b∈ch,(b∈X.ex∨X.s₀.heap.objs.size<=b)/\b≠X.env.locals/\(∀x c,X.env.cells.lookup x=some c->c≠b)/\∀p∈X.pn++pins,p.1≠b)
  (keep:∀b o,b≠X.env.locals->b∉X.fs->b∉ch->s.heap.get? b=some o->H b=none->h'.get? b=some o)
  (slot:∀b o,b≠X.env.locals->b∈X.fs->b∉ch->s.heap.get? b=some o->H b=none->∃sl,h'.get? b=some {o with slots:=sl}) (free:∀b o,b∉ch->s.heap.get? b=some o->H b=none->H' b=none)
  (there:∀b o,b∉ch->s.heap.get? b=some o->∃o',h'.get? b=some o')
  (Cs:∀b xs,H b=some (.tup xs)->H' b=some (.tup xs)) (Bn:∀b o u,H b=some (.F8 o u)->H' b=some (.F8 o u)) (Bp:∀b ps,H b=some (.G_ ps)->∃more,H' b=some (.G_ (ps++more)))
  (ns:∀m,s.heap.Ns X.env.locals m->h'.Ns X.env.locals m) (lB:zQ X.prog X.w H' h') (hg:AllBare g'):
  Inv X pins σ H' {s with heap:=h',gens:=g',drawn:=d',toks:=t'}:=by
 have neL:∀b o,X.s₀.heap.get? b=some o->b≠X.env.locals:=λb o e=>bh (aR (aV e) I.ok.above)
 have neC:∀b o,X.s₀.heap.get? b=some o->b∉X.ex->b∉ch:=λb o e hx hb=>by
  rcases (hch b hb).1 with z|z
  ·exact hx z
  ·exact absurd (aR (aV e) z) (b_ _)
 have cellK:∀x c,X.env.cells.lookup x=some c->∀v,s.heap.IsCell c v->h'.IsCell c v:=λx c e v ⟨o,ho,hd⟩=>by
  have nch:c∉ch:=λz=>(hch c z).2.2.1 x c e rfl
  by_cases hc:c∈X.fs
  ·obtain⟨sl,q⟩:=slot c o (I.Tu x c e) hc nch ho (I.wK x c e)
   exact⟨_,q,hd⟩
  ·exact⟨o,keep c o (I.Tu x c e) hc nch ho (I.wK x c e),hd⟩
 refine⟨I.ok,I.os,hg,⟨λb o e n hb hx=> ?_,λb o e n hb hx=> ?_,λb o e n hx=> ?_,λb o e hx=> ?_,λb xs e=>Cs b xs (I.base.Cs b xs e),λb o xs e=>Bn b o xs (I.base.Bn b o xs e),λb ps e=> ?_⟩,?_,λx c e=> ?_,?_,λx c e=> ?_,λp hp=> ?_,lB,I.len⟩
 ·exact keep b o (neL b o e) hb (neC b o e hx) (I.base.keep b o e n hb hx) (I.base.free b o e n hx)
 ·obtain⟨sl,e1⟩:=I.base.slot b o e n hb hx
  obtain⟨sl',e2⟩:=slot b _ (neL b o e) hb (neC b o e hx) e1 (I.base.free b o e n hx)
  exact⟨sl',e2⟩
 ·obtain⟨o',e1⟩:=I.base.there b o e hx
  exact free b o' (neC b o e hx) e1 (I.base.free b o e n hx)
 ·obtain⟨o',e1⟩:=I.base.there b o e hx
  exact there b o' (neC b o e hx) e1
 ·obtain⟨m1,e1⟩:=I.base.Bp b ps e
  obtain⟨m2,e2⟩:=Bp b _ e1
  exact⟨m1++m2,by rw[e2,gZ]⟩
 ·obtain⟨m,hn,hl⟩:=I.loc
  refine⟨m,ns m hn,λi x v e1 e2 e3=> ?_⟩
  obtain⟨u,r,l⟩:=hl i x v e1 e2 e3
  refine⟨u,r,?_⟩
  rcases l with l|⟨k,c,e,z⟩
  ·exact .inl l
  ·exact .inr ⟨k,c,e,cellK x c e _ z⟩
 ·obtain⟨v,z⟩:=I.cell x c e
  exact⟨v,cellK x c e v z⟩
 ·obtain⟨m,⟨o,_,_,ho,_⟩,_⟩:=I.loc
  exact free _ o (λz=>(hch _ z).2.1 rfl) ho I.free
 ·obtain⟨v,o,ho,hd⟩:=I.cell x c e
  exact free c o (λz=>(hch c z).2.2.1 x c e rfl) ho (I.wK x c e)
 ·obtain⟨e,n,ne,nf,d⟩:=I.pin p hp
  have nch:p.1∉ch:=λz=>(hch p.1 z).2.2.2 p hp rfl
  exact⟨keep p.1 p.2 ne nf nch e n,free p.1 p.2 nch e n,ne,nf,d⟩
theorem Inv.un{t':Nat}(I:Inv X pins σ H s)(u:Un X.fs [] H H' s.heap h')(lB:zQ X.prog X.w H' h'):Inv X pins σ H' {s with heap:=h',toks:=t'}:=by
 obtain⟨m,⟨o,es,ep,ho,r⟩,_⟩:=id I.loc
 obtain⟨sl,hL⟩:=u.any ho I.free (by simp)
 exact I.step (g':=s.gens) (d':=s.drawn) (ch:=[]) (λ_ z=>nomatch z) (λb o _ hb _ e n=>u.keep b o e n hb (by simp)) (λb o _ hb _ e n=>u.slot b o e n hb (by simp)) (λb o _ e n=>u.free b o e n (by simp)) (λb o _ e=>u.there b o e (by simp)) u.Cs u.Bn u.Bp (λm' hm=>by
  obtain⟨o',es',ep',ho',r'⟩:=hm
  rw[ho]at ho';cases ho'
  exact⟨_,es',ep',hL,r'⟩) lB I.bare
theorem Inv.call{g':Array GenState}{t':Nat}{d':Drawn}{ch:List Addr}(I:Inv X pins σ H s)(u:Un (F4 X.stack) ch H H' s.heap h')(lB:zQ X.prog X.w H' h')(hg:AllBare g')
  (hch:∀b∈ch,(b∈X.ex∨X.s₀.heap.objs.size<=b)/\b≠X.env.locals/\(∀x c,X.env.cells.lookup x=some c->c≠b)/\∀p∈X.pn++pins,p.1≠b):
  Inv X pins σ H' {s with heap:=h',gens:=g',drawn:=d',toks:=t'}:=by
 obtain⟨m,⟨o,es,ep,ho,r⟩,_⟩:=id I.loc
 obtain⟨sl,hL⟩:=u.any ho I.free λz=>(hch _ z).2.1 rfl
 exact I.step (ch:=ch) hch (λb o hL hb hc e n=>u.keep b o e n (λz=>(List.mem_cons.mp (I.Kl b z)).elim hL hb) hc) (λb o _ _ hc e n=>u.any e n hc) (λb o hc e n=>u.free b o e n hc) (λb o hc e=>u.there b o e hc) u.Cs u.Bn u.Bp (λm' hm=>by
  obtain⟨o',es',ep',ho',r'⟩:=hm
  rw[ho]at ho';cases ho'
  exact⟨_,es',ep',hL,r'⟩) lB hg
theorem Inv.turned{t':Nat}{it:Addr}(I:Inv X pins σ H s)(k:∀b o,b≠it->s.heap.get? b=some o->h'.get? b=some o)(hn:H it=none)(hL:it≠X.env.locals)
  (h1:it∈X.ex∨X.s₀.heap.objs.size<=it) (h2:∀x c,X.env.cells.lookup x=some c->c≠it) (h3:∀p∈X.pn++pins,p.1≠it):Inv X pins σ H {s with heap:=h',toks:=t'}:=by
 have nit:∀b u,H b=some u->b≠it:=λb u e z=>by rw[z,hn]at e;cases e
 refine I.step (g':=s.gens) (d':=s.drawn) (ch:=[it]) (λb hb=> ?_) (λb o _ _ hc e _=>k b o (λz=>hc (by simp[z])) e) (λb o _ _ hc e _=>⟨o.slots,k b o (λz=>hc (by simp[z])) e⟩) (λ_ _ _ _ n=>n)
  (λb o hc e=>⟨o,k b o (λz=>hc (by simp[z])) e⟩) (λ_ _ e=>e) (λ_ _ _ e=>e) (λb ps e=>⟨#[],by rw[e];simp⟩) (λm hm=> ?_) (λb u e=> ?_) I.bare
 ·have e:b=it:=by simpa using hb
  subst e
  exact⟨h1,hL,h2,h3⟩
 ·obtain⟨o,es,ep,ho,r⟩:=hm
  exact⟨o,es,ep,k _ o (aE hL) ho,r⟩
 ·refine(I.lB b u e).A4 (λc v hc q=>k c v ?_ q) (λ_ q=>q) λ_ _ q=>q
  rcases hc with z|z
  ·rw[z];exact nit b u e
  ·exact nit c _ z
theorem Inv.tok(I:Inv X pins σ H s)(t:Nat):Inv X pins σ H {s with toks:=t}:=I.un (h':=s.heap) (t':=t) Un.refl I.lB
theorem Inv.kept{t':Nat}(I:Inv X pins σ H s)(k:∀b u,s.heap.get? b=some u->h'.get? b=some u):Inv X pins σ H {s with heap:=h',toks:=t'}:=I.un (Un.kept k) (I.lB.kept k)
theorem Inv.laid{a:Addr}{o:HO}{t':Nat}(I:Inv X pins σ H s)(k:∀b u,s.heap.get? b=some u->h'.get? b=some u)(hp:s.heap.objs.size<=a)(new:mQ X.prog X.w (upd H a o) h' a o):
  Inv X pins σ (upd H a o) {s with heap:=h',toks:=t'}:=I.un (Un.laid k hp (I.lB.fresh hp)) (I.lB.laid k hp new)
theorem Inv.write{x e:Addr}{o:HO}{t':Nat}(I:Inv X pins σ H s)(mu:Ve (H x))(he:e=x∨H e=some (.own x))(k:∀b u,b≠e->s.heap.get? b=some u->h'.get? b=some u)(heo:∃u,h'.get? e=some u)
  (new:mQ X.prog X.w (upd H x o) h' x o):Inv X pins σ (upd H x o) {s with heap:=h',toks:=t'}:=I.un (Un.write mu he k heo) (I.lB.write mu he k heo new)
theorem Inv.DA{pins':List (Addr×Obj)}(I:Inv X pins σ H s)(h:∀p∈pins',s.heap.get? p.1=some p.2/\H p.1=none/\p.1≠X.env.locals/\p.1∉X.fs/\∀v,p.2.data≠ .cell v):Inv X pins' σ H s:=
 ⟨I.ok,I.os,I.bare,I.base,I.loc,I.cell,I.free,I.wK,λp hp=>(List.mem_append.mp hp).elim (λz=>I.pin p (bV _ z)) (h p),I.lB,I.len⟩
theorem Lg{N:List Str}(hN:N.Nodup){i j:Nat}{x:Str}(a:N[i]? =some x)(b:N[j]? =some x):i=j:=by
 obtain⟨h1,e1⟩:=List.getElem?_eq_some_iff.mp a
 obtain⟨h2,e2⟩:=List.getElem?_eq_some_iff.mp b
 exact(List.getElem_inj hN).mp (e1.trans e2.symm)
theorem IK{M:Model}{A:Around}{E:Value->Shared->Prop}{i:Nat}{x:Str}{v:V}{u:Value}{Q:Unit->Shared->Prop}(I:Inv X pins σ H s)(hN:X.N.Nodup)(hi:X.N[i]? =some x)(hx:Loc X.env.scope x)(r:RelV v u)
  (h:∀s',Inv X pins (σ.set i (some v)) H s'->(∃a,eJ a s.heap s'.heap/\(a=X.env.locals∨X.env.cells.lookup x=some a))->Q () s') (hf:X.fn x=true∨X.env.scope.names.lookup x=some .local:=by first|exact .inl rfl|exact .inr rfl|assumption):wpAny M A (storeName X.env x u) Q E s:=by
 obtain⟨m,hn,hl⟩:=id I.loc
 have hcls:(X.env.scope.kind== .class ||(X.env.scope.kind== .module&&X.env.locals !=X.env.globals))=false:=by rw[I.ok.kind];rfl
 have hiσ:i<σ.length:=by rw[I.len];exact(List.getElem?_eq_some_iff.mp hi).1
 have Tu:=I.Tu
 have tracked:∀{a:Addr} {h':Heap},(∃o,s.heap.get? a=some o/\H a=none)->eJ a s.heap h'->zQ X.prog X.w H h':=λ{a h'} ha hs b ob e=>by
  obtain⟨_,_,hfree⟩:=ha
  refine(I.lB b ob e).A4 (λc w' hc q=>(hs.2 c ?_).trans q) (λ_ q=>q) λ_ _ q=>q
  rintro rfl
  rcases hc with rfl|hc
  ·rw[hfree]at e;cases e
  ·rw[hfree]at hc;cases hc
 rcases hx with hk|hk
 ·refine wpAny_storeName_local hk hn (λh' hn' hs=> ?_) hcls
  obtain⟨oL,_,_,hoL,_⟩:=id hn
  refine h _ ⟨I.ok,I.os,I.bare,⟨λb o e n hb hx=> ?_,λb o e n hb hx=> ?_,I.base.free,λb o e hx=> ?_,I.base.Cs,I.base.Bn,I.base.Bp⟩,⟨_,hn',λj y v' e1 e2 e3=> ?_⟩,λy c e=> ?_,I.free,I.wK,λp hp=> ?_,tracked ⟨oL,hoL,I.free⟩ hs,by simpa using I.len⟩ ⟨_,hs,.inl rfl⟩
  ·exact(hs.2 b (bh (aR (aV e) I.ok.above))).trans (I.base.keep b o e n hb hx)
  ·obtain⟨sl,e1⟩:=I.base.slot b o e n hb hx
   exact⟨sl,(hs.2 b (bh (aR (aV e) I.ok.above))).trans e1⟩
  ·obtain⟨o',e1⟩:=I.base.there b o e hx
   exact⟨o',(hs.2 b (bh (aR (aV e) I.ok.above))).trans e1⟩
  ·by_cases hj:j=i
   ·subst hj
    rw[hi]at e1;cases e1
    rw[gn hiσ]at e2
    cases e2
    exact⟨u,r,.inl ⟨hk,by simp⟩⟩
   ·rw[gK (aE hj)]at e2
    obtain⟨u',r',q⟩:=hl j y v' e1 e2 e3
    refine⟨u',r',?_⟩
    rcases q with ⟨k,e⟩|⟨k,c,e,z⟩
    ·refine .inl ⟨k,?_⟩
     have:y≠x:=λe=>hj (Lg hN e1 (e▸hi))
     simp[this,e]
    ·exact .inr ⟨k,c,e,z.sameBut hs (Tu y c e)⟩
  ·obtain⟨w',z⟩:=I.cell y c e
   exact⟨w',z.sameBut hs (Tu y c e)⟩
  ·obtain⟨e,n,ne,nf,d⟩:=I.pin p hp
   exact⟨(hs.2 p.1 ne).trans e,n,ne,nf,d⟩
 ·have hfn:X.fn x=true:=by
   rcases hf with z|z
   ·exact z
   ·rw[z]at hk;cases hk
  obtain⟨c,hc⟩:=I.ok.has x (.inl hk)
  obtain⟨w',z⟩:=I.cell x c hc
  refine wpAny_storeName_cell I.ok.kind hk hc z (λh' hc' hs=> ?_)
  obtain⟨oc,hoc,hocd⟩:=id z
  refine h {s with heap:=h'} ⟨I.ok,I.os,I.bare,⟨λb o e n hb hx=> ?_,λb o e n hb hx=> ?_,I.base.free,λb o e hx=> ?_,I.base.Cs,I.base.Bn,I.base.Bp⟩,⟨m,hn.sameBut hs (aE (Tu x c hc)),λj y v' e1 e2 e3=> ?_⟩,λy c' e=> ?_,I.free,I.wK,λp hp=> ?_,tracked ⟨oc,hoc,I.wK x c hc⟩ hs,by simpa using I.len⟩ ⟨c,hs,.inr hc⟩
  ·exact(hs.2 b (bh (aR (aV e) (I.ok.U2 x c hfn hc)))).trans (I.base.keep b o e n hb hx)
  ·obtain⟨sl,e1⟩:=I.base.slot b o e n hb hx
   exact⟨sl,(hs.2 b (bh (aR (aV e) (I.ok.U2 x c hfn hc)))).trans e1⟩
  ·obtain⟨o',e1⟩:=I.base.there b o e hx
   exact⟨o',(hs.2 b (bh (aR (aV e) (I.ok.U2 x c hfn hc)))).trans e1⟩
  ·by_cases hj:j=i
   ·subst hj
    rw[hi]at e1;cases e1
    rw[gn hiσ]at e2
    cases e2
    exact⟨u,r,.inr ⟨.inl hk,c,hc,hc'⟩⟩
   ·rw[gK (aE hj)]at e2
    obtain⟨u',r',q⟩:=hl j y v' e1 e2 e3
    refine⟨u',r',?_⟩
    rcases q with q|⟨k,c',e,z'⟩
    ·exact .inl q
    ·refine .inr ⟨k,c',e,z'.sameBut hs ?_⟩
     rintro rfl
     exact hj (Lg hN e1 (I.ok.inj _ _ _ e hc▸hi))
  ·by_cases hcc:c'=c
   ·subst hcc;exact⟨_,hc'⟩
   ·obtain⟨w2,z2⟩:=I.cell y c' e
    exact⟨w2,z2.sameBut hs hcc⟩
  ·obtain⟨e,n,ne,nf,d⟩:=I.pin p hp
   refine⟨(hs.2 p.1 ?_).trans e,n,ne,nf,d⟩
   intro q
   rw[q,hoc]at e
   have q':oc=p.2:=bp e
   exact d w' (by rw[←q'];exact hocd)
theorem LL{M:Model}{A:Around}{E:Value->Shared->Prop}{i:Nat}{x:Str}{v:V}{u:Value}{Q:Unit->Shared->Prop}(I:Inv X pins σ H s)(hN:X.N.Nodup)(hi:X.N[i]? =some x)(hx:Loc X.env.scope x)(r:RelV v u)
  (h:∀s',Inv X pins (σ.set i (some v)) H s'->Q () s') (hf:X.fn x=true∨X.env.scope.names.lookup x=some .local:=by first|exact .inl rfl|exact .inr rfl|assumption):wpAny M A (storeName X.env x u) Q E s:=
 IK I hN hi hx r (λs' I' _=>h s' I') hf
theorem Inv.VM{s':Shared}{ch:List Addr}(I:Inv X pins σ H s)(ho:s'.os=s.os)(u:Un (F4 X.stack) ch H H' s.heap s'.heap)(lB:zQ X.prog X.w H' s'.heap)(hg:AllBare s'.gens)
  (hch:∀b∈ch,(b∈X.ex∨X.s₀.heap.objs.size<=b)/\b≠X.env.locals/\(∀x c,X.env.cells.lookup x=some c->c≠b)/\∀p∈X.pn++pins,p.1≠b):Inv X pins σ H' s':=by
 obtain⟨h',g',d',t',o'⟩:=s'
 have e:o'=s.os:=ho
 subst e
 exact I.call (g':=g') (t':=t') (d':=d') u lB hg hch
end
noncomputable abbrev XK:=Value->Option Addr->Hp->Prop
noncomputable abbrev St:=List (Option V)
noncomputable abbrev VK:=V->Hp->Prop
noncomputable abbrev TE:=St->Hp->VK->Prop
noncomputable abbrev TT:=St->Hp->(Bool->Hp->Prop)->Prop
noncomputable abbrev TA:=St->Hp->(List V->Hp->Prop)->Prop
structure Ends where
 nx:St->Hp->Prop
 rt:VK
 bk:St->Hp->Prop:=λ_ _=>False
 ct:St->Hp->Prop:=λ_ _=>False
noncomputable abbrev TS:=Ends->St->Hp->Prop
noncomputable def EP (X:Cx) (pins:List (Addr×Obj)) (σ:St) (Q:VK) (u:Value) (s':Shared):Prop:=∃v H',Inv X pins σ H' s'/\RelV v u/\Q v H'
noncomputable def TP (X:Cx) (pins:List (Addr×Obj)) (σ:St) (Q:Bool->Hp->Prop) (b:Bool) (s':Shared):Prop:=∃H',Inv X pins σ H' s'/\Q b H'
noncomputable def AP (X:Cx) (pins:List (Addr×Obj)) (σ:St) (Q:List V->Hp->Prop) (us:List Value) (s':Shared):Prop:=∃vs H',Inv X pins σ H' s'/\Vals vs us/\Q vs H'
noncomputable def SP (X:Cx) (pins:List (Addr×Obj)) (D:Ends) (f:Flow) (s':Shared):Prop:=
 match f with
 | .next=>∃σ' H',Inv X pins σ' H' s'/\D.nx σ' H'
 | .brk=>∃σ' H',Inv X pins σ' H' s'/\D.bk σ' H'
 | .cont=>∃σ' H',Inv X pins σ' H' s'/\D.ct σ' H'
 | .ret u=>∃v σ' H',Inv X pins σ' H' s'/\RelV v u/\D.rt v H'
noncomputable def PE (X:Cx) (e:Expr) (t:TE):Prop:=
 ∀(pins:List (Addr×Obj)) (s:Shared) (σ:St) (H:Hp) (Q:VK),Inv X pins σ H s->t σ H Q->wpAny (model X.prog X.w) X.A (eval e X.env) (EP X pins σ Q) X.xe s
noncomputable def PT (X:Cx) (e:Expr) (t:TT):Prop:=
 ∀(pins:List (Addr×Obj)) (s:Shared) (σ:St) (H:Hp) (Q:Bool->Hp->Prop),Inv X pins σ H s->t σ H Q->wpAny (model X.prog X.w) X.A (isTrue e X.env (eval e X.env)) (TP X pins σ Q) X.xe s
noncomputable def PW (X:Cx) (e:Expr) (t:TT):Prop:=
 ∀(whole:Sem Value) (pins:List (Addr×Obj)) (s:Shared) (σ:St) (H:Hp) (Q:Bool->Hp->Prop),Inv X pins σ H s->t σ H Q->wpAny (model X.prog X.w) X.A (isTrue e X.env whole) (TP X pins σ Q) X.xe s
theorem PW.pt{X:Cx}{e:Expr}{t:TT}(h:PW X e t):PT X e t:=h _
noncomputable def PA (X:Cx) (es:List Expr) (t:TA):Prop:=
 ∀(pos:Pos) (pins:List (Addr×Obj)) (s:Shared) (σ:St) (H:Hp) (Q:List V->Hp->Prop),Inv X pins σ H s->t σ H Q->wpAny (model X.prog X.w) X.A (spliced (backTo pos (starEach es X.env))) (AP X pins σ Q) X.xe s
noncomputable def PS (X:Cx) (st:Stmt) (t:TS):Prop:=
 ∀(pins:List (Addr×Obj)) (s:Shared) (σ:St) (H:Hp) (D:Ends),Inv X pins σ H s->t D σ H->wpAny (model X.prog X.w) X.A (exec st X.env) (SP X pins D) X.xe s
noncomputable def LY (X:Cx) (st:List Stmt) (t:TS):Prop:=
 ∀(pins:List (Addr×Obj)) (s:Shared) (σ:St) (H:Hp) (D:Ends),Inv X pins σ H s->t D σ H->wpAny (model X.prog X.w) X.A (execs st X.env) (SP X pins D) X.xe s
theorem pL{α:Type}{t:Sem α}{Q Q':α->Shared->Prop}{M:Model}{A:Around}{E:Value->Shared->Prop}{s:Shared}(h:wpAny M A t Q E s)(hQ:∀a s,Q a s->Q' a s):wpAny M A t Q' E s:=wpAny_mono h hQ λ_ _ x=>x
end L2
namespace L2
open PySem PySem.Spec PyProof.Rows
section
variable{X:Cx}
noncomputable def Xx (i:Nat):TE:=λσ H Q=>∃v,σ[i]? =some (some v)/\Q v H
noncomputable def tC (v:V):TE:=λ_ H Q=>Q v H
theorem Uw{i:Nat}{x:Str}{pos:Pos}(hN:X.N[i]? =some x)(hv:WB X.env.scope x)(hd:(x==("__debug__":Str))=false:=by decide)(hcd:(x==("__classdict__":Str))=false:=by decide):PE X (.Name x pos) (Xx i):=by
 intro pins s σ H Q I h
 obtain⟨v,e,h⟩:=h
 obtain⟨m,hn,hl⟩:=I.loc
 obtain⟨u,r,l⟩:=hl i x v hN e hv
 have fin:EP X pins σ Q u s:=⟨v,H,I,r,h⟩
 rcases l with ⟨hk,hm⟩|⟨hk,c,hc,hcell⟩
 ·exact wpAny_Name (wpAny_loadName_local I.ok.kind hk hn hm fin) hd
 ·rcases hk with hk|hk
  ·exact wpAny_Name (wpAny_loadName_cell I.ok.kind hk hc hcell fin) hd
  ·exact wpAny_Name (wpAny_loadName_free I.ok.kind hk hc hcell fin hcd) hd
theorem Up{i j pos}:PE X (.Constant (.int i) j pos) (tC (.int i)):=λ_ _ _ H _ I h=>wpAny_Constant_int ⟨.int i,H,I.tok _,⟨_,rfl⟩,h⟩
theorem Wc{b j pos}:PE X (.Constant (.bool b) j pos) (tC (.bl b)):=λ_ _ _ H _ I h=>Constant_bool ⟨.bl b,H,I,rfl,h⟩
theorem Ur{j pos}:PE X (.Constant .none j pos) (tC .kG):=λ_ _ _ H _ I h=>Constant_none ⟨.kG,H,I,rfl,h⟩
theorem Uu{x j pos}:PE X (.Constant (.str x) j pos) (tC (.str x)):=λ_ _ _ H _ I h=>Calls.Constant_str ⟨.str x,H,I.tok _,⟨_,rfl⟩,h⟩
noncomputable def Gl (X:Cx) (x:Str):Prop:=X.env.kindOf x=some .globalImplicit
theorem Dh{E:Value->Shared->Prop}{pins:List (Addr×Obj)}{s:Shared}{σ:St}{H:Hp}{x:Str}{u:Value}{pos:Pos}{Q:Value->Shared->Prop}(I:Inv X pins σ H s)(hg:Gl X x)(hm:X.mg x=some u)(h:Q u s)
  (hd:(x==("__debug__":Str))=false:=by decide):wpAny (model X.prog X.w) X.A (eval (.Name x pos) X.env) Q E s:=
 fL I.ok.kind hg (Calls.loadGlobal_global (by rw[I.ok.glob];exact I.mod.glob.keeps I.bk) hm h) hd
theorem yV{E:Value->Shared->Prop}{pins:List (Addr×Obj)}{s:Shared}{σ:St}{H:Hp}{x:Str}{u:Value}{pos:Pos}{Q:Value->Shared->Prop}(I:Inv X pins σ H s)(hg:Gl X x)(hm:X.mg x=none)(hv:bootBuiltins x=some u)(h:Q u s)
  (hn:x≠"__name__":=by decide) (hd:(x==("__debug__":Str))=false:=by decide):wpAny (model X.prog X.w) X.A (eval (.Name x pos) X.env) Q E s:=by
 obtain⟨mb,h1,h2⟩:=I.mod.blt
 exact fL I.ok.kind hg (Calls.loadGlobal_builtin (by rw[I.ok.glob];exact I.mod.glob.keeps I.bk) hm (by rw[I.ok.blt];exact h1.keeps I.bk) ((h2 x hn).trans hv) h) hd
theorem R0{x:Str}{v:V}{u:Value}{pos:Pos}(hg:Gl X x)(hm:X.mg x=some u)(r:RelV v u)(hd:(x==("__debug__":Str))=false:=by decide):PE X (.Name x pos) (tC v):=
 λ_ _ _ H _ I h=>Dh I hg hm ⟨v,H,I,r,h⟩ hd
theorem RW{x:Str}{v:V}{u:Value}{pos:Pos}(hg:Gl X x)(hm:X.mg x=none)(hv:bootBuiltins x=some u)(r:RelV v u)(hn:x≠"__name__":=by decide)(hd:(x==("__debug__":Str))=false:=by decide):PE X (.Name x pos) (tC v):=
 λ_ _ _ H _ I h=>yV I hg hm hv ⟨v,H,I,r,h⟩ hn hd
variable{a b:Expr}{ta tb:TE}{pos:Pos}
variable{tA tB':TT}{rest:List Expr}
noncomputable def A5 (t u:TT):TT:=λσ H Q=>t σ H λc H1=>if c=true then u σ H1 Q else Q false H1
noncomputable def NL (t u:TT):TT:=λσ H Q=>t σ H λc H1=>if c=true then Q true H1 else u σ H1 Q
noncomputable def sR (t:TT):TT:=λσ H Q=>t σ H λc H1=>Q (!c) H1
theorem Sh(ha:PT X a tA):PW X (.BoolOp .And [a] pos) tA:=by
 intro wh pins s σ H Q I h
 refine isTrue_and (pL (ha pins s σ H Q I h) λc s1 e=> ?_)
 cases c with
 |true=>exact isTrue_and_nil e
 |false=>exact e
theorem UI(ha:PT X a tA):PW X (.BoolOp .Or [a] pos) tA:=by
 intro wh pins s σ H Q I h
 refine isTrue_or (pL (ha pins s σ H Q I h) λc s1 e=> ?_)
 cases c with
 |false=>exact isTrue_or_nil e
 |true=>exact e
theorem UH(ha:PT X a tA)(hb:PW X (.BoolOp .And (b::rest) pos) tB'):PW X (.BoolOp .And (a::b::rest) pos) (A5 tA tB'):=by
 intro wh pins s σ H Q I h
 refine isTrue_and (pL (ha pins s σ H _ I h) λc s1 ⟨H1,I1,q1⟩=> ?_)
 cases c with
 |true=>exact hb wh pins s1 σ H1 Q I1 q1
 |false=>exact⟨H1,I1,q1⟩
theorem Wk(ha:PT X a tA)(hb:PW X (.BoolOp .Or (b::rest) pos) tB'):PW X (.BoolOp .Or (a::b::rest) pos) (NL tA tB'):=by
 intro wh pins s σ H Q I h
 refine isTrue_or (pL (ha pins s σ H _ I h) λc s1 ⟨H1,I1,q1⟩=> ?_)
 cases c with
 |true=>exact⟨H1,I1,q1⟩
 |false=>exact hb wh pins s1 σ H1 Q I1 q1
theorem UG(ha:PT X a tA):PT X (.UnaryOp .Not a pos) (sR tA):=by
 intro pins s σ H Q I h
 exact isTrue_not (ha pins s σ H (λc H1=>Q (!c) H1) I h)
noncomputable def DL (ta tb:TE):TE:=λσ H Q=>ta σ H λx H1=>∃c,x= .bl c/\if c=true then tb σ H1 Q else Q (.bl false) H1
noncomputable def NK (ta:TE):TE:=λσ H Q=>ta σ H λx H1=>∃c,x= .bl c/\Q (.bl (!c)) H1
theorem Ut{op}{t:TE}(h:PE X a t):PE X (.BoolOp op [a] pos) t:=λpins s σ H Q I hw=>BoolOp_one (h pins s σ H Q I hw)
theorem Uo(ha:PE X a ta)(hb:PE X (.BoolOp .And (b::rest) pos) tb):PE X (.BoolOp .And (a::b::rest) pos) (DL ta tb):=by
 intro pins s σ H Q I h
 refine BoolOp_and (pL (ha pins s σ H _ I h) λv s1 ⟨x,H1,I1,r1,q1⟩=> ?_)
 obtain⟨c,rfl,q1⟩:=q1
 cases r1
 refine wpAny_truthy_bool ?_
 cases c with
 |true=>exact hb pins s1 σ H1 Q I1 q1
 |false=>exact⟨.bl false,H1,I1,rfl,q1⟩
theorem Us(ha:PE X a ta):PE X (.UnaryOp .Not a pos) (NK ta):=by
 intro pins s σ H Q I h
 refine UnaryOp_ (pL (ha pins s σ H _ I h) λv s1 ⟨x,H1,I1,r1,q1⟩=> ?_)
 obtain⟨c,rfl,q1⟩:=q1
 cases r1
 exact not_of (wpAny_truthy_bool ⟨.bl (!c),H1,I1,rfl,q1⟩)
end
end L2
namespace L2
open PySem PySem.Spec PyProof.Rows
noncomputable def lT (K:aC) (H:Hp) (a:Addr) (xs:List V):Prop:=
 Rd H a (.lst xs)∨
  ∃(o:Obj) (its:Array Value) (n:Nat),K.lookup a=some o/\o.cls= .type "list"/\o.dict=none/\o.data= .seq its n/\its.size<=sizeLine/\Vals xs its.toList
noncomputable def LR (K:aC) (H:Hp) (a:Addr) (xs:List V):Prop:=
 Rd H a (.tup xs)∨
  ∃(o:Obj) (its:Array Value) (n:Nat),K.lookup a=some o/\o.cls= .type "tuple"/\o.data= .seq its n/\its.size<=sizeLine/\Vals xs its.toList
noncomputable def WU:Value->Option V
 | .none=>some .kG
 | .bool b=>some (.bl b)
 | .int i _=>some (.int i)
 | .str x _=>some (.str x)
 | .bytes b _=>some (.byt b)
 | .float b _=>some (.Po b)
 | .ref a=>some (.ref a)
 | .type n=>some (.ty n)
 |_=>none
theorem RelV.abs{x:V}{u:Value}(r:RelV x u):WU u=some x:=by
 cases x with
 |kG=>cases r;rfl
 |bl _=>cases r;rfl
 |int _=>obtain⟨t,rfl⟩:=r;rfl
 |str _=>obtain⟨t,rfl⟩:=r;rfl
 |byt _=>obtain⟨t,rfl⟩:=r;rfl
 |Po _=>obtain⟨t,rfl⟩:=r;rfl
 |ref _=>cases r;rfl
 |ty _=>cases r;rfl
theorem RelV.inj{x y:V}{u:Value}(r:RelV x u)(q:RelV y u):x=y:=bp (r.abs.symm.trans q.abs)
theorem Vals.inj:∀{xs ys:List V} {us:List Value},Vals xs us->Vals ys us->xs=ys
 |_,_,_,.nil,.nil=>rfl
 |_,_,_,.cons r t,.cons r' t'=>by rw[r.inj r',Vals.inj t t']
section
variable{X:Cx}{pins:List (Addr×Obj)}{σ:St}{H:Hp}{s:Shared}{a:Addr}{xs ys:List V}
theorem lT.of{K:aC}(h:H a=some (.lst xs)):lT K H a xs:= .inl (.inl h)
theorem LR.of{K:aC}(h:H a=some (.tup xs)):LR K H a xs:= .inl (.inl h)
theorem Inv.list(I:Inv X pins σ H s)(h:lT X.K H a xs):∃its:List Value,Vals xs its/\PlainL s.heap a its.toArray/\xs.length<=sizeLine:=by
 rcases h with h|⟨o,its,n,hk,hc,hd,hs,hz,r⟩
 ·obtain⟨z,its,n,r,e⟩:=h.ok I.lB
  exact⟨its,r,⟨_,n,e,rfl,rfl,rfl⟩,z⟩
 ·refine⟨its.toList,r,⟨o,n,I.DR a o hk,hc,hd,by simpa using hs⟩,?_⟩
  have e:=r.length
  simp only[fz]at e
  lia
theorem Inv.tuple(I:Inv X pins σ H s)(h:LR X.K H a xs):∃its:List Value,Vals xs its/\IsTup s.heap a its.toArray/\xs.length<=sizeLine:=by
 rcases h with h|⟨o,its,n,hk,hc,hs,hz,r⟩
 ·obtain⟨z,its,r,p⟩:=h.ok I.lB
  exact⟨its,r,p,z⟩
 ·refine⟨its.toList,r,⟨o,I.DR a o hk,hc,n,by simpa using hs⟩,?_⟩
  have e:=r.length
  simp only[fz]at e
  lia
theorem Inv.Di(I:Inv X pins σ H s)(h:lT X.K H a xs)(h':lT X.K H a ys):xs=ys:=by
 obtain⟨its,r,⟨o,n,e,_,_,d⟩,_⟩:=I.list h
 obtain⟨its',r',⟨o',n',e',_,_,d'⟩,_⟩:=I.list h'
 rw[e]at e';cases e'
 rw[d]at d'
 injection d' with d1 _
 have:its=its':=by simpa using congrArg Array.toList d1
 subst this
 exact r.inj r'
end
noncomputable abbrev Cx.Bq (X:Cx) (E:Value->Shared->Prop):Cx:={X with xe:=E}
theorem Cx.Ok.Bq{X:Cx}(ok:X.Ok)(E:Value->Shared->Prop):(X.Bq E).Ok:=
 ⟨ok.mod,ok.kind,ok.glob,ok.blt,ok.above,ok.inj,ok.has,ok.U2,ok.hd,ok.frames,ok.Wq,ok.W4,ok.bs,ok.QR,ok.GA,ok.Pm,ok.CZ,ok.Rv⟩
theorem Cx.Ok.xR{X:Cx}{E:Value->Shared->Prop}(ok:(X.Bq E).Ok):X.Ok:=
 ⟨ok.mod,ok.kind,ok.glob,ok.blt,ok.above,ok.inj,ok.has,ok.U2,ok.hd,ok.frames,ok.Wq,ok.W4,ok.bs,ok.QR,ok.GA,ok.Pm,ok.CZ,ok.Rv⟩
section
variable{X:Cx}{pins:List (Addr×Obj)}{σ:St}{H:Hp}{s:Shared}{E:Value->Shared->Prop}
theorem Inv.Bq(I:Inv X pins σ H s)(E:Value->Shared->Prop):Inv (X.Bq E) pins σ H s:=⟨I.ok.Bq E,I.os,I.bare,I.base,I.loc,I.cell,I.free,I.wK,I.pin,I.lB,I.len⟩
theorem Inv.xR(I:Inv (X.Bq E) pins σ H s):Inv X pins σ H s:=⟨I.ok.xR,I.os,I.bare,I.base,I.loc,I.cell,I.free,I.wK,I.pin,I.lB,I.len⟩
theorem SP.xR{D:Ends}{f:Flow}{s':Shared}(h:SP (X.Bq E) pins D f s'):SP X pins D f s':=by
 cases f with
 |next=>obtain⟨σ',H',I,q⟩:=h;exact⟨σ',H',I.xR,q⟩
 |brk=>obtain⟨σ',H',I,q⟩:=h;exact⟨σ',H',I.xR,q⟩
 |cont=>obtain⟨σ',H',I,q⟩:=h;exact⟨σ',H',I.xR,q⟩
 |ret u=>obtain⟨v,σ',H',I,r,q⟩:=h;exact⟨v,σ',H',I.xR,r,q⟩
end
section
variable{X:Cx}{st:Stmt}{rest:List Stmt}{t u:TS}{e:Expr}{te:TE}{pos:Pos}
noncomputable def j5:TS:=λD σ H=>D.nx σ H
noncomputable def kN (t u:TS):TS:=λD σ H=>t {D with nx:=u D} σ H
theorem Se:LY X [] j5:=λ_ _ σ H _ I h=>wpAny_execs_nil ⟨σ,H,I,h⟩
theorem Qr(h1:PS X st t)(h2:LY X rest u):LY X (st::rest) (kN t u):=by
 intro pins s σ H D I h
 refine wpAny_execs_cons (pL (h1 pins s σ H {D with nx:=u D} I h) λf s1 q=> ?_)
 cases f with
 |next=>
  obtain⟨σ',H',I',q⟩:=q
  exact h2 pins s1 σ' H' D I' q
 |ret v=>exact q
 |brk=>exact q
 |cont=>exact q
theorem Sf(h1:PS X st t):LY X [st] t:=by
 intro pins s σ H D I h
 refine wpAny_execs_cons (pL (h1 pins s σ H D I h) λf s1 q=> ?_)
 cases f with
 |next=>exact wpAny_execs_nil q
 |ret v=>exact q
 |brk=>exact q
 |cont=>exact q
theorem Inv.quiet{pins:List (Addr×Obj)}{σ:St}{H:Hp}{s:Shared}(I:Inv X pins σ H s):interactive X.env=false:=by simp[interactive,I.ok.kind]
noncomputable def kc (te:TE):TS:=λD σ H=>te σ H λ_ H1=>D.nx σ H1
theorem Sb(he:PE X e te)(hs:swapsWith e none pos.line X.env=pure false:=by rfl):PS X (.Expr e pos) (kc te):=by
 intro pins s σ H D I h
 exact wpAny_Expr_any (pL (he pins s σ H _ I h) λv s1 ⟨x,H1,I1,r1,q1⟩=>⟨σ,H1,I1,q1⟩) I.quiet hs
noncomputable def kM (te:TE):TS:=λD σ H=>te σ H D.rt
theorem UD(he:PE X e te):PS X (.Return (some e) pos) (kM te):=by
 intro pins s σ H D I h
 exact wpAny_Return_some (pL (he pins s σ H _ I h) λv s1 ⟨x,H1,I1,r1,q1⟩=>⟨x,σ,H1,I1,r1,q1⟩)
noncomputable def NM:TS:=λD _ H=>D.rt .kG H
theorem Sd:PS X (.Return none pos) NM:=λ_ _ σ H _ I h=>wpAny_Return_none ⟨.kG,σ,H,I,rfl,h⟩
noncomputable def kZ (c:TT) (t u:TS):TS:=λD σ H=>c σ H λb H1=>if b=true then t D σ H1 else u D σ H1
theorem Wj{c:Expr}{a b:List Stmt}{tc:TT}(hc:PT X c tc)(ha:LY X a t)(hb:LY X b u):PS X (.If c a b pos) (kZ tc t u):=by
 intro pins s σ H D I h
 refine wpAny_If (pL (hc pins s σ H _ I h) λd s1 ⟨H1,I1,q1⟩=> ?_)
 cases d with
 |true=>exact ha pins s1 σ H1 D I1 q1
 |false=>exact hb pins s1 σ H1 D I1 q1
end
noncomputable abbrev TG:=V->St->Hp->(St->Hp->Prop)->Prop
noncomputable abbrev QP:=List V->St->Hp->(St->Hp->Prop)->Prop
noncomputable def PG (X:Cx) (target:Expr) (t:TG):Prop:=
 ∀(pins:List (Addr×Obj)) (s:Shared) (σ:St) (H:Hp) (v:V) (u:Value) (Q:St->Hp->Prop),Inv X pins σ H s->RelV v u->t v σ H Q->
  wpAny (model X.prog X.w) X.A (assign target X.env u) (λ_ s'=>∃σ' H',Inv X pins σ' H' s'/\Q σ' H') X.xe s
noncomputable def Vf (X:Cx) (ts:List Expr) (t:QP):Prop:=
 ∀(pins:List (Addr×Obj)) (s:Shared) (σ:St) (H:Hp) (vs:List V) (us:List Value) (Q:St->Hp->Prop),Inv X pins σ H s->Vals vs us->t vs σ H Q->
  wpAny (model X.prog X.w) X.A (assignInOrder ((assignEach ts X.env).map (·.2)) us) (λ_ s'=>∃σ' H',Inv X pins σ' H' s'/\Q σ' H') X.xe s
noncomputable abbrev NQ:=V->V->V->Hp->(Hp->Prop)->Prop
noncomputable def QZ (X:Cx) (t:NQ):Prop:=
 ∀(pins:List (Addr×Obj)) (s:Shared) (σ:St) (H:Hp) (o i v:V) (ov iv u:Value) (Q:Hp->Prop),Inv X pins σ H s->RelV o ov->RelV i iv->RelV v u->t o i v H Q->
  wpAny (model X.prog X.w) X.A (setItem ov iv u) (λ_ s'=>∃H',Inv X pins σ H' s'/\Q H') X.xe s
section
variable{X:Cx}{pos:Pos}
noncomputable def jG (i:Nat):TG:=λv σ H Q=>Q (σ.set i (some v)) H
theorem Fz{i:Nat}{x:Str}(hN:X.N.Nodup)(hi:X.N[i]? =some x)(hx:Loc X.env.scope x)(hf:X.fn x=true∨X.env.scope.names.lookup x=some .local:=by first|exact .inl rfl|exact .inr rfl|assumption):PG X (.Name x pos) (jG i):=by
 intro pins s σ H v u Q I r h
 exact wpAny_assign_Name (LL I hN hi hx r (λs' I'=>⟨_,H,I',h⟩) hf)
noncomputable def Md:QP:=λvs σ H Q=>vs=[]/\Q σ H
noncomputable def Aj (t:TG) (u:QP):QP:=λvs σ H Q=>∃v r,vs=v::r/\t v σ H λσ' H'=>u r σ' H' Q
theorem Nw:Vf X [] Md:=by
 intro pins s σ H vs us Q I r h
 obtain⟨e,h⟩:=h
 subst e
 cases r
 exact assignInOrder_nil ⟨σ,H,I,h⟩
theorem GJ{e:Expr}{es:List Expr}{t:TG}{u:QP}(h1:PG X e t)(h2:Vf X es u)
  (hs:(assignEach (e::es) X.env).map (·.2)=assign e X.env::(assignEach es X.env).map (·.2):=by rfl):Vf X (e::es) (Aj t u):=by
 intro pins s σ H vs us Q I r h
 obtain⟨v,vr,e1,h⟩:=h
 subst e1
 cases r with
 |cons r rr=>
  rw[hs]
  refine assignInOrder_cons (pL (h1 pins s σ H _ _ _ I r h) λ_ s1 ⟨σ1,H1,I1,q1⟩=> ?_)
  exact h2 pins s1 σ1 H1 _ _ Q I1 rr q1
noncomputable def Pr (K:aC) (n:Nat) (t:QP):TG:=λv σ H Q=>∃a xs,v= .ref a/\LR K H a xs/\xs.length=n/\t xs σ H Q
theorem Ql{es:List Expr}{k:Nat}{t:QP}{n:Nat}(hc:X.calm=true)(h:Vf X es t)
  (hn:(assignEach es X.env).length=n:=by rfl) (hst:(assignEach es X.env).findIdx? (·.1)=none:=by rfl):PG X (.Tuple es k pos) (Pr X.K n t):=by
 intro pins s σ H v u Q I r hw
 obtain⟨a,xs,e1,hq,hl,hw⟩:=hw
 subst e1
 cases r
 obtain⟨its,rv,ht,hz⟩:=I.tuple hq
 refine assign_Tuple_tuple (I.ok.hd hc) ht (by simp[hn,←hl,rv.length]) hst λh' hx=> ?_
 have I1:Inv X pins σ H {s with heap:=h'}:=I.kept (t':=s.toks) λb o e=>hx b o (bh (aV e)) e
 exact h pins _ σ H xs _ Q I1 (by simpa using rv) hw
noncomputable def E8 (to ti:TE) (t:NQ):TG:=λv σ H Q=>to σ H λo H1=>ti σ H1 λi H2=>t o i v H2 λH3=>Q σ H3
theorem Ux{o i:Expr}{to ti:TE}{t:NQ}(ho:PE X o to)(hi:PE X i ti)(hs:QZ X t)
  (ha:∀v,assign (.Subscript o i pos) X.env v=(do
   let ov←holding [v] (eval o X.env)
   let iv←holding [v,ov] (eval i X.env)
   standAt pos
   holding [v,ov,iv] (setItem ov iv v)
   release [v,ov,iv] []):=by intro _;rfl):PG X (.Subscript o i pos) (E8 to ti t):=by
 intro pins s σ H v u Q I r h
 rw[ha]
 refine wpAny_bind (wpAny_holding (pL (ho pins s σ H _ I h) λov s1 ⟨x,H1,I1,r1,q1⟩=> ?_))
 refine wpAny_bind (wpAny_holding (pL (hi pins s1 σ H1 _ I1 q1) λiv s2 ⟨y,H2,I2,r2,q2⟩=> ?_))
 refine wpAny_bind (wpAny_standAt (wpAny_bind (wpAny_holding (pL (hs pins s2 σ H2 x y v ov iv u _ I2 r1 r2 r q2) λ_ s3 ⟨H3,I3,q3⟩=> ?_))))
 exact wpAny_release ⟨σ,H3,I3,q3⟩
noncomputable def kB (te:TE) (g:TG):TS:=λD σ H=>te σ H λx H1=>g x σ H1 D.nx
theorem UB{tg e:Expr}{te:TE}{g:TG}(he:PE X e te)(hg:PG X tg g)(hs:swapsWithSole [tg] e pos.line X.env=pure false:=by rfl)(hw:swappedStores [tg] e X.env=pure none:=by rfl)
  (h1:(assignEach [tg] X.env).map (·.2)=[assign tg X.env]:=by rfl):PS X (.Assign [tg] e pos) (kB te g):=by
 intro pins s σ H D I h
 refine wpAny_Assign_stores (pL (he pins s σ H _ I h) λv s1 ⟨x,H1,I1,r1,q1⟩=> ?_) hs hw
 rw[h1]
 exact pL (hg pins s1 σ H1 x v _ I1 r1 q1) λ_ s2 q=>q
theorem UE{i:Nat}{x:Str}{e:Expr}{te:TE}{pos':Pos}(hN:X.N.Nodup)(hi:X.N[i]? =some x)(hx:Loc X.env.scope x)(he:PE X e te)(hs:swapsWith e (some (.Name x pos')) pos.line X.env=pure false:=by rfl)(hf:X.fn x=true∨X.env.scope.names.lookup x=some .local:=by first|exact .inl rfl|exact .inr rfl|assumption):
  PS X (.Assign [.Name x pos'] e pos) (kB te (jG i)):=by
 intro pins s σ H D I h
 refine wpAny_Assign_Name (pL (he pins s σ H _ I h) λv s1 ⟨y,H1,I1,r1,q1⟩=> ?_) hs
 exact LL I1 hN hi hx r1 (λs2 I2=>⟨_,H1,I2,q1⟩) hf
end
section
variable{X:Cx}{pos:Pos}
noncomputable def QG (c:TT) (tb:TS):TS:=λD σ H=>∃W:Nat->St->Hp->Prop,(∃m,W m σ H)/\∀m σ H,W m σ H->
 c σ H λb H1=>if b=true then∃N:St->Hp->Prop,(∀σ' H',N σ' H'->∃m',m'<m/\W m' σ' H')/\tb {D with nx:=N,ct:=N,bk:=D.nx} σ H1 else D.nx σ H1
theorem Qq{c:Expr}{body:List Stmt}{tc:TT}{tb:TS}(hp:PassesOwn (model X.prog X.w) X.A X.env X.xe)(hc:PT X c tc)(hb:LY X body tb):PS X (.While c body [] pos) (QG tc tb):=by
 intro pins s σ H D I h
 obtain⟨W,⟨m0,w0⟩,turn⟩:=h
 refine wpAny_While (codeAny_whileLoop (λn s'=>∃σ' H',Inv X pins σ' H' s'/\W n σ' H') ?_ m0 ⟨σ,H,I,w0⟩)
 rintro n s1 ⟨σ1,H1,I1,w1⟩
 refine wpAny_passesOwn hp (pL (hc pins s1 σ1 H1 _ I1 (turn n σ1 H1 w1)) λb s2 ⟨H2,I2,q2⟩=> ?_)
 cases b with
 |true=>
  obtain⟨N,hN,q2⟩:=q2
  rw[if_pos rfl]
  refine wpAny_passesOwn hp (pL (hb pins s2 σ1 H2 _ I2 q2) λf s3 q3=> ?_)
  cases f with
  |next=>
   obtain⟨σ3,H3,I3,n3⟩:=q3
   obtain⟨m',hm,w3⟩:=hN σ3 H3 n3
   exact⟨m',hm,σ3,H3,I3,w3⟩
  |cont=>
   obtain⟨σ3,H3,I3,n3⟩:=q3
   obtain⟨m',hm,w3⟩:=hN σ3 H3 n3
   exact⟨m',hm,σ3,H3,I3,w3⟩
  |brk=>exact q3
  |ret v=>exact q3
 |false=>
  rw[if_neg aZ]
  exact wpAny_execs_nil ⟨σ1,H2,I2,q2⟩
end
structure It where
 go:Nat->Hp->Prop
 S0:Nat->Hp->V->Hp->Prop
 stop:Nat->Hp->Prop
noncomputable def Cv (X:Cx) (pins:List (Addr×Obj)) (H:Hp) (b:Addr):Prop:=
 H b=none/\b≠X.env.locals/\b∉X.fs/\(b∈X.ex∨X.s₀.heap.objs.size<=b)/\(∀x c,X.env.cells.lookup x=some c->c≠b)/\∀p∈X.pn++pins,p.1≠b
theorem Inv.N4{X:Cx}{pins:List (Addr×Obj)}{σ:St}{H H':Hp}{s:Shared}{b:Addr}(I:Inv X pins σ H s)(hb:s.heap.objs.size<=b)(hn:H' b=none):Cv X pins H' b:=by
 refine⟨hn,du (aR I.lt hb),I.Xj hb,.inr (aW I.sz hb),λx c e z=> ?_,λp hp z=> ?_⟩
 ·obtain⟨v,q⟩:=I.cell x c e
  exact absurd (aR q.lt (by rw[z];exact hb)) (b_ _)
 ·exact absurd (aR (aV (I.pin p hp).1) (by rw[z];exact hb)) (b_ _)
structure Turn(P:Program)(w:World)(K:aC)(tg:Expr)(J:It)(fp:List Addr)(it:Addr)(tn:Nat->Heap->Prop):Prop where
 mem:it∈fp
 obj:∀i h,tn i h->∀b∈fp,∃o,h.get? b=some o/\∀v,o.data≠ .cell v
 keep:∀i h h',tn i h->(∀b∈fp,∀o,h.get? b=some o->h'.get? b=some o)->tn i h'
 item:∀(X:Cx),X.prog=P->X.w=w->X.K=K->X.calm=true->∀(i:Nat) (pins:List (Addr×Obj)) (s:Shared) (σ:St) (H:Hp) (E:Value->Shared->Prop),Inv X pins σ H s->(∀b∈fp,Cv X pins H b)->tn i s.heap->J.go i H->
  wpAny (model P w) X.A (pyNext (.ref it)) (λr s1=>∃u,r=some u/\
   wpAny (model P w) X.A (letOwnedTupleGo tg (.ref it) u) (λ_ s2=>∃x H',Inv X pins σ H' s2/\RelV x u/\J.S0 i H x H'/\tn (i+1) s2.heap/\∀b∈fp,H' b=none) E s1) E s
 done:∀(X:Cx),X.prog=P->X.w=w->X.K=K->X.calm=true->∀(i:Nat) (pins:List (Addr×Obj)) (s:Shared) (σ:St) (H:Hp) (E:Value->Shared->Prop),Inv X pins σ H s->(∀b∈fp,Cv X pins H b)->tn i s.heap->J.stop i H->
  wpAny (model P w) X.A (pyNext (.ref it)) (λr s1=>r=none/\Inv X pins σ H s1) E s
 self:∀(A:Around) (i:Nat) (s:Shared) (Q:Value->Shared->Prop) (E:Value->Shared->Prop),tn i s.heap->Q (.ref it) s->wpAny (model P w) A (pyIter (.ref it)) Q E s
noncomputable abbrev TI:=St->Hp->(It->Hp->Prop)->Prop
noncomputable def XJ (X:Cx) (pins:List (Addr×Obj)) (σ:St) (tg:Expr) (R:It->Hp->Prop) (itv:Value) (s2:Shared):Prop:=
 ∃(it:Addr) (fp:List Addr) (tn:Nat->Heap->Prop) (J:It) (H':Hp),itv= .ref it/\Inv X pins σ H' s2/\Turn X.prog X.w X.K tg J fp it tn/\tn 0 s2.heap/\(∀b∈fp,Cv X pins H' b)/\R J H'
noncomputable def PI (X:Cx) (tg iter:Expr) (wi:TI):Prop:=
 ∀(pins:List (Addr×Obj)) (s:Shared) (σ:St) (H:Hp) (R:It->Hp->Prop),Inv X pins σ H s->wi σ H R->
  wpAny (model X.prog X.w) X.A (eval iter X.env) (λv s1=>wpAny (model X.prog X.w) X.A (pyIter v) (XJ X pins σ tg R) X.xe s1) X.xe s
theorem SJ{M:Model}{A:Around}{E:Value->Shared->Prop}{s:Shared}{tg:Expr}{it:Addr}{u:Value}{o:Obj}{n:String}{vs:Array Value}{Q:Unit->Shared->Prop}(ho:s.heap.get? it=some o)(hc:o.cls= .type n)(hd:o.data= .fields vs)
  (hn: ["enumerate","zip","dict_itemiterator","dict_reverseitemiterator","odict_iterator","itertools.zip_longest","itertools.pairwise"].contains n=false) (hQ:Q () s):wpAny M A (letOwnedTupleGo tg (.ref it) u) Q E s:=by
 unfold letOwnedTupleGo
 cases tg<;>first
  |exact wpAny_pure hQ
  |(cases u<;>first
    |exact wpAny_pure hQ
    |(refine wpAny_bind (wpAny_load ho ?_)
      rw[hc,hd]
      show wpAny M A (if (["enumerate","zip","dict_itemiterator","dict_reverseitemiterator","odict_iterator","itertools.zip_longest","itertools.pairwise"].contains n&&vs[0]? ==some (rawInt _))=true then _ else _) Q E s
      rw[if_neg (by intro h;rw[hn,Bool.false_and]at h;cases h)]
      exact wpAny_pure hQ))
noncomputable def QN (K:aC) (a:Addr):It:=
 ⟨λi H=>∃xs x,lT K H a xs/\xs[i]? =some x,λi H x H'=>H'=H/\∀xs,lT K H a xs->xs[i]? =some x,λi H=>∃xs,lT K H a xs/\xs.length<=i⟩
noncomputable def QO (lo:Int) (n:Nat):It:=⟨λi _=>i<n,λi H x H'=>H'=H/\x= .int (lo+i),λi _=>n<=i⟩
theorem OK{P:Program}{w:World}{K:aC}{tg:Expr}(a it:Addr):Turn P w K tg (QN K a) [it] it (λi h=>h.IsListIter it a i) where
 mem:=by simp
 obj:=λi h st b hb=>by
  have e:b=it:=by simpa using hb
  subst e
  obtain⟨o,e,c,d⟩:=st
  exact⟨o,e,λv z=>by rw[d]at z;cases z⟩
 keep:=λi h h' st k=>st.at λo e=>k it (by simp) o e
 item:=by
  intro X hP hw hK hc i pins s σ H E I hf st hg
  subst hP hw hK
  obtain⟨xs,x,hq,hx⟩:=hg
  obtain⟨its,rv,p,hz⟩:=I.list hq
  obtain⟨u,hu,ru⟩:=rv.get hx
  obtain⟨f0,f1,f2,f3,f4,f5⟩:=hf it (by simp)
  refine wpAny_pyNext_list_item st p.isList (x:=u) (by simpa using hu) λh' st' sb=> ?_
  have I1:Inv X pins σ H {s with heap:=h'}:=I.turned (t':=s.toks) (λb o hb e=>(sb.2 b hb).trans e) f0 f1 f3 f4 f5
  obtain⟨o,e,c,d⟩:=id st'
  exact⟨u,rfl,SJ (s:={s with heap:=h'}) e c d (by decide) ⟨x,H,I1,ru,⟨rfl,λys hy=>by rw[I.Di hy hq];exact hx⟩,st',λb hb=>(hf b hb).1⟩⟩
 done:=by
  intro X hP hw hK hc i pins s σ H E I hf st hg
  subst hP hw hK
  obtain⟨xs,hq,hx⟩:=hg
  obtain⟨its,rv,p,hz⟩:=I.list hq
  obtain⟨f0,f1,f2,f3,f4,f5⟩:=hf it (by simp)
  have hl:=rv.length
  exact wpAny_pyNext_list_end (I.ok.hd hc) st p.isList (by simp;lia) λh' eb=>⟨rfl,I.turned (t':=s.toks) (λb o hb e=>eb b o hb e) f0 f1 f3 f4 f5⟩
 self:=λ_ _ _ _ _ st h=>wpAny_pyIter_listiter st h
theorem MN{P:Program}{w:World}{K:aC}{tg:Expr}(it:Addr)(lo:Int)(n:Nat):Turn P w K tg (QO lo n) [it] it (λi h=>IsRangeIter h it (lo+(i:Nat)*1) ((n:Int)-(i:Nat)) 1) where
 mem:=by simp
 obj:=λi h st b hb=>by
  have e:b=it:=by simpa using hb
  subst e
  exact⟨_,st,λv z=>by
   have z':iz _=Data.cell v:=z
   cases z'⟩
 keep:=λi h h' st k=>k it (by simp) _ st
 item:=by
  intro X hP hw hK hc i pins s σ H E I hf st hg
  subst hP hw hK
  obtain⟨f0,f1,f2,f3,f4,f5⟩:=hf it (by simp)
  have W:=Walks.range (prog:=X.prog) (w:=X.w) (I.ok.hd hc) it lo 1 n
  refine W.item i s _ _ hg st λv h' tk hv st' kk=> ?_
  obtain⟨t,rfl⟩:=hv
  have I1:Inv X pins σ H {s with heap:=h',toks:=tk}:=I.turned (λb o hb e=>kk b o (by simpa using hb) e) f0 f1 f3 f4 f5
  refine⟨_,rfl,SJ (s:={s with heap:=h',toks:=tk}) (n:="range_iterator") st' rfl rfl (by decide) ⟨.int (lo+i),H,I1,⟨t,?_⟩,⟨rfl,rfl⟩,st',λb hb=>(hf b hb).1⟩⟩
  rw[Int.mul_one]
 done:=by
  intro X hP hw hK hc i pins s σ H E I hf st hg
  subst hP hw hK
  obtain⟨f0,f1,f2,f3,f4,f5⟩:=hf it (by simp)
  exact wpAny_pyNext_range_end (I.ok.hd hc) st (by have:n<=i:=hg;lia) λh' eb=>⟨rfl,I.turned (t':=s.toks) (λb o hb e=>eb b o hb e) f0 f1 f3 f4 f5⟩
 self:=λ_ _ _ _ _ st h=>wpAny_pyIter_rangeiter st h
end L2
namespace L2
open PySem PySem.Spec PyProof.Rows
section
variable{X:Cx}{tg:Expr}
noncomputable def tU (K:aC) (tl:TE):TI:=λσ H R=>tl σ H λx H1=>∃a,x= .ref a/\(∃xs,lT K H1 a xs)/\R (QN K a) H1
theorem R8{l:Expr}{tl:TE}(hl:PE X l tl):PI X tg l (tU X.K tl):=by
 intro pins s σ H R I h
 refine pL (hl pins s σ H _ I h) λv s1 ⟨x,H1,I1,r1,q1⟩=> ?_
 obtain⟨a,e,⟨xs,hq⟩,q⟩:=q1
 subst e
 cases r1
 obtain⟨its,rv,p,hz⟩:=I1.list hq
 refine wpAny_pyIter_list p.isList ?_
 refine⟨s1.heap.objs.size,[s1.heap.objs.size],_,_,H1,rfl,I1.kept (t':=s1.toks) λb o e=>aO _ e,OK a _,⟨_,bT _ rfl,rfl,rfl⟩,λb hb=> ?_,q⟩
 have e:b=s1.heap.objs.size:=by simpa using hb
 subst e
 exact I1.N4 (aN _) (I1.lB.fresh (aN _))
theorem Lp{pins:List (Addr×Obj)}{σ:St}{H:Hp}{s:Shared}{R:It->Hp->Prop}{E:Value->Shared->Prop}{lo hi:Int}{t u v:Tok}{tk:Nat}(I:Inv X pins σ H s)(h1: -(2^62)<=lo)(h2:lo<2^62)(h3: -(2^62)<=hi)(h4:hi<2^62)
  (q:R (QO lo (hi-lo).toNat) H):wpAny (model X.prog X.w) X.A (pyIter (.ref s.heap.objs.size)) (XJ X pins σ tg R) E {s with heap:=s.heap.push {cls:= .type "range",data:= .fields #[.int lo t,.int hi u,.int 1 v]},toks:=tk}:=by
 refine wpAny_pyIter_range (iX ..) (small_one h1 h2 h3 h4) ?_
 have I1:Inv X pins σ H {s with heap:=s.heap.push {cls:= .type "range",data:= .fields #[.int lo t,.int hi u,.int 1 v]},toks:=tk}:=I.kept λb o e=>aO _ e
 refine⟨(s.heap.push {cls:= .type "range",data:= .fields #[.int lo t,.int hi u,.int 1 v]}).objs.size,[(s.heap.push {cls:= .type "range",data:= .fields #[.int lo t,.int hi u,.int 1 v]}).objs.size],_,_,H,rfl,
  I1.kept (t':=tk) λb o e=>aO _ e,MN _ lo (hi-lo).toNat,?_,λb hb=> ?_,q⟩
 ·have e1:lo+((0:Nat):Int)*1=lo:=by simp
  have e2:(((hi-lo).toNat:Nat):Int)-((0:Nat):Int)=Builtin.Range.rangeSize lo hi 1:=by rw[rangeSize_one];split<;>lia
  show IsRangeIter _ _ (lo+((0:Nat):Int)*1) ((((hi-lo).toNat:Nat):Int)-((0:Nat):Int)) 1
  rw[e1,e2]
  exact bT _ rfl
 ·have e:b=(s.heap.push {cls:= .type "range",data:= .fields #[.int lo t,.int hi u,.int 1 v]}).objs.size:=by simpa using hb
  subst e
  exact I1.N4 (aN _) (I1.lB.fresh (aN _))
noncomputable def Ao (ta:TA):TI:=λσ H R=>ta σ H λvs H1=>∃j:Int,vs=[.int j]/\ -(2^62)<=j/\j<2^62/\R (QO 0 j.toNat) H1
noncomputable def Py (ta:TA):TI:=λσ H R=>ta σ H λvs H1=>∃i j:Int,vs=[.int i,.int j]/\(-(2^62)<=i/\i<2^62/\ -(2^62)<=j/\j<2^62)/\R (QO i (j-i).toNat) H1
theorem Ox{a:Expr}{ta:TA}{p pos:Pos}(hg:Gl X "range")(hm:X.mg "range"=none)(ha:PA X [a] ta)(hs:starEach [a] X.env=[(false,eval a X.env)]:=by rfl):PI X tg (.Call (.Name "range" p) [a] [] pos) (Ao ta):=by
 intro pins s σ H R I h
 refine Call_ (yV I hg hm boot_range (cq (pL (ha pos pins s σ H _ I h) λus s1 ⟨vs,H1,I1,r1,q1⟩=> ?_) hs rfl))
 obtain⟨j,e,q1,q2,q⟩:=q1
 subst e
 cases r1 with
 |cons r rr=>
  cases rr
  obtain⟨t,rfl⟩:=r
  exact call_range_1 (Lp I1 (by lia) (by lia) q1 q2 (by simpa using q))
theorem Oy{a b:Expr}{ta:TA}{p pos:Pos}(hg:Gl X "range")(hm:X.mg "range"=none)(ha:PA X [a,b] ta)(hs:starEach [a,b] X.env=[(false,eval a X.env),(false,eval b X.env)]:=by rfl)(hs2:starEach [b] X.env=[(false,eval b X.env)]:=by rfl):
  PI X tg (.Call (.Name "range" p) [a,b] [] pos) (Py ta):=by
 intro pins s σ H R I h
 refine Call_ (yV I hg hm boot_range (cq (pL (ha pos pins s σ H _ I h) λus s1 ⟨vs,H1,I1,r1,q1⟩=> ?_) (by rw[hs,hs2]) (by rw[hs2];rfl)))
 obtain⟨i,j,e,⟨q1,q2,q3,q4⟩,q⟩:=q1
 subst e
 cases r1 with
 |cons r rr=>
  cases rr with
  |cons r' rr=>
   cases rr
   obtain⟨t,rfl⟩:=r
   obtain⟨t',rfl⟩:=r'
   exact call_range_2 (Lp I1 q1 q2 q3 q4 q)
noncomputable def UR (wi:TI) (g:TG) (tb:TS):TS:=λD σ H=>wi σ H λJ H1=>∃W:Nat->Nat->St->Hp->Prop,(∃m,W 0 m σ H1)/\∀i m σ H,W i m σ H->
 (J.stop i H/\D.nx σ H)∨(J.go i H/\∃N:St->Hp->Prop,(∀σ' H',N σ' H'->∃m',m'<m/\W (i+1) m' σ' H')/\∀x H',J.S0 i H x H'->g x σ H' λσ2 H2=>tb {D with nx:=N,ct:=N,bk:=D.nx} σ2 H2)
noncomputable def GK (fp:List Addr) (h:Heap):List (Addr×Obj):=fp.filterMap λb=>(h.get? b).map λo=>(b,o)
theorem y2{fp:List Addr}{h:Heap}{b:Addr}{o:Obj}(hb:b∈fp)(e:h.get? b=some o):(b,o)∈GK fp h:=List.mem_filterMap.mpr ⟨b,hb,by rw[e];rfl⟩
theorem Oo{fp:List Addr}{h:Heap}{p:Addr×Obj}(hp:p∈GK fp h):p.1∈fp/\h.get? p.1=some p.2:=by
 obtain⟨b,hb,e⟩:=List.mem_filterMap.mp hp
 cases q:h.get? b with
 |none=>rw[q]at e;cases e
 |some o=>
  rw[q]at e
  have e':(b,o)=p:=bp e
  subst e'
  exact⟨hb,q⟩
theorem Inv.pinned{pins:List (Addr×Obj)}{σ:St}{H:Hp}{s:Shared}{fp:List Addr}(I:Inv X pins σ H s)(hf:∀b∈fp,Cv X pins H b)(ho:∀b∈fp,∃o,s.heap.get? b=some o/\∀v,o.data≠ .cell v):Inv X (pins++GK fp s.heap) σ H s:=
 I.DA λp hp=>(List.mem_append.mp hp).elim (λz=>I.pin p (br _ z)) λz=>by
  obtain⟨hb,e⟩:=Oo z
  obtain⟨f0,f1,f2,_⟩:=hf p.1 hb
  obtain⟨o,e',d⟩:=ho p.1 hb
  rw[e]at e';cases e'
  exact⟨e,f0,f1,f2,d⟩
theorem Inv.Ha{pins pl:List (Addr×Obj)}{σ:St}{H:Hp}{s:Shared}(I:Inv X (pins++pl) σ H s):Inv X pins σ H s:=I.DA λp hp=>I.pin p (br _ (bV _ hp))
theorem UC{iter:Expr}{body:List Stmt}{wi:TI}{g:TG}{tb:TS}{pos:Pos}(hp:PassesOwn (model X.prog X.w) X.A X.env X.xe)(hc:X.calm=true)(hi:PI X tg iter wi)(hg:PG X tg g)(hb:LY X body tb)
  (hs:∀x,foldedSetIterable iter X.env x=pure x:=by intro _;rfl):PS X (.For tg iter body [] pos) (UR wi g tb):=by
 intro pins s σ H D I h
 refine wpAny_For (pL (hi pins s σ H _ I h) λv s1 h1=>pL h1 λitv s2 h2=> ?_) hs
 obtain⟨it,fp,tn,J,H2,e,I2,T,st2,f2,W,⟨m0,w0⟩,turn⟩:=h2
 subst e
 have stat:∀{H':Hp},(∀b∈fp,H' b=none)->∀b∈fp,Cv X pins H' b:=λhn b hb=>⟨hn b hb,(f2 b hb).2⟩
 refine codeAny_forLoop_any (λn s'=>∃i σ' H',Inv X pins σ' H' s'/\tn i s'.heap/\(∀b∈fp,H' b=none)/\W i n σ' H') ?_ m0 ⟨0,σ,H2,I2,st2,λb hb=>(f2 b hb).1,w0⟩
 rintro n s3 ⟨i,σ3,H3,I3,st3,fr3,w3⟩
 rcases turn i n σ3 H3 w3 with ⟨stop,qn⟩|⟨go,N,hN,step⟩
 ·refine wpAny_passesOwn hp (pL (T.done X rfl rfl rfl hc i pins s3 σ3 H3 X.xe I3 (stat fr3) st3 stop) λr s4 ⟨hr,I4⟩=> ?_)
  subst hr
  exact wpAny_execs_nil ⟨σ3,H3,I4,qn⟩
 ·refine wpAny_passesOwn hp (pL (T.item X rfl rfl rfl hc i pins s3 σ3 H3 X.xe I3 (stat fr3) st3 go) λr s4 ⟨u,hr,h4⟩=> ?_)
  subst hr
  refine wpAny_passesOwn hp (pL h4 λ_ s5 ⟨x,H5,I5,r5,y5,st5,fr5⟩=> ?_)
  have I5':=I5.pinned (stat fr5) (T.obj _ _ st5)
  refine wpAny_passesOwn hp (pL (hg _ s5 σ3 H5 x u _ I5' r5 (step x H5 y5)) λ_ s6 ⟨σ6,H6,I6,q6⟩=> ?_)
  refine wpAny_passesOwn hp (pL (hb _ s6 σ6 H6 _ I6 q6) λf s7 q7=> ?_)
  have again:∀{σ7:St} {H7:Hp},Inv X (pins++GK fp s5.heap) σ7 H7 s7->N σ7 H7->∃m,m<n/\∃i σ' H',Inv X pins σ' H' s7/\tn i s7.heap/\(∀b∈fp,H' b=none)/\W i m σ' H':=λ{σ7 H7} I7 n7=>by
   obtain⟨m',hm,w7⟩:=hN σ7 H7 n7
   refine⟨m',hm,i+1,σ7,H7,I7.Ha,T.keep _ _ _ st5 λb hb o e=>(I7.pin (b,o) (br _ (br _ (y2 hb e)))).1,λb hb=> ?_,w7⟩
   obtain⟨o,e,d⟩:=T.obj _ _ st5 b hb
   exact(I7.pin (b,o) (br _ (br _ (y2 hb e)))).2.1
  cases f with
  |next=>obtain⟨σ7,H7,I7,n7⟩:=q7;exact again I7 n7
  |cont=>obtain⟨σ7,H7,I7,n7⟩:=q7;exact again I7 n7
  |brk=>obtain⟨σ7,H7,I7,q7⟩:=q7;exact⟨σ7,H7,I7.Ha,q7⟩
  |ret v=>obtain⟨x7,σ7,H7,I7,r7,q7⟩:=q7;exact⟨x7,σ7,H7,I7.Ha,r7,q7⟩
end
theorem Pq{K:aC}{a:Addr}{xs:List V}{g:TG}{tb:TS}{D:Ends}{σ:St}{H:Hp}(Pv:Nat->St->Hp->Prop)(h0:Pv 0 σ H)(hl:∀i σ H,i<=xs.length->Pv i σ H->lT K H a xs)
  (hs:∀i x σ H,xs[i]? =some x->Pv i σ H->g x σ H λσ2 H2=>tb {D with nx:=Pv (i+1),ct:=Pv (i+1),bk:=D.nx} σ2 H2) (hd:∀σ H,Pv xs.length σ H->D.nx σ H):
  ∃W:Nat->Nat->St->Hp->Prop,(∃m,W 0 m σ H)/\∀i m σ H,W i m σ H->
   ((QN K a).stop i H/\D.nx σ H)∨((QN K a).go i H/\∃N:St->Hp->Prop,(∀σ' H',N σ' H'->∃m',m'<m/\W (i+1) m' σ' H')/\∀x H',(QN K a).S0 i H x H'->g x σ H' λσ2 H2=>tb {D with nx:=N,ct:=N,bk:=D.nx} σ2 H2):=by
 refine⟨λi m σ H=>m=xs.length-i/\i<=xs.length/\Pv i σ H,⟨xs.length,by simp,b7 _,h0⟩,?_⟩
 rintro i m σ H ⟨rfl,hi,p⟩
 have q:=hl i σ H hi p
 by_cases hlt:i<xs.length
 ·refine .inr ⟨⟨xs,xs[i],q,by simp[hlt]⟩,Pv (i+1),λσ' H' p'=>⟨xs.length-(i+1),by omega,rfl,hlt,p'⟩,λx H' y=> ?_⟩
  obtain⟨e,y⟩:=y
  subst e
  exact hs i x σ _ (y xs q) p
 ·have e:i=xs.length:=by lia
  subst e
  exact .inl ⟨⟨xs,q,aN _⟩,hd σ H p⟩
theorem N3{lo:Int}{n:Nat}{g:TG}{tb:TS}{D:Ends}{σ:St}{H:Hp}(Pv:Nat->St->Hp->Prop)(h0:Pv 0 σ H)
  (hs:∀i σ H,i<n->Pv i σ H->g (.int (lo+i)) σ H λσ2 H2=>tb {D with nx:=Pv (i+1),ct:=Pv (i+1),bk:=D.nx} σ2 H2) (hd:∀σ H,Pv n σ H->D.nx σ H):
  ∃W:Nat->Nat->St->Hp->Prop,(∃m,W 0 m σ H)/\∀i m σ H,W i m σ H->
   ((QO lo n).stop i H/\D.nx σ H)∨((QO lo n).go i H/\∃N:St->Hp->Prop,(∀σ' H',N σ' H'->∃m',m'<m/\W (i+1) m' σ' H')/\∀x H',(QO lo n).S0 i H x H'->g x σ H' λσ2 H2=>tb {D with nx:=N,ct:=N,bk:=D.nx} σ2 H2):=by
 refine⟨λi m σ H=>m=n-i/\i<=n/\Pv i σ H,⟨n,by simp,b7 _,h0⟩,?_⟩
 rintro i m σ H ⟨rfl,hi,p⟩
 by_cases hlt:i<n
 ·refine .inr ⟨hlt,Pv (i+1),λσ' H' p'=>⟨n-(i+1),by omega,rfl,hlt,p'⟩,λx H' y=> ?_⟩
  obtain⟨e,y⟩:=y
  subst e y
  exact hs i σ _ hlt p
 ·have e:i=n:=by lia
  subst e
  exact .inl ⟨aN _,hd σ H p⟩
end L2
namespace L2
open PySem PySem.Spec PyProof.Rows
noncomputable abbrev R2:=V->V->Hp->VK->Prop
noncomputable def tW (X:Cx) (f:Value->Value->Sem Value) (r:R2):Prop:=
 ∀(pins:List (Addr×Obj)) (s:Shared) (σ:St) (H:Hp) (x y:V) (v u:Value) (Q:VK),Inv X pins σ H s->RelV x v->RelV y u->r x y H Q->
  wpAny (model X.prog X.w) X.A (f v u) (EP X pins σ Q) X.xe s
noncomputable def Vj (X:Cx) (f:Value->Sem Value) (r:V->Hp->VK->Prop):Prop:=
 ∀(pins:List (Addr×Obj)) (s:Shared) (σ:St) (H:Hp) (x:V) (v:Value) (Q:VK),Inv X pins σ H s->RelV x v->r x H Q->
  wpAny (model X.prog X.w) X.A (f v) (EP X pins σ Q) X.xe s
noncomputable def sT (X:Cx) (f:Value) (r:List V->Hp->VK->Prop):Prop:=
 ∀(pins:List (Addr×Obj)) (s:Shared) (σ:St) (H:Hp) (xs:List V) (us:List Value) (Q:VK),Inv X pins σ H s->Vals xs us->r xs H Q->
  wpAny (model X.prog X.w) X.A (call f us) (EP X pins σ Q) X.xe s
noncomputable def WQ (X:Cx) (r:V->Hp->(Bool->Hp->Prop)->Prop):Prop:=
 ∀(pins:List (Addr×Obj)) (s:Shared) (σ:St) (H:Hp) (x:V) (v:Value) (Q:Bool->Hp->Prop),Inv X pins σ H s->RelV x v->r x H Q->
  wpAny (model X.prog X.w) X.A (truthy v) (TP X pins σ Q) X.xe s
noncomputable def lu (r:R2) (ta tb:TE):TE:=λσ H Q=>ta σ H λx H1=>tb σ H1 λy H2=>r x y H2 Q
noncomputable def WI (r:V->Hp->VK->Prop) (ta:TE):TE:=λσ H Q=>ta σ H λx H1=>r x H1 Q
noncomputable def rI (C:Int->Int->Prop) (g:Int->Int->V):R2:=λx y H Q=>∃i j,x= .int i/\y= .int j/\C i j/\Q (g i j) H
noncomputable def SV (g:Int->Int->V):R2:=λx y H Q=>∃i j,x= .int i/\y= .int j/\Q (g i j) H
noncomputable def rU (g:Int->V):V->Hp->VK->Prop:=λx H Q=>∃i,x= .int i/\Q (g i) H
section
variable{X:Cx}{a b c:Expr}{ta tb tc:TE}{pos:Pos}
theorem Td(ha:PE X a ta)(hb:PE X b tb){pins:List (Addr×Obj)}{s:Shared}{σ:St}{H:Hp}{R:V->V->Hp->Prop}(I:Inv X pins σ H s)
  (h:ta σ H λx H1=>tb σ H1 λy H2=>R x y H2) {Q:Value->Shared->Prop} {f:Value->Value->Sem Value}
  (hf:∀v u s2 x y H2,Inv X pins σ H2 s2->RelV x v->RelV y u->R x y H2->wpAny (model X.prog X.w) X.A (f v u) Q X.xe s2):
  wpAny (model X.prog X.w) X.A (eval a X.env) (λv s₁=>wpAny (model X.prog X.w) X.A (eval b X.env) (λu s₂=>wpAny (model X.prog X.w) X.A (f v u) Q X.xe s₂) X.xe s₁) X.xe s:=by
 refine pL (ha pins s σ H _ I h) λv s1 ⟨x,H1,I1,r1,q1⟩=> ?_
 refine pL (hb pins s1 σ H1 _ I1 q1) λu s2 ⟨y,H2,I2,r2,q2⟩=> ?_
 exact hf v u s2 x y H2 I2 r1 r2 q2
theorem We{op:Operator}{r:R2}(ho:tW X (binaryOp op) r)(ha:PE X a ta)(hb:PE X b tb):PE X (.BinOp a op b pos) (lu r ta tb):=by
 intro pins s σ H Q I h
 exact wpAny_BinOp (Td ha hb I h λv u s2 x y H2 I2 rx ry q=>ho pins s2 σ H2 x y v u Q I2 rx ry q)
theorem Wg{op:UnaryOp}{r:V->Hp->VK->Prop}(ho:Vj X (unaryOp op) r)(ha:PE X a ta):PE X (.UnaryOp op a pos) (WI r ta):=by
 intro pins s σ H Q I h
 exact UnaryOp_ (pL (ha pins s σ H _ I h) λv s1 ⟨x,H1,I1,r1,q1⟩=>ho pins s1 σ H1 x v Q I1 r1 q1)
theorem WG{f:Value->Value->Sem Value}{C:Int->Int->Prop}{g:Int->Int->Int}
  (rule:∀(i j:Int) (t u:Tok) (s:Shared) (Q:Value->Shared->Prop) (E:Value->Shared->Prop),C i j->Q (.int (g i j) s.toks) {s with toks:=s.toks+1}->wpAny (model X.prog X.w) X.A (f (.int i t) (.int j u)) Q E s):
  tW X f (rI C λi j=> .int (g i j)):=by
 intro pins s σ H x y v u Q I rx ry h
 obtain⟨i,j,rfl,rfl,hc,q⟩:=h
 obtain⟨t,rfl⟩:=rx
 obtain⟨t',rfl⟩:=ry
 exact rule i j t t' s _ _ hc ⟨.int (g i j),H,I.tok _,⟨_,rfl⟩,q⟩
theorem V6{f:Value->Value->Sem Value}{g:Int->Int->Int}
  (rule:∀(i j:Int) (t u:Tok) (s:Shared) (Q:Value->Shared->Prop) (E:Value->Shared->Prop),Q (.int (g i j) s.toks) {s with toks:=s.toks+1}->wpAny (model X.prog X.w) X.A (f (.int i t) (.int j u)) Q E s):
  tW X f (SV λi j=> .int (g i j)):=by
 intro pins s σ H x y v u Q I rx ry h
 obtain⟨i,j,rfl,rfl,q⟩:=h
 obtain⟨t,rfl⟩:=rx
 obtain⟨t',rfl⟩:=ry
 exact rule i j t t' s _ _ ⟨.int (g i j),H,I.tok _,⟨_,rfl⟩,q⟩
theorem Uc{f:Value->Value->Sem Value}{g:Int->Int->Bool}
  (rule:∀(i j:Int) (t u:Tok) (s:Shared) (Q:Value->Shared->Prop) (E:Value->Shared->Prop),Q (.bool (g i j)) s->wpAny (model X.prog X.w) X.A (f (.int i t) (.int j u)) Q E s):
  tW X f (SV λi j=> .bl (g i j)):=by
 intro pins s σ H x y v u Q I rx ry h
 obtain⟨i,j,rfl,rfl,q⟩:=h
 obtain⟨t,rfl⟩:=rx
 obtain⟨t',rfl⟩:=ry
 exact rule i j t t' s _ _ ⟨.bl (g i j),H,I,rfl,q⟩
noncomputable def DS (i j:Int):Prop:=0<j/\j<1073741824
noncomputable def S1 (i j:Int):Prop:=0<=j/\j<=1000000/\i.natAbs<2^64
noncomputable def IQ (i j:Int):Prop:=(-(2^64)<i/\i<2^64)∨(-(2^64)<j/\j<2^64)
theorem IQ.ok{i j:Int}(h:IQ i j):IntMulOk i j:=by
 rcases h with ⟨h1,h2⟩|⟨h1,h2⟩
 ·exact .of_left (intBits_le_64 h1 h2)
 ·exact .of_right (intBits_le_64 h1 h2)
theorem Ud:tW X (binaryOp .Add) (SV λi j=> .int (i+j)):=V6 λ_ _ _ _ _ _ _ q=>add_int q
theorem Ul:tW X (binaryOp .Sub) (SV λi j=> .int (i-j)):=V6 λ_ _ _ _ _ _ _ q=>sub_int q
theorem Ui:tW X (binaryOp .Mult) (rI IQ λi j=> .int (i*j)):=WG λ_ _ _ _ _ _ _ hc q=>mul_int q hc.ok
theorem RT:tW X (binaryOp .FloorDiv) (rI DS λi j=> .int (i/j)):=WG λi j _ _ _ _ _ hc q=>by
 have h1:(0:Int)<j:=hc.1
 have h2:j<1073741824:=hc.2
 exact floordiv_int (by lia) (by rw[Int.fdiv_eq_ediv_of_nonneg i (by lia)];exact q) (.inl (PyProof.noPylong_small (by omega)))
theorem Uh:tW X (binaryOp .Mod) (rI (λ_ j=>0<j) λi j=> .int (i%j)):=WG λi j _ _ _ _ _ hc q=>by
 have h1:(0:Int)<j:=hc
 exact mod_int' (by lia) (by rw[Int.fmod_eq_emod_of_nonneg i (by lia)];exact q)
theorem Uj:tW X (binaryOp .Pow) (rI S1 λi j=> .int (i^j.toNat)):=WG λ_ _ _ _ _ _ _ hc q=>pow_int_small hc.1 hc.2.1 hc.2.2 q
theorem X4{f:Value->Sem Value}{g:Int->Int}
  (rule:∀(i:Int) (t:Tok) (s:Shared) (Q:Value->Shared->Prop) (E:Value->Shared->Prop),Q (.int (g i) s.toks) {s with toks:=s.toks+1}->wpAny (model X.prog X.w) X.A (f (.int i t)) Q E s):
  Vj X f (rU λi=> .int (g i)):=by
 intro pins s σ H x v Q I rx h
 obtain⟨i,rfl,q⟩:=h
 obtain⟨t,rfl⟩:=rx
 exact rule i t s _ _ ⟨.int (g i),H,I.tok _,⟨_,rfl⟩,q⟩
theorem UW:Vj X (unaryOp .USub) (rU λi=> .int (-i)):=X4 λ_ _ _ _ _ q=>neg_int q
end
noncomputable def UN:V->V->Bool
 | .kG,.kG=>true| .kG,.int _=>true| .int _,.kG=>true| .kG,.bl _=>true| .bl _,.kG=>true| .kG,.str _=>true| .str _,.kG=>true
 | .int _,.int _=>true| .bl _,.bl _=>true| .str _,.str _=>true| .byt _,.byt _=>true
 | .int _,.str _=>true| .str _,.int _=>true| .bl _,.str _=>true| .str _,.bl _=>true
 |_,_=>false
noncomputable def X2:R2:=λx y H Q=>UN x y=true/\Q (.bl (decide (x=y))) H
noncomputable def X3:R2:=λx y H Q=>UN x y=true/\Q (.bl (!decide (x=y))) H
theorem M4{i j:Int}:decide (V.int i=V.int j)=(i==j):=by
 rw[eY]
 simp
theorem Pg{i j:Bool}:decide (V.bl i=V.bl j)=(i==j):=by
 rw[eY]
 simp
theorem M7{i j:Str}:decide (V.str i=V.str j)=(i==j):=by
 rw[eY]
 simp
theorem M3{i j:Array UInt8}:decide (V.byt i=V.byt j)=(i.toList==j.toList):=by
 rw[eY]
 cases i
 cases j
 simp
section
variable{X:Cx}{a b c:Expr}{ta tb tc:TE}{pos:Pos}
theorem kS{pins:List (Addr×Obj)}{σ:St}{H:Hp}{s:Shared}{Q:VK}{k k':Bool}(I:Inv X pins σ H s)(q:Q (.bl k) H)(e:k=k'):EP X pins σ Q (.bool k') s:=by
 subst e
 exact⟨.bl k,H,I,rfl,q⟩
theorem V7:tW X (compareOp .Eq) X2:=by
 intro pins s σ H x y v u Q I rx ry h
 obtain⟨hs,q⟩:=h
 cases x with
 |kG=>
  cases rx
  cases y with
  |kG=>cases ry;exact PySem.EqNone.eq_none_none (kS I q (by simp))
  |bl j=>cases ry;exact PySem.EqNone.eq_none_bool (kS I q (by simp))
  |int j=>obtain⟨t',rfl⟩:=ry;exact PySem.EqNone.eq_none_int (kS I q (by simp))
  |str j=>obtain⟨t',rfl⟩:=ry;exact PySem.EqNone.eq_none_str (kS I q (by simp))
  |_=>exact absurd (show false=true from hs) aZ
 |bl i=>
  cases rx
  cases y with
  |kG=>cases ry;exact PySem.EqNone.eq_bool_none (kS I q (by simp))
  |bl j=>cases ry;exact eq_bool (kS I q Pg)
  |str j=>obtain⟨t',rfl⟩:=ry;exact PySem.EqMixed.eq_bool_str (kS I q (by simp))
  |_=>exact absurd (show false=true from hs) aZ
 |int i=>
  obtain⟨t,rfl⟩:=rx
  cases y with
  |kG=>cases ry;exact PySem.EqNone.eq_int_none (kS I q (by simp))
  |int j=>obtain⟨t',rfl⟩:=ry;exact eq_int (kS I q M4)
  |str j=>obtain⟨t',rfl⟩:=ry;exact PySem.EqMixed.eq_int_str (kS I q (by simp))
  |_=>exact absurd (show false=true from hs) aZ
 |str i=>
  obtain⟨t,rfl⟩:=rx
  cases y with
  |kG=>cases ry;exact PySem.EqNone.eq_str_none (kS I q (by simp))
  |bl j=>cases ry;exact PySem.EqMixed.eq_str_bool (kS I q (by simp))
  |int j=>obtain⟨t',rfl⟩:=ry;exact PySem.EqMixed.eq_str_int (kS I q (by simp))
  |str j=>obtain⟨t',rfl⟩:=ry;exact eq_str (kS I q M7)
  |_=>exact absurd (show false=true from hs) aZ
 |byt i=>
  obtain⟨t,rfl⟩:=rx
  cases y with
  |byt j=>obtain⟨t',rfl⟩:=ry;exact PySem.W.eq_bytes (kS I q M3)
  |_=>exact absurd (show false=true from hs) aZ
 |_=>cases y<;>exact absurd (show false=true from hs) aZ
theorem Wa:tW X (compareOp .NotEq) X3:=by
 intro pins s σ H x y v u Q I rx ry h
 obtain⟨hs,q⟩:=h
 cases x with
 |kG=>
  cases rx
  cases y with
  |kG=>cases ry;exact PySem.EqNone.ne_none_none (kS I q (by simp))
  |bl j=>cases ry;exact PySem.EqNone.ne_none_bool (kS I q (by simp))
  |int j=>obtain⟨t',rfl⟩:=ry;exact PySem.EqNone.ne_none_int (kS I q (by simp))
  |str j=>obtain⟨t',rfl⟩:=ry;exact PySem.EqNone.ne_none_str (kS I q (by simp))
  |_=>exact absurd (show false=true from hs) aZ
 |bl i=>
  cases rx
  cases y with
  |kG=>cases ry;exact PySem.EqNone.ne_bool_none (kS I q (by simp))
  |bl j=>cases ry;exact ne_bool (kS I q (congrArg not Pg))
  |str j=>obtain⟨t',rfl⟩:=ry;exact PySem.EqMixed.ne_bool_str (kS I q (by simp))
  |_=>exact absurd (show false=true from hs) aZ
 |int i=>
  obtain⟨t,rfl⟩:=rx
  cases y with
  |kG=>cases ry;exact PySem.EqNone.ne_int_none (kS I q (by simp))
  |int j=>obtain⟨t',rfl⟩:=ry;exact ne_int (kS I q (congrArg not M4))
  |str j=>obtain⟨t',rfl⟩:=ry;exact PySem.EqMixed.ne_int_str (kS I q (by simp))
  |_=>exact absurd (show false=true from hs) aZ
 |str i=>
  obtain⟨t,rfl⟩:=rx
  cases y with
  |kG=>cases ry;exact PySem.EqNone.ne_str_none (kS I q (by simp))
  |bl j=>cases ry;exact PySem.EqMixed.ne_str_bool (kS I q (by simp))
  |int j=>obtain⟨t',rfl⟩:=ry;exact PySem.EqMixed.ne_str_int (kS I q (by simp))
  |str j=>obtain⟨t',rfl⟩:=ry;exact ne_str (kS I q (congrArg not M7))
  |_=>exact absurd (show false=true from hs) aZ
 |byt i=>
  obtain⟨t,rfl⟩:=rx
  cases y with
  |byt j=>obtain⟨t',rfl⟩:=ry;exact PySem.W.ne_bytes (kS I q (congrArg not M3))
  |_=>exact absurd (show false=true from hs) aZ
 |_=>cases y<;>exact absurd (show false=true from hs) aZ
theorem V_:tW X (compareOp .Lt) (SV λi j=> .bl (decide (i<j))):=Uc λ_ _ _ _ _ _ _ q=>lt_int q
theorem V9:tW X (compareOp .LtE) (SV λi j=> .bl (decide (i<=j))):=Uc λ_ _ _ _ _ _ _ q=>le_int q
theorem V8:tW X (compareOp .Gt) (SV λi j=> .bl (decide (j<i))):=Uc λ_ _ _ _ _ _ _ q=>gt_int q
theorem Ug:tW X (compareOp .Is) (λx y H Q=>y= .kG/\Q (.bl (decide (x= .kG))) H):=by
 intro pins s σ H x y v u Q I rx ry h
 obtain⟨rfl,q⟩:=h
 cases ry
 refine is_none_gen (kS I q ?_)
 cases x<;>first
  |(cases rx;rfl)
  |(obtain⟨t,rfl⟩:=rx;rfl)
theorem RU:tW X (compareOp .IsNot) (λx y H Q=>y= .kG/\Q (.bl (!decide (x= .kG))) H):=by
 intro pins s σ H x y v u Q I rx ry h
 obtain⟨rfl,q⟩:=h
 cases ry
 refine isnot_none_gen (kS I q ?_)
 cases x<;>first
  |(cases rx;rfl)
  |(obtain⟨t,rfl⟩:=rx;rfl)
theorem jK(b:Expr){op:CmpOp}(h:op≠ .In:=by decide)(h2:op≠ .NotIn:=by decide):behindInMarks op b=false:=by
 have e1:(op==CmpOp.In)=false:=by cases op<;>first|rfl|exact absurd rfl h
 have e2:(op==CmpOp.NotIn)=false:=by cases op<;>first|rfl|exact absurd rfl h2
 cases b<;>simp[behindInMarks,e1,e2]
theorem RX{op:CmpOp}{r:R2}(ho:tW X (compareOp op) r)(ha:PE X a ta)(hb:PE X b tb)(hm:behindInMarks op b=false):PE X (.Compare a [op] [b] pos) (lu r ta tb):=by
 intro pins s σ H Q I h
 exact wpAny_Compare1 (Td ha hb I h λv u s2 x y H2 I2 rx ry q=>ho pins s2 σ H2 x y v u Q I2 rx ry q) hm
noncomputable def jY (t:TE):TT:=λσ H Q=>t σ H λx H'=>∃k,x= .bl k/\Q k H'
theorem Sg{op:CmpOp}{r:R2}(ho:tW X (compareOp op) r)(ha:PE X a ta)(hb:PE X b tb)(hm:behindInMarks op b=false):PT X (.Compare a [op] [b] pos) (jY (lu r ta tb)):=by
 intro pins s σ H Q I h
 refine wpAny_isTrue_Compare1 (pL (ha pins s σ H _ I h) λv s1 ⟨x,H1,I1,r1,q1⟩=>pL (hb pins s1 σ H1 _ I1 q1) λu s2 ⟨y,H2,I2,r2,q2⟩=>
  pL (ho pins s2 σ H2 x y v u _ I2 r1 r2 q2) λc s3 ⟨z,H3,I3,r3,k,e,q3⟩=> ?_) hm
 subst e
 cases r3
 exact wpAny_truthy_bool ⟨H3,I3,q3⟩
noncomputable def MJ (r r':R2) (ta tb tc:TE):TE:=λσ H Q=>ta σ H λx H1=>tb σ H1 λy H2=>r x y H2 λz H3=>∃k,z= .bl k/\
 (if k=true then tc σ H3 λw' H4=>r' y w' H4 Q else Q (.bl false) H3)
theorem Qb{op op':CmpOp}{r r':R2}(ho:tW X (compareOp op) r)(ho':tW X (compareOp op') r')(ha:PE X a ta)(hb:PE X b tb)(hc:PE X c tc)
  (hm:lastMarks [op,op'] [b,c]=false:=by with_unfolding_all rfl):PE X (.Compare a [op,op'] [b,c] pos) (MJ r r' ta tb tc):=by
 intro pins s σ H Q I h
 refine Compare_chain (pL (ha pins s σ H _ I h) λv s1 ⟨x,H1,I1,r1,q1⟩=>chain_link (pL (hb pins s1 σ H1 _ I1 q1) λu s2 ⟨y,H2,I2,r2,q2⟩=>
  pL (ho pins s2 σ H2 x y v u _ I2 r1 r2 q2) λd s3 ⟨z,H3,I3,r3,k,e,q3⟩=> ?_)) hm
 subst e
 cases r3
 refine wpAny_truthy_bool ?_
 cases k with
 |false=>exact ite_ff ⟨.bl false,H3,I3,rfl,q3⟩
 |true=>exact ite_tt (chain_last (pL (hc pins s3 σ H3 _ I3 q3) λw' s4 ⟨z',H4,I4,r4,q4⟩=>ho' pins s4 σ H4 y z' u w' Q I4 r2 r4 q4))
noncomputable def pT (K:aC) (x:V) (H:Hp) (k:Bool):Prop:=
 match x with
 | .kG=>k=false
 | .bl b=>k=b
 | .int i=>k=(i !=0)
 | .str y=>y.length<=sizeLine/\k=((y.length:Int) !=0)
 | .byt y=>y.size<=sizeLine/\k=((y.size:Int) !=0)
 | .ref p=>(∃xs,lT K H p xs/\k= !xs.isEmpty)∨(∃xs,LR K H p xs/\k= !xs.isEmpty)∨∃kvs,H p=some (.dK kvs)/\k= !kvs.isEmpty
 |_=>False
theorem Mg{κ:Type}{kvs:List (κ×V)}{vs:List (κ×Value)}(r:KV kvs vs):(!vs.isEmpty)= !kvs.isEmpty:=by
 cases r<;>rfl
theorem Ge{xs:List V}{its:List Value}(r:Vals xs its):(!its.toArray.isEmpty)= !xs.isEmpty:=by
 cases r<;>simp
theorem Gm:(sizeLine:Nat)<2^63:=by rw[sizeLine_eq];decide
theorem UT:WQ X (λx H Q=>∃k,pT X.K x H k/\Q k H):=by
 intro pins s σ H x v Q I rx h
 obtain⟨k,e,q⟩:=h
 have hl:=Gm
 have hs:sizeLine=16777216:=sizeLine_eq
 cases x with
 |kG=>
  cases rx
  have e':k=false:=e
  subst e'
  exact truthy_none ⟨H,I,q⟩
 |bl b=>
  cases rx
  have e':k=b:=e
  subst e'
  exact wpAny_truthy_bool ⟨H,I,q⟩
 |int i=>
  obtain⟨t,rfl⟩:=rx
  have e':k=(i !=0):=e
  subst e'
  exact PySem.P.truthy_int ⟨H,I,q⟩
 |str y=>
  obtain⟨t,rfl⟩:=rx
  obtain⟨hy,e'⟩:y.length<=sizeLine/\k=((y.length:Int) !=0):=e
  subst e'
  exact PySem.P.truthy_str (by lia) ⟨H,I.tok _,q⟩
 |byt y=>
  obtain⟨t,rfl⟩:=rx
  obtain⟨hy,e'⟩:y.size<=sizeLine/\k=((y.size:Int) !=0):=e
  subst e'
  exact PySem.W.truthy_bytes (by lia) ⟨H,I.tok _,q⟩
 |ref p=>
  cases rx
  have e':(∃xs,lT X.K H p xs/\k= !xs.isEmpty)∨(∃xs,LR X.K H p xs/\k= !xs.isEmpty)∨∃kvs,H p=some (.dK kvs)/\k= !kvs.isEmpty:=e
  rcases e' with ⟨xs,hx,e'⟩|⟨xs,hx,e'⟩|⟨kvs,hx,e'⟩
  ·subst e'
   obtain⟨its,r,pl,hz⟩:=I.list hx
   have hlen:=r.length
   exact wpAny_truthy_list pl.isList (by simp only[aX];lia) ⟨H,I.tok _,by rw[Ge r];exact q⟩
  ·subst e'
   obtain⟨its,r,pl,hz⟩:=I.tuple hx
   have hlen:=r.length
   exact truthy_tuple pl (by simp only[aX];lia) ⟨H,I.tok _,by rw[Ge r];exact q⟩
  ·subst e'
   obtain⟨hz,hS,vs,r,m⟩:kvs.length<=sizeLine/\(p==sysModules)=false/\∃vs,KV kvs vs/\s.heap.DictOf (mX X.prog X.w) p vs:=I.lB p _ hx
   have hlen:kvs.length=vs.length:=fN r
   exact wpAny_truthy_dict hS m (by lia) ⟨H,I.tok _,by rw[Mg r];exact q⟩
 |_=>exact(show False from e).elim
theorem Qs(ha:PE X a ta)(he:∀whole,isTrue a X.env whole=(do let v←whole;standAt a.pos;holding [v] (truthy v))):
  PT X a (λσ H Q=>ta σ H λx H'=>∃k,pT X.K x H' k/\Q k H'):=by
 intro pins s σ H Q I h
 exact isTrue_plain (pL (ha pins s σ H _ I h) λv s1 ⟨x,H1,I1,r1,q1⟩=>UT pins s1 σ H1 x v Q I1 r1 q1) (he _)
theorem Mt:tW X (binaryOp .Add) (λx y H Q=>∃i j,x= .str i/\y= .str j/\i.length+j.length<=sizeLine/\Q (.str (i++j)) H):=by
 intro pins s σ H x y v u Q I rx ry h
 obtain⟨i,j,rfl,rfl,hz,q⟩:=h
 obtain⟨t,rfl⟩:=rx
 obtain⟨t',rfl⟩:=ry
 exact add_str (λt' tk=>⟨.str (i++j),H,I.tok _,⟨_,rfl⟩,q⟩) hz
theorem vals1{x:V}{us:List Value}(r:Vals [x] us):∃u,us=[u]/\RelV x u:=by
 cases r with
 |cons r1 r2=>cases r2;exact⟨_,rfl,r1⟩
theorem vals2{x y:V}{us:List Value}(r:Vals [x,y] us):∃u w',us=[u,w']/\RelV x u/\RelV y w':=by
 cases r with
 |cons r1 r2=>
  cases r2 with
  |cons r3 r4=>cases r4;exact⟨_,_,rfl,r1,r3⟩
theorem NX:sT X (.type "int") (λxs H Q=>(∃i,xs=[.int i]/\Q (.int i) H)∨∃k,xs=[.bl k]/\Q (.int (if k then 1 else 0)) H):=by
 intro pins s σ H xs us Q I r h
 rcases h with ⟨i,rfl,q⟩|⟨k,rfl,q⟩
 ·obtain⟨u,rfl,t,rfl⟩:=vals1 r
  exact call_int_int ⟨.int i,H,I,⟨_,rfl⟩,q⟩
 ·obtain⟨u,rfl,r1⟩:=vals1 r
  cases r1
  exact call_int_bool ⟨.int (if k then 1 else 0),H,I.tok _,⟨_,rfl⟩,q⟩
end
end L2
namespace L2
open PySem PySem.Spec PyProof.Rows
structure LX(h:Heap)(x dx C:Addr)(mA:Str->Option Value):Prop where
 obj:h.get? x=some (cX C dx)
 ns:h.Ns1 dx mA
 ne:dx≠x
theorem Oi{h:Heap}{dx:Addr}{mA:Str->Option Value}(n:h.Ns1 dx mA):∃od,h.get? dx=some od/\∀name,fF name od=some (mA name):=by
 obtain⟨o,es,ep,ho,hd,hk,_,hm⟩:=n
 refine⟨o,ho,λname=> ?_⟩
 have e:=hm name
 unfold nsFind findBy at e
 rw[←Array.find?_toList]at e
 unfold fF
 rw[hd]
 dsimp only
 split
 ·rename_i y q
  rw[q]at e
  exact congrArg some e
 ·rename_i q
  rw[q]at e
  have a:es.toList.any (·.refKey)=false:=by
   rw[List.any_eq_false]
   intro y hy
   obtain⟨z,t,hkey⟩:=hk y (Array.mem_toList_iff.mp hy)
   simp[DictEntry.refKey,hkey]
  have a':¬es.toList.any (·.refKey)=true:=by rw[a];exact aZ
  rw[if_neg a']
  exact congrArg some e
theorem LX.look{h:Heap}{x dx C:Addr}{mA:Str->Option Value}(I:LX h x dx C mA):∃od,PySem.W.InstAt h x (cX C dx) C (some od)/\∀name,fF name od=some (mA name):=
 let ⟨od,ho,hl⟩:=Oi I.ns
 ⟨od,⟨I.obj,rfl,rfl,ho⟩,hl⟩
section
variable{prog:Program}{w:World}{A:Around}{E:Value->Shared->Prop}{s:Shared}{K:aC}{x dx C f:Addr}{mA:Str->Option Value}{name:Str}{v:Value}
theorem get_map{expr:Bool}{Q:Value->Shared->Prop}(X:K.In s.heap)(I:LX s.heap x dx C mA)(hg:cm K C name=true)(hh:cy K C=true)
  (ha:aG K (.ref C) name=some none) (hv:mA name=some v) (hv':iJ v=true) (h:Q v {s with toks:=s.toks+1}):
  wpAny (model prog w) A (getAttr (.ref x) name expr) Q E s:=by
 obtain⟨od,J,hl⟩:=I.look
 exact PySem.W.get_value X J (fB hg).1 (PySem.W.findObj_own hh ha rfl (by rw[hl,hv])) hv' h
theorem Pt{pl:Sem Bool}{Q:Value×List Value->Shared->Prop}(X:K.In s.heap)(I:LX s.heap x dx C mA)(hg:cm K C name=true)
  (hf:aG K (.ref C) name=some (some (.ref f))) (ht:ba K (.ref f)=true) (hv:mA name=none) (h:Q (.ref f,[.ref x]) s):
  wpAny (model prog w) A (getMethod (.ref x) name pl) Q E s:=by
 obtain⟨od,J,hl⟩:=I.look
 exact PySem.W.method_fn X J (fB hg).1 (fB hg).2 hf (beq_iff_eq.mp ht) (by show(fF name od).map (·.isSome)=some false;rw[hl,hv];rfl) h
theorem Ss{ns:List Str}{Q:Unit->Shared->Prop}(X:K.In s.heap)(I:LX s.heap x dx C mA)
  (hs:aG K (.ref C) "__setattr__"=some (some (.builtin "object.__setattr__"))) (hp:cJ K C=true) (ht:gc K C name=some none) (hh:cy K C=true)
  (hw:ib mA ns) (hsz:ns.length<=sizeLine)
  (h:∀h',LX h' x dx C (λy=>if y=name then some v else mA y)->eJ dx s.heap h'->Q () {s with heap:=h',toks:=s.toks+2}):
  wpAny (model prog w) A (setAttr (.ref x) name v) Q E s:=by
 obtain⟨od,J,hl⟩:=I.look
 refine PySem.W.set_plain X J hs (PySem.W.osa_open (s:={s with toks:=s.toks+1}) (r:=none) X J hp ht λb=> ?_)
 obtain⟨cd,hc,hd'⟩:=PySem.W.any_some hh
 have hx:s.heap.get? x=some ⟨.ref C,some dx,.plain,#[]⟩:=I.obj
 refine wpAny_bind (wpAny_pure (wpAny_bind (wpAny_bind (wpAny_loadPart hx (wpAny_bind (PySem.W.Looks.here (s:={s with toks:=s.toks+1}) (PySem.W.looks_clsIn X hc) ?_))))))
 rw[hd']
 refine wpAny_pure (a:=some dx) (wpAny_bind (wpAny_pure (wpAny_bind ?_)))
 refine wpAny_nsSet1 (s:={s with toks:=s.toks+1}) I.ns λh' hn2 hs2=> ?_
 obtain⟨oD,esD,epD,hoD,hdD,hcD⟩:=hn2.count (PySem.Within.cons name v hw)
 refine wpAny_bind (wpAny_lookBehind hoD (by rw[hdD];exact pastItsLine_dict (aW hcD (by rw[ai];lia))) ?_)
 exact wpAny_pure (h _ ⟨(hs2.2 _ (aE I.ne)).trans I.obj,hn2,I.ne⟩ hs2)
theorem PX{R:Result->Shared->Prop}{vs:List Value}{kw:List (Str×Value)}(X:K.In s.heap)(hm:cQ K C=true)
  (hi:aG K (.ref C) "__init__"=some (some (.ref f))) (hf:PySem.W.typeIn K (.ref f)=some (.type "function"))
  (h:codeAny (model prog w) (A.under (.builtin "type.__call__" ⟨.ref C::vs,kw⟩)) (.call (.ref f) ⟨.ref (s.heap.objs.size+1)::vs,kw⟩) (PySem.W.InitBack (s.heap.objs.size+1) R)
   {s with heap:=(s.heap.push cI).push (cX C s.heap.objs.size)}):
  codeAny (model prog w) A (.call (.ref C) ⟨vs,kw⟩) R s:=by
 obtain⟨hh,g,d,t,os⟩:=s
 exact PySem.W.make_core (PySem.W.makes_of X hm) (dZ X hi) (λself=>PySem.W.bind_fn X self hf) (.inl rfl) h
end
noncomputable def lq (f:Str) (v:V):List (Str×V)->List (Str×V)
 | []=>[(f,v)]
 |(g,x)::r=>if g=f then(g,v)::r else(g,x)::lq f v r
theorem EO(f g:Str)(v:V):∀fs:List (Str×V),(lq f v fs).lookup g=if g=f then some v else fs.lookup g
 | []=>by
  show bx g [(f,v)]=_
  by_cases h:g=f
  ·have hb:(g==f)=true:=beq_iff_eq.mpr h
   simp only[bx,hb,if_pos h]
  ·have hb:(g==f)=false:=beq_eq_false_iff_ne.mpr h
   simp only[bx,hb,if_neg h]
 |(k,x)::r=>by
  have ih:=EO f g v r
  rw[show lq f v ((k,x)::r)=(if k=f then(k,v)::r else(k,x)::lq f v r) from rfl]
  by_cases hk:k=f
  ·rw[if_pos hk]
   by_cases h:g=k
   ·have hb:(g==k)=true:=beq_iff_eq.mpr h
    simp only[bx,hb,if_pos (h.trans hk)]
   ·have hb:(g==k)=false:=beq_eq_false_iff_ne.mpr h
    simp only[bx,hb,if_neg (λe:g=f=>h (e.trans hk.symm))]
  ·rw[if_neg hk]
   by_cases h:g=k
   ·have hb:(g==k)=true:=beq_iff_eq.mpr h
    simp only[bx,hb,if_neg (λe:g=f=>hk (h.symm.trans e))]
   ·have hb:(g==k)=false:=beq_eq_false_iff_ne.mpr h
    simp only[bx,hb]
    exact ih
theorem D9(f:Str)(v:V):∀fs:List (Str×V),f∈(lq f v fs).map (·.1)/\∀g,g∈fs.map (·.1)->g∈(lq f v fs).map (·.1)
 | []=>⟨by simp[lq],λg h=>by simp at h⟩
 |(k,x)::r=>by
  obtain⟨i1,i2⟩:=D9 f v r
  rw[show lq f v ((k,x)::r)=(if k=f then(k,v)::r else(k,x)::lq f v r) from rfl]
  by_cases hk:k=f
  ·rw[if_pos hk]
   subst hk
   exact⟨by simp,λg h=>by simpa using h⟩
  ·rw[if_neg hk]
   refine⟨?_,λg h=> ?_⟩
   ·rw[ao]
    exact aP _ i1
   ·rw[ao]at h⊢
    rcases List.mem_cons.mp h with e|e
    ·exact List.mem_cons.mpr (.inl e)
    ·exact aP _ (i2 g e)
theorem EN(f:Str)(v:V):∀fs:List (Str×V),(lq f v fs).length<=fs.length+1
 | []=>by simp[lq]
 |(k,x)::r=>by
  have ih:=EN f v r
  rw[show lq f v ((k,x)::r)=(if k=f then(k,v)::r else(k,x)::lq f v r) from rfl]
  by_cases hk:k=f
  ·rw[if_pos hk,ai,ai];lia
  ·rw[if_neg hk,ai,ai];lia
theorem zT.some_of{v:V}{o:Option Value}(r:zT (some v) o):∃u,o=some u/\RelV v u:=by
 cases o with
 |none=>exact(show False from r).elim
 |some u=>exact⟨u,rfl,r⟩
theorem zT.none_of{o:Option Value}(r:zT none o):o=none:=by
 cases o with
 |none=>rfl
 |some u=>exact(show False from r).elim
theorem N5{v:V}{u:Value}(r:RelV v u):iJ u=true:=by
 cases v with
 |kG=>cases (show u=fv from r);rfl
 |bl b=>cases (show u=gP b from r);rfl
 |int i=>obtain⟨t,e⟩:=(show∃t,u=dA i t from r);cases e;rfl
 |str x=>obtain⟨t,e⟩:=(show∃t,u=eX x t from r);cases e;rfl
 |byt b=>obtain⟨t,e⟩:=(show∃t,u=Value.bytes b t from r);cases e;rfl
 |Po b=>obtain⟨t,e⟩:=(show∃t,u=iA b t from r);cases e;rfl
 |ref a=>cases (show u=bj a from r);rfl
 |ty n=>cases (show u=dC n from r);rfl
section
variable{P:Program}{w:World}{H H':Hp}{h h':Heap}{a C dx:Addr}{fs fs':List (Str×V)}
theorem Fs(lB:zQ P w H h)(e:H a=some (.ins C dx fs)):∃mA,LX h a dx C mA/\(∀f,zT (fs.lookup f) (mA f))/\ib mA (fs.map (·.1))/\fs.length<=1000/\H dx=some (.own a):=by
 obtain⟨d,z,ne,ob,mA,n,r,q⟩:=(show mQ P w H h a (.ins C dx fs) from lB a _ e)
 exact⟨mA,⟨ob,n,ne⟩,r,q,z,d⟩
end
structure Hc(K:aC)(C:Addr):Prop where
 pg:cm K C dF=true
 hd:cy K C=true
 po:cJ K C=true
 sa:aG K (.ref C) "__setattr__"=some (some (.builtin "object.__setattr__"))
theorem Hc.get{K:aC}{C:Addr}(c:Hc K C)(f:Str):cm K C f=true:=c.pg
noncomputable def mj (K:aC) (C:Addr) (f:Str):Prop:=aG K (.ref C) f=some none
theorem mj.Wr{K:aC}{C:Addr}{f:Str}(n:mj K C f):gc K C f=some none:=by
 unfold gc
 rw[show aG K (.ref C) f=some none from n]
 rfl
structure Meth(K:aC)(C:Addr)(m:Str)(f:Addr):Prop where
 at_:aG K (.ref C) m=some (some (.ref f))
 fn:ba K (.ref f)=true
 kp:bO K (.ref f)=true
section
variable{X:Cx}{pins:List (Addr×Obj)}{σ:St}{H:Hp}{s:Shared}{a C dx:Addr}{fs:List (Str×V)}{f:Str}{v:V}{A:Around}{E:Value->Shared->Prop}
theorem Me{b:Bool}{Q:Value->Shared->Prop}(I:Inv X pins σ H s)(e:H a=some (.ins C dx fs))(c:Hc X.K C)(n:mj X.K C f)(l:fs.lookup f=some v)
  (h:∀u s',Inv X pins σ H s'->RelV v u->Q u s'):wpAny (model X.prog X.w) A (getAttr (.ref a) f b) Q E s:=by
 obtain⟨mA,O,r,_,_,_⟩:=Fs I.lB e
 obtain⟨u,hu,ru⟩:=zT.some_of (v:=v) (o:=mA f) (by rw[←l];exact r f)
 exact get_map I.DR O (c.get f) c.hd n hu (N5 ru) (h u _ (I.tok _) ru)
theorem Ga{m:Str}{g:Addr}{pl:Sem Bool}{Q:Value×List Value->Shared->Prop}(I:Inv X pins σ H s)(e:H a=some (.ins C dx fs))(c:Hc X.K C)(k:Meth X.K C m g)(l:fs.lookup m=none)
  (h:Q (.ref g,[.ref a]) s):wpAny (model X.prog X.w) A (getMethod (.ref a) m pl) Q E s:=by
 obtain⟨mA,O,r,_,_,_⟩:=Fs I.lB e
 have hn:mA m=none:=zT.none_of (by rw[←l];exact r m)
 exact Pt I.DR O (c.get m) k.at_ k.fn hn h
theorem ME{y:V}{u:Value}{Q:Unit->Shared->Prop}(I:Inv X pins σ H s)(e:H a=some (.ins C dx fs))(c:Hc X.K C)(n:mj X.K C f)(hl:fs.length<1000)(ry:RelV y u)
  (h:∀s',Inv X pins σ (upd H a (.ins C dx (lq f y fs))) s'->Q () s'):wpAny (model X.prog X.w) A (setAttr (.ref a) f u) Q E s:=by
 obtain⟨mA,O,r,wi,_,ho⟩:=Fs I.lB e
 have hz:(fs.map (·.1)).length<=sizeLine:=by rw[aj,sizeLine_eq];lia
 refine Ss I.DR O c.sa c.po n.Wr c.hd wi hz λh' O' sb=>h _ ?_
 have hd:∃o,h'.get? dx=some o:=let ⟨o,_,_,e',_⟩:=O'.ns;⟨o,e'⟩
 refine I.write (x:=a) (e:=dx) (by rw[e];exact aF) (.inr ho) (λb q hb z=>(sb.2 b hb).trans z) hd ?_
 refine⟨by rw[i_ O.ne];exact ho,?_,O.ne,O'.obj,_,O'.ns,λg=> ?_,λg hg=> ?_⟩
 ·have:=EN f y fs;lia
 ·show zT ((lq f y fs).lookup g) (if g=f then some u else mA g)
  rw[EO]
  by_cases q:g=f
  ·rw[if_pos q,if_pos q];exact ry
  ·rw[if_neg q,if_neg q];exact r g
 ·by_cases q:g=f
  ·rw[q];exact(D9 f y fs).1
  ·refine(D9 f y fs).2 g (wi g λz=>hg ?_)
   show(if g=f then some u else mA g)=none
   rw[if_neg q];exact z
theorem Inv.made(I:Inv X pins σ H s):Inv X pins σ (upd (upd H s.heap.objs.size (.own (s.heap.objs.size+1))) (s.heap.objs.size+1) (.ins C s.heap.objs.size []))
  {s with heap:=(s.heap.push cI).push (cX C s.heap.objs.size)}:=by
 have e1:(s.heap.push cI).get? s.heap.objs.size=some cI:=bT s.heap rfl
 have e2:((s.heap.push cI).push (cX C s.heap.objs.size)).get? (s.heap.objs.size+1)=some (cX C s.heap.objs.size):=by
  have:=bT (s.heap.push cI) (o:=cX C s.heap.objs.size) rfl
  rwa[fD]at this
 have e3:(s.heap.push cI).Ns s.heap.objs.size (λ_=>none):=⟨cI,#[],_,e1,rfl,(λe he=>absurd he (by simp)),λ_=>rfl⟩
 have I1:=I.laid (a:=s.heap.objs.size) (o:= .own (s.heap.objs.size+1)) (h':=s.heap.push cI) (t':=s.toks) (λb u q=>aO _ q) (aN _) ⟨_,e1⟩
 refine I1.laid (a:=s.heap.objs.size+1) (o:= .ins C s.heap.objs.size []) (t':=s.toks) (λb u q=>aO _ q) (hX (fD _ _)) ?_
 have ne:s.heap.objs.size≠s.heap.objs.size+1:=bh (eW _)
 refine⟨by rw[i_ ne,i8],b7 _,ne,e2,λ_=>none,(Heap.Ns1.of_empty e3).at λo q=>aO _ q,λ_=>aF,λy hy=>absurd rfl hy⟩
theorem Q3{prog:Program}{w:World}{env:Env}{e:Expr}{f:Str}{pos:Pos}{s:Shared}{Q:Value->Shared->Prop}(hb:attributeBase e f env (eval e env)=eval e env)
  (h:wpAny (model prog w) A (eval e env) (λo s₁=>wpAny (model prog w) A (getAttr o f true) Q E s₁) E s):wpAny (model prog w) A (eval (.Attribute e f pos) env) Q E s:=
 Attribute_any_ h (by rw[arm_eval_Attribute,hb])
end
section
variable{X:Cx}{o e value:Expr}{f:Str}{pos pos' tpos:Pos}{ta tv:TE}
end
section
variable{X:Cx}{pins:List (Addr×Obj)}{σ:St}{H:Hp}{s:Shared}{A:Around}{E:Value->Shared->Prop}{Q:Value->Shared->Prop}{c:Value}{b:Bool}
inductive E5 (K:aC) (H:Hp):V->Value->Prop where
 |kG:E5 K H .kG (.type "NoneType")
 |bl (x:Bool):E5 K H (.bl x) (.type "bool")
 |int (i:Int):E5 K H (.int i) (.type "int")
 |str (x:Str):E5 K H (.str x) (.type "str")
 |Po (x:UInt64):E5 K H (.Po x) (.type "float")
 |lst {a:Addr} {xs:List V} (e:H a=some (.lst xs)):E5 K H (.ref a) (.type "list")
 |F8 {a:Addr} {o:Obj} {xs:List V} (e:H a=some (.F8 o (.lst xs))):E5 K H (.ref a) (.type "list")
 |tup {a:Addr} {xs:List V} (e:H a=some (.tup xs)):E5 K H (.ref a) (.type "tuple")
 |dK {a:Addr} {kvs:List (Key×V)} (e:H a=some (.dK kvs)):E5 K H (.ref a) (.type "dict")
 |dT {a:Addr} {kvs:List (List Key×V)} (e:H a=some (.dT kvs)):E5 K H (.ref a) (.type "dict")
 |ins {a C dx:Addr} {fs:List (Str×V)} (e:H a=some (.ins C dx fs)) (cl:Hc K C) (ha:aG K (.ref C) "__class__"=some (some (.builtin "object.__class__")))
   (hn:fR K (.builtin "object.__class__") "__get__"=some (some (.builtin "getset_descriptor.__get__"))) (htk:gh K (.builtin "object.__class__")=some true)
   (hm:eT K C (.type "object")=some true):E5 K H (.ref a) (.ref C)
theorem q8{x:V}{u t:Value}(I:Inv X pins σ H s)(rx:RelV x u)(ty:E5 X.K H x t)(e:a_ X.K t c=some b)(h:∀tk,Q (.bool b) {s with toks:=tk}):
  wpAny (model X.prog X.w) A (call (.builtin "isinstance") [u,c]) Q E s:=by
 cases ty with
 |kG=>cases (show u=fv from rx);exact cE PySem.W.kitx_none I.DR aF e (λz=>nomatch z) h
 |bl y=>cases (show u=gP y from rx);exact cE PySem.W.kitx_bool I.DR aF e (λz=>nomatch z) h
 |int i=>obtain⟨t,q⟩:=(show∃t,u=dA i t from rx);cases q;exact cE PySem.W.kitx_int I.DR aF e (λz=>nomatch z) h
 |str y=>obtain⟨t,q⟩:=(show∃t,u=eX y t from rx);cases q;exact cE PySem.W.kitx_str I.DR aF e (λz=>nomatch z) h
 |Po y=>obtain⟨t,q⟩:=(show∃t,u=iA y t from rx);cases q;exact cE PySem.W.kitx_float I.DR aF e (λz=>nomatch z) h
 | @lst a xs ea=>
  cases (show u=bj a from rx)
  obtain⟨_,_,n,_,h1⟩:=(show mQ X.prog X.w H s.heap a (.lst xs) from I.lB a _ ea)
  exact cE iy I.DR ⟨_,h1,rfl⟩ e (λz=>nomatch z) h
 | @F8 a ob xs ea=>
  cases (show u=bj a from rx)
  obtain⟨_,_,_,n,_,h1⟩:=(show mQ X.prog X.w H s.heap a (.F8 ob (.lst xs)) from I.lB a _ ea)
  exact cE iy I.DR ⟨_,h1,rfl⟩ e (λz=>nomatch z) h
 | @tup a xs ea=>
  cases (show u=bj a from rx)
  obtain⟨_,_,_,p⟩:=(show mQ X.prog X.w H s.heap a (.tup xs) from I.lB a _ ea)
  obtain⟨o,h1,h2,_⟩:=p
  exact cE PySem.W.kitx_tuple I.DR ⟨o,h1,h2⟩ e (λz=>nomatch z) h
 | @dK a kvs ea=>
  cases (show u=bj a from rx)
  obtain⟨_,_,vs,_,p⟩:=(show mQ X.prog X.w H s.heap a (.dK kvs) from I.lB a _ ea)
  obtain⟨o,es,ep,h1,h2,_⟩:=p
  exact cE iw I.DR ⟨o,h1,h2.1⟩ e (λz=>nomatch z) h
 | @dT a kvs ea=>
  cases (show u=bj a from rx)
  obtain⟨_,_,xs,_,o,es,ep,h1,h2,_⟩:=(show mQ X.prog X.w H s.heap a (.dT kvs) from I.lB a _ ea)
  exact cE iw I.DR ⟨o,h1,h2.1⟩ e (λz=>nomatch z) h
 | @ins a C dx fs ea cl ha hn htk hm=>
  cases (show u=bj a from rx)
  obtain⟨mA,O,_⟩:=Fs I.lB ea
  obtain⟨od,J,_⟩:=O.look
  exact cE (PySem.W.kitx_own (cl.get _) cl.hd ha hn htk hm) I.DR J e (λz=>nomatch z) h
end
end L2
namespace L2
open PySem PySem.Spec PyProof.Rows
structure pU(ca:Bool)(k:Nat)(A:Around):Prop where
 hd:ca=true->A.handled=none
 dp:A.depth+3*k+5<recursionLimit
 un:A.units+16*k+200<cLine
theorem pU.mono{ca:Bool}{j k:Nat}{A:Around}(r:pU ca k A)(h:j<=k):pU ca j A:=⟨r.hd,by have:=r.dp;lia,by have:=r.un;lia⟩
theorem pU.deeper{ca:Bool}{k:Nat}{A:Around}(r:pU ca (k+1) A)(env:Env):pU ca k (A.deeper env):=
 ⟨r.hd,by have:=r.dp;show A.depth+1+3*k+5<_;lia,by have:=r.un;show A.units+3+16*k+200<_;lia⟩
theorem Mo{A:Around}{C:Addr}{us:List Value}{kw:List (Str×Value)}:(A.under (.builtin "type.__call__" ⟨.ref C::us,kw⟩)).depth=A.depth+1:=by
 first|rfl|simp[gY,Code.weight,Code.isCreation,Code.isGuard,Code.isCaller,Code.frames,g9,guardIds]
theorem Mp{A:Around}{C:Addr}{us:List Value}{kw:List (Str×Value)}:(A.under (.builtin "type.__call__" ⟨.ref C::us,kw⟩)).units=A.units+1:=by
 first|rfl|simp[gY,Code.cUnits,Code.frames,g9]
theorem pU.make{ca:Bool}{k:Nat}{A:Around}(r:pU ca (k+1) A)(C:Addr)(us:List Value)(kw:List (Str×Value)):pU ca k (A.under (.builtin "type.__call__" ⟨.ref C::us,kw⟩)):=
 ⟨r.hd,by have:=r.dp;rw[Mo];lia,by have:=r.un;rw[Mp];lia⟩
theorem pU.depth{ca:Bool}{k:Nat}{A:Around}(r:pU ca k A):A.depth<recursionLimit:=by have:=r.dp;lia
theorem pU.units{ca:Bool}{k:Nat}{A:Around}(r:pU ca k A):A.units+64<cLine:=by have:=r.un;lia
noncomputable def jv:TA:=λ_ H Q=>Q [] H
noncomputable def jc (ta:TE) (tr:TA):TA:=λσ H Q=>ta σ H λx H1=>tr σ H1 λxs H2=>Q (x::xs) H2
section
variable{X:Cx}{e:Expr}{es:List Expr}{te:TE}{t:TA}{pos:Pos}
theorem Um:PA X [] jv:=λ_ _ _ _ H Q I h=>fP ⟨[],H,I,.nil,h⟩
theorem RV(ha:PE X e te)(hr:PA X es t)(hs:starEach (e::es) X.env=(false,eval e X.env)::starEach es X.env:=by rfl):PA X (e::es) (jc te t):=by
 intro pos pins s σ H Q I h
 rw[hs]
 show wpAny _ _ (spliced ((false,eval e X.env)::backTo pos (starEach es X.env))) _ _ s
 refine fI (pL (ha pins s σ H _ I h) λu s1 ⟨x,H1,I1,r1,q1⟩=> ?_)
 exact pL (hr pos pins s1 σ H1 _ I1 q1) λus s2 ⟨xs,H2,I2,r2,q2⟩=>⟨x::xs,H2,I2,.cons r1 r2,q2⟩
noncomputable def LN (t:TA):TE:=λσ H Q=>t σ H λxs H1=>xs.length<=sizeLine/\∀p,H1 p=none->Q (.ref p) (upd H1 p (.tup xs))
noncomputable def zD (t:TA):TE:=λσ H Q=>t σ H λxs H1=>xs.length<=sizeLine/\∀p,H1 p=none->Q (.ref p) (upd H1 p (.lst xs))
theorem Uv{x1}(h:PA X es t):PE X (.Tuple es x1 pos) (LN t):=by
 intro pins s σ H Q I hq
 refine wpAny_Tuple_spliced (pL (h pos pins s σ H _ I hq) λus s1 ⟨xs,H1,I1,r,z,q⟩=>⟨by rw[←r.length];exact z,?_⟩)
 have hf:H1 s1.heap.objs.size=none:=I1.lB.fresh (aN _)
 refine⟨.ref s1.heap.objs.size,upd H1 s1.heap.objs.size (.tup xs),I1.laid (t':=s1.toks) (λb u e=>aO _ e) (aN _) ?_,rfl,q _ hf⟩
 exact⟨z,us,r,⟨_,bT _ rfl,rfl,_,rfl⟩⟩
theorem Qf(h:PA X es t):PE X (.List es pos) (zD t):=by
 intro pins s σ H Q I hq
 refine wpAny_List_spliced (pL (h pos pins s σ H _ I hq) λus s1 ⟨xs,H1,I1,r,z,q⟩=>⟨by rw[←r.length];exact z,?_⟩)
 have hf:H1 s1.heap.objs.size=none:=I1.lB.fresh (aN _)
 refine⟨.ref s1.heap.objs.size,upd H1 s1.heap.objs.size (.lst xs),I1.laid (t':=s1.toks) (λb u e=>aO _ e) (aN _) ?_,rfl,q _ hf⟩
 exact⟨z,us,0,r,bT _ rfl⟩
end
noncomputable abbrev Sp:=List V->Hp->VK->XK->Prop
noncomputable abbrev OM:=List Env->Hp->Shared->XK->Value->Shared->Prop
structure LW(P:Program)(w:World)(K:aC)(mg:Str->Option Value)(base:Heap)(A:Around)(outer:List Env)(s:Shared)(H:Hp):Prop where
 frames:A.frames=some outer
 mod:Mod K mg base
 bs:∀b o,base.get? b=some o->s.heap.get? b=some o/\H b=none
 QR:base.objs.size<=s.heap.objs.size
 CZ:s.heap.FunFrames base outer
 Rv:∀b∈F4 outer,H b=none
 lB:zQ P w H s.heap
 bare:AllBare s.gens
noncomputable def CE (outer:List Env) (P:Program) (w:World) (H:Hp) (s:Shared) (Q:VK) (u:Value) (s':Shared):Prop:=
 ∃v H',s'.os=s.os/\AllBare s'.gens/\Un (F4 outer) [] H H' s.heap s'.heap/\zQ P w H' s'.heap/\RelV v u/\Q v H'
noncomputable def CR (CX:OM) (outer:List Env) (P:Program) (w:World) (H:Hp) (s:Shared) (Q:VK) (E:XK) (r:Result) (s':Shared):Prop:=
 match r with
 | .ok (.ret u)=>CE outer P w H s Q u s'
 | .ok _=>False
 | .error e=>CX outer H s E e s'
structure jO(P:Program)(w:World)(K:aC)(mg:Str->Option Value)(base:Heap)(CX:OM)(ca:Bool)(k:Nat)(f:Addr)(fd:FuncData)(ps:List Str)(sp:Sp):Prop where
 len:∀vs H Q E,sp vs H Q E->vs.length=ps.length
 run:∀(A:Around) (outer:List Env) (s:Shared) (H:Hp) (args:Args) (us:List Value) (vs:List V) (Q:VK) (E:XK),pU ca k A->LW P w K mg base A outer s H->BindsTo s fd args (ps.zip us)->Vals vs us->sp vs H Q E->
  codeAny (model P w) A (.call (.ref f) args) (CR CX outer P w H s Q E) s
theorem jO.mono{P:Program}{w:World}{K:aC}{mg:Str->Option Value}{base:Heap}{CX:OM}{ca:Bool}{j k:Nat}{f:Addr}{fd:FuncData}{ps:List Str}{sp:Sp}(F:jO P w K mg base CX ca j f fd ps sp)(h:j<=k):
  jO P w K mg base CX ca k f fd ps sp:=⟨F.len,λA outer s H args us vs Q E hr=>F.run A outer s H args us vs Q E (hr.mono h)⟩
theorem LW.make{P:Program}{w:World}{K:aC}{mg:Str->Option Value}{base:Heap}{A:Around}{outer:List Env}{s:Shared}{H:Hp}(e:LW P w K mg base A outer s H)(C:Addr)(us:List Value)(kw:List (Str×Value)):
  LW P w K mg base (A.under (.builtin "type.__call__" ⟨.ref C::us,kw⟩)) outer s H:=⟨by first|exact e.frames|(simpa [gY,Code.envs,g9,pushEnvs] using e.frames),e.mod,e.bs,e.QR,e.CZ,e.Rv,e.lB,e.bare⟩
section
variable{X:Cx}{pins:List (Addr×Obj)}{σ:St}{H:Hp}{s s':Shared}
theorem Inv.VQ(I:Inv X pins σ H s):LW X.prog X.w X.K X.mg X.base X.A X.stack s H:=
 ⟨I.ok.frames,I.ok.mod,I.bs,aW I.ok.QR I.sz,I.stack,I.FF,I.lB,I.bare⟩
theorem Inv.after{Q:VK}{u:Value}(I:Inv X pins σ H s)(h:CE X.stack X.prog X.w H s Q u s'):EP X pins σ Q u s':=by
 obtain⟨v,H',os,bare,un,lB,r,q⟩:=h
 obtain⟨hh,g,d,t,os'⟩:=s'
 obtain rfl:os'=s.os:=os
 exact⟨v,H',I.call (h':=hh) (g':=g) (d':=d) (t':=t) (ch:=[]) un lB bare (λb z=>absurd z (by simp)),r,q⟩
end
noncomputable def Binds (K:aC) (fd:FuncData) (ps:List Str) (ds:List Value):Prop:=
 ∀(s:Shared) (us:List Value),K.In s.heap->(us++ds).length=ps.length->BindsTo s fd ⟨us,[]⟩ (ps.zip (us++ds))
theorem Binds.all{K:aC}{fd:FuncData}{ps:List Str}(h:∀us:List Value,us.length=ps.length->bindArgs fd ⟨us,[]⟩=pure (ps.zip us)):Binds K fd ps []:=λs us _ hl=>by
 rw[aD]at hl⊢
 exact .of_eq (h us hl)
section
variable{X:Cx}{CX:OM}{ca:Bool}{k:Nat}{f C:Addr}{fd:FuncData}{ps:List Str}{sp:Sp}{dvs:List V}{ds:List Value}{E:XK}{x m:Str}{p pos apos:Pos}{e o:Expr}{es:List Expr}{ta:TE}{t:TA}
structure Mk(K:aC)(C f:Addr):Prop where
 makes:cQ K C=true
 init:aG K (.ref C) "__init__"=some (some (.ref f))
 fn:ba K (.ref f)=true
 kp:bO K (.ref C)=true
end
section
variable{X:Cx}{CX:OM}{ca:Bool}{k:Nat}{f C:Addr}{fd:FuncData}{ps ks:List Str}{sp:Sp}{E:XK}{x m:Str}{p pos apos kpos:Pos}{e o:Expr}{es:List Expr}{kws:List Keyword}{te ta:TE}{t tk:TA}{nm:Option Str}
variable{g:List Value->List Value->List Value}{gV:List V->List V->List V}
end
structure jf(N P:List Str)(sc:Scope):Prop where
 kind:sc.kind= .function
 co:sc.isCoroutine=false
 gen:sc.isGenerator=false
 nd:N.Nodup
 pre:N.take P.length=P
 par:∀x∈P,sc.names.lookup x=some .local∨sc.names.lookup x=some .cell
 T8:∀y∈sc.names,y.2≠ .free
theorem Ih{kindOf:Str->Option NameKind}{x:Str}:∀{binds:List (Str×Value)} {m:Str->Option Value},(∀v,(x,v)∉binds)->bindL kindOf binds m x=m x
 | [],_,_=>rfl
 |(n,v)::r,m,h=>by
  unfold bindL
  rw[Ih λw hw=>h w (aP _ hw)]
  split
  ·have:x≠n:=by rintro rfl;exact h v aM
   simp[this]
  ·rfl
theorem Ie{kindOf:Str->Option NameKind}{x:Str}:∀{binds:List (Str×Value)} {m:Str->Option Value},(∀v,(x,v)∉binds)->bindC kindOf binds m x=m x
 | [],_,_=>rfl
 |(n,v)::r,m,h=>by
  unfold bindC
  rw[Ie λw hw=>h w (aP _ hw)]
  split
  ·rfl
  ·have:x≠n:=by rintro rfl;exact h v aM
   simp[this]
theorem Ig{kindOf:Str->Option NameKind}{x:Str}{v:Value}:∀{P:List Str} {vs:List Value} {i:Nat} {m:Str->Option Value},P.Nodup->P[i]? =some x->vs[i]? =some v->kindOf x=some .local->
  bindL kindOf (P.zip vs) m x=some v
 | [],_,_,_,_,h,_,_=>by simp at h
 |_::_,[],_,_,_,_,h,_=>by simp at h
 |p::P,w::vs,0,m,nd,h1,h2,hk=>by
  simp at h1 h2;subst h1;subst h2
  show bindL kindOf ((p,w)::P.zip vs) m p=_
  unfold bindL
  rw[Ih λv hv=>(List.nodup_cons.mp nd).1 (fj hv).1,if_pos hk]
  simp
 |p::P,w::vs,i+1,m,nd,h1,h2,hk=>by
  show bindL kindOf ((p,w)::P.zip vs) m x=_
  unfold bindL
  exact Ig (i:=i) (List.nodup_cons.mp nd).2 (by simpa using h1) (by simpa using h2) hk
theorem Ic{kindOf:Str->Option NameKind}{x:Str}{v:Value}:∀{P:List Str} {vs:List Value} {i:Nat} {m:Str->Option Value},P.Nodup->P[i]? =some x->vs[i]? =some v->kindOf x≠some .local->
  bindC kindOf (P.zip vs) m x=some v
 | [],_,_,_,_,h,_,_=>by simp at h
 |_::_,[],_,_,_,_,h,_=>by simp at h
 |p::P,w::vs,0,m,nd,h1,h2,hk=>by
  simp at h1 h2;subst h1;subst h2
  show bindC kindOf ((p,w)::P.zip vs) m p=_
  unfold bindC
  rw[Ie λv hv=>(List.nodup_cons.mp nd).1 (fj hv).1,if_neg hk]
  simp
 |p::P,w::vs,i+1,m,nd,h1,h2,hk=>by
  show bindC kindOf ((p,w)::P.zip vs) m x=_
  unfold bindC
  exact Ic (i:=i) (List.nodup_cons.mp nd).2 (by simpa using h1) (by simpa using h2) hk
noncomputable def start (N:List Str) (vs:List V):St:=vs.map some++ah (N.length-vs.length) none
noncomputable def KO (CX:OM) (ca:Bool) (P:Program) (w:World) (K:aC) (mg:Str->Option Value) (base:Heap) (N:List Str) (qual:Str) (scope:Scope) (f:Addr) (cd:Value) (A:Around) (outer:List Env) (s:Shared) (H:Hp) (E:XK):Cx where
 prog:=P
 w:=w
 K:=K
 mg:=mg
 base:=base
 A:=A.deeper (envOfC qual scope s.heap.objs.size f cd)
 N:=N
 s₀:=s
 H₀:=H
 env:=envOfC qual scope s.heap.objs.size f cd
 outer:=outer
 stack:=envOfC qual scope s.heap.objs.size f cd::outer
 ex:=[]
 calm:=ca
 fn:=λ_=>true
 pn:=[]
 xe:=λe s'=>wpAny (model P w) (A.deeper (envOfC qual scope s.heap.objs.size f cd)) (leaving (envOfC qual scope s.heap.objs.size f cd) e) (λ_ s''=>CX outer H s E e s'') (λe' s''=>CX outer H s E e' s'') s'
theorem KL{sc:Scope}{n:Nat}{x:Str}(h:sc.names.lookup x=some .cell):∃c,(cellsFrom n sc.names []).lookup x=some c:=by
 have q:=gx sc.names n [] (.inl h)
 exact Option.isSome_iff_exists.mp q
theorem N8{CX:OM}{ca:Bool}{P:Program}{w:World}{K:aC}{mg:Str->Option Value}{base:Heap}{N ps:List Str}{qual:Str}{scope:Scope}{f:Addr}{cd:Value}{A:Around}{outer:List Env}{s s1:Shared}{H:Hp}{E:XK}{us:List Value}{vs:List V}
  (S:jf N ps scope) (hd:ca=true->A.handled=none) (e0:LW P w K mg base A outer s H) (hl:vs.length=ps.length) (r:Vals vs us)
  (x:InCallC s s.heap.objs.size (bindL (envOfC qual scope s.heap.objs.size f cd).kindOf (ps.zip us) λ_=>none) (cellsFrom (s.heap.objs.size+1) scope.names []) (bindC (envOfC qual scope s.heap.objs.size f cd).kindOf (ps.zip us) λ_=>none) s1):
  Inv (KO CX ca P w K mg base N qual scope f cd A outer s H E) [] (start N vs) H s1:=by
 have hpl:ps.length<=N.length:=by have:=congrArg eR S.pre;rw[c_]at this;lia
 obtain⟨h1,tk,rfl,hk⟩:=x.done
 have noA:∀b:Addr,b∉(KO CX ca P w K mg base N qual scope f cd A outer s H E).ex:=λb z=>absurd (show b∈([]:List Addr) from z) (by simp)
 refine⟨⟨e0.mod,S.kind,rfl,rfl,aN _,λy z c h1 h2=> ?_,λy hy=> ?_,λy c _ h=> ?_,λz=>hd z,Around.frames_deeper e0.frames,.inr ⟨rfl,rfl⟩,λb z=>absurd z (noA b),e0.bs,e0.QR,λb _ _=>noA b,λb z=>absurd z (noA b),e0.CZ,e0.Rv⟩,
  rfl,e0.bare,Un.kept hk,⟨_,x.toInCall.ns,λi y v h1 h2 h3=> ?_⟩,λy c h=>⟨_,x.cell y c h⟩,e0.lB.fresh (aN _),λy c h=> ?_,λp hp=>absurd (show p∈([]:List (Addr×Obj)) from hp) (by simp),e0.lB.kept hk,?_⟩
 ·exact name_of_addr x.apart (dP h1) (dP h2)
 ·have hy:scope.names.lookup y=some .cell∨scope.names.lookup y=some .free:=hy
  rcases hy with hy|hy
  ·exact KL hy
  ·exact absurd rfl (S.T8 _ (dP hy))
 ·exact dW (x.above y c (dP h))
 ·have hi:i<vs.length:=by
   unfold start at h2
   by_cases hi:i<vs.length
   ·exact hi
   ·rw[cz (by simpa using hi)]at h2
    rw[cV]at h2
    split at h2<;>cases h2
  have ha:vs[i]? =some v:=by
   unfold start at h2
   rw[cO (by simpa using hi),aT]at h2
   cases e:vs[i]? with
   |none=>rw[e]at h2;cases h2
   |some a=>rw[e]at h2;cases h2;rfl
  obtain⟨u,hu,rv⟩:=r.get ha
  have hp:ps[i]? =some y:=by
   rw[←S.pre,fU (by lia)];exact h1
  have ndP:ps.Nodup:=by rw[←S.pre];exact S.nd.sublist (List.take_sublist _ _)
  refine⟨u,rv,?_⟩
  rcases S.par y (bW hp) with k|k
  ·exact .inl ⟨k,Ig ndP hp hu k⟩
  ·obtain⟨c,e⟩:=KL (n:=s.heap.objs.size+1) k
   refine .inr ⟨.inl k,c,e,?_⟩
   have q:=x.cell y c e
   rw[Ic ndP hp hu (by show scope.names.lookup y≠_;rw[k];decide)]at q
   exact q
 ·exact e0.lB.fresh (dW (x.above y c (dP h)))
 ·unfold start
  show _=N.length
  rw[aY,aj,bA]
  lia
theorem SI{CX:OM}{ca:Bool}{P:Program}{w:World}{K:aC}{mg:Str->Option Value}{base:Heap}{k:Nat}{f:Addr}{name qual:Str}{params:Arguments}{body:List Stmt}{scope:Scope}{dV kV doc pm cdv ct oc:Value}{an od:Option Addr}
  {osl:Array (Option Value)} {N ps:List Str} {sp:Sp} (lk:K.lookup f=some ⟨oc,od,.func (dE name qual params body scope dV kV doc pm an cdv ct),osl⟩) (hcd:fE K cdv qual=true) (S:jf N ps scope)
  (len:∀vs H Q E,sp vs H Q E->vs.length=ps.length)
  (hbody:∀(A:Around) (outer:List Env) (s:Shared) (H:Hp) (vs:List V) (Q:VK) (E:XK),pU ca k (A.deeper (envOfC qual scope s.heap.objs.size f cdv))->sp vs H Q E->
   ∃t,LY (KO CX ca P w K mg base N qual scope f cdv A outer s H E) body t/\t {nx:=λ_ H'=>Q .kG H',rt:=Q} (start N vs) H):
  jO P w K mg base CX ca (k+1) f (dE name qual params body scope dV kV doc pm an cdv ct) ps sp:=by
 refine⟨len,λA outer s H args us vs Q E hr e0 hb r hsp=> ?_⟩
 have hl:=len _ _ _ _ hsp
 have KX:K.In s.heap:=e0.mod.U7.keeps λb o e=>(e0.bs b o e).1
 have lim:s.heap.NoLimit:=e0.mod.nolimit.keeps λb o e=>(e0.bs b o e).1
 have hkind:∀y∈ps.zip us,scope.names.lookup y.1=some .local∨(scope.names.lookup y.1=some .cell/\((cellsFrom (s.heap.objs.size+1) scope.names []).lookup y.1).isSome=true):=λ⟨n,v⟩ hy=>by
  rcases S.par n (fj hy).1 with q|q
  ·exact .inl q
  ·exact .inr ⟨q,gx _ _ _ (.inl q)⟩
 refine codeAny_call_function hr.depth (KX _ _ lk) rfl S.co S.gen rfl (PySem.W.codeRec_of KX hcd) (hb _ _ _ _ ?_)
 refine wpAny_newFunctionEnv_cells S.kind hkind λenv he s1 x=> ?_
 subst he
 refine⟨lim.keeps x.toInCall.keep,codeAny_func ?_⟩
 obtain⟨t,ht,hq⟩:=hbody A outer s H vs Q E (hr.deeper _) hsp
 have I:Inv (KO CX ca P w K mg base N qual scope f cdv A outer s H E) [] (start N vs) H s1:=N8 S hr.hd e0 hl r x
 refine wpAny_mono (ht [] s1 (start N vs) H _ I hq) (λfl s' hs=> ?_) λe s' hs=>hs
 have fin:∀{σ':St} {H':Hp} {v:V} {u:Value},Inv (KO CX ca P w K mg base N qual scope f cdv A outer s H E) [] σ' H' s'->RelV v u->Q v H'->CE outer P w H s Q u s':=
  λ{σ' H' v u} J rv q=>⟨v,H',J.os,J.bare,J.base,J.lB,rv,q⟩
 cases fl with
 |ret u=>
  obtain⟨v,σ',H',J,rv,q⟩:=hs
  exact fin J rv q
 |next=>
  obtain⟨σ',H',J,q⟩:=hs
  exact fin (v:=V.kG) (u:=fv) J rfl q
 |brk=>
  obtain⟨_,_,_,q⟩:=hs
  exact dg q
 |cont=>
  obtain⟨_,_,_,q⟩:=hs
  exact dg q
end L2
namespace L2
open PySem PySem.Spec PyProof.Rows
section
variable{X:Cx}{x:Str}{p pos:Pos}{e:Expr}{es:List Expr}{t:TA}{id T:String}{r:List V->Hp->VK->Prop}
noncomputable def A6 (r:List V->Hp->VK->Prop) (t:TA):TE:=λσ H Q=>t σ H λvs H1=>r vs H1 Q
theorem P9(hc:sT X (.builtin id) r)(hg:Gl X x)(hm:X.mg x=none)(hv:bootBuiltins x=some (.builtin id))(ha:PA X (e::es) t)(hn:x≠"__name__":=by decide)(hdb:(x==("__debug__":Str))=false:=by decide)
  (he:starEach (e::es) X.env=(false,eval e X.env)::starEach es X.env:=by rfl) (hpl:(backTo pos (starEach es X.env)).any (·.1)=false:=by rfl):PE X (.Call (.Name x p) (e::es) [] pos) (A6 r t):=by
 intro pins s σ H Q I h
 refine wpAny_Call_Name_kw (yV I hg hm hv ?_ hn hdb)
 exact PyProof.Rows.callWith_builtin1 (pL (ha pos pins s σ H _ I h) λus s1 ⟨vs,H1,I1,r1,q1⟩=>hc pins s1 σ H1 vs us Q I1 r1 q1) he hpl
theorem Ou(hc:sT X (.type T) r)(hg:Gl X x)(hm:X.mg x=none)(hv:bootBuiltins x=some (.type T))(ha:PA X (e::es) t)(hn:x≠"__name__":=by decide)(hdb:(x==("__debug__":Str))=false:=by decide)
  (he:starEach (e::es) X.env=(false,eval e X.env)::starEach es X.env:=by rfl) (hpl:(backTo pos (starEach es X.env)).any (·.1)=false:=by rfl):PE X (.Call (.Name x p) (e::es) [] pos) (A6 r t):=by
 intro pins s σ H Q I h
 refine wpAny_Call_Name_kw (yV I hg hm hv ?_ hn hdb)
 exact cq (pL (ha pos pins s σ H _ I h) λus s1 ⟨vs,H1,I1,r1,q1⟩=>hc pins s1 σ H1 vs us Q I1 r1 q1) he hpl
end
end L2
namespace HT
open PySem PyProof.Rows
section
open PySem.SeqAt
open PySem.AutoSeq1 (wpAny_loadPart')
open PySem.MeetsSeq PySem.MeetsSeq2 PySem.MeetsSeq3
end
section
variable{prog:Program}{w:World}{A:Around}{E:Value->Shared->Prop}{s:Shared}
theorem Rp{t b:Addr}{vs ws:List Value}{Q:Value->Shared->Prop}(ht:IsTup s.heap t vs.toArray)(hb:IsTup s.heap b ws.toArray)(hv:vs≠ [])
  (h1:ws=[]->Q (.ref t) s) (h2:ws≠ []->Q (.ref s.heap.objs.size) {s with heap:=s.heap.push {cls:= .type "tuple",data:= .seq (vs++ws).toArray}})
  (hsz:vs.length+ws.length<=sizeLine):wpAny (model prog w) A (binaryOp .Add (.ref t) (.ref b)) Q E s:=by
 obtain⟨⟨cls,dd,data,sl⟩,ho,hc,n,hd⟩:=id ht
 obtain⟨⟨cls2,dd2,data2,sl2⟩,ho2,hc2,n2,hd2⟩:=id hb
 simp only at hc hd hc2 hd2
 subst hc hd hc2 hd2
 have e:vs.toArray++ws.toArray=(vs++ws).toArray:=by simp
 by_cases hw:ws=[]
 ·exact concat_meets ⟨_,ho,rfl⟩ ⟨_,ho2,rfl⟩ noFill_tuple_add seq_tuple_add gv fZ (fY _ _)
   (tuple_addW1 t b vs.toArray ws.toArray n n2 dd dd2 sl sl2 (by simpa using hv) (by simp[hw])) ⟨ho,ho2,h1 hw⟩
 ·refine concat_meets ⟨_,ho,rfl⟩ ⟨_,ho2,rfl⟩ noFill_tuple_add seq_tuple_add gv fZ (fY _ _)
   (tuple_addW2 t b vs.toArray ws.toArray n n2 dd dd2 sl sl2 (by simpa using hv) (by simpa using hw) (by rw[aX,aX];exact hsz)) ⟨ho,ho2,?_⟩
  rw[e]
  exact h2 hw
noncomputable def Kr (n d:Nat):Option Int->Nat
 |none=>d
 |some v=>if v<0 then(v+(n:Int)).toNat else min v.toNat n
theorem Qx(n d:Nat):Kr n d none=d:=rfl
theorem JR(n d k:Nat):Kr n d (some (k:Int))=min k n:=by
 show(if (k:Int)<0 then((k:Int)+(n:Int)).toNat else min (k:Int).toNat n)=min k n
 rw[if_neg (by lia),bB]
end
end HT
namespace L2
open PySem PySem.Spec PyProof.Rows
noncomputable abbrev TO:=St->Hp->(Option Int->Hp->Prop)->Prop
noncomputable def PO (X:Cx) (e:Option Expr) (t:TO):Prop:=
 ∀(pins:List (Addr×Obj)) (s:Shared) (σ:St) (H:Hp) (Q:Option Int->Hp->Prop),Inv X pins σ H s->t σ H Q->
  wpAny (model X.prog X.w) X.A (evalPart e X.env) (λu s'=>∃o H',Inv X pins σ H' s'/\IsPart u o/\Q o H') X.xe s
noncomputable def Km:TO:=λ_ H Q=>Q none H
section
variable{X:Cx}{e:Expr}{te:TE}{lo hi:Option Expr}{tl th:TO}{pos p2:Pos}
theorem R9:PO X none Km:=by
 intro pins s σ H Q I h
 rw[evalPart_none]
 exact wpAny_pure ⟨none,H,I,.none,h⟩
noncomputable def SF (X:Cx) (r:V->Option Int->Option Int->Hp->VK->Prop):Prop:=
 ∀(pins:List (Addr×Obj)) (s:Shared) (σ:St) (H:Hp) (x:V) (v vl vu:Value) (lo hi:Option Int) (sl:Addr) (Q:VK),Inv X pins σ H s->RelV x v->s.heap.IsSliceOf sl vl vu .none->IsPart vl lo->IsPart vu hi->r x lo hi H Q->
  ∃T id,typeLookup (.type T) "__getitem__"=pure (some (.builtin id))/\s.TypeIs v T/\wpAny (model X.prog X.w) X.A (getItem v (.ref sl)) (EP X pins σ Q) X.xe s
noncomputable def Va (r:V->Option Int->Option Int->Hp->VK->Prop) (te:TE) (tl th:TO):TE:=λσ H Q=>te σ H λx H1=>tl σ H1 λl H2=>th σ H2 λu H3=>r x l u H3 Q
theorem Qj{r:V->Option Int->Option Int->Hp->VK->Prop}(hr:SF X r)(he:PE X e te)(hl:PO X lo tl)(hu:PO X hi th):PE X (.Subscript e (.Slice lo hi none p2) pos) (Va r te tl th):=by
 intro pins s σ H Q I h
 refine Subscript_ (pL (he pins s σ H _ I h) λv s1 ⟨x,H1,I1,r1,q1⟩=> ?_)
 refine wpAny_Slice (pL (hl pins s1 σ H1 _ I1 q1) λvl s2 ⟨l,H2,I2,pl,q2⟩=>pL (hu pins s2 σ H2 _ I2 q2) λvu s3 ⟨u,H3,I3,pu,q3⟩=> ?_)
 rw[evalPart_none]
 refine wpAny_pure ?_
 have I4:Inv X pins σ H3 {s3 with heap:=s3.heap.push {cls:= .type "slice",data:= .fields #[vl,vu,.none]}}:=I3.kept (t':=s3.toks) λb ob q=>aO _ q
 obtain⟨T,id,hT,ht,hg⟩:=hr pins {s3 with heap:=s3.heap.push {cls:= .type "slice",data:= .fields #[vl,vu,.none]}} σ H3 x v vl vu l u s3.heap.objs.size Q I4 r1 (Heap.IsSliceOf.new ..) pl pu q3
 show wpAny (model X.prog X.w) X.A (subscriptTail e (.Slice lo hi none p2) v (.ref s3.heap.objs.size)) (EP X pins σ Q) X.xe {s3 with heap:=s3.heap.push {cls:= .type "slice",data:= .fields #[vl,vu,.none]}}
 exact tail_any (ops:=[.ref s3.heap.objs.size,v]) ht hT hg (by with_unfolding_all rfl)
noncomputable def DZ (xs:List V) (lo hi:Option Int):List V:=(xs.drop (HT.Kr xs.length 0 lo)).take (HT.Kr xs.length xs.length hi-HT.Kr xs.length 0 lo)
theorem KN(xs:List V)(lo hi:Option Int):(DZ xs lo hi).length<=xs.length:=by
 unfold DZ
 rw[c_,eV]
 lia
noncomputable def Wl (K:aC):R2:=λx y H Q=>∃a b xs ys,x= .ref a/\y= .ref b/\LR K H a xs/\LR K H b ys/\xs≠ []/\xs.length+ys.length<=sizeLine/\
 (ys=[]->Q (.ref a) H)/\(ys≠ []->∀p,H p=none->Q (.ref p) (upd H p (.tup (xs++ys))))
theorem Vals.Jx{xs:List V}{us:List Value}(r:Vals xs us):us=[]↔xs=[]:=by
 cases r with
 |nil=>simp
 |cons _ _=>simp
theorem RS:tW X (binaryOp .Add) (Wl X.K):=by
 intro pins s σ H x y v u Q I rx ry h
 obtain⟨a,b,xs,ys,rfl,rfl,ha,hb,hx,hz,q1,q2⟩:=h
 cases rx
 cases ry
 obtain⟨its,r1,p1,_⟩:=I.tuple ha
 obtain⟨its2,r2,p2,_⟩:=I.tuple hb
 refine HT.Rp p1 p2 (λz=>hx (r1.Jx.mp z)) (λz=>⟨.ref a,H,I,rfl,q1 (r2.Jx.mp z)⟩) (λz=> ?_) (by rw[←r1.length,←r2.length];exact hz)
 refine⟨.ref s.heap.objs.size,_,I.laid (t':=s.toks) (o:= .tup (xs++ys)) (λb ob q=>aO _ q) (aN _) ?_,rfl,q2 (λw=>z (r2.Jx.mpr w)) _ (I.lB.fresh (aN _))⟩
 exact⟨by rw[aY];exact hz,_,r1.append r2,IsTup.new _ _⟩
end
end L2
namespace L2
open PySem PySem.Spec PyProof.Rows
noncomputable def Jm (n:Nat) (i:Int):Option Nat:=if 0<=i then(if i<n then some i.toNat else none) else if -(n:Int)<=i then some (i+n).toNat else none
noncomputable def yy {α:Type} (xs:List α) (i:Int):Option α:=(Jm xs.length i).bind λj=>xs[j]?
theorem Nh{n:Nat}{i:Int}{j:Nat}(h:Jm n i=some j):seqIndex? i n=some j/\j<n/\ -(n:Int)<=i/\i<n:=by
 unfold Jm at h
 by_cases h0:0<=i
 ·rw[if_pos h0]at h
  by_cases h1:i<n
  ·rw[if_pos h1]at h
   have e:i.toNat=j:=bp h
   exact⟨by rw[seqIndex_of h0 h1,e],by lia,by lia,h1⟩
  ·rw[if_neg h1]at h;cases h
 ·rw[if_neg h0]at h
  by_cases h1: -(n:Int)<=i
  ·rw[if_pos h1]at h
   have e:(i+n).toNat=j:=bp h
   exact⟨by rw[seqIndex_neg (by lia) h1,e],by lia,h1,by lia⟩
  ·rw[if_neg h1]at h;cases h
theorem MS{α:Type}{xs:List α}{i:Int}{v:α}(h:yy xs i=some v):∃j,seqIndex? i xs.length=some j/\xs[j]? =some v/\j<xs.length/\ -(xs.length:Int)<=i/\i<xs.length:=by
 unfold yy at h
 cases e:Jm xs.length i with
 |none=>rw[e]at h;cases h
 |some j=>
  rw[e]at h
  obtain⟨h1,h2,h3,h4⟩:=Nh e
  exact⟨j,h1,h,h2,h3,h4⟩
theorem ko{α:Type}{xs:List α}{j:Nat}{v:α}(h:xs[j]? =some v):yy xs (j:Int)=some v:=by
 have hj:j<xs.length:=(List.getElem?_eq_some_iff.mp h).1
 have e:Jm xs.length (j:Int)=some j:=by
  unfold Jm
  rw[if_pos (by lia),if_pos (by lia)];simp
 unfold yy;rw[e];exact h
theorem Kw{α:Type}(xs:List α)(v:α):yy (xs++[v]) (-1)=some v:=by
 have hl:(xs++[v]).length=xs.length+1:=by simp
 have e:Jm (xs++[v]).length (-1)=some xs.length:=by
  unfold Jm
  rw[hl,if_neg (by decide),if_pos (by lia)]
  congr 1
  lia
 unfold yy
 rw[e]
 show(xs++[v])[xs.length]? =some v
 simp
noncomputable def Fg (b:Expr):Prop:=∀o i,subscripted b false o i=operate [o,i] (getItem o i)
noncomputable def S4 (X:Cx) (r:R2):Prop:=
 ∀(value slice:Expr) (pins:List (Addr×Obj)) (s:Shared) (σ:St) (H:Hp) (x y:V) (v u:Value) (Q:VK),Inv X pins σ H s->RelV x v->RelV y u->r x y H Q->
  subscripted slice false v u=operate [v,u] (getItem v u)->wpAny (model X.prog X.w) X.A (subscriptTail value slice v u) (EP X pins σ Q) X.xe s
noncomputable def XI (X:Cx) (id:String) (r:V->List V->Hp->VK->Prop):Prop:=
 ∀(pins:List (Addr×Obj)) (s:Shared) (σ:St) (H:Hp) (x:V) (xs:List V) (v:Value) (us:List Value) (Q:VK),Inv X pins σ H s->RelV x v->Vals xs us->r x xs H Q->
  wpAny (model X.prog X.w) X.A (call (.builtin id) (v::us)) (EP X pins σ Q) X.xe s
section
variable{X:Cx}{a b:Expr}{ta tb:TE}{pos:Pos}
theorem SR{r:R2}(hr:S4 X r)(ha:PE X a ta)(hb:PE X b tb)(hs:Fg b):PE X (.Subscript a b pos) (lu r ta tb):=by
 intro pins s σ H Q I h
 exact Subscript_ (Td ha hb I h λv u s2 x y H2 I2 rx ry q=>hr a b pins s2 σ H2 x y v u Q I2 rx ry q (hs _ _))
noncomputable def Xp (K:aC):R2:=λx y H Q=>∃p xs i v,x= .ref p/\y= .int i/\lT K H p xs/\yy xs i=some v/\Q v H
noncomputable def Xq (K:aC):R2:=λx y H Q=>∃p xs i v,x= .ref p/\y= .int i/\LR K H p xs/\yy xs i=some v/\Q v H
theorem Jn:S4 X (Xp X.K):=by
 intro value slice pins s σ H x y v u Q I rx ry h hs
 obtain⟨p,xs,i,z,rfl,rfl,hq,he,q⟩:=h
 cases rx
 obtain⟨t,rfl⟩:=ry
 obtain⟨its,r,pl,hz⟩:=I.list hq
 obtain⟨j,h1,h2,h3,h4,h5⟩:=MS he
 obtain⟨w,ew,rw'⟩:=r.get h2
 have hl:=r.length
 have hn:=Gm
 have fin:EP X pins σ Q w s:=⟨z,H,I,rw',q⟩
 by_cases h0:0<=i
 ·have hj:i.toNat=j:=by
   rw[seqIndex_of h0 h5]at h1
   exact bp h1
  exact item_listR pl.isList h0 (by lia) (by rw[hj];simpa using ew) fin hs
 ·have hj:(i+(its.toArray.size:Int)).toNat=j:=by
   rw[seqIndex_neg (by lia) h4]at h1
   rw[aX,←hl]
   exact bp h1
  exact subscriptTail_builtinR (x:=w) pl.isList.typeIs slot_list_getitem.lookup
   (wpAny_getItem_list_neg (Q:=λr s'=>r=w/\EP X pins σ Q r s') pl.isList (by lia) (by rw[aX]<;>lia) (by lia) (by rw[hj];simpa using ew) ⟨rfl,fin⟩) hs
theorem TK:S4 X (Xq X.K):=by
 intro value slice pins s σ H x y v u Q I rx ry h hs
 obtain⟨p,xs,i,z,rfl,rfl,hq,he,q⟩:=h
 cases rx
 obtain⟨t,rfl⟩:=ry
 obtain⟨its,r,pl,hz⟩:=I.tuple hq
 obtain⟨j,h1,h2,h3,h4,h5⟩:=MS he
 obtain⟨w,ew,rw'⟩:=r.get h2
 have hl:=r.length
 have hn:=Gm
 have fin:EP X pins σ Q w s:=⟨z,H,I,rw',q⟩
 exact subscriptTail_builtinR (x:=w) pl.typeIs slot_tuple_getitem.lookup
  (getItem_tuple (j:=j) (Q:=λr s'=>r=w/\EP X pins σ Q r s') pl (by lia) (by lia) (by rw[aX,←hl];exact h1) (by simpa using ew) ⟨rfl,fin⟩) hs
theorem Mq(its:List Value)(n j:Nat)(u:Value):c9 (·.setIfInBounds j u) {cls:= .type "list",data:= .seq its.toArray n}={cls:= .type "list",data:= .seq (its.set j u).toArray n}:=by
 simp[c9]
theorem Inv.lst{pins:List (Addr×Obj)}{σ:St}{H:Hp}{s:Shared}{p:Addr}{xs:List V}(I:Inv X pins σ H s)(h:H p=some (.lst xs)):
  ∃(its:List Value) (n:Nat),Vals xs its/\s.heap.get? p=some {cls:= .type "list",data:= .seq its.toArray n}/\xs.length<=sizeLine:=by
 obtain⟨z,its,n,r,e⟩:=I.lB p _ h
 exact⟨its,n,r,e,z⟩
theorem Inv.TY{pins:List (Addr×Obj)}{σ:St}{H:Hp}{s:Shared}{p:Addr}{xs ys:List V}{its its':List Value}{n n':Nat}{f:Obj->Obj}(I:Inv X pins σ H s)(h:H p=some (.lst xs))
  (ho:s.heap.get? p=some {cls:= .type "list",data:= .seq its.toArray n}) (hf:f {cls:= .type "list",data:= .seq its.toArray n}={cls:= .type "list",data:= .seq its'.toArray n'}) (r:Vals ys its') (hz:ys.length<=sizeLine) (t:Nat):
  Inv X pins σ (upd H p (.lst ys)) {s with heap:=s.heap.update p f,toks:=t}:=by
 have e:(s.heap.update p f).get? p=some {cls:= .type "list",data:= .seq its'.toArray n'}:=by
  rw[gC f ho (by rw[hf]<;>rfl),hf]
 refine I.write (x:=p) (e:=p) (by rw[h];trivial) (.inl rfl) (λb u hb q=>(eQ _ _ (aE hb)).trans q) ⟨_,e⟩ ?_
 exact⟨hz,its',n',r,e⟩
noncomputable def Wm:V->V->V->Hp->(Hp->Prop)->Prop:=λo i v H Q=>∃p xs k j,o= .ref p/\i= .int k/\H p=some (.lst xs)/\Jm xs.length k=some j/\Q (upd H p (.lst (xs.set j v)))
theorem set_list:QZ X Wm:=by
 intro pins s σ H o i v ov iv u Q I ro ri rv h
 obtain⟨p,xs,k,j,rfl,rfl,hp,hj,q⟩:=h
 cases ro
 obtain⟨t,rfl⟩:=ri
 obtain⟨its,n,r,ho,hz⟩:=I.lst hp
 obtain⟨h1,h2,h3,h4⟩:=Nh hj
 have hl:=r.length
 have hn:=Gm
 have I':Inv X pins σ (upd H p (.lst (xs.set j v))) {s with heap:=s.heap.update p (c9 (·.setIfInBounds j u))}:=
  I.TY hp ho (Mq its n j u) (r.set rv j) (by rw[bf];exact hz) s.toks
 by_cases h0:0<=k
 ·have hk:k.toNat=j:=by
   rw[seqIndex_of h0 h4]at h1
   exact bp h1
  exact PySem.W.ki_setAt ho h0 (by lia) (by rw[aX,←hl];exact h4) (by rw[hk];exact⟨_,I',q⟩)
 ·have hk:(k+(its.toArray.size:Int)).toNat=j:=by
   rw[seqIndex_neg (by lia) h3]at h1
   rw[aX,←hl]
   exact bp h1
  exact PySem.W.ki_setBack ho (by lia) (by rw[aX,←hl];exact h3) (by lia) (by rw[hk];exact⟨_,I',q⟩)
theorem Ka(lo hi:Option Int)(n:Nat):(sliceBounds lo hi none n).1=((HT.Kr n 0 lo:Nat):Int)/\(sliceBounds lo hi none n).2.1=((HT.Kr n n hi:Nat):Int)/\(sliceBounds lo hi none n).2.2=1:=by
 refine⟨?_,?_,rfl⟩
 ·cases lo with
  |none=>simp[sliceBounds,HT.Kr]
  |some i=>
   simp only[sliceBounds,HT.Kr,iI,show(1:Int)>0 by decide,if_true]
   by_cases h:i<0
   ·simp only[h,if_true]<;>lia
   ·simp only[h,if_false]<;>lia
 ·cases hi with
  |none=>simp[sliceBounds,HT.Kr]
  |some i=>
   simp only[sliceBounds,HT.Kr,iI,show(1:Int)>0 by decide,if_true]
   by_cases h:i<0
   ·simp only[h,if_true]<;>lia
   ·simp only[h,if_false]<;>lia
theorem HJ(its:List Value)(lo hi:Option Int):slicePick its.toArray lo hi none=((its.drop (HT.Kr its.length 0 lo)).take (HT.Kr its.length its.length hi-HT.Kr its.length 0 lo)).toArray:=by
 obtain⟨h1,h2,h3⟩:=Ka lo hi its.toArray.size
 unfold slicePick
 rw[h1,h2,h3]
 simp only[sliceRange_one,pick_run,aX]<;>rfl
noncomputable def Xs (K:aC):V->Option Int->Option Int->Hp->VK->Prop:=λx lo hi H Q=>∃a xs,x= .ref a/\lT K H a xs/\∀p,H p=none->Q (.ref p) (upd H p (.lst (DZ xs lo hi)))
theorem NI:SF X (Xs X.K):=by
 intro pins s σ H x v vl vu lo hi sl Q I rx hs pl pu h
 obtain⟨a,xs,rfl,hx,q⟩:=h
 cases rx
 obtain⟨its,r,ht,hz⟩:=I.list hx
 have hlen:=r.length
 refine⟨"list",_,slot_list_getitem.lookup,ht.isList.typeIs,?_⟩
 refine wpAny_getItem_list_slice ht.isList hs pl pu .none (by simp) ?_ (by rw[aX]<;>lia)
 rw[HJ,←hlen]
 refine⟨.ref s.heap.objs.size,_,I.laid (t':=s.toks) (o:= .lst (DZ xs lo hi)) (λb ob q=>aO _ q) (aN _) ?_,rfl,q _ (I.lB.fresh (aN _))⟩
 exact⟨aW (KN xs lo hi) hz,_,0,(r.drop (HT.Kr xs.length 0 lo)).take (HT.Kr xs.length xs.length hi-HT.Kr xs.length 0 lo),bT _ rfl⟩
noncomputable def sW:V->Bool
 | .kG=>true
 | .bl _=>true
 | .int _=>true
 | .str _=>true
 |_=>false
noncomputable def N1:V->V->Bool
 | .kG,.kG=>true
 | .bl a,.bl b=>a==b
 | .bl a,.int b=>(if a then 1 else 0)==b
 | .int a,.bl b=>a==(if b then 1 else 0)
 | .int a,.int b=>a==b
 | .str a,.str b=>a==b
 |_,_=>false
theorem Mb{A:Around}{s:Shared}{y x:V}{u v:Value}(ry:RelV y u)(rx:RelV x v)(fy:sW y=true)(fx:sW x=true):iQ A s u v (N1 y x):=by
 cases y with
 |kG=>
  cases ry
  cases x with
  |kG=>cases rx;exact iR _
  |bl b=>cases rx;exact SeqAt.EqAt.none_bool b
  |int b=>obtain⟨t,rfl⟩:=rx;exact SeqAt.EqAt.none_int b t
  |str b=>obtain⟨t,rfl⟩:=rx;exact SeqAt.EqAt.none_str b t
  |_=>exact absurd (show false=true from fx) aZ
 |bl a=>
  cases ry
  cases x with
  |kG=>cases rx;exact SeqAt.EqAt.bool_none a
  |bl b=>cases rx;exact SeqAt.EqAt.bool_bool a b
  |int b=>obtain⟨t,rfl⟩:=rx;exact SeqAt.EqAt.bool_int a b t
  |str b=>obtain⟨t,rfl⟩:=rx;exact SeqAt.EqAt.bool_str a b t
  |_=>exact absurd (show false=true from fx) aZ
 |int a=>
  obtain⟨t',rfl⟩:=ry
  cases x with
  |kG=>cases rx;exact SeqAt.EqAt.int_none a t'
  |bl b=>cases rx;exact SeqAt.EqAt.int_bool a t' b
  |int b=>obtain⟨t,rfl⟩:=rx;exact SeqAt.EqAt.int_int a t' b t
  |str b=>obtain⟨t,rfl⟩:=rx;exact ic a t' b t
  |_=>exact absurd (show false=true from fx) aZ
 |str a=>
  obtain⟨t',rfl⟩:=ry
  cases x with
  |kG=>cases rx;exact SeqAt.EqAt.str_none a t'
  |bl b=>cases rx;exact SeqAt.EqAt.str_bool a t' b
  |int b=>obtain⟨t,rfl⟩:=rx;exact ig a t' b t
  |str b=>obtain⟨t,rfl⟩:=rx;exact SeqAt.EqAt.str_str a t' b t
  |_=>exact absurd (show false=true from fx) aZ
 |_=>exact absurd (show false=true from fy) aZ
noncomputable def Ru (x:V) (u:Value):Bool:=match u with
 | .none=>N1 .kG x
 | .bool b=>N1 (.bl b) x
 | .int i _=>N1 (.int i) x
 | .str z _=>N1 (.str z) x
 |_=>false
theorem Pj{x y:V}{u:Value}(r:RelV y u)(f:sW y=true):Ru x u=N1 y x:=by
 cases y with
 |kG=>cases r;rfl
 |bl b=>cases r;rfl
 |int i=>obtain⟨t,rfl⟩:=r;rfl
 |str z=>obtain⟨t,rfl⟩:=r;rfl
 |_=>exact absurd (show false=true from f) aZ
theorem IT{x:V}:∀{xs:List V} {us:List Value},Vals xs us->xs.all sW=true->us.any (Ru x)=xs.any λy=>N1 y x
 |_,_,.nil,_=>rfl
 |y::xs,u::us,.cons r t,f=>by
  rw[bP,aQ]at f
  rw[d7,d7,Pj r f.1,IT t f.2]
theorem Gs{A:Around}{s:Shared}{x:V}{v:Value}(rx:RelV x v)(fx:sW x=true):∀{xs:List V} {us:List Value},Vals xs us->xs.all sW=true->∀u∈us,iQ A s u v (Ru x u)
 |_,_,.nil,_=>λu hu=>by cases hu
 |y::xs,u::us,.cons r t,f=>λu' hu=>by
  rw[bP,aQ]at f
  rcases List.mem_cons.mp hu with rfl|hu
  ·rw[Pj r f.1];exact Mb r rx f.1 fx
  ·exact Gs rx fx t f.2 u' hu
noncomputable def Ry (x:V) (xs:List V):Bool:=xs.any λy=>N1 y x
noncomputable def XY (K:aC) (neg:Bool):R2:=λx y H Q=>∃p xs,y= .ref p/\(lT K H p xs∨LR K H p xs)/\sW x=true/\xs.all sW=true/\Q (.bl (if neg then !Ry x xs else Ry x xs)) H
theorem JL:tW X (compareOp .NotIn) (XY X.K true):=by
 intro pins s σ H x y v u Q I rx ry h
 obtain⟨p,xs,rfl,hq,fx,fs,q⟩:=h
 cases ry
 rcases hq with hq|hq
 ·obtain⟨its,r,pl,hz⟩:=I.list hq
  refine SeqAt.notIn_listAt (Ru x) pl.isList (λw hw=>Gs rx fx r fs w (by simpa using hw)) ⟨.bl _,H,I,rfl,?_⟩
  rw[show its.toArray.any (Ru x)=its.any (Ru x) by simp,IT r fs]
  exact q
 ·obtain⟨its,r,pl,hz⟩:=I.tuple hq
  refine SeqAt.notIn_tupleAt (Ru x) pl (λw hw=>Gs rx fx r fs w (by simpa using hw)) ⟨.bl _,H,I,rfl,?_⟩
  rw[show its.toArray.any (Ru x)=its.any (Ru x) by simp,IT r fs]
  exact q
theorem CL:sT X (.builtin "len") (λxs H Q=>∃p ys,xs=[.ref p]/\(lT X.K H p ys∨LR X.K H p ys)/\Q (.int ys.length) H):=by
 intro pins s σ H xs us Q I r h
 obtain⟨p,ys,rfl,hq,q⟩:=h
 obtain⟨u,rfl,rx⟩:=vals1 r
 cases rx
 have hn:=Gm
 rcases hq with hq|hq
 ·obtain⟨its,r',pl,hz⟩:=I.list hq
  have hlen:=r'.length
  exact Calls.call_len_list pl.isList (by simp only[aX]<;>lia) ⟨.int ys.length,H,I.tok _,⟨s.toks+1,by rw[aX,hlen]⟩,q⟩
 ·obtain⟨its,r',pl,hz⟩:=I.tuple hq
  have hlen:=r'.length
  exact len_tuple pl (by simp only[aX]<;>lia) ⟨.int ys.length,H,I.tok _,⟨s.toks+1,by rw[aX,hlen]⟩,q⟩
theorem IY:sT X (.type "list") (λxs H Q=>∃p ys,xs=[.ref p]/\(lT X.K H p ys∨LR X.K H p ys)/\∀l,H l=none->Q (.ref l) (upd H l (.lst ys))):=by
 intro pins s σ H xs us Q I r h
 obtain⟨p,ys,rfl,hq,q⟩:=h
 obtain⟨u,rfl,rx⟩:=vals1 r
 cases rx
 have fin:∀(its:List Value),Vals ys its->ys.length<=sizeLine->∀(h':Heap) (c':Nat),(∀b o',s.heap.get? b=some o'->h'.get? b=some o')->
   h'.get? s.heap.objs.size=some {cls:= .type "list",dict:=none,data:= .seq its.toArray c',slots:= #[]}->EP X pins σ Q (.ref s.heap.objs.size) {s with heap:=h'}:=λits r' hz h' c' kp e=>
  ⟨.ref s.heap.objs.size,_,I.laid (t':=s.toks) kp (aN _) (show mQ X.prog X.w _ h' _ (.lst ys) from⟨hz,its,c',r',e⟩),rfl,q _ (I.lB.fresh (aN _))⟩
 rcases hq with hq|hq
 ·obtain⟨its,r',pl,hz⟩:=I.list hq
  have hlen:=r'.length
  obtain⟨o,ho,hc,n,hd⟩:=pl.isList
  exact call_list_seq p (.inl rfl) ho hc hd (λh' c' kp e=>fin its r' hz h' c' kp e) (by simp only[aX]<;>lia)
 ·obtain⟨its,r',pl,hz⟩:=I.tuple hq
  have hlen:=r'.length
  obtain⟨o,ho,hc,n,hd⟩:=pl
  exact call_list_seq p (.inr rfl) ho hc hd (λh' c' kp e=>fin its r' hz h' c' kp e) (by simp only[aX]<;>lia)
noncomputable def X0 (K:aC) (T:String) (x:V) (H:Hp):Prop:=match x with
 | .str _=>T="str"
 | .int _=>T="int"
 | .ref p=>(T="list"/\∃xs,lT K H p xs)∨(T="tuple"/\∃o,K.lookup p=some o/\o.cls= .type "tuple"/\o.dict=none)∨
   (T="dict"/\((∃kvs,H p=some (.dK kvs))∨∃kvs,H p=some (.dT kvs)))∨(T="set"/\∃S n,H p=some (.set S n))
 |_=>False
theorem UU{pins:List (Addr×Obj)}{σ:St}{H:Hp}{s:Shared}{T:String}{x:V}{v:Value}(I:Inv X pins σ H s)(r:RelV x v)(ty:X0 X.K T x H):
  s.TypeIs v T/\∀a,v= .ref a->∃ob,s.heap.get? a=some ob/\ob.dict=none:=by
 cases x with
 |str z=>
  obtain⟨t,rfl⟩:=r
  cases (show T="str" from ty)
  exact⟨typeIs_str s z t,λ_ e=>nomatch e⟩
 |int i=>
  obtain⟨t,rfl⟩:=r
  cases (show T="int" from ty)
  exact⟨typeIs_int s i t,λ_ e=>nomatch e⟩
 |ref p=>
  cases r
  rcases ty with ⟨rfl,xs,hq⟩|⟨rfl,o,hk,hc,hd⟩|⟨rfl,hk⟩|⟨rfl,S,n,hk⟩
  ·obtain⟨its,_,pl,_⟩:=I.list hq
   refine⟨pl.isList.typeIs,λa e=> ?_⟩
   cases e
   obtain⟨o,n,e,c,hd,_⟩:=pl
   exact⟨o,e,hd⟩
  ·refine⟨⟨o,I.DR p o hk,hc⟩,λa e=> ?_⟩
   cases e
   exact⟨o,I.DR _ o hk,hd⟩
  ·have z:∃o,s.heap.get? p=some o/\o.ExactDict:=by
    rcases hk with ⟨kvs,hk⟩|⟨kvs,hk⟩
    ·obtain⟨_,_,_,_,o,_,_,e,ex,_⟩:=I.lB p _ hk
     exact⟨o,e,ex⟩
    ·obtain⟨_,_,_,_,o,_,_,e,ex,_⟩:=I.lB p _ hk
     exact⟨o,e,ex⟩
   obtain⟨o,e,ex⟩:=z
   refine⟨⟨o,e,ex.1⟩,λa e2=> ?_⟩
   cases e2
   exact⟨o,e,ex.2.1⟩
  ·obtain⟨o,_,_,_,e,ex,_⟩:=I.lB p _ hk
   refine⟨⟨o,e,ex.1⟩,λa e2=> ?_⟩
   cases e2
   exact⟨o,e,ex.2.1⟩
 |_=>exact dg ty
variable{o e:Expr}{es:List Expr}{to:TE}{t:TA}{name:Str}{apos cpos:Pos}{T id:String}{r:V->List V->Hp->VK->Prop}
end
end L2
namespace L2
open PySem PySem.Spec PyProof.Rows
noncomputable def WA (X:Cx) (id:String) (r:V->List V->Hp->VK->Prop):Prop:=
 ∀(pins:List (Addr×Obj)) (s:Shared) (σ:St) (H:Hp) (x:V) (xs:List V) (v:Value) (us:List Value) (Q:VK),Inv X pins σ H s->RelV x v->Vals xs us->r x xs H Q->
  wpAny (model X.prog X.w) X.A (call (.builtin id) (v::us)) (EP X pins σ Q) X.xe s
theorem Vals.one:∀{x:V} {us:List Value},Vals [x] us->∃u,us=[u]/\RelV x u
 |_,_,.cons r .nil=>⟨_,rfl,r⟩
theorem Vals.two:∀{x y:V} {us:List Value},Vals [x,y] us->∃u v,us=[u,v]/\RelV x u/\RelV y v
 |_,_,_,.cons r (.cons q .nil)=>⟨_,_,rfl,r,q⟩
theorem Vals.rep{xs:List V}{us:List Value}(h:Vals xs us):∀k:Nat,Vals (ah k xs).flatten (ah k us).flatten
 |0=> .nil
 |k+1=>by
  rw[cG,cG,dJ,dJ]
  exact Vals.append h (Vals.rep h k)
theorem foldl_rep(its:List Value):∀(k:Nat) (acc:List Value),
  iM (λx1 x2=>x1++x2) acc.toArray (ah k its.toArray)=(acc++(ah k its).flatten).toArray
 |0,acc=>by simp
 |k+1,acc=>by
  have e:acc.toArray++its.toArray=(acc++its).toArray:=by simp
  have e2:(acc++its)++(ah k its).flatten=acc++(ah (k+1) its).flatten:=by
   rw[cG,dJ,eN]
  rw[←e2,←foldl_rep its k (acc++its),←e,cG,List.foldl_cons]
section
variable{X:Cx}{pins:List (Addr×Obj)}{σ:St}{H:Hp}{s:Shared}{l b:Addr}{xs ys zs:List V}
theorem Inv.VX{its its':List Value}{n:Nat}{f:Array Value->Array Value}{t':Nat}(I:Inv X pins σ H s)(hH:H l=some (.lst xs))
  (e:s.heap.get? l=some {cls:= .type "list",data:= .seq its.toArray n}) (hf:f its.toArray=its'.toArray) (hv:Vals ys its') (hz:ys.length<=sizeLine):
  Inv X pins σ (upd H l (.lst ys)) {s with heap:=s.heap.update l (c9 f),toks:=t'}:=by
 have q:=PySem.IsL.update e f
 rw[hf]at q
 refine I.write (x:=l) (e:=l) (by rw[hH];exact trivial) (.inl rfl) (λb' u hb hu=>(eQ s.heap (c9 f) (aE hb)).trans hu) ⟨_,q⟩ ?_
 exact⟨hz,its',_,hv,q⟩
theorem Inv.VW{its:List Value}{t':Nat}(I:Inv X pins σ H s)(hv:Vals ys its)(hz:ys.length<=sizeLine):
  Inv X pins σ (upd H s.heap.objs.size (.lst ys)) {s with heap:=s.heap.push {cls:= .type "list",data:= .seq its.toArray},toks:=t'}:=
 I.laid (λ_ _ q=>aO _ q) (aN _) ⟨hz,its,0,hv,bT _ rfl⟩
theorem Inv.fresh(I:Inv X pins σ H s):H s.heap.objs.size=none:=I.lB.fresh (aN _)
theorem Inv.Oj(I:Inv X pins σ H s)(hH:H l=some (.lst xs)):xs.length<=sizeLine/\∃(its:List Value) (n:Nat),Vals xs its/\xs.length=its.length/\s.heap.get? l=some {cls:= .type "list",data:= .seq its.toArray n}:=by
 obtain⟨z,its,n,r,e⟩:=I.lB l _ hH
 exact⟨z,its,n,r,r.length,e⟩
theorem Lh{n:Nat}(h:n<=sizeLine):dN n=false:=by
 unfold dN
 exact decide_eq_false (by lia)
end
section
variable{X:Cx}
noncomputable def Si:V->List V->Hp->VK->Prop:=λx vs H Q=>∃l xs y,x= .ref l/\vs=[y]/\H l=some (.lst xs)/\xs.length<sizeLine/\Q .kG (upd H l (.lst (xs++[y])))
theorem Ol:WA X "list.append" Si:=by
 intro pins s σ H x vs v us Q I rx rv h
 obtain⟨l,xs,y,rfl,rfl,hH,hz,q⟩:=h
 cases rx
 obtain⟨u,rfl,ru⟩:=rv.one
 obtain⟨z,its,n,r,hl,e⟩:=I.Oj hH
 refine call_meets F.slot_list_append ⟨_,e,rfl⟩ F.entry_list_append (F.args_list_append_2 _ _) (PySem.list_append l its.toArray n u (by rw[aX];lia)) ⟨e,?_⟩
 refine⟨.kG,_,I.VX (its':=its++[u]) hH e (by simp) (r.append (.cons ru .nil)) ?_,rfl,q⟩
 rw[aY,List.length_singleton]
 lia
noncomputable def Sj:V->List V->Hp->VK->Prop:=λx vs H Q=>∃l b xs zs,x= .ref l/\vs=[.ref b]/\H l=some (.lst xs)/\H b=some (.lst zs)/\xs.length+zs.length<=sizeLine/\Q .kG (upd H l (.lst (xs++zs)))
theorem Om:WA X "list.extend" Sj:=by
 intro pins s σ H x vs v us Q I rx rv h
 obtain⟨l,b,xs,zs,rfl,rfl,hH,hB,hz,q⟩:=h
 cases rx
 obtain⟨u,rfl,ru⟩:=rv.one
 cases ru
 obtain⟨z,its,n,r,hl,e⟩:=I.Oj hH
 obtain⟨z2,its2,n2,r2,hl2,e2⟩:=I.Oj hB
 have hsz:its.toArray.size+its2.toArray.size<=sizeLine:=by rw[aX,aX];lia
 have hlong:¬(!its.toArray.isEmpty&&dN (its.toArray.size+its2.toArray.size))=true:=by
  rw[Lh hsz,Bool.and_false]
  exact aZ
 refine call_meets F.slot_list_extend ⟨_,e,rfl⟩ F.entry_list_extend (F.args_list_extend_2 _ _)
  (AutoSeq1.list_extend_list_list_0 l its.toArray n b its2.toArray n2 hlong (by rw[aX];lia) (by lia)) ⟨e,e2,?_⟩
 refine⟨.kG,_,I.VX (its':=its++its2) hH e (by simp) (r.append r2) ?_,rfl,q⟩
 rw[aY]
 omega
noncomputable def Xo:R2:=λx y H Q=>∃l b xs zs,x= .ref l/\y= .ref b/\H l=some (.lst xs)/\H b=some (.lst zs)/\xs.length+zs.length<=sizeLine/\∀p,H p=none->Q (.ref p) (upd H p (.lst (xs++zs)))
theorem Ue:tW X (binaryOp .Add) Xo:=by
 intro pins s σ H x y v u Q I rx ry h
 obtain⟨l,b,xs,zs,rfl,rfl,hH,hB,hz,q⟩:=h
 cases rx
 cases ry
 obtain⟨z,its,n,r,hl,e⟩:=I.Oj hH
 obtain⟨z2,its2,n2,r2,hl2,e2⟩:=I.Oj hB
 refine PySem.P.add_list e e2 ?_ (by rw[aX,aX];lia)
 have ea:its.toArray++its2.toArray=(its++its2).toArray:=by simp
 rw[ea]
 exact⟨.ref _,_,I.VW (t':=s.toks) (r.append r2) (by rw[aY];omega),rfl,q _ I.fresh⟩
noncomputable def Xr:R2:=λx y H Q=>∃l k xs,x= .ref l/\y= .int k/\H l=some (.lst xs)/\ -(2^63)<=k/\k<2^63/\xs.length*k.toNat<=sizeLine/\
 ∀p,H p=none->Q (.ref p) (upd H p (.lst (ah k.toNat xs).flatten))
theorem len_rep{α:Type}(xs:List α)(k:Nat):(ah k xs).flatten.length=k*xs.length:=by
 induction k with
 |zero=>simp
 |succ k ih=>rw[cG,dJ,aY,ih,Nat.succ_mul,Nat.add_comm]
theorem Uk:tW X (binaryOp .Mult) Xr:=by
 intro pins s σ H x y v u Q I rx ry h
 obtain⟨l,k,xs,rfl,rfl,hH,h1,h2,hz,q⟩:=h
 cases rx
 obtain⟨t,rfl⟩:=ry
 obtain⟨z,its,n,r,hl,e⟩:=I.Oj hH
 have hlen:its.toArray.size*k.toNat<=sizeLine:=by rw[aX,←hl];exact hz
 have hcap:¬its.toArray.size*k.toNat>(2^63-1)/8:=by
  have:(sizeLine:Nat)<=(2^63-1)/8:=by decide
  lia
 have hfit:¬(!Builtin.List.listFitsIndex k)=true:=by
  rw[fitsIndex_both h1 h2]
  exact aZ
 have hlong:¬dN (its.toArray.size*k.toNat)=true:=by
  rw[Lh hlen]
  exact aZ
 have hnew:iM (λx1 x2=>x1++x2) #[] (ah (if its.toArray.isEmpty=true then 0 else k.toNat) its.toArray)=(ah k.toNat its).flatten.toArray:=by
  have f0:∀m:Nat,iM (λx1 x2=>x1++x2) #[] (ah m its.toArray)=(ah m its).flatten.toArray:=λm=>by
   have:=foldl_rep its m []
   rw[bw]at this
   exact this
  rw[f0]
  cases its with
  |nil=>simp
  |cons a r'=>rw[if_neg (by simp)]
 refine wpAny_binaryOp_repeat_ref (T:="list") (U:="int") (by decide) ⟨_,e,rfl⟩ (λs'=>typeIs_int s' k t) noFill_list_mul F.fills_int_mul F.slot_int_rmul repeat_list F.slot_int_index.lookup
  (call_meets F.slot_int_rmul (typeIs_int s k t) F.entry_int_rmul (F.args_int_rmul_2 _ _) (int___rmul___int_list k t l its.toArray n)
   ⟨e,rfl,⟨_,e,rfl⟩,call_meets F.slot_list_mul ⟨_,e,rfl⟩ F.entry_list_mul (F.args_list_mul_2 _ _) (AutoListH.list___mul___list_int_3 l its.toArray n k t hfit hcap hlong) ⟨e,?_⟩⟩)
 rw[hnew]
 exact⟨.ref _,_,I.VW (t':=s.toks) (r.rep k.toNat) (by rw[len_rep,Nat.mul_comm];exact hz),rfl,q _ I.fresh⟩
end
section
variable{prog:Program}{w:World}{A:Around}{E:Value->Shared->Prop}{s:Shared}
set_option maxRecDepth 100000 in
end
section
variable{X:Cx}
end
end L2
namespace L2
open PySem PySem.Spec PyProof.Rows
section
variable{κ:Type} [DecidableEq κ]
noncomputable def vH (kvs:List (κ×V)) (k:κ):Option V:=(kvs.find? λkv=>decide (kv.1=k)).map (·.2)
noncomputable def putK (kvs:List (κ×V)) (k:κ) (v:V):List (κ×V):=
 if (kvs.any λkv=>decide (kv.1=k))=true then kvs.map (λkv=>if kv.1=k then(kv.1,v) else kv) else kvs++[(k,v)]
noncomputable def F1 (kvs:List (κ×V)) (k:κ):List (κ×V):=kvs.filter λkv=>decide (kv.1≠k)
theorem DN{p:κ×V}{r:List (κ×V)}{k:κ}(e:p.1=k):vH (p::r) k=some p.2:=by simp[vH,dS,e]
theorem DM{p:κ×V}{r:List (κ×V)}{k:κ}(e:¬p.1=k):vH (p::r) k=vH r k:=by simp[vH,dS,e]
theorem LP(k:κ):∀kvs:List (κ×V),(kvs.any λkv=>decide (kv.1=k))=(vH kvs k).isSome
 | []=>rfl
 |p::r=>by
  rw[d7]
  by_cases e:p.1=k
  ·simp only[DN e,decide_eq_true e,Bool.true_or,Option.isSome_some]
  ·rw[DM e,decide_eq_false e,Bool.false_or];exact LP k r
theorem Au(kvs:List (κ×V))(k:κ)(v:V):(putK kvs k v).length<=kvs.length+1:=by
 unfold putK
 split
 ·rw[aj];lia
 ·rw[aY,ai,aq];lia
theorem zT.D8{o:Option V}{u:Option Value}(r:zT o u):o.isSome=u.isSome:=by
 cases o with
 |none=>cases u with
  |none=>rfl
  |some _=>exact(show False from r).elim
 |some _=>cases u with
  |none=>exact(show False from r).elim
  |some _=>rfl
theorem KV.val{kvs:List (κ×V)}{vs:List (κ×Value)}(r:KV kvs vs)(k:κ):zT (vH kvs k) (valueAt vs k):=by
 unfold KV at r
 induction r with
 |nil=>exact aF
 | @cons p q ps qs h t ih=>
  obtain⟨h1,h2⟩:=h
  by_cases e:p.1=k
  ·have e':q.1=k:=h1.symm.trans e
   have b:valueAt (q::qs) k=some q.2:=by simp[valueAt,dS,e']
   rw[DN e,b];exact h2
  ·have e':¬q.1=k:=λz=>e (h1.trans z)
   have b:valueAt (q::qs) k=valueAt qs k:=by simp[valueAt,dS,e']
   rw[DM e,b];exact ih
theorem KV.any{kvs:List (κ×V)}{vs:List (κ×Value)}(r:KV kvs vs)(k:κ):(kvs.any λkv=>decide (kv.1=k))=vs.any λkv=>decide (kv.1=k):=by
 unfold KV at r
 induction r with
 |nil=>rfl
 |cons h t ih=>rw[d7,d7,ih,h.1]
theorem KV.UJ{kvs:List (κ×V)}{vs:List (κ×Value)}(r:KV kvs vs)(k:κ){y:V}{u:Value}(ry:RelV y u):
  KV (kvs.map λkv=>if kv.1=k then(kv.1,y) else kv) (vs.map λkv=>if kv.1=k then(kv.1,u) else kv):=by
 unfold KV at r⊢
 induction r with
 |nil=>exact .nil
 | @cons p q ps qs h t ih=>
  rw[ao,ao]
  refine .cons ?_ ih
  obtain⟨h1,h2⟩:=h
  by_cases e:p.1=k
  ·rw[if_pos e,if_pos (h1.symm.trans e)];exact⟨h1,ry⟩
  ·rw[if_neg e,if_neg (λz=>e (h1.trans z))];exact⟨h1,h2⟩
theorem KV.put{kvs:List (κ×V)}{vs:List (κ×Value)}(r:KV kvs vs)(k:κ){y:V}{u:Value}(ry:RelV y u):KV (putK kvs k y) (stored vs k u):=by
 unfold putK stored
 rw[r.any k]
 by_cases e:(vs.any λkv=>decide (kv.1=k))=true
 ·rw[if_pos e,if_pos e];exact r.UJ k ry
 ·rw[if_neg e,if_neg e];exact Paired.snoc r ⟨rfl,ry⟩
theorem KV.drop{kvs:List (κ×V)}{vs:List (κ×Value)}(r:KV kvs vs)(k:κ):KV (F1 kvs k) (without vs k):=by
 unfold KV at r⊢
 unfold F1 without
 induction r with
 |nil=>exact .nil
 | @cons p q ps qs h t ih=>
  obtain⟨h1,h2⟩:=h
  rw[iE,iE]
  by_cases e:p.1=k
  ·have a:¬decide (p.1≠k)=true:=by simp[e]
   have b:¬decide (q.1≠k)=true:=by simp[h1.symm.trans e]
   rw[if_neg a,if_neg b];exact ih
  ·have e':¬q.1=k:=λz=>e (h1.trans z)
   have a:decide (p.1≠k)=true:=by simp[e]
   have b:decide (q.1≠k)=true:=by simp[e']
   rw[if_pos a,if_pos b];exact .cons ⟨h1,h2⟩ ih
theorem KV.keys{kvs:List (κ×V)}{vs:List (κ×Value)}(r:KV kvs vs):kvs.map (·.1)=vs.map (·.1):=by
 unfold KV at r
 induction r with
 |nil=>rfl
 |cons h t ih=>rw[ao,ao,ih,h.1]
theorem KV.length{kvs:List (κ×V)}{vs:List (κ×Value)}(r:KV kvs vs):kvs.length=vs.length:=fN r
theorem Ph(kvs:List (κ×V))(k:κ):(F1 kvs k).length<=kvs.length:=cU _ _
end
theorem Iv{P:Program}{w:World}{k:Key}{u:Value}(r:RelV (kV k) u):(mX P w).is k u=true:=by
 cases k with
 |inl i=>obtain⟨t,e⟩:=(show∃t,u=dA i t from r);subst e;exact Ld P w i t
 |inr x=>obtain⟨t,e⟩:=(show∃t,u=eX x t from r);subst e;exact Le P w x t
theorem Ir{P:Program}{w:World}:∀{ks:List Key} {us:List Value},Vals (ks.map kV) us->ItemsAre (mX P w) ks us
 | [],_,r=>by rw[aB]at r;cases r;exact .nil
 |k::ks,_,r=>by
  rw[ao]at r
  cases r with
  |cons h t=>exact .cons (Iv h) (Ir t)
noncomputable abbrev KT (H:Hp):List (List Key×V)->List (List Key×Addr×Value)->Prop:=Paired λp q=>p.1=q.1/\H q.2.1=some (.tup (p.1.map kV))/\RelV p.2 q.2.2
theorem KT.val{H:Hp}{kvs:List (List Key×V)}{xs:List (List Key×Addr×Value)}(r:KT H kvs xs)(k:List Key):zT (vH kvs k) ((atKey xs k).map (·.2)):=by
 induction r with
 |nil=>exact aF
 | @cons p q ps qs h t ih=>
  obtain⟨h1,_,h2⟩:=h
  by_cases e:p.1=k
  ·have e':q.1=k:=h1.symm.trans e
   have b:atKey (q::qs) k=some q.2:=by simp[atKey,dS,e']
   rw[DN e,b];exact h2
  ·have e':¬q.1=k:=λz=>e (h1.trans z)
   have b:atKey (q::qs) k=atKey qs k:=by simp[atKey,dS,e']
   rw[DM e,b];exact ih
theorem KT.UJ{H:Hp}{kvs:List (List Key×V)}{xs:List (List Key×Addr×Value)}(r:KT H kvs xs)(k:List Key){y:V}{u:Value}(ry:RelV y u):
  KT H (kvs.map λkv=>if kv.1=k then(kv.1,y) else kv) (xs.map (putAt k u)):=by
 induction r with
 |nil=>exact .nil
 | @cons p q ps qs h t ih=>
  rw[ao,ao]
  refine .cons ?_ ih
  obtain⟨h1,h2,h3⟩:=h
  unfold putAt
  by_cases e:p.1=k
  ·rw[if_pos e,if_pos (h1.symm.trans e)];exact⟨h1,h2,ry⟩
  ·rw[if_neg e,if_neg (λz=>e (h1.trans z))];exact⟨h1,h2,h3⟩
theorem KT.put{H:Hp}{kvs:List (List Key×V)}{xs:List (List Key×Addr×Value)}(r:KT H kvs xs)(k:List Key){b:Addr}{y:V}{u:Value}(hb:H b=some (.tup (k.map kV)))(ry:RelV y u):
  KT H (putK kvs k y) (storedH xs k b u):=by
 have e:(kvs.any λkv=>decide (kv.1=k))=(atKey xs k).isSome:=by
  rw[LP,(r.val k).D8,iu]
 unfold putK storedH
 rw[e]
 by_cases q:(atKey xs k).isSome=true
 ·rw[if_pos q,if_pos q];exact r.UJ k ry
 ·rw[if_neg q,if_neg q];exact Paired.snoc r ⟨rfl,hb,ry⟩
theorem KT.keeps{H H':Hp}{kvs:List (List Key×V)}{xs:List (List Key×Addr×Value)}(r:KT H kvs xs)(ht:∀b ys,H b=some (.tup ys)->H' b=some (.tup ys)):KT H' kvs xs:=
 Paired.TZ r λ_ _ z=>⟨z.1,ht _ _ z.2.1,z.2.2⟩
section
variable{P:Program}{w:World}{H:Hp}{h:Heap}{a:Addr}
theorem SW{u:HO}(ok:zQ P w H h)(e:Rd H a u):mQ P w H h a u:=e.ok ok
theorem KR{kvs:List (Key×V)}(ok:zQ P w H h)(e:Rd H a (.dK kvs)):kvs.length<=sizeLine/\(a==sysModules)=false/\∃vs,KV kvs vs/\h.DictOf (mX P w) a vs:=
 show mQ P w H h a (.dK kvs) from SW ok e
theorem M8{kvs:List (Key×V)}(ok:zQ P w H h)(e:H a=some (.dK kvs)):kvs.length<=sizeLine/\(a==sysModules)=false/\∃vs,KV kvs vs/\h.DictOf (mX P w) a vs:=KR ok (.inl e)
theorem Ju{ks:List Key}(ok:zQ P w H h)(e:H a=some (.tup (ks.map kV))):(tupleKind (mX P w)).is h ks a:=by
 obtain⟨_,its,r,o,h1,h2,n,h3⟩:=(show mQ P w H h a (.tup (ks.map kV)) from ok a _ e)
 exact⟨o,its.toArray,n,h1,h2,h3,by simpa using Ir r⟩
theorem KS{kvs:List (List Key×V)}(ok:zQ P w H h)(e:Rd H a (.dT kvs)):kvs.length<=sizeLine/\(a==sysModules)=false/\
  ∃xs,KT H kvs xs/\h.DictOfH (tupleKind (mX P w)) a xs:=by
 obtain⟨z,y,xs,r,o,es,ep,h1,h2,h3,h4,h5⟩:=(show mQ P w H h a (.dT kvs) from SW ok e)
 refine⟨z,y,xs,r,o,es,ep,h1,h2,h3,h4,λx hx=> ?_,h5⟩
 have all:∀{l:List (List Key×V)} {m:List (List Key×Addr×Value)},KT H l m->∀x∈m,(tupleKind (mX P w)).is h x.1 x.2.1:=by
  intro l m q
  induction q with
  |nil=>intro x hx;exact nomatch hx
  | @cons p q ps qs hq t ih=>
   intro x hx
   rcases List.mem_cons.mp hx with e|hx
   ·subst e
    exact Ju ok (by rw[←hq.1];exact hq.2.1)
   ·exact ih x hx
 exact all r x hx
theorem VP{kvs:List (List Key×V)}(ok:zQ P w H h)(e:H a=some (.dT kvs)):kvs.length<=sizeLine/\(a==sysModules)=false/\
  ∃xs,KT H kvs xs/\h.DictOfH (tupleKind (mX P w)) a xs:=KS ok (.inl e)
end
noncomputable def Ks (H:Hp) (a:Addr) (y:V) (r:Option V):Prop:=
 (∃kvs k,Rd H a (.dK kvs)/\y=kV k/\r=vH kvs k)∨∃kvs k b,Rd H a (.dT kvs)/\y= .ref b/\H b=some (.tup (k.map kV))/\r=vH kvs k
noncomputable def QX (H:Hp) (a:Addr) (y v:V) (H':Hp):Prop:=
 (∃kvs k,H a=some (.dK kvs)/\y=kV k/\kvs.length<sizeLine/\H'=upd H a (.dK (putK kvs k v)))∨
 ∃kvs k b,H a=some (.dT kvs)/\y= .ref b/\H b=some (.tup (k.map kV))/\kvs.length<sizeLine/\H'=upd H a (.dT (putK kvs k v))
theorem Ks.k{H:Hp}{a:Addr}{kvs:List (Key×V)}{k:Key}(e:H a=some (.dK kvs)):Ks H a (kV k) (vH kvs k):= .inl ⟨kvs,k,.inl e,rfl,rfl⟩
theorem QX.k{H:Hp}{a:Addr}{kvs:List (Key×V)}{k:Key}{v:V}(e:H a=some (.dK kvs))(hl:kvs.length<sizeLine):QX H a (kV k) v (upd H a (.dK (putK kvs k v))):= .inl ⟨kvs,k,e,rfl,hl,rfl⟩
section
variable{X:Cx}{pins:List (Addr×Obj)}{σ:St}{H:Hp}{s:Shared}{a:Addr}{y v:V}{u r:Value}{o:Option V}{A:Around}{E:Value->Shared->Prop}
theorem Inv.big(I:Inv X pins σ H s):sysModules<s.heap.objs.size:=by
 have h:mainGlobals<s.heap.objs.size:=(I.mod.glob.keeps I.bk).lt
 exact Nat.lt_trans (by decide) h
theorem NZ{Q:Value->Shared->Prop}(hu:A.units+1<cLine)(I:Inv X pins σ H s)(g:Ks H a y (some v))(ry:RelV y u)(h:∀w' s',Inv X pins σ H s'->RelV v w'->Q w' s'):
  wpAny (model X.prog X.w) A (getItem (.ref a) u) Q E s:=by
 rcases g with ⟨kvs,k,e,ey,l⟩|⟨kvs,k,b,e,ey,eb,l⟩
 ·subst ey
  obtain⟨z,hd,vs,rel,dd⟩:=KR I.lB e
  obtain⟨w',hw,rw'⟩:=zT.some_of (v:=v) (o:=valueAt vs k) (by rw[l];exact rel.val k)
  exact wpAny_getItem_of (Iv ry) dd.mapOf hw (h w' _ (I.tok _) rw')
 ·subst ey
  cases (show u=bj b from ry)
  obtain⟨z,hd,xs,rel,dd⟩:=KS I.lB e
  obtain⟨w',hw,rw'⟩:=zT.some_of (v:=v) (o:=(atKey xs k).map (·.2)) (by rw[l];exact rel.val k)
  obtain⟨p,hp,hp2⟩:=Option.map_eq_some_iff.mp hw
  refine wpAny_getItem_heap (tupleKind_room_in1 hu) (Ju I.lB eb) dd hp ?_
  rw[hp2]
  exact h w' _ (I.tok _) rw'
theorem W3{Q:Value->Shared->Prop}(hu:A.units+1<cLine)(I:Inv X pins σ H s)(g:Ks H a y o)(ry:RelV y u)(h:∀s',Inv X pins σ H s'->Q (.bool o.isSome) s'):
  wpAny (model X.prog X.w) A (compareOp .In u (.ref a)) Q E s:=by
 rcases g with ⟨kvs,k,e,ey,l⟩|⟨kvs,k,b,e,ey,eb,l⟩
 ·subst ey
  obtain⟨z,hd,vs,rel,dd⟩:=KR I.lB e
  refine wpAny_in_of (Iv ry) hd dd.mapOf ?_
  rw[←(rel.val k).D8,←l]
  exact h _ (I.tok _)
 ·subst ey
  cases (show u=bj b from ry)
  obtain⟨z,hd,xs,rel,dd⟩:=KS I.lB e
  refine wpAny_in_heap (tupleKind_room_in1 hu) (Ju I.lB eb) hd dd ?_
  have q:=(rel.val k).D8
  rw[iu]at q
  rw[←q,←l]
  exact h _ (I.tok _)
theorem Fi{h':Heap}{t':Nat}{ob:HO}(I:Inv X pins σ H s)(mu:Ve (H a))(hs:eJ a s.heap h')(he:∃q,h'.get? a=some q)(new:mQ X.prog X.w (upd H a ob) h' a ob):
  Inv X pins σ (upd H a ob) {s with heap:=h',toks:=t'}:=
 I.write (x:=a) (e:=a) mu (.inl rfl) (λb q hb z=>(hs.2 b hb).trans z) he new
theorem Ma{P:Program}{w:World}{H':Hp}{h':Heap}{kvs:List (Key×V)}{vs:List (Key×Value)}(z:kvs.length<=sizeLine)(hd:(a==sysModules)=false)(rel:KV kvs vs)(dd:h'.DictOf (mX P w) a vs):
  mQ P w H' h' a (.dK kvs):=⟨z,hd,vs,rel,dd⟩
theorem N0{H':Hp}{Q:Unit->Shared->Prop}(hu:A.units+1<cLine)(I:Inv X pins σ H s)(g:QX H a y v H')(ry:RelV y u)(rv:RelV v r)(h:∀s',Inv X pins σ H' s'->Q () s'):
  wpAny (model X.prog X.w) A (setItem (.ref a) u r) Q E s:=by
 rcases g with ⟨kvs,k,e,ey,l,eH⟩|⟨kvs,k,b,e,ey,eb,l,eH⟩
 ·subst ey eH
  obtain⟨z,hd,vs,rel,dd⟩:=M8 I.lB e
  have hz:vs.length<=sizeLine:=by rw[←rel.length];exact z
  have hl:(putK kvs k v).length<=sizeLine:=by have:=Au kvs k v;lia
  refine wpAny_setItem_pairs (hsz:=hz) (Iv ry) dd λh' dd' hs=>h _ ?_
  have he:∃q,h'.get? a=some q:=let ⟨q,_,_,hq,_⟩:=dd';⟨q,hq⟩
  exact Fi I (by rw[e];exact aF) hs he (Ma hl hd (rel.put k rv) dd')
 ·subst ey eH
  cases (show u=bj b from ry)
  obtain⟨z,hd,xs,rel,dd⟩:=VP I.lB e
  have hz:xs.length<=sizeLine:=by rw[←fN rel];exact z
  have hl:(putK kvs k v).length<=sizeLine:=by have:=Au kvs k v;lia
  refine wpAny_setItem_heap (hsz:=hz) (tupleKind_room_in1 hu) (Ju I.lB eb) dd λh' dd' hs=>h _ ?_
  obtain⟨q,es,ep,hq,h2,h3,h4,_,h5⟩:=dd'
  refine Fi I (by rw[e];exact aF) hs ⟨q,hq⟩ ⟨hl,hd,_,(rel.put k eb rv).keeps λc ys ec=> ?_,q,es,ep,hq,h2,h3,h4,h5⟩
  rw[i_ (V4 ec e (λz=>nomatch z))]
  exact ec
end
section
variable{X:Cx}{pins:List (Addr×Obj)}{σ:St}{H:Hp}{s:Shared}{a:Addr}{kvs:List (Key×V)}{k:Key}{u:Value}{A:Around}{E:Value->Shared->Prop}
theorem VN{v:V}{more:List Value}{Q:Value->Shared->Prop}(I:Inv X pins σ H s)(e:H a=some (.dK kvs))(ry:RelV (kV k) u)(l:vH kvs k=some v)(hm:more=[]∨∃x,more=[x])
  (h:∀w' s',Inv X pins σ (upd H a (.dK (F1 kvs k))) s'->RelV v w'->Q w' s'):wpAny (model X.prog X.w) A (call (.builtin "dict.pop") (.ref a::u::more)) Q E s:=by
 obtain⟨z,hd,vs,rel,dd⟩:=M8 I.lB e
 obtain⟨w',hw,rw'⟩:=zT.some_of (v:=v) (o:=valueAt vs k) (by rw[←l];exact rel.val k)
 have hp:(keyPart u).isSome=true:=by
  cases k with
  |inl i=>obtain⟨t,q⟩:=(show∃t,u=dA i t from ry);subst q;rfl
  |inr x=>obtain⟨t,q⟩:=(show∃t,u=eX x t from ry);subst q;rfl
 have ha:argsOk "dict.pop" ⟨.ref a::u::more,[]⟩:=by
  rcases hm with q|⟨x,q⟩
  ·subst q;exact PySem.F.args_dict_pop_2 _ _
  ·subst q;exact PySem.F.args_dict_pop_3 _ _ _
 refine call_meetsIn gH dd.typeIs PySem.F.entry_dict_pop ha (meets_dict_pop_there (mX X.prog X.w) a (Iv ry) more hm hp)
  ⟨vs,w',dd,by rw[←rel.length];exact z,hw,λh' dd' hs=>h w' _ ?_ rw'⟩
 have he:∃q,h'.get? a=some q:=let ⟨q,_,_,hq,_⟩:=dd';⟨q,hq⟩
 exact Fi I (by rw[e];exact aF) hs he (Ma (aW (Ph kvs k) z) hd (rel.drop k) dd')
end
noncomputable def S6 (i:Expr):Prop:=∀ov iv,subscripted i false ov iv=operate [ov,iv] (getItem ov iv)
theorem Sw{prog:Program}{w:World}{A:Around}{E:Value->Shared->Prop}{s:Shared}{env:Env}{value slice:Expr}{pos:Pos}{T id:String}{Q:Value->Shared->Prop}
  (hl:typeLookup (.type T) "__getitem__"=pure (some (.builtin id))) (hs:S6 slice)
  (h:wpAny (model prog w) A (eval value env) (λo s₁=>wpAny (model prog w) A (eval slice env) (λi s₂=>s₂.TypeIs o T/\wpAny (model prog w) A (getItem o i) Q E s₂) E s₁) E s):
  wpAny (model prog w) A (eval (.Subscript value slice pos) env) Q E s:=by
 refine Subscript_ (wpAny_mono h (λo s₁ h₁=>wpAny_mono h₁ (λi s₂ h₂=> ?_) λ_ _ x=>x) λ_ _ x=>x)
 obtain⟨hT,h₂⟩:=h₂
 unfold subscriptTail
 refine wpAny_bind ?_
 rw[getitemInPython_of_ne hT.not_modules]
 refine wpAny_bind (wpAny_specialOf hT hl ?_)
 have fin:wpAny (model prog w) A (subscripted slice false o i) (λr s₃=>wpAny (model prog w) A (letTemporaryGo value o r>>=λ_=>pure r) Q E s₃) E s₂:=by
  rw[hs o i]
  exact wpAny_operating (wpAny_mono h₂ (λr s₃ h₃=>wpAny_bind (wpAny_letTemporaryGo (wpAny_pure h₃))) λ_ _ x=>x)
 first
  |exact wpAny_pure (wpAny_bind fin)
  |exact wpAny_bind (wpAny_pure (wpAny_bind fin))
  |exact wpAny_bind fin
theorem KP{X:Cx}{pins:List (Addr×Obj)}{σ:St}{H:Hp}{s:Shared}{a:Addr}{y:V}{o:Option V}(I:Inv X pins σ H s)(g:Ks H a y o):s.TypeIs (.ref a) "dict":=by
 rcases g with ⟨kvs,k,e,_,_⟩|⟨kvs,k,b,e,_,_,_⟩
 ·obtain⟨_,_,vs,_,dd⟩:=KR I.lB e
  exact dd.typeIs
 ·obtain⟨_,_,xs,_,dd⟩:=KS I.lB e
  exact dd.typeIs
section
variable{X:Cx}{o i e value:Expr}{pos pos' tpos:Pos}{td ty tv:TE}
end
theorem KQ{P:Program}{w:World}{H:Hp}(h:Heap)(hb:sysModules<h.objs.size):mQ P w H (h.push {cls:= .type "dict",data:= .dict #[]}) h.objs.size (.dK []):=
 ⟨b7 _,beq_eq_false_iff_ne.mpr (aE (bh hb)),[],.nil,Heap.DictOf.new h⟩
noncomputable def G9:TE:=λ_ H Q=>∀p,H p=none->Q (.ref p) (upd H p (.dK []))
section
variable{X:Cx}{pos:Pos}
theorem Qd:PE X (.Dict [] [] pos) G9:=λpins s σ H Q I h=>
 wpAny_Dict_empty ⟨.ref s.heap.objs.size,_,I.laid (a:=s.heap.objs.size) (o:= .dK []) (t':=s.toks) (λ_ _ q=>aO _ q) (aN _) (KQ s.heap I.big),rfl,h _ (I.lB.fresh (aN _))⟩
end
noncomputable def Ko:List (TE×TE)->St->Hp->(List (V×V)->Hp->Prop)->Prop
 | [],_,H,Q=>Q [] H
 |(tk,tv)::r,σ,H,Q=>tk σ H λx H1=>tv σ H1 λy H2=>Ko r σ H2 λps H3=>Q ((x,y)::ps) H3
noncomputable abbrev VV:List (V×V)->List (Value×Value)->Prop:=Paired λp q=>RelV p.1 q.1/\RelV p.2 q.2
noncomputable def Vg (X:Cx) (pos:Pos) (keys:List (Option Expr)) (values:List Expr) (trs:List (TE×TE)):Prop:=
 ∀(pins:List (Addr×Obj)) (s:Shared) (σ:St) (H:Hp) (Q:List (V×V)->Hp->Prop),Inv X pins σ H s->Ko trs σ H Q->
  wpAny (model X.prog X.w) X.A (evalPairs (pairTrees keys values X.env pos)) (λvs s'=>∃ps H',Inv X pins σ H' s'/\VV ps vs/\Q ps H') X.xe s
theorem R_{X:Cx}{pos:Pos}:Vg X pos [] [] []:=λpins s σ H Q I h=>pairTrees_nil_walk ⟨[],H,I,.nil,h⟩
theorem Qo{X:Cx}{pos:Pos}{k v:Expr}{ks:List (Option Expr)}{vs:List Expr}{tk tv:TE}{trs:List (TE×TE)}(hk:PE X k tk)(hv:PE X v tv)(hr:Vg X pos ks vs trs):
  Vg X pos (some k::ks) (v::vs) ((tk,tv)::trs):=λpins s σ H Q I h=>
 pairTrees_cons_walk (pL (hk pins s σ H _ I h) λu s1 ⟨x,H1,I1,rx,q1⟩=>pL (hv pins s1 σ H1 _ I1 q1) λw2 s2 ⟨y,H2,I2,ry,q2⟩=>
  pL (hr pins s2 σ H2 _ I2 q2) λws s3 ⟨ps,H3,I3,rel,q3⟩=>⟨(x,y)::ps,H3,I3,.cons ⟨rx,ry⟩ rel,q3⟩)
noncomputable def Ea (kvs more:List (Key×V)):List (Key×V):=more.foldl (λacc kv=>putK acc kv.1 kv.2) kvs
theorem KV.merge:∀{more:List (Key×V)} {rs:List (Key×Value)} {kvs:List (Key×V)} {vs:List (Key×Value)},KV more rs->KV kvs vs->KV (Ea kvs more) (merged vs rs):=by
 intro more rs kvs vs r
 unfold KV at r
 induction r generalizing kvs vs with
 |nil=>intro q;exact q
 | @cons p q ps qs h t ih=>
  intro r0
  have e:KV (putK kvs p.1 p.2) (stored vs q.1 q.2):=by
   have:=r0.put p.1 h.2
   rw[←h.1];exact this
  exact ih e
theorem BJ:∀(more kvs:List (Key×V)),(Ea kvs more).length<=kvs.length+more.length
 | [],kvs=>by show kvs.length<=kvs.length+0;lia
 |p::r,kvs=>by
  have h1:=BJ r (putK kvs p.1 p.2)
  have h2:=Au kvs p.1 p.2
  show(Ea (putK kvs p.1 p.2) r).length<=_
  rw[ai];lia
theorem FX{P:Program}{w:World}:∀{kvs:List (Key×V)} {ws:List (Value×Value)},VV (kvs.map λkv=>(kV kv.1,kv.2)) ws->∃rs,Carries (mX P w) ws rs/\KV kvs rs
 | [],_,r=>by rw[aB]at r;cases r;exact⟨[],aF,.nil⟩
 |p::kvs,_,r=>by
  rw[ao]at r
  cases r with
  | @cons a b as bs h t=>
   obtain⟨rs,c,q⟩:=FX (P:=P) (w:=w) t
   obtain⟨b1,b2⟩:=b
   exact⟨(p.1,b2)::rs,⟨Iv h.1,rfl,c⟩,.cons ⟨rfl,h.2⟩ q⟩
noncomputable def QF (trs:List (TE×TE)):TE:=λσ H Q=>∀p,H p=none->Ko trs σ (upd H p (.dK [])) λps H2=>H2 p=some (.dK [])/\∃kvs:List (Key×V),ps=kvs.map (λkv=>(kV kv.1,kv.2))/\kvs.length<=15/\Q (.ref p) (upd H2 p (.dK (Ea [] kvs)))
theorem RZ{X:Cx}{pos:Pos}{keys:List (Option Expr)}{values:List Expr}{trs:List (TE×TE)}(h:Vg X pos keys values trs)(hall:keys.all (·.isSome)=true)(hl:keys.length=values.length)(h0:keys≠ [])
  (h15:keys.length<=15):PE X (.Dict keys values pos) (QF trs):=by
 intro pins s σ H Q I q
 have hn:=I.lB.fresh (aN s.heap.objs.size)
 have I1:=I.laid (a:=s.heap.objs.size) (o:= .dK []) (h':=s.heap.push {cls:= .type "dict",data:= .dict #[]}) (t':=s.toks) (λ_ _ q=>aO _ q) (aN _) (KQ s.heap I.big)
 refine wpAny_Dict_walk (knd:=mX X.prog X.w) hall hl h0 h15 (pL (h pins _ σ _ _ I1 (q _ hn)) λws s2 ⟨ps,H2,I2,rel,e,kvs,ep,lk,q2⟩=> ?_)
 subst ep
 obtain⟨rs,c,rk⟩:=FX (P:=X.prog) (w:=X.w) rel
 obtain⟨z,hd,vs0,r0,dd⟩:=M8 I2.lB e
 cases r0
 refine⟨rs,c,dd,λh' dd' hs=>⟨.ref s.heap.objs.size,_,?_,rfl,q2⟩⟩
 have hz:(Ea [] kvs).length<=sizeLine:=by
  have h1:=BJ kvs []
  rw[aq]at h1
  rw[sizeLine_eq];lia
 have he:∃q,h'.get? s.heap.objs.size=some q:=let ⟨q,_,_,hq,_⟩:=dd';⟨q,hq⟩
 exact Fi I2 (by rw[e];exact aF) hs he (Ma hz hd (rk.merge .nil) dd')
structure M1(X:Cx)(o:Expr)(m:Str)(apos:Pos)(e:Expr)(cpos:Pos):Prop where
 base:attributeBase o m X.env (eval o X.env)=eval o X.env
 XQ:((backTo cpos (starEach [e] X.env)).all (λx=> !x.1)&&(backToKw cpos (keywordEach [] X.env)).all (λx=>x.1.isSome)
  &&decide (([e]:List Expr).length+([]:List Keyword).length+(if ([]:List Keyword).isEmpty then 0 else 1)<30))=true
 line:(apos.endLine==cpos.line)=true
 trees:backTo cpos (starEach [e] X.env)=[(false,eval e X.env)]
structure M2(X:Cx)(o:Expr)(m:Str)(apos:Pos)(e f:Expr)(cpos:Pos):Prop where
 base:attributeBase o m X.env (eval o X.env)=eval o X.env
 XQ:((backTo cpos (starEach [e,f] X.env)).all (λx=> !x.1)&&(backToKw cpos (keywordEach [] X.env)).all (λx=>x.1.isSome)
  &&decide (([e,f]:List Expr).length+([]:List Keyword).length+(if ([]:List Keyword).isEmpty then 0 else 1)<30))=true
 line:(apos.endLine==cpos.line)=true
 trees:backTo cpos (starEach [e,f] X.env)=[(false,eval e X.env),(false,eval f X.env)]
noncomputable def XG (H:Hp) (a:Addr):Prop:=(∃kvs,Rd H a (.dK kvs))∨∃kvs,Rd H a (.dT kvs)
theorem TC{X:Cx}{pins:List (Addr×Obj)}{σ:St}{H:Hp}{s:Shared}{a:Addr}(I:Inv X pins σ H s)(d:XG H a):
  s.TypeIs (.ref a) "dict"/\(∀b,bj a= .ref b->∃ob,s.heap.get? b=some ob/\ob.dict=none)/\(a==sysModules)=false:=by
 rcases d with ⟨kvs,e⟩|⟨kvs,e⟩
 ·obtain⟨_,hd,vs,_,dd⟩:=KR I.lB e
  refine⟨dd.typeIs,λb q=> ?_,hd⟩
  cases q
  obtain⟨ob,_,_,h1,h2,_⟩:=dd
  exact⟨ob,h1,h2.2.1⟩
 ·obtain⟨_,hd,xs,_,dd⟩:=KS I.lB e
  refine⟨dd.typeIs,λb q=> ?_,hd⟩
  cases q
  obtain⟨ob,_,_,h1,h2,_⟩:=dd
  exact⟨ob,h1,h2.2.1⟩
section
variable{X:Cx}{pins:List (Addr×Obj)}{σ:St}{H:Hp}{s:Shared}{a:Addr}{y d:V}{u r:Value}{o:Option V}{A:Around}{E:Value->Shared->Prop}
end
section
variable{X:Cx}{o e f:Expr}{apos cpos:Pos}{td ty tx:TE}
end
section
variable{X:Cx}{pins:List (Addr×Obj)}{σ:St}{H:Hp}{s:Shared}{a:Addr}{kvs:List (Key×V)}{A:Around}{E:Value->Shared->Prop}
end
section
variable{X:Cx}{pins:List (Addr×Obj)}{σ:St}{H:Hp}{s:Shared}{a:Addr}{y:V}{u:Value}{A:Around}{E:Value->Shared->Prop}
end
end L2
namespace Att
open PySem PySem.W PySem.Calls PyProof.Rows
theorem E_{P:Params}{h:Heap}:∀(ns:List Int) (vs:List Value),WellAll P h vs (ns.map WData.int)->IntsAre vs ns:=by
 intro ns
 induction ns with
 |nil=>
  intro vs w
  rw[aB]at w
  cases w
  exact .nil
 |cons n ns ih=>
  intro vs w
  rw[ao]at w
  cases w with
  |cons a b=>
   cases a
   exact .cons _ _ (ih _ b)
theorem OE{l:OpenLaw}{n:Nat}(hn:l.most=some n){P:Params}{h:Heap}{args:List WData}{vals:List Value}
  (hpre:l.row.toRowW.claim.pre args=true) (hwl:WellAll P h vals args):
  ∃a vs ns,vals=[bj a]/\args=[WData.list (ns.map WData.int)]/\h.get? a=some {cls:= .type "list",data:= .seq vs.toArray}/\IntsAre vs ns/\ns.length<=n:=by
 have hsh:WShape.hasAll [] args [.list .int]=true:=(pre_splitW hpre).1
 have hc:l.pre.holds [] {args:=args}=true:=(pre_splitW hpre).2
 obtain⟨d,r,rfl,h1,h2⟩:=hasAllW_cons hsh
 obtain rfl:=hasAllW_nil h2
 obtain⟨xs,rfl,h3⟩:=hasW_list h1
 obtain⟨ns,rfl⟩:=items_int h3
 have hlen:ns.length<=n:=by
  unfold OpenLaw.pre at hc
  have h4:(WTm.not (.lt (.lit (.int (n:Int))) (.len (.arg 0)))).holds [] {args:=[.list (ns.map .int)]}=true:=by
   have h4:=(holds_andW hc).1
   rw[hn]at h4
   exact h4
  have h5:=condW_of h4 (w_not (w_lt w_lit (w_len_list (w_arg rfl))))
  rw[aj]at h5
  refine Nat.le_of_not_lt λq=> ?_
  have q':(n:Int)<((ns.length:Nat):Int):=by omega
  first
   |(rw[decide_eq_true q']at h5;exact absurd h5 (by decide))
   |(simp at h5;omega)
 cases hwl with
 |cons w1 w2=>
  cases w2
  cases w1 with
  |list ho hall=>exact⟨_,_,ns,rfl,rfl,ho,E_ ns _ hall,hlen⟩
theorem Oz(l:OpenLaw)(args:List WData):l.row.toRowW.claim.post args (.bool true) args=true:=
 postW_of (r:=l.row.toRowW) (X:=(true==true))
  (show WShape.has [] (.bool true) .bool=true by first|rfl|decide|simp[WShape.has,WShape.arms,WShape.armsAll])
  (show(WTm.eq .res (.lit (.bool true))).value [] {args:=args,res:=some (.bool true),after:=args}=some (.bool (true==true)) from w_eq_bool (w_res rfl) w_lit) rfl
theorem Ky{l:OpenLaw}{n:Nat}{q:Program}{loose:List Str}{XP:(Str->Option Value)->Heap->Prop}{YP:World->Heap->Prop}{d:DefRec}
  (hn:l.most=some n) (hdf:d.params.defaults=[])
  (call:∀(w:World) (s₀ s₁:Shared) (mg mb:Str->Option Value) (fa:Addr) (o:Obj) (pm cd doc:Value) (a:Addr) (vs:List Value) (ns:List Int),
   Ground q loose [] XP w s₀ mg mb s₁.heap->YP w s₁.heap->
   s₁.heap.get? fa=some o->o.data= .func (docDef d.name d.params d.body d.scope pm cd doc)->s₁.heap.CodeRec cd d.name->mg d.name=some (.ref fa)->
   s₁.heap.get? a=some {cls:= .type "list",data:= .seq vs.toArray}->IntsAre vs ns->ns.length<=n->s₁.gens= #[]->
   codeAny (model l.prog w) callerA (.call (.ref fa) ⟨[.ref a],[]⟩) (λr s'=>r= .ok (.ret (.bool true))/\OldK s₁.heap s'.heap/\s'.os=s₁.os/\AllBare s'.gens) s₁):
  WalkO q loose XP YP l.row.toRowW d [] (λf vs=>iP f vs):=by
 intro w s₀ s₁ mg mb G Y fa o pm cd doc dV kV ho hd hcd hD hmg hg args vals as hpre hlay hrd hwl hlo
 obtain rfl:dV= .none:=Dflts.none hD hdf
 obtain rfl:kV= .none:=Dflts.noKw hD
 obtain⟨a,vs,ns,rfl,rfl,hobj,hints,hlen⟩:=OE hn hpre hwl
 refine enter_call (codeAny_mono (call w s₀ s₁ mg mb fa o pm cd doc a vs ns G Y ho (fd_plain hd) hcd hmg hobj hints hlen hg) λr s' hq=> ?_)
 obtain⟨rfl,h2,h3,h4⟩:=hq
 exact⟨.inl ⟨.bool true,.bool true,[],rfl,λ_=>rfl,.bool true,Oz l _,λ_=>⟨List.Pairwise.nil,λ_ hm=>(nomatch hm)⟩⟩,h2,h3,h4⟩
section
variable{prog:Program}{w:World}{A:Around}{E:Value->Shared->Prop}{s:Shared}{K:Frag}
noncomputable def ledger (h:Heap) (L d:Addr):List (Addr×Obj):=(bG h.objs.size).filterMap λa=>if a=L∨a=d then none else(h.get? a).map λo=>(a,o)
end
end Att
namespace L2
open PySem PySem.Spec PyProof.Rows
theorem Ey:∀{vs:List Value} {ns:List Int},IntsAre vs ns->Vals (ns.map V.int) vs
 |_,_,.nil=> .nil
 |_,_,.cons n t h=> .cons ⟨t,rfl⟩ (Ey h)
end L2
namespace L2
open PySem PySem.Spec PyProof.Rows
end L2
namespace L2
open PySem PySem.Spec PyProof.Rows
noncomputable def inClass (s:Stmt) (j:Nat):Stmt:=match s with
 | .ClassDef _ _ _ body _ _ _ _ _ _ _=>body.getD j (.Pass ⟨0,0,0,0⟩)
 |_=> .Pass ⟨0,0,0,0⟩
noncomputable def yJ (s:Stmt):Arguments:=match s with
 | .FunctionDef _ a _ _ _ _ _ _ _ _=>a
 |_=>{posonlyargs:=[],args:=[],vararg:=none,kwonlyargs:=[],kw_defaults:=[],kwarg:=none,defaults:=[]}
noncomputable def vf (s:Stmt):List Stmt:=match s with
 | .FunctionDef _ _ b _ _ _ _ _ _ _=>b
 |_=>[]
noncomputable def ja (s:Stmt):Scope:=match s with
 | .FunctionDef _ _ _ _ _ _ sc _ _ _=>sc
 |_=>{kind:= .function,names:=[],isGenerator:=false,isCoroutine:=false}
noncomputable abbrev E0:XK:=λ_ _ _=>False
structure mZ(K:aC)(x qual:Str)(st:Stmt)(f:Addr)(fd:FuncData):Prop where
 ex:∃(oc:Value) (od:Option Addr) (kV doc pm:Value) (an:Option Addr) (cdv ct:Value) (osl:Array (Option Value)),
  fd=dE x qual (yJ st) (vf st) (ja st) .none kV doc pm an cdv ct/\K.lookup f=some ⟨oc,od,.func fd,osl⟩/\fE K cdv qual=true
 kp:bO K (.ref f)=true
section
variable{P:Program}{w:World}{K:aC}{mg:Str->Option Value}{base:Heap}
theorem mZ.binds{x qual:Str}{st:Stmt}{f:Addr}{fd:FuncData}{ps:List Str}(F:mZ K x qual st f fd)
  (h:∀(kV doc pm:Value) (an:Option Addr) (cdv ct:Value) (us:List Value),us.length=ps.length->bindArgs (dE x qual (yJ st) (vf st) (ja st) .none kV doc pm an cdv ct) ⟨us,[]⟩=pure (ps.zip us)):Binds K fd ps []:=by
 obtain⟨oc,od,kV,doc,pm,an,cdv,ct,osl,rfl,lk,hcd⟩:=F.ex
 exact .all (h kV doc pm an cdv ct)
theorem Tx{x qual:Str}{st:Stmt}{f:Addr}{oc:Value}{od an:Option Addr}{osl:Array (Option Value)}{kV doc pm cdv ct:Value}(l:K.lookup f=some ⟨oc,od,.func (dE x qual (yJ st) (vf st) (ja st) .none kV doc pm an cdv ct),osl⟩)
  (c:fE K cdv qual=true) (k:bO K (.ref f)=true):mZ K x qual st f (dE x qual (yJ st) (vf st) (ja st) .none kV doc pm an cdv ct):=⟨⟨oc,od,kV,doc,pm,an,cdv,ct,osl,rfl,l,c⟩,k⟩
end
theorem jT{ca:Bool}{A:Around}{k:Nat}(hr:pU ca k A):A.units+1<cLine:=bQ (gT (by decide:1<=64) _) hr.units
section
variable{X:Cx}
end
noncomputable def jD (H H':Hp):Prop:=∀b o,H b=some o->H' b=some o
theorem jD.refl(H:Hp):jD H H:=λ_ _ h=>h
theorem jD.trans{H H1 H2:Hp}(a:jD H H1)(b:jD H1 H2):jD H H2:=λc o h=>b c o (a c o h)
theorem jD.free{H H':Hp}(e:jD H H'){l:Addr}(h:H' l=Option.none):H l=Option.none:=by
 cases q:H l with
 |none=>rfl
 |some o=>
  rw[e l o q]at h
  cases h
end L2
namespace L2
open PySem PySem.Spec PyProof.Rows
section
variable{X:Cx}
end
section
variable{κ:Type} [DecidableEq κ]
end
end L2
namespace L2
open PySem PySem.Spec PyProof.Rows
structure Vl(fs:List Addr)(H H':Hp)(h B:Heap):Prop where
 keep:∀b o,h.get? b=some o->H b=none->b∉fs->B.get? b=some o/\H' b=none
 fr:∀b∈fs,H' b=none
 there:∀b o,h.get? b=some o->b∈fs∨∃o',B.get? b=some o'
 Cs:∀b xs,H b=some (.tup xs)->H' b=some (.tup xs)
 Bn:∀b o u,H b=some (.F8 o u)->H' b=some (.F8 o u)
 Bp:∀b ps,H b=some (.G_ ps)->∃more,H' b=some (.G_ (ps++more))
noncomputable def Vm (fs:List Addr) (h h':Heap):Prop:=∀b o,h.get? b=some o->b∈fs->∃sl,h'.get? b=some {o with slots:=sl}
structure Vn(B:Heap)(l:List Env)(a:Addr)(h:Heap):Prop where
 stays:B.StaysIn h
 new:B.get? a=none
 CZ:h.FunFrames B l
noncomputable def S7 (h:Heap) (a:Addr) (cls:Value):Prop:=∃oe vs a0,h.get? a=some oe/\oe.cls=cls/\oe.data= .fields vs/\vs[0]? =some a0/\vs[1]? =some .none
noncomputable abbrev Vh:=Heap->Addr->Value->Heap->Prop
noncomputable def Uy (fl:Value):Vh:=λB a cls h=>∃a0,Heap.TracedAtW h B a cls a0 fl
noncomputable abbrev Ny:Vh:=Uy .none
noncomputable abbrev JM (L:Addr):Vh:=Uy (rawInt L)
noncomputable def SS (L:Addr):Vh:=λB a cls h=>S7 h a cls∨Ny B a cls h∨JM L B a cls h
noncomputable def lV (P:Program) (w:World):OM:=λouter H s E e s'=>∃(a:Addr) (cls:Value) (H':Hp) (B:Heap),e= .ref a/\s'.os=s.os/\AllBare s'.gens/\Vn B outer a s'.heap/\Ny B a cls s'.heap/\
 zQ P w H' B/\Vl (F4 outer) H H' s.heap B/\Vm (F4 outer) s.heap s'.heap/\E cls none H'
inductive DU (X:Cx) (E:St->XK) (ph:Vh) (a:Addr) (cls:Value) (s':Shared):Prop
 |mk {pins:List (Addr×Obj)} {σ:St} {H H':Hp} {B:Heap} {s:Shared} (I:Inv X pins σ H s) (os:s'.os=s.os) (bare:AllBare s'.gens) (way:Vn B X.stack a s'.heap) (p:ph B a cls s'.heap)
   (lB:zQ X.prog X.w H' B) (rel:Vl (F4 X.stack) H H' s.heap B) (sl:Vm (F4 X.stack) s.heap s'.heap) (e:E σ cls none H'):DU X E ph a cls s'
noncomputable def WR (X:Cx) (E:St->XK) (L:Addr):Value->Shared->Prop:=λe s'=>∃a cls,e= .ref a/\DU X E (SS L) a cls s'
section
variable{l:List Env}{B h h1 h2:Heap}{P:Program}{w:World}{H:Hp}{fs:List Addr}
theorem Vm.up(sl:Vm (F4 l) h h1)(ff:h1.FunFrames B l)(k:h1.UpToSlots h2):Vm (F4 l) h h2:=λb o e hb=>by
 obtain⟨s1,q⟩:=sl b o e hb
 obtain⟨_,o1,q1,nf⟩:=ff.mem hb
 rw[q]at q1;cases q1
 obtain⟨s2,q2⟩:=k b _ q nf
 exact⟨s2,q2⟩
theorem zQ.hide(ok:zQ P w H h)(hf:∀b∈fs,H b=none):zQ P w H (fq h fs):=λa o e=>
 (ok a o e).A4 (λb u hb q=>d9 _ q λhm=>by
  have z:=hf b hm
  rcases hb with rfl|hb
  ·rw[e]at z;cases z
  ·rw[hb]at z;cases z) (λ_ q=>q) λ_ _ q=>q
end
section
variable{X:Cx}{E:St->XK}{a L:Addr}{cls:Value}{s':Shared}{M:Model}{A:Around}{Q:Unit->Shared->Prop}{E':Value->Shared->Prop}
theorem DU.note(u:DU X E (SS L) a cls s')(hA:A.frames=X.A.frames)(hst:X.stack=X.env::X.outer)(hf:X.env.frame=some L)
  (hQ:∀h',DU X E (JM L) a cls {s' with heap:=h'}->Q () {s' with heap:=h'}):wpAny M A (noteFrame (.ref a) X.env) Q E' s':=by
 obtain⟨I,os,bare,⟨w1,w2,w3⟩,p,lB,rel,sl,e⟩:=u
 rename_i B s
 have hfr:A.frames=some (X.env::X.outer):=by rw[hA,I.ok.frames,hst]
 have go:∀h' a0,Heap.NotedW B (X.env::X.outer) a cls a0 (rawInt L) s'.heap h'->Q () {s' with heap:=h'}:=λh' a0 ⟨k1,k2,k3,k4⟩=>
  hQ h' ⟨I,os,bare,⟨k1,w2,hst▸k2⟩,⟨a0,k3⟩,lB,rel,sl.up w3 k4,e⟩
 have w3':s'.heap.FunFrames B (X.env::X.outer):=hst▸w3
 rcases p with ⟨oe,vs,a0,he,hc,hd,h0,h1⟩|⟨a0,p⟩|⟨a0,p⟩
 ·subst hc;unfold noteFrame;simp only[hf];refine wpAny_bind (wpAny_field he hd h1 ?_);rw[if_neg (by decide)]
  exact wpAny_entryW hfr w3' hf he w1 w2 hd (Array.getElem?_eq_some_iff.mp h1).1 h0 λh' N=>go h' a0 N
 ·exact wpAny_noteFrame_onW hfr w3' hf p w1 w2 λh' N=>go h' a0 N
 ·exact wpAny_noteFrame_againW hf p (hQ s'.heap ⟨I,os,bare,⟨w1,w2,w3⟩,⟨a0,p⟩,lB,rel,sl,e⟩)
theorem DU.XR{fl:Value}(u:DU X E (Uy fl) a cls s')(hQ:∀h',DU X E Ny a cls {s' with heap:=h'}->Q () {s' with heap:=h'}):wpAny M A (setFlight (.ref a) none) Q E' s':=by
 obtain⟨I,os,bare,⟨w1,w2,w3⟩,⟨a0,p⟩,lB,rel,sl,e⟩:=u
 exact wpAny_setFlight_noneW w1 w3 p λh' k1 k2 k3 k4=>hQ h' ⟨I,os,bare,⟨k1,w2,k2⟩,⟨a0,k3⟩,lB,rel,sl.up w3 λb o hb hn=>⟨o.slots,k4 b o hb hn⟩,e⟩
theorem DU.hold(u:DU X E (JM L) a cls s')(hQ:∀h',DU X E (JM L) a cls {s' with heap:=h'}->Q () {s' with heap:=h'}):
  wpAny M A (do if (←field (.ref a) 1)== .none then unsupported "frame.own-activation:exception-without-traceback"
                setFlight (.ref a) (some L)) Q E' s':=by
 obtain⟨I,os,bare,⟨w1,w2,w3⟩,⟨a0,oe,vs,T,oT,ts,he,hcls,hd,h1,hnT,hTe,hT,hdT,h3⟩,lB,rel,sl,e⟩:=u
 rename_i B s
 have hsz:3<ts.size:=(Array.getElem?_eq_some_iff.mp h3).1
 have oth:∀b,b≠T->(s'.heap.update T (Obj.mapFields (·.setIfInBounds 3 (rawInt L)))).get? b=s'.heap.get? b:=λb hb=>eQ _ _ (aE hb)
 have nr:∀b o,s'.heap.get? b=some o->(∀vs,o.data≠ .fields vs)->b≠T:=λb o hb hnf q=>by
  subst q;rw[hT]at hb;cases hb;exact hnf ts hdT
 refine wpAny_bind (wpAny_field he hd h1 ?_)
 rw[if_neg (show¬((bj T==fv)=true) by simp)]
 unfold setFlight
 refine wpAny_bind (wpAny_field he hd h1 ?_)
 rw[if_pos (show(bj T !=fv)=true by simp)]
 refine wpAny_setField hT hdT hsz (hQ _ ⟨I,os,bare,⟨λb o hb=>(oth b λq=>by subst q;rw[hnT]at hb;cases hb).trans (w1 b o hb),w2,
  w3.of_keeps λb o hb hn=>⟨o,(oth b (nr b o hb hn)).trans hb,rfl⟩⟩,⟨a0,oe,vs,T,_,_,(oth a (aE hTe)).trans he,hcls,hd,h1,hnT,hTe,
   gC _ hT (Obj.isFreed_of_fields (ia hdT _)),ia hdT _,by simp[hsz]⟩,lB,rel,sl.up w3 λb o hb hn=>⟨o.slots,(oth b (nr b o hb hn)).trans hb⟩,e⟩)
end
section
variable{X:Cx}{E:St->XK}{a L:Addr}{cls:Value}{s s':Shared}{pins:List (Addr×Obj)}{σ:St}{H H':Hp}{B:Heap}
theorem Inv.adopt{o:HO}(I:Inv X pins σ H s)(hn:H a=none)(new:mQ X.prog X.w (upd H a o) s.heap a o)(h0:X.s₀.heap.get? a=none)(hL:a≠X.env.locals)
  (hc:∀x c,X.env.cells.lookup x=some c->c≠a) (hp:∀p∈X.pn++pins,p.1≠a):Inv X pins σ (upd H a o) s where
 ok:=I.ok
 os:=I.os
 bare:=I.bare
 base:={
  keep:=I.base.keep
  slot:=I.base.slot
  free:=λb ob e n hb=>by
   rw[i_ λz=>by subst z;rw[h0]at e;cases e]
   exact I.base.free b ob e n hb
  there:=I.base.there
  Cs:=λb xs e=>by
   have q:=I.base.Cs b xs e
   rw[i_ (i5 q hn)];exact q
  Bn:=λb ob u e=>by
   have q:=I.base.Bn b ob u e
   rw[i_ (i5 q hn)];exact q
  Bp:=λb ps e=>by
   obtain⟨m,q⟩:=I.base.Bp b ps e
   exact⟨m,by rw[i_ (i5 q hn)];exact q⟩}
 loc:=I.loc
 cell:=I.cell
 free:=by rw[i_ (aE hL)];exact I.free
 wK:=λx c e=>by rw[i_ (hc x c e)];exact I.wK x c e
 pin:=λp m=>by
  obtain⟨p1,p2,p3⟩:=I.pin p m
  exact⟨p1,by rw[i_ (hp p m)];exact p2,p3⟩
 lB:=λb u e=>by
  by_cases hb:b=a
  ·subst hb;rw[i8]at e;cases e;exact new
  ·rw[i_ hb]at e
   exact(I.lB b u e).A4 (λ_ _ _ q=>q) (λc q=>by rw[i_ (i5 q hn)];exact q) λc xs q=>by rw[i_ (i5 q hn)];exact q
 len:=I.len
theorem DU.out{E0:XK}(u:DU X (λ_=>E0) Ny a cls s')(hst:X.stack=X.env::X.outer)(hf:X.env.frame=some X.env.locals)(hex:X.ex=[]):
  lV X.prog X.w X.outer X.H₀ X.s₀ E0 (.ref a) s':=by
 obtain⟨I,os,bare,way,p,lB,rel,sl,e⟩:=u
 rename_i pins σ H H' B s
 have GA:∀b,b∉X.ex:=λb=>by rw[hex];simp
 have hfs:∀b,b∈F4 X.stack↔b=X.env.locals∨b∈X.fs:=λb=>by
  rw[hst];unfold F4;rw[d8,hf];exact bI
 have nloc:∀b o,X.s₀.heap.get? b=some o->b≠X.env.locals:=λb o q z=>by
  have:=aV q
  have h2:=I.ok.above
  rw[z]at this
  exact absurd (aR this h2) (b_ _)
 obtain⟨w1,w2,w3⟩:=way
 have w3':s'.heap.FunFrames B X.outer:=by rw[hst]at w3;exact w3.2.2
 refine⟨a,cls,H',B,rfl,os.trans I.os,bare,⟨w1,w2,w3'⟩,p,lB,⟨λb o q n hb=> ?_,λb hb=>rel.fr b ((hfs b).mpr (.inr hb)),λb o q=> ?_,λb xs q=>rel.Cs b xs (I.base.Cs b xs q),
  λb o u q=>rel.Bn b o u (I.base.Bn b o u q),λb ps q=> ?_⟩,λb o q hb=> ?_,e⟩
 ·refine rel.keep b o (I.base.keep b o q n hb (GA b)) (I.base.free b o q n (GA b)) λz=> ?_
  rcases (hfs b).mp z with z|z
  ·exact nloc b o q z
  ·exact hb z
 ·obtain⟨o1,q1⟩:=I.base.there b o q (GA b)
  rcases rel.there b o1 q1 with z|z
  ·rcases (hfs b).mp z with z|z
   ·exact absurd z (nloc b o q)
   ·exact .inl z
  ·exact .inr z
 ·obtain⟨m1,q1⟩:=I.base.Bp b ps q
  obtain⟨m2,q2⟩:=rel.Bp b _ q1
  exact⟨m1++m2,by rw[q2,gZ]⟩
 ·obtain⟨s1,q1⟩:=I.base.slot b o q (I.ok.Rv b hb) hb (GA b)
  obtain⟨s2,q2⟩:=sl b _ q1 ((hfs b).mpr (.inr hb))
  exact⟨s2,q2⟩
end
structure Exc(X:Cx)(E:St->XK):Prop where
 pass:∀(pins:List (Addr×Obj)) (σ:St) (H:Hp) (s:Shared) (e:Value) (s':Shared),Inv X pins σ H s->lV X.prog X.w X.stack H s (E σ) e s'->X.xe e s'
 Wn:∀(pins:List (Addr×Obj)) (σ:St) (H:Hp) (s s':Shared) (a C:Addr) (args:List Value),Inv X pins σ H s->Heap.MadeExcOf s.heap s'.heap a (.ref C) args->s'.os=s.os->s'.gens=s.gens->
  E σ (.ref C) none H->X.xe (.ref a) s'
 own:PassesOwn (model X.prog X.w) X.A X.env X.xe
theorem Pk{X:Cx}{E:St->XK}(hst:X.stack=X.env::X.outer)(hf:X.env.frame=some X.env.locals):Exc (X.Bq (WR X E X.env.locals)) E where
 pass:=λpins σ H s e s' I ⟨a,cls,H',B,ee,os,bare,way,p,lB,rel,sl,q⟩=>⟨a,cls,ee,⟨I.xR,os,bare,way,.inr (.inl p),lB,rel,sl,q⟩⟩
 Wn:=λpins σ H s s' a C args I hm os hg q=>by
  have I:=I.xR
  obtain⟨t,he,htn,ht⟩:=hm.there
  have hB:(fq s.heap (F4 X.stack)).get? a=none:=by
   cases z:(fq s.heap (F4 X.stack)).get? a with
   |none=>rfl
   |some o=>have:=fK _ z;rw[hm.new]at this;cases this
  refine⟨a,.ref C,rfl,⟨I,os,by rw[hg];exact I.bare,⟨λb o z=>hm.keeps b o (fK _ z),hB,?_⟩,.inl ⟨_,_,_,he,rfl,rfl,rfl,rfl⟩,I.lB.hide I.FF,⟨λb o z n hb=>⟨d9 _ z hb,n⟩,I.FF,
   λb o z=> ?_,λ_ _ z=>z,λ_ _ _ z=>z,λ_ ps z=>⟨#[],by rw[fH];exact z⟩⟩,λb o z _=>⟨o.slots,hm.keeps b o z⟩,q⟩⟩
  ·exact(PySem.W.funFrames_hide I.stack λenv he b hb=>List.mem_filterMap.mpr ⟨env,he,hb⟩).of_keeps λb o z _=>⟨o,hm.keeps b o z,rfl⟩
  ·by_cases hb:b∈F4 X.stack
   ·exact .inl hb
   ·exact .inr ⟨o,d9 _ z hb⟩
 own:=λe s' ⟨a,cls,ee,u⟩=>by
  subst ee
  refine u.note rfl hst hf λh' u'=> ?_
  unfold cameBackBy
  rw[show(X.Bq (WR X E X.env.locals)).env.frame=some X.env.locals from hf]
  refine u'.hold λh2 u2=> ?_
  obtain⟨I,os,bare,way,p,lB,rel,sl,q⟩:=u2
  exact⟨a,cls,rfl,⟨I,os,bare,way,.inr (.inr p),lB,rel,sl,q⟩⟩
theorem LY.Bq{X:Cx}{st:List Stmt}{t:TS}{E:Value->Shared->Prop}(h:LY (X.Bq E) st t)(he:∀e s,E e s->X.xe e s):LY X st t:=λpins s σ H D I hw=>
 wpAny_mono (h pins s σ H D (I.Bq E) hw) (λ_ _ z=>SP.xR z) he
noncomputable abbrev WD (ca:Bool) (P:Program) (w:World) (K:aC) (mg:Str->Option Value) (base:Heap) (N:List Str) (qual:Str) (scope:Scope) (f:Addr) (cd:Value) (A:Around) (outer:List Env) (s:Shared) (H:Hp) (E:XK):Cx:=
 (KO (lV P w) ca P w K mg base N qual scope f cd A outer s H E).Bq (WR (KO (lV P w) ca P w K mg base N qual scope f cd A outer s H E) (λ_=>E) s.heap.objs.size)
section
variable{P:Program}{w:World}{K:aC}{mg:Str->Option Value}{base:Heap}
theorem mZ.oZ{x qual:Str}{st:Stmt}{f:Addr}{fd:FuncData}{N ps:List Str}{ca:Bool}{k:Nat}{sp:Sp}(F:mZ K x qual st f fd)(S:jf N ps (ja st))(len:∀vs H Q E,sp vs H Q E->vs.length=ps.length)
  (hbody:∀(cdv:Value) (A:Around) (outer:List Env) (s:Shared) (H:Hp) (vs:List V) (Q:VK) (E:XK),pU ca k (A.deeper (envOfC qual (ja st) s.heap.objs.size f cdv))->
   Exc (WD ca P w K mg base N qual (ja st) f cdv A outer s H E) (λ_=>E)->sp vs H Q E->
   ∃t,LY (WD ca P w K mg base N qual (ja st) f cdv A outer s H E) (vf st) t/\t {nx:=λ_ H'=>Q .kG H',rt:=Q} (start N vs) H):jO P w K mg base (lV P w) ca (k+1) f fd ps sp:=by
 obtain⟨oc,od,kV,doc,pm,an,cdv,ct,osl,rfl,lk,hcd⟩:=F.ex
 refine SI (CX:=lV P w) lk hcd S len λA outer s H vs Q E hr hsp=> ?_
 obtain⟨t,h,q⟩:=hbody cdv A outer s H vs Q E hr (Pk rfl rfl) hsp
 refine⟨t,h.Bq λe s2 ⟨a,cls,ee,u⟩=> ?_,q⟩
 subst ee
 show wpAny _ _ (leaving _ _) _ _ _
 unfold leaving
 exact wpAny_bind (u.note rfl rfl rfl λh' u'=>u'.XR λh'' u''=>u''.out rfl rfl rfl)
end
noncomputable def rm (H:Hp) (p:Addr):Hp:=λb=>if b=p then none else H b
theorem NB{H:Hp}{p:Addr}:rm H p p=none:=by unfold rm;rw[if_pos rfl]
theorem Qu{H:Hp}{p b:Addr}(h:b≠p):rm H p b=H b:=by unfold rm;rw[if_neg h]
theorem Qv{H:Hp}{p:Addr}{o:HO}(h:H p=none):rm (upd H p o) p=H:=by
 funext b
 by_cases hb:b=p
 ·subst hb;rw[NB,h]
 ·rw[Qu hb,i_ hb]
noncomputable def Loose:Option HO->Prop
 |some (.lst _)=>True
 |some (.exc _)=>True
 |some (.WH _ _)=>True
 |_=>False
theorem Inv.rm{X:Cx}{pins:List (Addr×Obj)}{σ:St}{H:Hp}{s:Shared}{p:Addr}(I:Inv X pins σ H s)(hp:Loose (H p)):Inv X pins σ (rm H p) s:=by
 have no:∀{b:Addr},H b=none->L2.rm H p b=none:=λ{b} e=>by
  unfold L2.rm;split
  ·rfl
  ·exact e
 have yes:∀{b:Addr} {o:HO},H b=some o->¬Loose (some o)->L2.rm H p b=some o:=λ{b o} e n=>by
  rw[Qu λz=>by subst z;rw[e]at hp;exact n hp];exact e
 refine⟨I.ok,I.os,I.bare,⟨I.base.keep,I.base.slot,λb o e n hb=>no (I.base.free b o e n hb),I.base.there,λb xs e=>yes (I.base.Cs b xs e) (λz=>z),λb o u e=>yes (I.base.Bn b o u e) (λz=>z),λb ps e=> ?_⟩,I.loc,I.cell,
  no I.free,λx c e=>no (I.wK x c e),λq m=> ?_,λb u e=> ?_,I.len⟩
 ·obtain⟨m,q⟩:=I.base.Bp b ps e
  exact⟨m,yes q λz=>z⟩
 ·obtain⟨p1,p2,p3⟩:=I.pin q m
  exact⟨p1,no p2,p3⟩
 ·by_cases hb:b=p
  ·subst hb;rw[NB]at e;cases e
  ·rw[Qu hb]at e
   exact(I.lB b u e).A4 (λ_ _ _ q=>q) (λc q=>yes q λz=>z) λc xs q=>yes q λz=>z
end L2
namespace L2
open PySem PySem.Spec PyProof.Rows
section
variable{X:Cx}{pins:List (Addr×Obj)}{σ:St}{H:Hp}{s:Shared}
end
noncomputable def jm (sp:Sp) (E:St->XK) (t:TA):TE:=λσ H Q=>t σ H λvs H1=>sp vs H1 Q (E σ)
noncomputable def rZ (C:Addr) (sp:Sp) (E:St->XK) (t:TA):TE:=λσ H Q=>t σ H λvs H1=>∀x dx,H1 x=none->H1 dx=none->dx≠x->
 sp (.ref x::vs) (upd (upd H1 dx (.own x)) x (.ins C dx [])) (λv H2=>v= .kG/\Q (.ref x) H2) (E σ)
section
variable{X:Cx}{ca:Bool}{k:Nat}{f C:Addr}{fd:FuncData}{ps:List Str}{sp:Sp}{E:St->XK}{x m:Str}{p pos apos:Pos}{e o:Expr}{es:List Expr}{ta:TE}{t:TA}
theorem JQ{pins:List (Addr×Obj)}{σ:St}{H:Hp}{s:Shared}{Q:VK}{us:List Value}{vs:List V}(F:jO X.prog X.w X.K X.mg X.base (lV X.prog X.w) ca k f fd ps sp)(hr:pU ca k X.A)(hb:Binds X.K fd ps [])(hx:Exc X E)
  (I:Inv X pins σ H s) (r:Vals vs us) (h:sp vs H Q (E σ)):wpAny (model X.prog X.w) X.A (call (.ref f) us) (EP X pins σ Q) X.xe s:=by
 have hl:(us++[]).length=ps.length:=by rw[aD,←r.length];exact F.len _ _ _ _ h
 have hb':=hb s us I.DR hl
 rw[aD]at hb'
 refine wpAny_call (codeAny_mono (F.run X.A X.stack s H ⟨us,[]⟩ us vs Q (E σ) hr I.VQ hb' r h) λr s' hq=> ?_)
 cases r with
 |error e=>exact hx.pass pins σ H s e s' I hq
 |ok fl=>
  cases fl with
  |ret u=>exact I.after hq
  |next=>exact dg hq
  |brk=>exact dg hq
  |cont=>exact dg hq
theorem P_(F:jO X.prog X.w X.K X.mg X.base (lV X.prog X.w) ca k f fd ps sp)(hr:pU ca k X.A)(hg:Gl X x)(hm:X.mg x=some (.ref f))(hk:bO X.K (.ref f)=true)(hb:Binds X.K fd ps [])(hx:Exc X E)
  (ha:PA X (e::es) t) (hdb:(x==("__debug__":Str))=false:=by decide) (he:starEach (e::es) X.env=(false,eval e X.env)::starEach es X.env:=by rfl) (hpl:(backTo pos (starEach es X.env)).any (·.1)=false:=by rfl):
  PE X (.Call (.Name x p) (e::es) [] pos) (jm sp E t):=by
 intro pins s σ H Q I h
 refine wpAny_Call_Name_kw (Dh I hg hm ?_ hdb)
 refine fJ (h₀:=X.base) I.ok.mod.U7 hk (pL (ha pos pins s σ H _ I h) λus s1 ⟨vs,H1,I1,r,q⟩=>⟨I1.DR,?_⟩) he hpl
 exact JQ F hr hb hx I1 r q
theorem IH{pins:List (Addr×Obj)}{σ:St}{H:Hp}{s:Shared}{Q:VK}{us:List Value}{vs:List V}(M:Mk X.K C f)(F:jO X.prog X.w X.K X.mg X.base (lV X.prog X.w) ca k f fd ps sp)(hr:pU ca (k+1) X.A)(hb:Binds X.K fd ps [])
  (hx:Exc X E) (I:Inv X pins σ H s) (r:Vals vs us)
  (h:∀x dx,H x=none->H dx=none->dx≠x->sp (.ref x::vs) (upd (upd H dx (.own x)) x (.ins C dx [])) (λv H2=>v= .kG/\Q (.ref x) H2) (E σ)):
  wpAny (model X.prog X.w) X.A (call (.ref C) us) (EP X pins σ Q) X.xe s:=by
 have hq:=h (s.heap.objs.size+1) s.heap.objs.size (I.lB.fresh (fG _)) (I.lB.fresh (aN _)) (bh (eW _))
 have I2:=Inv.made (C:=C) I
 have r2:Vals (V.ref (s.heap.objs.size+1)::vs) (bj (s.heap.objs.size+1)::us):= .cons rfl r
 have hl:(bj (s.heap.objs.size+1)::us++[]).length=ps.length:=by rw[aD,←r2.length];exact F.len _ _ _ _ hq
 have hb':=hb {s with heap:=(s.heap.push cI).push (cX C s.heap.objs.size)} (bj (s.heap.objs.size+1)::us) I2.DR hl
 rw[aD]at hb'
 refine wpAny_call (PX (f:=f) I.DR M.makes M.init (beq_iff_eq.mp M.fn) (codeAny_mono (F.run _ X.stack _ _ ⟨bj (s.heap.objs.size+1)::us,[]⟩ (bj (s.heap.objs.size+1)::us) _ _ (E σ) (hr.make C us [])
  (I2.VQ.make C us []) hb' r2 hq) λr s' hq'=> ?_))
 cases r with
 |error e=>exact hx.pass pins σ _ _ e s' I2 hq'
 |ok fl=>
  cases fl with
  |ret u=>
   obtain⟨v,H',I3,rv,ev,q3⟩:=I2.after hq'
   subst ev
   exact⟨rv,⟨V.ref (s.heap.objs.size+1),H',I3,rfl,q3⟩⟩
  |next=>exact dg hq'
  |brk=>exact dg hq'
  |cont=>exact dg hq'
theorem Qg(M:Mk X.K C f)(F:jO X.prog X.w X.K X.mg X.base (lV X.prog X.w) ca k f fd ps sp)(hr:pU ca (k+1) X.A)(hg:Gl X x)(hm:X.mg x=some (.ref C))(hb:Binds X.K fd ps [])(hx:Exc X E)
  (ha:PA X (e::es) t) (hdb:(x==("__debug__":Str))=false:=by decide) (he:starEach (e::es) X.env=(false,eval e X.env)::starEach es X.env:=by rfl) (hpl:(backTo pos (starEach es X.env)).any (·.1)=false:=by rfl):
  PE X (.Call (.Name x p) (e::es) [] pos) (rZ C sp E t):=by
 intro pins s σ H Q I h
 refine wpAny_Call_Name_kw (Dh I hg hm ?_ hdb)
 refine fJ (h₀:=X.base) I.ok.mod.U7 M.kp (pL (ha pos pins s σ H _ I h) λus s1 ⟨vs,H1,I1,r,q⟩=>⟨I1.DR,?_⟩) he hpl
 exact IH M F hr hb hx I1 r q
theorem Ov(M:Mk X.K C f)(F:jO X.prog X.w X.K X.mg X.base (lV X.prog X.w) ca k f fd ps sp)(hr:pU ca (k+1) X.A)(hg:Gl X x)(hm:X.mg x=some (.ref C))(hb:Binds X.K fd ps [])(hx:Exc X E)
  (hdb:(x==("__debug__":Str))=false:=by decide):PE X (.Call (.Name x p) [] [] pos) (rZ C sp E jv):=by
 intro pins s σ H Q I h
 refine wpAny_Call_Name_kw (Dh I hg hm ?_ hdb)
 exact gU I.DR M.kp (IH (us:=[]) M F hr hb hx I .nil h)
end
abbrev Q_:List Value:=[.type "ValueError",.type "Exception",.type "BaseException",.type "object"]
noncomputable def DT (K:aC) (C:Addr):Prop:=dv K C Q_ "ValueError.__new__"=true
theorem DT.obj{K:aC}{h:Heap}{C:Addr}(X:K.In h)(q:DT K C):∃bm N nm qn bs hd sn sub ab col dd k0 k1 k2 k3 k5 mN,h.get? C=some (excClassObj nm qn C N bs bm hd sn sub ab col dd k0 k1 k2 k3 k5 "ValueError.__new__")/\
  h.Ns N mN/\mN "__init__"=none/\OwnTail h Q_ bm:=by
 unfold DT dv at q
 split at q
 ·rename_i dd cd sl ho
  split at q
  ·rename_i C' bm k0 k1 k2 k3 n k5 hm hs
   rw[aQ,aQ,aQ,aQ,aQ,beq_iff_eq,beq_iff_eq,beq_iff_eq,aS]at q
   obtain⟨⟨⟨⟨⟨q1,q2⟩,q3⟩,q4⟩,q5⟩,q6⟩:=q
   subst q1 q2
   obtain⟨nm,bs,mro,ns,qn,hd,sn,sub,ab,col,del⟩:=cd
   have q3:del=false:=q3
   have hm:mro=_:=hm
   subst q3 hm
   obtain⟨l⟩:=sl
   have hs:l=_:=hs
   subst hs
   exact⟨bm,ns,nm,qn,bs,hd,sn,sub,ab,col,dd,k0,k1,k2,k3,k5,_,X _ _ ho,.of_isNs (PySem.W.isNs_of_in X q5),PySem.W.nsMap_none_of_in X q5 q6,PySem.W.tail_of_in X q4⟩
  ·cases q
 ·cases q
noncomputable def lH (C:Addr) (E:St->XK) (t:TA):TS:=λ_ σ H=>t σ H λvs H1=>vs.length<=sizeLine/\E σ (.ref C) none H1
section
variable{X:Cx}{C:Addr}{E:St->XK}{x:Str}{np cpos pos:Pos}{e:Expr}{es:List Expr}{t:TA}
theorem Qp(hx:Exc X E)(hg:Gl X x)(hm:X.mg x=some (.ref C))(hq:DT X.K C)(hc:X.calm=true)(ha:PA X (e::es) t)
  (he:starEach (e::es) X.env=(false,eval e X.env)::starEach es X.env:=by rfl) (hpl:(backTo cpos (starEach es X.env)).any (·.1)=false:=by rfl) (hdb:(x==("__debug__":Str))=false:=by decide):
  PS X (.Raise (some (.Call (.Name x np) (e::es) [] cpos)) none pos) (lH C E t):=by
 intro pins s σ H D I h
 obtain⟨bm,N,nm,qn,bs,hd,sn,sub,ab,col,dd,k0,k1,k2,k3,k5,mN,hC,hN,hni,T⟩:=hq.obj I.mod.U7
 refine wpAny_Raise_call_subT (C:=C) (nm:=nm) (q:=qn) (N:=N) (bs:=bs) (bm:=bm) (hdct:=hd) (sn:=sn) (sub:=sub) (ab:=ab) (col:=col) (dd:=dd) (k0:=k0) (k1:=k1) (k2:=k2) (k3:=k3) (k5:=k5)
  PySem.F.excBase_ValueError (mN:=mN) (T.hasType PySem.F.excBase_ValueError.hasBase) (I.ok.hd hc) (by rw[he];show(false ||(backTo cpos (starEach es X.env)).any λx=>x.1)=false;rw[hpl];rfl) hni (Dh I hg hm ⟨rfl,?_⟩ hdb)
 have h2:=ha cpos pins s σ H _ I h
 rw[he]at h2⊢
 exact eZ (wpAny_mono h2 (λus s2 ⟨vs,H1,I1,r,hl,q⟩=>⟨rfl,by rw[←r.length];exact hl,I1.bk _ _ hC,hN.keeps I1.bk,T.keeps I1.bk,
  λh' e hm'=>hx.Wn pins σ H1 s2 {s2 with heap:=h'} e C us I1 hm' rfl rfl q⟩) λ_ _ y=>y)
end
section
variable{X:Cx}{pins pins':List (Addr×Obj)}{σ:St}{H:Hp}{s:Shared}{a:Addr}{E:Value->Shared->Prop}
end
noncomputable abbrev TH:=Ends->St->Hp->Value->Prop
section
variable{X:Cx}{c:Value}{i:Nat}{x n:Str}{np pos:Pos}{b₀:Stmt}{suite:List Stmt}{th:TS}{tr:TH}{rest:List ExceptHandler}
theorem LO{M:Model}{h:Heap}{a:Addr}{cls:Value}(e:∃o vs,h.get? a=some o/\o.cls=cls/\o.data= .fields vs):dH M h (typeOf (.ref a)) cls:=by
 obtain⟨o,_,ho,hc,_⟩:=e
 subst hc
 exact(PySem.W.Looks.ld ho).andThen .now
end
end L2
namespace L2
open PySem PySem.Spec PyProof.Rows
section
variable{X:Cx}
theorem PE.mono{e:Expr}{t t':TE}(h:PE X e t)(k:∀σ H Q,t' σ H Q->t σ H Q):PE X e t':=λpins s σ H Q I q=>h pins s σ H Q I (k _ _ _ q)
theorem tW.mono{f:Value->Value->Sem Value}{r r':R2}(h:tW X f r)(k:∀x y H Q,r' x y H Q->r x y H Q):tW X f r':=λpins s σ H x y v u Q I rx ry q=>h pins s σ H x y v u Q I rx ry (k _ _ _ _ q)
theorem sT.mono{f:Value}{r r':List V->Hp->VK->Prop}(h:sT X f r)(k:∀xs H Q,r' xs H Q->r xs H Q):sT X f r':=λpins s σ H xs us Q I rx q=>h pins s σ H xs us Q I rx (k _ _ _ q)
end
noncomputable def jd (i:Nat):TE:=λσ H Q=>match σ[i]? with
 |some (some v)=>Q v H
 |_=>False
section
variable{X:Cx}
theorem cv(i:Nat){x:Str}{pos:Pos}(hN:X.N[i]? =some x:=by rfl)(hv:WB X.env.scope x:=by first|exact Or.inl rfl|exact gG (Or.inl rfl)|exact gG (gG rfl))(hd:(x==("__debug__":Str))=false:=by decide)
  (hcd:(x==("__classdict__":Str))=false:=by decide):PE X (.Name x pos) (jd i):=(Uw hN hv hd hcd).mono λσ H Q h=>by
 unfold jd at h
 split at h
 ·rename_i v e;exact⟨v,e,h⟩
 ·exact h.elim
noncomputable def Gv (mg:Str->Option Value) (x:Str) (v:V):Prop:=∃u,mg x=some u/\RelV v u
theorem Wd{x:Str}{v:V}{pos:Pos}(h:Gv X.mg x v)(hg:Gl X x:=by rfl)(hd:(x==("__debug__":Str))=false:=by decide):PE X (.Name x pos) (tC v):=by
 obtain⟨u,hm,r⟩:=h
 exact R0 hg hm r hd
theorem Wf{x:Str}{T:String}{pos:Pos}(hm:X.mg x=none)(hv:bootBuiltins x=some (.type T))(hg:Gl X x:=by rfl)(hn:x≠"__name__":=by decide)(hd:(x==("__debug__":Str))=false:=by decide):
  PE X (.Name x pos) (tC (.ty T)):=RW hg hm hv rfl hn hd
end
noncomputable def qx:R2:=λx y H Q=>match x,y with
 | .int i,.int j=>Q (.int (i+j)) H
 | .str i,.str j=>i.length+j.length<=sizeLine/\Q (.str (i++j)) H
 |_,_=>False
noncomputable def E6:R2:=λx y H Q=>match x,y with
 | .int i,.int j=>Q (.int (i-j)) H
 |_,_=>False
noncomputable def KG:R2:=λx y H Q=>match x,y with
 | .int i,.int j=>IQ i j/\Q (.int (i*j)) H
 | .str z,.int n=>z.length<=1000/\(n=0∨n=1)/\Q (.str (if n=1 then z else dF)) H
 |_,_=>False
noncomputable def wG:R2:=λx y H Q=>match x,y with
 | .int i,.int j=>DS i j/\Q (.int (i/j)) H
 |_,_=>False
noncomputable def xU:R2:=λx y H Q=>match x,y with
 | .int i,.int j=>0<j/\Q (.int (i%j)) H
 |_,_=>False
noncomputable def Rj:R2:=λx y H Q=>match x,y with
 | .int i,.int j=>S1 i j/\Q (.int (i^j.toNat)) H
 |_,_=>False
noncomputable def tR (p:Int->Int->Bool):R2:=λx y H Q=>match x,y with
 | .int i,.int j=>Q (.bl (p i j)) H
 |_,_=>False
noncomputable abbrev LS:R2:=tR λi j=>decide (i<j)
noncomputable abbrev Vp:R2:=tR λi j=>decide (i<=j)
noncomputable abbrev U0:R2:=tR λi j=>decide (j<i)
noncomputable def eqv:V->V->Option Bool
 | .int i,.int j=>some (decide (i=j))
 | .str i,.str j=>some (decide (i=j))
 | .bl i,.bl j=>some (decide (i=j))
 | .kG,.kG=>some true
 | .kG,.int _=>some false| .int _,.kG=>some false| .kG,.bl _=>some false| .bl _,.kG=>some false| .kG,.str _=>some false| .str _,.kG=>some false
 | .int _,.str _=>some false| .str _,.int _=>some false| .bl _,.str _=>some false| .str _,.bl _=>some false
 |_,_=>none
noncomputable def zK:R2:=λx y H Q=>match eqv x y with
 |some b=>Q (.bl b) H
 |none=>False
noncomputable def Rh:R2:=λx y H Q=>match eqv x y with
 |some b=>Q (.bl (!b)) H
 |none=>False
noncomputable def rd:V->Bool
 | .kG=>true
 |_=>false
noncomputable def QS:R2:=λx y H Q=>match y with
 | .kG=>Q (.bl (rd x)) H
 |_=>False
noncomputable def sV:R2:=λx y H Q=>match y with
 | .kG=>Q (.bl (!rd x)) H
 |_=>False
noncomputable def O2:V->Hp->VK->Prop:=λx H Q=>match x with
 | .int i=>Q (.int (-i)) H
 |_=>False
theorem KW{x y:V}{b:Bool}(h:eqv x y=some b):UN x y=true/\decide (x=y)=b:=by
 cases x<;>cases y<;>first
  |exact⟨rfl,(decide_eq_decide.mpr ⟨λz=>by cases z;rfl,λz=>by cases z;rfl⟩).trans (bp h)⟩
  |exact⟨rfl,(decide_eq_false λz=>by cases z).trans (bp h)⟩
  |exact⟨rfl,(decide_eq_true rfl).trans (bp h)⟩
  |exact nomatch h
section
variable{X:Cx}
theorem Vq:tW X (binaryOp .Add) qx:=by
 intro pins s σ H x y v u Q I rx ry h
 unfold qx at h
 split at h
 ·exact Ud pins s σ H _ _ v u Q I rx ry ⟨_,_,rfl,rfl,h⟩
 ·exact Mt pins s σ H _ _ v u Q I rx ry ⟨_,_,rfl,rfl,h.1,h.2⟩
 ·exact h.elim
theorem VJ:tW X (binaryOp .Sub) E6:=Ul.mono λx y H Q h=>by
 unfold E6 at h
 split at h
 ·exact⟨_,_,rfl,rfl,h⟩
 ·exact h.elim
theorem VA:tW X (binaryOp .Mult) KG:=by
 intro pins s σ H x y v u Q I rx ry h
 unfold KG at h
 split at h
 ·exact Ui pins s σ H _ _ v u Q I rx ry ⟨_,_,rfl,rfl,h.1,h.2⟩
 ·rename_i z n
  obtain⟨t,rfl⟩:=(show∃t,v=eX z t from rx)
  obtain⟨t',rfl⟩:=(show∃t,u=dA n t from ry)
  obtain⟨hz,hn,h⟩:=h
  refine SB.mul (mulOk_of 1000 16 hz (by lia) (by lia) (by decide) (by decide)) λt2 k=> ?_
  rcases hn with rfl|rfl
  ·exact⟨.str dF,H,I.tok _,⟨t2,rfl⟩,h⟩
  ·exact⟨.str z,H,I.tok _,⟨t2,rfl⟩,h⟩
 ·exact h.elim
theorem Tn:tW X (binaryOp .FloorDiv) wG:=RT.mono λx y H Q h=>by
 unfold wG at h
 split at h
 ·exact⟨_,_,rfl,rfl,h.1,h.2⟩
 ·exact h.elim
theorem Vz:tW X (binaryOp .Mod) xU:=Uh.mono λx y H Q h=>by
 unfold xU at h
 split at h
 ·exact⟨_,_,rfl,rfl,h.1,h.2⟩
 ·exact h.elim
theorem VF:tW X (binaryOp .Pow) Rj:=Uj.mono λx y H Q h=>by
 unfold Rj at h
 split at h
 ·exact⟨_,_,rfl,rfl,h.1,h.2⟩
 ·exact h.elim
theorem O4{op:CmpOp}{p:Int->Int->Bool}(h:tW X (compareOp op) (SV λi j=> .bl (p i j))):tW X (compareOp op) (tR p):=h.mono λx y H Q h=>by
 unfold tR at h
 split at h
 ·exact⟨_,_,rfl,rfl,h⟩
 ·exact h.elim
theorem W0:tW X (compareOp .Lt) LS:=O4 V_
theorem WZ:tW X (compareOp .LtE) Vp:=O4 V9
theorem WW:tW X (compareOp .Gt) U0:=O4 V8
theorem Vs:tW X (compareOp .Eq) zK:=V7.mono λx y H Q h=>by
 unfold zK at h
 split at h
 ·rename_i b e
  obtain⟨e1,e2⟩:=KW e
  exact⟨e1,by rw[e2];exact h⟩
 ·exact h.elim
theorem VB:tW X (compareOp .NotEq) Rh:=Wa.mono λx y H Q h=>by
 unfold Rh at h
 split at h
 ·rename_i b e
  obtain⟨e1,e2⟩:=KW e
  exact⟨e1,by rw[e2];exact h⟩
 ·exact h.elim
theorem Iq(x:V):decide (x= .kG)=rd x:=by cases x<;>simp[rd]
theorem WX:tW X (compareOp .Is) QS:=Ug.mono λx y H Q h=>by
 unfold QS at h
 split at h
 ·exact⟨rfl,by rw[Iq];exact h⟩
 ·exact h.elim
theorem Rm:tW X (compareOp .IsNot) sV:=RU.mono λx y H Q h=>by
 unfold sV at h
 split at h
 ·exact⟨rfl,by rw[Iq];exact h⟩
 ·exact h.elim
theorem VE:Vj X (unaryOp .USub) O2:=λpins s σ H x v Q I rx h=>by
 unfold O2 at h
 split at h
 ·exact UW pins s σ H _ v Q I rx ⟨_,rfl,h⟩
 ·exact h.elim
end
end L2
namespace L2
open PySem PySem.Spec PyProof.Rows
noncomputable def OC:R2:=λx y H Q=>match x,y with
 | .ref p,.int i=>(match H p with
  |some (.lst xs)=>(match yy xs i with
   |some v=>Q v (rm H p)
   |none=>False)
  |_=>False)
 |_,_=>False
section
variable{X:Cx}{es:List Expr}{e:Expr}{t:TA}{ti:TE}{pos p2:Pos}
theorem RA:S4 X OC:=by
 intro value slice pins s σ H x y v u Q I rx ry h hsub
 unfold OC at h
 split at h
 case h_2=>exact h.elim
 rename_i p i
 split at h
 case h_2=>exact h.elim
 rename_i xs hp
 split at h
 case h_2=>exact h.elim
 rename_i v' ha
 have q:=h
 refine pL (Jn value slice pins s σ H _ _ v u (λz H'=>z=v'/\H'=H) I rx ry ⟨p,xs,i,v',rfl,rfl,lT.of hp,ha,rfl,rfl⟩ hsub) λu s' ⟨z,H',I',r,e1,e2⟩=> ?_
 subst e1 e2
 exact⟨z,rm H' p,I'.rm (by rw[hp];exact aF),r,q⟩
theorem R1(ha:PA X es t)(hi:PE X e ti)(hs:Fg e):PE X (.Subscript (.List es p2) e pos) (lu OC (zD t) ti):=SR RA (Qf ha) hi hs
end
noncomputable def zL:R2:=λx y H Q=>match x,y with
 | .ref p,.int i=>(match H p with
  |some (.lst xs)=>(match yy xs i with
   |some v=>Q v H
   |none=>False)
  |some (.tup xs)=>(match yy xs i with
   |some v=>Q v H
   |none=>False)
  |_=>False)
 |_,_=>False
noncomputable def xk:List V->Hp->VK->Prop:=λxs H Q=>match xs with
 | [.ref p]=>(match H p with
  |some (.lst ys)=>Q (.int ys.length) H
  |some (.tup ys)=>Q (.int ys.length) H
  |_=>False)
 |_=>False
noncomputable def Rg (K:aC):R2:=λx y H Q=>match x,y with
 | .ref p,.int i=>∃xs,lT K H p xs/\(match yy xs i with
   |some v=>Q v H
   |none=>False)
 |_,_=>False
noncomputable def MX (K:aC):List V->Hp->VK->Prop:=λxs H Q=>match xs with
 | [.ref p]=>∃ys,lT K H p ys/\Q (.int ys.length) H
 |_=>False
noncomputable def cInt:List V->Hp->VK->Prop:=λxs H Q=>match xs with
 | [.int i]=>Q (.int i) H
 | [.bl k]=>Q (.int (if k then 1 else 0)) H
 |_=>False
section
variable{X:Cx}
theorem WY:S4 X zL:=by
 intro value slice pins s σ H x y v u Q I rx ry h hsub
 unfold zL at h
 split at h
 case h_2=>exact h.elim
 split at h
 ·rename_i xs hp
  split at h
  case h_2=>exact h.elim
  rename_i v' ha
  exact Jn value slice pins s σ H _ _ v u Q I rx ry ⟨_,xs,_,v',rfl,rfl,lT.of hp,ha,h⟩ hsub
 ·rename_i xs hp
  split at h
  case h_2=>exact h.elim
  rename_i v' ha
  exact TK value slice pins s σ H _ _ v u Q I rx ry ⟨_,xs,_,v',rfl,rfl,LR.of hp,ha,h⟩ hsub
 ·exact h.elim
theorem Vx:S4 X (Rg X.K):=by
 intro value slice pins s σ H x y v u Q I rx ry h hsub
 unfold Rg at h
 split at h
 case h_2=>exact h.elim
 obtain⟨xs,hp,h⟩:=h
 split at h
 case h_2=>exact h.elim
 rename_i v' ha
 exact Jn value slice pins s σ H _ _ v u Q I rx ry ⟨_,xs,_,v',rfl,rfl,hp,ha,h⟩ hsub
theorem Vy:sT X (.builtin "len") xk:=CL.mono λxs H Q h=>by
 unfold xk at h
 split at h
 case h_2=>exact h.elim
 split at h
 ·rename_i ys hp;exact⟨_,ys,rfl,.inl (lT.of hp),h⟩
 ·rename_i ys hp;exact⟨_,ys,rfl,.inr (LR.of hp),h⟩
 ·exact h.elim
theorem Tp:sT X (.builtin "len") (MX X.K):=CL.mono λxs H Q h=>by
 unfold MX at h
 split at h
 case h_2=>exact h.elim
 obtain⟨ys,hp,h⟩:=h
 exact⟨_,ys,rfl,.inl hp,h⟩
theorem Vw:sT X (.type "int") cInt:=NX.mono λxs H Q h=>by
 unfold cInt at h
 split at h
 ·exact .inl ⟨_,rfl,h⟩
 ·exact .inr ⟨_,rfl,h⟩
 ·exact h.elim
end
theorem jq{CX:OM}{ca:Bool}{P:Program}{w:World}{K:aC}{mg:Str->Option Value}{base:Heap}{N:List Str}{qual:Str}{scope:Scope}{f:Addr}{cd:Value}{A:Around}{outer:List Env}{s:Shared}{H:Hp}{E:XK}:
  (KO CX ca P w K mg base N qual scope f cd A outer s H E).K=K:=rfl
end L2
namespace L2
open PySem PySem.Spec PyProof.Rows
structure SE(K:aC)(C:Addr):Prop where
 ga:aG K (.ref C) "__getattribute__"=some (some (.builtin "BaseException.__getattribute__"))
 gt:aG K (.ref C) "__getattr__"=some none
 cl:aG K (.ref C) "__class__"=some (some (.builtin "object.__class__"))
 hn:fR K (.builtin "object.__class__") "__get__"=some (some (.builtin "getset_descriptor.__get__"))
 tk:gh K (.builtin "object.__class__")=some true
 mb:eT K C (.type "BaseException")=some true
 mo:eT K C (.type "object")=some true
section
open Builtin Builtin.ObjectAttr Builtin.Getset_descriptor
variable{prog:Program}{w:World}{A:Around}{E:Value->Shared->Prop}{s:Shared}{K:aC}{a C:Addr}
theorem SE.cls(ki:SE K C):∃cd,fO K C=some cd:=by
 have h:=ki.mo
 unfold eT at h
 cases q:fO K C with
 |none=>rw[q]at h;cases h
 |some cd=>exact⟨cd,rfl⟩
theorem UZ{R:Result->Shared->Prop}{tp:Value}(X:K.In s.heap)(I:dH (model prog w) s.heap (typeOf (.ref a)) (.ref C))(ki:SE K C)(h:R (.ok (.ret (.ref C))) s):
  codeAny (model prog w) A (.call (.builtin "getset_descriptor.__get__") ⟨[.builtin "object.__class__",.ref a,tp],[]⟩) R s:=by
 obtain⟨hh,g,dr,t,os⟩:=s
 have L1:=gX (M:=model prog w) X ki.mo
 refine codeAny_call_builtin PySem.W.KF.slot_gs.plain PySem.W.KF.entry_gs (PySem.W.KF.slot_gs.check _ _ _ _ _ _ _ _ PySem.W.KF.type_class (PySem.W.KF.args_gs _ _ _) ?_)
 unfold Builtin.«getset_descriptor.__get__» descrGet;rw[PySem.W.dga_obj];refine wpAny_bind (wpAny_pure ?_)
 unfold descrGetter descrCheckInstance descrNameAndClass isInstance;simp only[PySem.W.KF.owner_class];repeat lk
 refine⟨Code.quiet_builtin _ (by decide+kernel),codeAny_builtin PySem.W.KF.entry_class ?_⟩;unfold Builtin.«object.__class__» shownTypeOf;repeat lk
 exact h
theorem QM{tk:Tok}{Q:Fin->Shared->Prop}(X:K.In s.heap)(I:dH (model prog w) s.heap (typeOf (.ref a)) (.ref C))(ki:SE K C)(h:Q (.done (.ret (.ref C))) s):
  wpAny (model prog w) A (Builtin.«object.__getattribute__» ⟨[.ref a,.str "__class__" tk],[]⟩) Q E s:=by
 obtain⟨hh,g,d,t,os⟩:=s
 have L1:dH (model prog w) hh (find (.ref a) (.ref C) "__class__") (.bind (.builtin "getset_descriptor.__get__") (.builtin "object.__class__")):=by
  have LA:=dZ (M:=model prog w) X ki.cl
  have LB:dH (model prog w) hh (getOf (some (.builtin "object.__class__"))) (some (.builtin "getset_descriptor.__get__")):=PySem.W.looks_specialIn X ki.hn
  have LC:=PySem.W.looks_takesIn (M:=model prog w) X ki.tk
  refine LA.andThen (LB.andThen ?_)
  exact(show dH (model prog w) hh (dataDescriptor? (some (.builtin "object.__class__")) (some (.builtin "getset_descriptor.__get__"))) (some (.builtin "getset_descriptor.__get__",.builtin "object.__class__")) from LC.andThen .now).andThen (PySem.W.Looks.tag .now)
 unfold Builtin.«object.__getattribute__»
 refine wpAny_bind (m:=slotArgs _ _ _) (wpAny_pure ?_)
 refine wpAny_bind (m:=attrName _) (wpAny_pure ?_)
 refine wpAny_bind (I.at (wpAny_bind (L1.at ?_)))
 show wpAny _ _ (bindTo _ _ _ _) _ _ _
 show wpAny _ _ (holding [_] (call _ [_,.ref a,.ref C])>>=ret) _ _ _
 exact wpAny_bind (wpAny_holding (wpAny_call (UZ X I ki (wpAny_pure h))))
theorem SD{tk:Tok}{R:Result->Shared->Prop}(X:K.In s.heap)(I:dH (model prog w) s.heap (typeOf (.ref a)) (.ref C))(ki:SE K C)(h:R (.ok (.ret (.ref C))) s):
  codeAny (model prog w) A (.call (.builtin "BaseException.__getattribute__") ⟨[.ref a,.str "__class__" tk],[]⟩) R s:=by
 obtain⟨hh,g,d,t,os⟩:=s
 have L1:=gX (M:=model prog w) X ki.mb
 refine codeAny_call_builtin PySem.F.attr_ValueError.ga.plain PySem.F.entry_bexc_ga ?_
 have hk:builtinKind "BaseException.__getattribute__"=some .slot:=by decide+kernel
 have hsplit:splitId "BaseException.__getattribute__"=some ("BaseException","__getattribute__"):=by decide+kernel
 have ha:=PySem.F.args_bexc_ga (.ref a) (.str "__class__" tk)
 simp only[checkBuiltinCall,hk,hsplit]
 refine wpAny_bind (wpAny_bind (I.at (L1.at ?_)))
 rw[if_neg (by decide)]
 unfold argsOk at ha
 exact wpAny_of_eq (a:=()) ha (QM X I ki h)
theorem SA{Q:Option Value->Shared->Prop}(X:K.In s.heap)(I:dH (model prog w) s.heap (typeOf (.ref a)) (.ref C))(ki:SE K C)(h:Q (some (.ref C)) {s with toks:=s.toks+1}):
  wpAny (model prog w) A (getAttr? (.ref a) "__class__") Q E s:=by
 obtain⟨hh,g,d,t,os⟩:=s
 have L1:=dZ (M:=model prog w) X ki.ga
 have L2:=dZ (M:=model prog w) X ki.gt
 unfold getAttr? getAttrBy? getAttrBy
 refine wpAny_bind (wpAny_mkText (wpAny_bind (wpAny_attempt (wpAny_holding (wpAny_bind (I.at (wpAny_bind (L1.at ?_))))))))
 show wpAny _ _ (getAttrByItsOwn _ _ _ _ _ _) _ _ _
 unfold getAttrByItsOwn
 refine wpAny_bind (m:=hookBefore _) ?_
 show wpAny _ _ (typeLookup (.ref C) "__getattr__") _ _ _
 refine L2.at (wpAny_bind (wpAny_attempt (wpAny_holding ?_)))
 show wpAny _ _ (boundAndCalled _ _ _) _ _ _
 unfold boundAndCalled
 refine wpAny_bind (wpAny_of_eq (PySem.F.attr_ValueError.ga.bind _) ?_)
 refine wpAny_call (SD X I ki ?_)
 exact PySem.W.handed_on rfl (wpAny_pure h)
theorem PR(ki:SE K C):PySem.W.KitX K (.ref a) (.ref C) (λh=>∃o vs,h.get? a=some o/\o.cls= .ref C/\o.data= .fields vs) where
 ty:=λM h _ p=>LO p
 it:=λ_ _ X _=>by
  obtain⟨cd,hc⟩:=ki.cls
  unfold fO at hc
  split at hc
  ·rename_i c' d' cd' sl' ho
   intro A' Q' E' s' k q;unfold isType loadHead;exact wpAny_bind (wpAny_loadPart (k _ _ (X _ _ ho)) (wpAny_pure q))
  ·cases hc
 ne:=λh tp dd its n sl X htp=>by
  obtain⟨cd,hc⟩:=ki.cls
  refine Bool.eq_false_iff.mpr λq=> ?_
  have e:C=tp:=Value.ref.inj (beq_iff_eq.mp q)
  subst e
  unfold fO at hc
  split at hc
  ·rename_i c' d' cd' sl' ho;have z:=(X _ _ ho).symm.trans htp;cases z
  ·cases hc
 ca:=λX p k=>SA X (LO p) ki k
end
structure X1(K:aC)(C:Addr):Prop where
 cl:Hc K C
 ha:aG K (.ref C) "__class__"=some (some (.builtin "object.__class__"))
 hn:fR K (.builtin "object.__class__") "__get__"=some (some (.builtin "getset_descriptor.__get__"))
 tk:gh K (.builtin "object.__class__")=some true
 hm:eT K C (.type "object")=some true
noncomputable def SY (H:Hp):V->Option Value
 | .kG=>some (.type "NoneType")
 | .bl _=>some (.type "bool")
 | .int _=>some (.type "int")
 | .str _=>some (.type "str")
 | .ref a=>match H a with
  |some (.lst _)=>some (.type "list")
  |some (.F8 _ (.lst _))=>some (.type "list")
  |some (.tup _)=>some (.type "tuple")
  |some (.dK _)=>some (.type "dict")
  |some (.ins C _ _)=>some (.ref C)
  |some (.exc c)=>some c
  |_=>none
 |_=>none
noncomputable def Kt (K:aC) (H:Hp):V->Prop
 | .ref a=>match H a with
  |some (.ins C _ _)=>X1 K C
  |some (.exc c)=>∃C,c= .ref C/\SE K C
  |_=>True
 |_=>True
noncomputable def RI (K:aC) (t:Value):V->Option Bool
 | .ty n=>a_ K t (.type n)
 | .ref C=>a_ K t (.ref C)
 |_=>none
noncomputable def OB (K:aC):List V->Hp->VK->Prop:=λxs H Q=>match xs with
 | [x,c]=>(match SY H x with
  |some t=>Kt K H x/\(match RI K t c with
   |some b=>Q (.bl b) H
   |none=>False)
  |none=>False)
 |_=>False
theorem O9{X:Cx}:sT X (.builtin "isinstance") (OB X.K):=by
 intro pins s σ H xs us Q I r h
 unfold OB at h
 split at h
 case h_2=>exact h.elim
 rename_i x c
 obtain⟨u,w',rfl,rx,rc⟩:=vals2 r
 split at h
 case h_2=>exact h.elim
 rename_i t ht
 obtain⟨ok,h⟩:=h
 split at h
 case h_2=>exact h.elim
 rename_i b hk
 have q:=h
 have hc:a_ X.K t w'=some b:=by
  cases c<;>first|(cases (show w'=dC _ from rc);exact hk)|(cases (show w'=bj _ from rc);exact hk)|cases hk
 have fin:∀tk,EP X pins σ Q (.bool b) {s with toks:=tk}:=λtk=>⟨.bl b,H,I.tok tk,rfl,q⟩
 cases x with
 |kG=>cases ht;exact q8 I rx .kG hc fin
 |bl y=>cases ht;exact q8 I rx (.bl y) hc fin
 |int i=>cases ht;exact q8 I rx (.int i) hc fin
 |str y=>cases ht;exact q8 I rx (.str y) hc fin
 |byt y=>cases ht
 |Po y=>cases ht
 |ty n=>cases ht
 |ref a=>
  unfold SY at ht
  unfold Kt at ok
  dsimp only at ht ok
  cases e:H a with
  |none=>rw[e]at ht;cases ht
  |some o=>
   rw[e]at ht ok
   cases o with
   |lst xs=>cases ht;exact q8 I rx (.lst e) hc fin
   |tup xs=>cases ht;exact q8 I rx (.tup e) hc fin
   |dK kvs=>cases ht;exact q8 I rx (.dK e) hc fin
   |ins C dx fs=>cases ht;exact q8 I rx (.ins e ok.cl ok.ha ok.hn ok.tk ok.hm) hc fin
   |F8 ob u=>
    cases u with
    |lst xs=>cases ht;exact q8 I rx (.F8 e) hc fin
    |_=>cases ht
   |exc c=>
    cases ht
    obtain⟨C,rfl,ki⟩:=ok
    cases (show u=bj a from rx)
    exact cE (PR ki) I.DR (show mQ X.prog X.w H s.heap a (.exc (.ref C)) from I.lB a _ e) hc (λz=>nomatch z) fin
   |_=>cases ht
theorem U_:(0<=sizeLine)=True:=eq_true (by decide)
theorem DK:(1<=sizeLine)=True:=eq_true (by decide)
theorem QV:(2<=sizeLine)=True:=eq_true (by decide)
theorem Bj{a b:String}:(bg a=bg b)=(a=b):=by
 refine propext ⟨λh=> ?_,λh=>by rw[h]⟩
 rw[gz,gz]at h
 have h1:(a.toList.map gJ).toArray=(b.toList.map gJ).toArray:=congrArg Str.cps h
 have h2:a.toList.map gJ=b.toList.map gJ:=congrArg Array.toList h1
 have h3:a.toList=b.toList:=by
  refine(List.map_inj_right λx y e=> ?_).mp h2
  exact Char.ext (UInt32.toNat_inj.mp e)
 exact String.toList_inj.mp h3
theorem Rt:dF=bg "":=by decide+kernel
end L2
namespace L2
open PySem PySem.Spec PyProof.Rows
noncomputable def notStar:Expr->Bool
 | .Starred _ _=>false
 |_=>true
theorem tP{e:Expr}{rest:List Expr}{env:Env}(h:notStar e=true):starEach (e::rest) env=(false,eval e env)::starEach rest env:=by
 cases e<;>first|rfl|cases h
theorem tO{env:Env}{pos:Pos}:∀{es:List Expr},es.all notStar=true->(backTo pos (starEach es env)).any (·.1)=false
 | [],_=>rfl
 |e::es,h=>by
  rw[bP,aQ]at h
  rw[tP h.1]
  show(false ||(backTo pos (starEach es env)).any (·.1))=false
  rw[tO h.2];rfl
section
variable{X:Cx}{ca:Bool}{k:Nat}{f C:Addr}{fd:FuncData}{ps:List Str}{sp:Sp}{E:St->XK}{x m:Str}{p pos apos np cpos:Pos}{e o:Expr}{es:List Expr}{te ta:TE}{t:TA}{id T:String}{r:List V->Hp->VK->Prop}
theorem Xn(ha:PE X e te)(hr:PA X es t)(h:notStar e=true:=by rfl):PA X (e::es) (jc te t):=RV ha hr (tP h)
theorem Qa(F:jO X.prog X.w X.K X.mg X.base (lV X.prog X.w) ca k f fd ps sp)(hr:pU ca k X.A)(hg:Gl X x)(hm:X.mg x=some (.ref f))(hk:bO X.K (.ref f)=true)(hb:Binds X.K fd ps [])(hx:Exc X E)
  (ha:PA X (e::es) t) (hdb:(x==("__debug__":Str))=false:=by decide) (h:(e::es).all notStar=true:=by rfl):PE X (.Call (.Name x p) (e::es) [] pos) (jm sp E t):=
 P_ F hr hg hm hk hb hx ha hdb (tP (by rw[bP,aQ]at h;exact h.1)) (tO (by rw[bP,aQ]at h;exact h.2))
theorem Qh(M:Mk X.K C f)(F:jO X.prog X.w X.K X.mg X.base (lV X.prog X.w) ca k f fd ps sp)(hr:pU ca (k+1) X.A)(hg:Gl X x)(hm:X.mg x=some (.ref C))(hb:Binds X.K fd ps [])(hx:Exc X E)
  (ha:PA X (e::es) t) (hdb:(x==("__debug__":Str))=false:=by decide) (h:(e::es).all notStar=true:=by rfl):PE X (.Call (.Name x p) (e::es) [] pos) (rZ C sp E t):=
 Qg M F hr hg hm hb hx ha hdb (tP (by rw[bP,aQ]at h;exact h.1)) (tO (by rw[bP,aQ]at h;exact h.2))
theorem OA(hx:Exc X E)(hg:Gl X x)(hm:X.mg x=some (.ref C))(hq:DT X.K C)(hc:X.calm=true)(ha:PA X (e::es) t)(h:(e::es).all notStar=true:=by rfl)(hdb:(x==("__debug__":Str))=false:=by decide):
  PS X (.Raise (some (.Call (.Name x np) (e::es) [] cpos)) none pos) (lH C E t):=
 Qp hx hg hm hq hc ha (tP (by rw[bP,aQ]at h;exact h.1)) (tO (by rw[bP,aQ]at h;exact h.2)) hdb
theorem Ot(hc:sT X (.builtin id) r)(hg:Gl X x)(hm:X.mg x=none)(hv:bootBuiltins x=some (.builtin id))(ha:PA X (e::es) t)(hn:x≠"__name__":=by decide)(hdb:(x==("__debug__":Str))=false:=by decide)
  (h:(e::es).all notStar=true:=by rfl):PE X (.Call (.Name x p) (e::es) [] pos) (A6 r t):=
 P9 hc hg hm hv ha hn hdb (tP (by rw[bP,aQ]at h;exact h.1)) (tO (by rw[bP,aQ]at h;exact h.2))
theorem Mu(hc:sT X (.type T) r)(hg:Gl X x)(hm:X.mg x=none)(hv:bootBuiltins x=some (.type T))(ha:PA X (e::es) t)(hn:x≠"__name__":=by decide)(hdb:(x==("__debug__":Str))=false:=by decide)
  (h:(e::es).all notStar=true:=by rfl):PE X (.Call (.Name x p) (e::es) [] pos) (A6 r t):=
 Ou hc hg hm hv ha hn hdb (tP (by rw[bP,aQ]at h;exact h.1)) (tO (by rw[bP,aQ]at h;exact h.2))
end
end L2
namespace L2
open PySem PySem.Spec PyProof.Rows
noncomputable def lA (J:It) (g:TG) (tb:TS) (D:Ends) (σ:St) (H1:Hp):Prop:=∃W:Nat->Nat->St->Hp->Prop,(∃m,W 0 m σ H1)/\∀i m σ H,W i m σ H->
 (J.stop i H/\D.nx σ H)∨(J.go i H/\∃N:St->Hp->Prop,(∀σ' H',N σ' H'->∃m',m'<m/\W (i+1) m' σ' H')/\∀x H',J.S0 i H x H'->g x σ H' λσ2 H2=>tb {D with nx:=N,ct:=N,bk:=D.nx} σ2 H2)
theorem mh{wi:TI}{g:TG}{tb:TS}:UR wi g tb=λD σ H=>wi σ H λJ H1=>lA J g tb D σ H1:=rfl
theorem lA.range{lo:Int}{n:Nat}{g:TG}{tb:TS}{D:Ends}{σ:St}{H:Hp}(Pv:Nat->St->Hp->Prop)(h0:Pv 0 σ H)
  (hs:∀i σ H,i<n->Pv i σ H->g (.int (lo+i)) σ H λσ2 H2=>tb {D with nx:=Pv (i+1),ct:=Pv (i+1),bk:=D.nx} σ2 H2) (hd:∀σ H,Pv n σ H->D.nx σ H):lA (QO lo n) g tb D σ H:=
 N3 Pv h0 hs hd
theorem lA.list{K:aC}{a:Addr}{xs:List V}{g:TG}{tb:TS}{D:Ends}{σ:St}{H:Hp}(Pv:Nat->St->Hp->Prop)(h0:Pv 0 σ H)(hl:∀i σ H,i<=xs.length->Pv i σ H->lT K H a xs)
  (hs:∀i x σ H,xs[i]? =some x->Pv i σ H->g x σ H λσ2 H2=>tb {D with nx:=Pv (i+1),ct:=Pv (i+1),bk:=D.nx} σ2 H2) (hd:∀σ H,Pv xs.length σ H->D.nx σ H):lA (QN K a) g tb D σ H:=
 Pq Pv h0 hl hs hd
theorem FK{α:Type}{xs:List α}{j:Nat}:yy xs (j:Int)=xs[j]? :=by
 cases h:xs[j]? with
 |some v=>exact ko h
 |none=>
  have hl:xs.length<=j:=List.getElem?_eq_none_iff.mp h
  unfold yy Jm
  rw[if_pos (by lia),if_neg (by lia)]
  rfl
theorem Cw{α:Type}{xs:List α}:yy xs 0=xs[0]? :=FK (j:=0)
theorem FJ{α:Type}{xs:List α}:yy xs 1=xs[1]? :=FK (j:=1)
theorem Aq{n:Nat}{i:Int}(h0:0<=i)(h1:i<n):Jm n i=some i.toNat:=by
 unfold Jm
 rw[if_pos h0,if_pos h1]
theorem Ta{α:Type}{xs:List α}{i:Int}(h0:0<=i)(h1:i<xs.length):yy xs i=xs[i.toNat]? :=by
 unfold yy
 rw[Aq h0 h1];rfl
noncomputable def KC (K:aC) (ta:TE) (f:Str):TE:=λσ H Q=>ta σ H λx H1=>match x with
 | .ref a=>(match H1 a with
  |some (.ins C _ fs)=>Hc K C/\mj K C f/\(match fs.lookup f with
   |some v=>Q v H1
   |none=>False)
  |_=>False)
 |_=>False
noncomputable def r_ (K:aC) (ta tv:TE) (f:Str):TS:=λD σ H=>tv σ H λy H1=>ta σ H1 λx H2=>match x with
 | .ref a=>(match H2 a with
  |some (.ins C dx fs)=>Hc K C/\mj K C f/\fs.length<1000/\D.nx σ (upd H2 a (.ins C dx (lq f y fs)))
  |_=>False)
 |_=>False
noncomputable def yI (C:Addr) (m:Str) (sp:Sp) (E:St->XK) (ta:TE) (t:TA):TE:=λσ H Q=>ta σ H λx H1=>match x with
 | .ref a=>(match H1 a with
  |some (.ins C' _ fs)=>C'=C/\fs.lookup m=none/\t σ H1 λvs H2=>sp (x::vs) H2 Q (E σ)
  |_=>False)
 |_=>False
noncomputable def xV:NQ:=λo i v H Q=>match o,i with
 | .ref p,.int k=>(match H p with
  |some (.lst xs)=>(match Jm xs.length k with
   |some j=>Q (upd H p (.lst (xs.set j v)))
   |none=>False)
  |_=>False)
 |_,_=>False
noncomputable def KI:R2:=λx y H Q=>match x,y with
 | .ref l,.int k=>(match H l with
  |some (.lst xs)=> -(2^63)<=k/\k<2^63/\xs.length*k.toNat<=sizeLine/\∀p,H p=none->Q (.ref p) (upd H p (.lst (ah k.toNat xs).flatten))
  |_=>False)
 |_,_=>False
noncomputable def U1:V->Option Int->Option Int->Hp->VK->Prop:=λx lo hi H Q=>match x with
 | .ref a=>(match H a with
  |some (.lst xs)=>∀p,H p=none->Q (.ref p) (upd H p (.lst (DZ xs lo hi)))
  |_=>False)
 |_=>False
noncomputable def Rk (K:aC):V->Option Int->Option Int->Hp->VK->Prop:=λx lo hi H Q=>match x with
 | .ref a=>∃xs,lT K H a xs/\∀p,H p=none->Q (.ref p) (upd H p (.lst (DZ xs lo hi)))
 |_=>False
noncomputable def Ii (t:TE):TO:=λσ H Q=>t σ H λx H1=>match x with
 | .int i=>Q (some i) H1
 |_=>False
noncomputable def qy:V->List V->Hp->VK->Prop:=λx vs H Q=>match x,vs with
 | .ref l,[y]=>(match H l with
  |some (.lst xs)=>xs.length<sizeLine/\Q .kG (upd H l (.lst (xs++[y])))
  |_=>False)
 |_,_=>False
noncomputable def NS (r:V->List V->Hp->VK->Prop) (to:TE) (t:TA):TE:=λσ H Q=>to σ H λx H1=>match x with
 | .ref a=>(match H1 a with
  |some (.lst _)=>t σ H1 λxs H2=>r x xs H2 Q
  |_=>False)
 |_=>False
noncomputable def kL:V->Option Key
 | .int n=>some (.inl n)
 | .str x=>some (.inr x)
 |_=>none
noncomputable def jZ (td ty:TE):TE:=λσ H Q=>td σ H λx H1=>ty σ H1 λy H2=>match x with
 | .ref a=>(match H2 a,kL y with
  |some (.dK kvs),some k=>(match vH kvs k with
   |some v=>Q v H2
   |none=>False)
  |_,_=>False)
 |_=>False
noncomputable def KA (td ty tv:TE):TS:=λD σ H=>tv σ H λv H1=>td σ H1 λx H2=>ty σ H2 λy H3=>match x with
 | .ref a=>(match H3 a,kL y with
  |some (.dK kvs),some k=>kvs.length<sizeLine/\D.nx σ (upd H3 a (.dK (putK kvs k v)))
  |_,_=>False)
 |_=>False
theorem Fu{y:V}{k:Key}(h:kL y=some k):y=kV k:=by
 cases y<;>cases h<;>rfl
section
variable{X:Cx}{e o i f' value:Expr}{f m:Str}{pos pos' apos cpos p2:Pos}{ta tv td ty tx te:TE}{t:TA}{lo hi:Option Expr}{tl th:TO}
theorem SF.mono{r r':V->Option Int->Option Int->Hp->VK->Prop}(h:SF X r)(k:∀x lo hi H Q,r' x lo hi H Q->r x lo hi H Q):SF X r':=λpins s σ H x v vl vu lo hi sl Q I rx hs pl pu q=>h pins s σ H x v vl vu lo hi sl Q I rx hs pl pu (k _ _ _ _ _ q)
theorem SH(he:PE X e ta)(hb:attributeBase e f X.env (eval e X.env)=eval e X.env):PE X (.Attribute e f pos) (KC X.K ta f):=by
 intro pins s σ H Q I h
 refine Q3 hb (pL (he pins s σ H _ I h) λu s1 ⟨x,H1,I1,rx,q⟩=> ?_)
 try dsimp only at q
 split at q
 case h_2=>exact q.elim
 rename_i a
 split at q
 case h_2=>exact q.elim
 rename_i C dx fs ea
 obtain⟨c,n,q⟩:=q
 try dsimp only at q
 split at q
 case h_2=>exact q.elim
 rename_i v l
 obtain rfl:u=bj a:=rx
 exact Me I1 ea c n l λu' s2 I2 ru=>⟨v,H1,I2,ru,q⟩
theorem Tt(ha:PE X o ta)(hv:PE X value tv)(hs:swapsWith value (some (.Attribute o f pos')) pos.line X.env=pure false):PS X (.Assign [.Attribute o f pos'] value pos) (r_ X.K ta tv f):=by
 intro pins s σ H D I h
 refine plainObj_wpAny_Assign_Attribute (pL (hv pins s σ H _ I h) λu s1 ⟨y,H1,I1,ry,q⟩=>pL (ha pins s1 σ H1 _ I1 q) λov s2 ⟨x,H2,I2,rx,q2⟩=> ?_) hs
 try dsimp only at q2
 split at q2
 case h_2=>exact q2.elim
 rename_i a
 split at q2
 case h_2=>exact q2.elim
 rename_i C dx fs ea
 obtain⟨c,n,l,q2⟩:=q2
 obtain rfl:ov=bj a:=rx
 exact ME I2 ea c n l ry λs3 I3=>⟨σ,_,I3,q2⟩
theorem VH:QZ X xV:=by
 intro pins s σ H o i v ov iv u Q I ro ri rv h
 unfold xV at h
 split at h
 case h_2=>exact h.elim
 split at h
 case h_2=>exact h.elim
 rename_i xs hp
 split at h
 case h_2=>exact h.elim
 rename_i j hj
 exact set_list pins s σ H _ _ v ov iv u Q I ro ri rv ⟨_,xs,_,j,rfl,rfl,hp,hj,h⟩
theorem VG:tW X (binaryOp .Mult) KI:=Uk.mono λx y H Q h=>by
 unfold KI at h
 split at h
 case h_2=>exact h.elim
 split at h
 case h_2=>exact h.elim
 rename_i xs hp
 exact⟨_,_,xs,rfl,rfl,hp,h.1,h.2.1,h.2.2.1,h.2.2.2⟩
theorem W2:SF X U1:=NI.mono λx lo hi H Q h=>by
 unfold U1 at h
 split at h
 case h_2=>exact h.elim
 split at h
 case h_2=>exact h.elim
 rename_i xs hp
 exact⟨_,xs,rfl,lT.of hp,h⟩
theorem VI:SF X (Rk X.K):=NI.mono λx lo hi H Q h=>by
 unfold Rk at h
 split at h
 case h_2=>exact h.elim
 obtain⟨xs,hp,h⟩:=h
 exact⟨_,xs,rfl,hp,h⟩
theorem Ts(h:PE X e te):PO X (some e) (Ii te):=by
 intro pins s σ H Q I hw
 rw[evalPart_some]
 refine pL (h pins s σ H _ I hw) λu s1 ⟨x,H1,I1,r1,q1⟩=> ?_
 try dsimp only at q1
 split at q1
 case h_2=>exact q1.elim
 rename_i i
 obtain⟨t,rfl⟩:=r1
 exact⟨some i,H1,I1,.int i t,q1⟩
theorem O3:WA X "list.append" qy:=λpins s σ H x xs v us Q I rx rxs h=>by
 unfold qy at h
 split at h
 case h_2=>exact h.elim
 split at h
 case h_2=>exact h.elim
 rename_i ys hp
 exact Ol pins s σ H _ _ v us Q I rx rxs ⟨_,ys,_,rfl,rfl,hp,h.1,h.2⟩
theorem TF{H:Hp}{a:Addr}{kvs:List (Key×V)}(e:H a=some (.dK kvs)):XG H a:= .inl ⟨kvs,.inl e⟩
theorem Tg(hu:X.A.units+1<cLine)(ho:PE X o td)(hi:PE X i ty)(hs:S6 i):PE X (.Subscript o i pos) (jZ td ty):=by
 intro pins s σ H Q I h
 refine Sw PySem.F.slot_dict_getitem.lookup hs (pL (ho pins s σ H _ I h) λu s1 ⟨x,H1,I1,rx,q1⟩=>pL (hi pins s1 σ H1 _ I1 q1) λiv s2 ⟨y,H2,I2,ry,q2⟩=> ?_)
 try dsimp only at q2
 split at q2
 case h_2=>exact q2.elim
 rename_i a _
 split at q2
 case h_2=>exact q2.elim
 rename_i kvs k ea ek
 split at q2
 case h_2=>exact q2.elim
 rename_i v ev
 have ey:=Fu ek
 subst ey
 obtain rfl:u=bj a:=rx
 have g:Ks H2 a (kV k) (some v):=ev▸Ks.k ea
 exact⟨KP I2 g,NZ hu I2 g ry λw' s3 I3 rw'=>⟨v,H2,I3,rw',q2⟩⟩
theorem Tj(hu:X.A.units+1<cLine)(ho:PE X o td)(hi:PE X i ty)(hv:PE X value tv)(hs:swapsWith value (some (.Subscript o i pos')) pos.line X.env=pure false):
  PS X (.Assign [.Subscript o i pos'] value pos) (KA td ty tv):=by
 intro pins s σ H D I h
 refine wpAny_Assign_Subscript (pL (hv pins s σ H _ I h) λr s1 ⟨v,H1,I1,rv,q1⟩=>pL (ho pins s1 σ H1 _ I1 q1) λu s2 ⟨x,H2,I2,rx,q2⟩=>pL (hi pins s2 σ H2 _ I2 q2) λiv s3 ⟨y,H3,I3,ry,q3⟩=> ?_) hs
 try dsimp only at q3
 split at q3
 case h_2=>exact q3.elim
 rename_i a _
 split at q3
 case h_2=>exact q3.elim
 rename_i kvs k ea ek
 have ey:=Fu ek
 subst ey
 obtain rfl:u=bj a:=rx
 exact N0 hu I3 (QX.k ea q3.1) ry rv λs4 I4=>⟨σ,_,I4,q3.2⟩
end
section
variable{X:Cx}{e o:Expr}{es:List Expr}{to:TE}{t:TA}{apos cpos:Pos}{r:V->List V->Hp->VK->Prop}
theorem WV{id:String}{name:Str}(slot:Slot "list" name id)(hty:typeOf (.builtin id)=pure (.type "method_descriptor"))(hm:XI X id r)(ho:PE X o to)(ha:PA X (e::es) t)(hns:(e::es).all notStar=true:=by rfl)
  (hbase:attributeBase o name X.env (eval o X.env)=eval o X.env:=by rfl)
  (hfew:((backTo cpos (starEach (e::es) X.env)).all (λx=> !x.1)&&(backToKw cpos (keywordEach [] X.env)).all (λx=>x.1.isSome)
   &&decide ((e::es).length+([]:List Keyword).length+(if ([]:List Keyword).isEmpty then 0 else 1)<30))=true:=by rfl)
  (hline:(apos.endLine==cpos.line)=true:=by rfl):PE X (.Call (.Attribute o name apos) (e::es) [] cpos) (NS r to t):=by
 intro pins s σ H Q I h
 have hs:starEach (e::es) X.env=(false,eval e X.env)::starEach es X.env:=tP (by rw[bP,aQ]at hns;exact hns.1)
 have hplain:(backTo cpos (starEach es X.env)).any (·.1)=false:=tO (by rw[bP,aQ]at hns;exact hns.2)
 refine wpAny_Call_method_late hbase hfew hline rfl (pL (ho pins s σ H _ I h) λv s1 ⟨x,H1,I1,r1,q1⟩=> ?_)
 try dsimp only at q1
 split at q1
 case h_2=>exact q1.elim
 rename_i a
 split at q1
 case h_2=>exact q1.elim
 rename_i ys ea
 have ty:X0 X.K "list" (.ref a) H1:= .inl ⟨rfl,ys,lT.of ea⟩
 obtain⟨h1,h2⟩:=UU I1 r1 ty
 refine⟨"list",id,PySem.F.plainAttrs_list,slot,hty,h1,h2,?_⟩
 have hA:=ha cpos pins s1 σ H1 _ I1 q1
 rw[hs]at hA⊢
 refine gj (by show(false ||(backTo cpos (starEach es X.env)).any (·.1))=false;rw[hplain]<;>rfl) (eZ ?_)
 exact pL hA λus s2 ⟨vs,H2,I2,r2,q2⟩=>hm pins s2 σ H2 _ vs v us Q I2 r1 r2 q2
end
section
variable{X:Cx}{ca:Bool}{k:Nat}{f C:Addr}{fd:FuncData}{ps:List Str}{sp:Sp}{E:St->XK}{m:Str}{pos apos:Pos}{e o:Expr}{es:List Expr}{ta:TE}{t:TA}
theorem Tr{pl:Sem Bool}(he:PE X o ta)(c:Hc X.K C)(hm:Meth X.K C m f)(F:jO X.prog X.w X.K X.mg X.base (lV X.prog X.w) ca k f fd ps sp)(hr:pU ca k X.A)(hb:Binds X.K fd ps [])(hx:Exc X E)(ha:PA X (e::es) t)
  (hns:(e::es).all notStar=true:=by rfl)
  (ht:eval (.Call (.Attribute o m apos) (e::es) [] pos) X.env=(do
   let ov←eval o X.env
   standAt apos.atName
   let (f,first)←holding [ov] (getMethod ov m pl)
   callWith pos f first (backTo pos (starEach (e::es) X.env)) (backToKw pos (keywordEach [] X.env))):=by rfl):
  PE X (.Call (.Attribute o m apos) (e::es) [] pos) (yI C m sp E ta t):=by
 intro pins s σ H Q I h
 have hst:starEach (e::es) X.env=(false,eval e X.env)::starEach es X.env:=tP (by rw[bP,aQ]at hns;exact hns.1)
 have hpl:(backTo pos (starEach es X.env)).any (·.1)=false:=tO (by rw[bP,aQ]at hns;exact hns.2)
 refine gI (pl:=pl) (pL (he pins s σ H _ I h) λu s1 ⟨x,H1,I1,rx,q⟩=> ?_) ht
 try dsimp only at q
 split at q
 case h_2=>exact q.elim
 rename_i a
 split at q
 case h_2=>exact q.elim
 rename_i C' dx fs ea
 obtain⟨rfl,l,q⟩:=q
 obtain rfl:u=bj a:=rx
 refine Ga I1 ea c hm l ?_
 refine fJ (first:=[.ref a]) (h₀:=X.base) I.ok.mod.U7 hm.kp (pL (ha pos pins s1 σ H1 _ I1 q) λus s2 ⟨vs,H2,I2,r,q2⟩=>⟨I2.DR,?_⟩) hst hpl
 exact JQ (us:= .ref a::us) (vs:= .ref a::vs) F hr hb hx I2 (.cons rfl r) q2
theorem Rn{pl:Sem Bool}(he:PE X o ta)(c:Hc X.K C)(hm:Meth X.K C m f)(F:jO X.prog X.w X.K X.mg X.base (lV X.prog X.w) ca k f fd ps sp)(hr:pU ca k X.A)(hb:Binds X.K fd ps [])(hx:Exc X E)
  (ht:eval (.Call (.Attribute o m apos) [] [] pos) X.env=(do
   let ov←eval o X.env
   standAt apos.atName
   let (f,first)←holding [ov] (getMethod ov m pl)
   callWith pos f first (backTo pos (starEach [] X.env)) (backToKw pos (keywordEach [] X.env))):=by rfl):
  PE X (.Call (.Attribute o m apos) [] [] pos) (yI C m sp E ta jv):=by
 intro pins s σ H Q I h
 refine gI (pl:=pl) (pL (he pins s σ H _ I h) λu s1 ⟨x,H1,I1,rx,q⟩=> ?_) ht
 try dsimp only at q
 split at q
 case h_2=>exact q.elim
 rename_i a
 split at q
 case h_2=>exact q.elim
 rename_i C' dx fs ea
 obtain⟨rfl,l,q⟩:=q
 obtain rfl:u=bj a:=rx
 refine Ga I1 ea c hm l ?_
 exact gU (first:=[.ref a]) I1.DR hm.kp (JQ (us:=[.ref a]) (vs:=[.ref a]) F hr hb hx I1 (.cons rfl .nil) q)
end
theorem jD.upd{H:Hp}{p:Addr}{o:HO}(h:H p=none):jD H (L2.upd H p o):=λb u e=>by rw[i_ (i5 e h)];exact e
theorem j6{H:Hp}{p b:Addr}{o:HO}(h:L2.upd H p o b=none):b≠p/\H b=none:=by
 by_cases z:b=p
 ·subst z;rw[i8]at h;cases h
 ·exact⟨z,by rw[i_ z]at h;exact h⟩
theorem CO(n:Nat)(x:V):(ah n [x]).flatten=ah n x:=by
 induction n with
 |zero=>rfl
 |succ n ih=>rw[cG,dJ,ih,cG];rfl
theorem Pf{ws:List Int}{i k:Int}(h0:0<=i)(h1:0<=k)(h2:i+k<=ws.length):DZ (ws.map V.int) (some i) (some (i+k))=((ws.drop i.toNat).take k.toNat).map V.int:=by
 obtain⟨a,rfl⟩:∃a:Nat,i=a:=⟨i.toNat,by lia⟩
 obtain⟨b,rfl⟩:∃b:Nat,k=b:=⟨k.toNat,by lia⟩
 have e:((a:Int)+(b:Int))=((a+b:Nat):Int):=by lia
 unfold DZ
 rw[e,HT.JR,HT.JR,aj,fm (by lia),fm (by lia),bB,bB,List.map_take,fM,show a+b-a=b by lia]
theorem Tb{ks:List Int}{t:Nat}(h:t<ks.length):yy (ks.map V.int) (t:Int)=some (.int (ks.getD t 0)):=by
 rw[FK,aT,af h,au,af h];rfl
theorem jD.put{H H':Hp}{q:Addr}{o:HO}(s:jD H H')(h:H q=none):jD H (L2.upd H' q o):=λb u e=>by rw[i_ (i5 e h)];exact s b u e
end L2
namespace L2
open PySem PySem.Spec PyProof.Rows
section
variable{prog:Program}{w:World}{A:Around}{R:Result->Shared->Prop}{s:Shared}
theorem z8{elt target iter:Expr}{ifs:List Expr}{scope:Scope}{pos:Pos}{it acc:Value}{env:Env}(I:Nat->Shared->Prop)
  (turn:∀n s,I n s->wpAny (model prog w) A (pyNext it) (λr s₁=>match r with
   |none=>R (.ok .next) s₁
   |some v=>wpAny (model prog w) A (letOwnedTupleGo target it v) (λ_ s₁'=>wpAny (model prog w) A (assign target env v) (λ_ s₂=>
     wpAny (model prog w) A (forIn ifs true λc r=>if r=true then do let ok←isTrue c env (eval c env);pure (dR ok) else pure (dR r)) (λok s₃=>
      if ok=true then wpAny (model prog w) A (eval elt env) (λx s₄=>
       wpAny (model prog w) A (call (.builtin "list.append") [acc,x]) (λ_ s₅=>∃m,m<n/\I m s₅) (λ_ _=>False) s₄) (λ_ _=>False) s₃
      else∃m,m<n/\I m s₃) (λ_ _=>False) s₂) (λ_ _=>False) s₁') (λ_ _=>False) s₁) (λ_ _=>False) s)
  (n:Nat) (h:I n s):
  codeAny (model prog w) A (.compLoop (.ListComp elt [⟨target,iter,ifs,0⟩] scope pos) 0 it acc env) R s:=by
 refine codeAny_loop rfl I (λn s hI=> ?_) n h
 show wpAny _ A ((compTurn (.ListComp elt [⟨target,iter,ifs,0⟩] scope pos) 0 it acc env).onRaise (λx=>do noteFrame x env;theTreesLotGoes x)) _ _ s
 refine wpAny_noted ?_
 rw[compTurn_list]
 refine wpAny_bind (wpAny_standAt (wpAny_bind (wpAny_mono (turn n s hI) (λr s₁ h₁=> ?_) λ_ _ h'=>h'.elim)))
 cases r with
 |none=>exact wpAny_pure h₁
 |some v=>
  refine wpAny_bind (wpAny_mono h₁ (λ_ s₁' h₁'=> ?_) λ_ _ h'=>h'.elim)
  refine wpAny_bind (wpAny_mono h₁' (λ_ s₂ h₂=>wpAny_bind (wpAny_mono h₂ (λok s₃ h₃=> ?_) λ_ _ h'=>h'.elim)) λ_ _ h'=>h'.elim)
  cases ok with
  |false=>exact wpAny_pure ⟨rfl,h₃⟩
  |true=>
   exact wpAny_bind (wpAny_bind (wpAny_mono h₃ (λx s₄ h₄=>wpAny_bind (wpAny_mono h₄ (λ_ s₅ h₅=>wpAny_pure (wpAny_pure ⟨rfl,h₅⟩)) λ_ _ h'=>h'.elim)) λ_ _ h'=>h'.elim))
end
noncomputable def FY (env:Env) (cs:List (Str×Addr)):List (Str×NameKind)->List (Str×Addr)
 | []=>cs
 |(n,k)::r=>FY env (if k== .free then(n,(env.cells.lookup n).getD 0)::cs else cs) r
noncomputable abbrev L8 (scope:Scope) (env:Env):List (Str×Addr):=FY env [] scope.names
theorem FZ{scope:Scope}{env:Env}(h:∀y∈scope.names,y.2= .free->∃c,env.cells.lookup y.1=some c):closureFor scope env=pure (L8 scope env):=by
 have go:∀(l:List (Str×NameKind)) (cs:List (Str×Addr)),(∀y∈l,y.2= .free->∃c,env.cells.lookup y.1=some c)->
   (forIn l cs λ(x:Str×NameKind) (r:List (Str×Addr))=>match x with
    |(name,kind)=>if (kind== .free)=true then do let c←cellOf env name;pure (dR ((name,c)::r)) else pure (dR r):Sem (List (Str×Addr)))=pure (FY env cs l):=by
  intro l
  induction l with
  |nil=>intro cs _;rfl
  |cons y l ih=>
   intro cs hy
   obtain⟨n,k⟩:=y
   rw[iN]
   cases hk:(k==c8) with
   |true=>
    obtain⟨c,hc⟩:=hy (n,k) aM (by simpa using hk)
    have e:cellOf env n=pure c:=by unfold cellOf;rw[show env.cells.lookup n=some c from hc]
    simp only[if_true,e,pure_bind,FY,hk,show env.cells.lookup n=some c from hc,fX]
    exact ih _ λz hz=>hy z (aP _ hz)
   |false=>
    simp only[if_false,aK,pure_bind,FY,hk]
    exact ih _ λz hz=>hy z (aP _ hz)
 unfold closureFor
 have:=go scope.names [] h
 simp only[bind_pure_comp,pure_bind]at this⊢
 first|exact this|(rw[this];rfl)|(simpa using this)
theorem BZ{env:Env}{y:Str}{c:Addr}:∀{l:List (Str×NameKind)} {cs:List (Str×Addr)},(FY env cs l).lookup y=some c->cs.lookup y=some c∨((y,c8)∈l/\c=(env.cells.lookup y).getD 0)
 | [],cs,h=> .inl h
 |(n,k)::r,cs,h=>by
  rcases BZ (l:=r) h with h1|⟨h1,e⟩
  ·cases hk:(k==c8) with
   |true=>
    rw[hk,if_pos rfl,de]at h1
    cases hy:y==n with
    |true=>
     rw[hy]at h1
     have e1:y=n:=by simpa using hy
     have e2:k= .free:=by simpa using hk
     subst e1 e2
     exact .inr ⟨aM,(bp h1).symm⟩
    |false=>rw[hy]at h1;exact .inl h1
   |false=>rw[hk]at h1;exact .inl (by simpa using h1)
  ·exact .inr ⟨aP _ h1,e⟩
theorem DX{env:Env}{y:Str}:∀{l:List (Str×NameKind)} {cs:List (Str×Addr)},((y,c8)∈l∨∃c,cs.lookup y=some c)->∃c,(FY env cs l).lookup y=some c
 | [],cs,h=>h.elim (λz=>by cases z) id
 |(n,k)::r,cs,h=>by
  refine DX (l:=r) ?_
  rcases h with h|⟨c,h⟩
  ·rcases List.mem_cons.mp h with e|h
   ·cases e
    exact .inr ⟨(env.cells.lookup y).getD 0,by rw[if_pos (by decide),de];simp⟩
   ·exact .inl h
  ·refine .inr ?_
   cases hk:(k==c8) with
   |false=>exact⟨c,by simpa using h⟩
   |true=>
    rw[if_pos rfl,de]
    cases hy:y==n with
    |true=>exact⟨_,rfl⟩
    |false=>exact⟨c,h⟩
theorem lookup_mem{y:Str}{k:NameKind}:∀{l:List (Str×NameKind)},l.lookup y=some k->(y,k)∈l
 | [],h=>by cases h
 |(n,k')::r,h=>by
  rw[de]at h
  cases hy:y==n with
  |true=>
   rw[hy]at h
   have e1:y=n:=by simpa using hy
   subst e1
   cases h
   exact aM
  |false=>rw[hy]at h;exact aP _ (lookup_mem h)
structure u7(fsc scope:Scope)(x:List Str)(N2:List Str):Prop where
 kind:scope.kind= .function
 VR:fsc.kind= .function
 own:∀z∈x,scope.names.lookup z=some .local
 P0:∀y∈scope.names,y.2≠ .cell
 locs:∀y∈scope.names,y.2= .local->scope.names.lookup y.1=some .local
 Wt:∀y∈scope.names,y.2= .free->¬y.1∈x
 cells:∀y∈scope.names,y.2= .free->fsc.names.lookup y.1=some .cell
 nd:(x++N2).Nodup
 z7:∀y∈N2,scope.names.lookup y=some .free
theorem DB{env:Env}(hk:env.scope.kind= .function):∀{names:List (Str×NameKind)} {y:Str},names.lookup y=some .free->env.kindOf y=some .cell->
  (names.map λ(n,k)=>if (k==c8&&env.scope.kind== .function&&env.kindOf n==some .cell) then(n,iU) else(n,k)).lookup y=some .cell
 | [],_,h,_=>by simp at h
 |(n,k)::r,y,h,hc=>by
  have ih:= @DB env hk r y
  show bx y ((if (k==c8&&env.scope.kind== .function&&env.kindOf n==some .cell)=true then(n,iU) else(n,k))::_)=_
  cases hy:y==n with
  |true=>
   have e1:y=n:=by simpa using hy
   subst e1
   simp only[de,hy]at h
   cases h
   simp[hk,hc]
  |false=>
   simp only[de,hy]at h
   by_cases hq:(k==c8&&env.scope.kind== .function&&env.kindOf n==some .cell)=true
   ·rw[if_pos hq];simp only[de,hy];exact ih h hc
   ·rw[if_neg hq];simp only[de,hy];exact ih h hc
theorem Lq{scope:Scope}{env:Env}{y:Str}(hn:∀z∈scope.names,z.2≠ .cell)(h:(relabel scope env).names.lookup y=some .cell∨(relabel scope env).names.lookup y=some .free):(y,c8)∈scope.names:=by
 have go:∀{k:NameKind},(y,k)∈(relabel scope env).names->k= .cell∨k= .free->(y,c8)∈scope.names:=λ{k} hm hk=>by
  obtain⟨⟨n,k0⟩,hz,e⟩:=List.mem_map.mp hm
  dsimp only at e
  split at e
  ·rename_i hq
   have e1:n=y:=congrArg aJ e
   rw[aQ,aQ]at hq
   have e2:k0= .free:=by simpa using hq.1.1
   rw[←e1,←e2];exact hz
  ·have e1:n=y:=congrArg aJ e
   have e2:k0=k:=congrArg cj e
   rcases hk with rfl|rfl
   ·exact absurd e2 (hn _ hz)
   ·rw[←e1,←e2];exact hz
 rcases h with h|h
 ·exact go (lookup_mem h) (.inl rfl)
 ·exact go (lookup_mem h) (.inr rfl)
noncomputable def xW (σ:St) (js:List Nat):St:=js.map λj=>(σ[j]?).join
noncomputable abbrev Cx.DW (X:Cx) (scope:Scope) (N:List Str) (x:List Str) (s:Shared) (H:Hp) (C:Addr) (ex:List Addr):Cx:=
 {X with N:=N,s₀:=s,H₀:=H,env:=compEnvC scope (L8 scope X.env) C X.env,outer:=X.stack,ex:=ex,fn:=λy=>x.contains y,pn:=[],xe:=λ_ _=>False}
noncomputable def vP (J:It) (z7:St) (tt:TT) (te:TE) (H1:Hp) (Q:VK):Prop:=
 ∃W:Nat->Nat->List V->Hp->Prop,(∃m,W 0 m [] H1)/\∀i m ys H,W i m ys H->ys.length<=sizeLine/\
  ((J.stop i H/\∀p,H p=none->Q (.ref p) (upd H p (.lst ys)))∨
   (J.go i H/\∀x H',J.S0 i H x H'->tt (some x::z7) H' λb H2=>if b=true then te (some x::z7) H2 λy H3=>∃m',m'<m/\W (i+1) m' (ys++[y]) H3 else∃m',m'<m/\W (i+1) m' ys H2))
noncomputable def yu (js:List Nat) (wi:TI) (tt:TT) (te:TE):TE:=λσ H Q=>wi σ H λJ H1=>vP J (xW σ js) tt te H1 Q
noncomputable def Ku (X:Cx) (ifs:List Expr) (tt:TT):Prop:=
 ∀(pins:List (Addr×Obj)) (s:Shared) (σ:St) (H:Hp) (Q:Bool->Hp->Prop),Inv X pins σ H s->tt σ H Q->
  wpAny (model X.prog X.w) X.A (forIn ifs true λc r=>if r=true then do let ok←isTrue c X.env (eval c X.env);pure (dR ok) else pure (dR r)) (TP X pins σ Q) X.xe s
noncomputable def Sx:TT:=λ_ H Q=>Q true H
theorem Qm{X:Cx}:Ku X [] Sx:=λpins s σ H Q I h=>wpAny_tests_nil ⟨H,I,h⟩
theorem Qn{X:Cx}{c:Expr}{tt:TT}(h:PT X c tt):Ku X [c] tt:=λpins s σ H Q I q=>wpAny_tests_one (h pins s σ H Q I q)
section
variable{X:Cx}{pins:List (Addr×Obj)}{σ:St}{H:Hp}{s:Shared}{scope fsc:Scope}{x:List Str}{N2:List Str}{js:List Nat}{fp:List Addr}{C:Addr}
theorem B0(S:u7 fsc scope x N2)(hf:X.env.scope=fsc)(ok:X.Ok){y:Str}{c:Addr}(e:(L8 scope X.env).lookup y=some c):X.env.cells.lookup y=some c:=by
 rcases BZ e with z|⟨z,e2⟩
 ·cases z
 ·obtain⟨c',hc⟩:=ok.has y (.inl (show X.env.scope.names.lookup y=some .cell by rw[hf];exact S.cells _ z rfl))
  rw[hc]at e2
  rw[hc,e2];rfl
theorem Te(S:u7 fsc scope x N2)(hf:X.env.scope=fsc)(I:Inv X pins σ H s)(hC:s.heap.objs.size<=C)(f:∀b∈fp,Cv X pins H b)(ho:∀b∈fp,∃o,s.heap.get? b=some o):(X.DW scope (x++N2) x s H C fp).Ok where
 mod:=I.ok.mod
 kind:=S.kind
 glob:=I.ok.glob
 blt:=I.ok.blt
 above:=hC
 inj:=λy z c e1 e2=>I.ok.inj y z c (B0 S hf I.ok e1) (B0 S hf I.ok e2)
 has:=λy h=>DX (.inl (Lq S.P0 h))
 U2:=λy c h e=>by
  have ey:y∈x:=by simpa using h
  rcases BZ e with z|⟨z,_⟩
  ·cases z
  ·exact absurd ey (S.Wt _ z rfl)
 hd:=I.ok.hd
 frames:=I.ok.frames
 Wq:= .inl rfl
 W4:=λb hb=>by
  obtain⟨o,e⟩:=ho b hb
  exact⟨bh (aR (aV e) hC),λy c ec=>(f b hb).2.2.2.2.1 y c (B0 S hf I.ok ec)⟩
 bs:=I.bs
 QR:=aW I.ok.QR I.sz
 GA:=λb o e hb=>by
  rcases (f b hb).2.2.2.1 with z|z
  ·exact I.ok.GA b o e z
  ·exact absurd (aR (aV e) (aW I.ok.QR z)) (b_ _)
 Pm:=λb hb hm=>by
  rcases List.mem_cons.mp (I.Kl b hm) with z|z
  ·exact(f b hb).2.1 z
  ·exact(f b hb).2.2.1 z
 CZ:=I.stack
 Rv:=I.FF
theorem Q9(S:u7 fsc scope x N2)(hf:X.env.scope=fsc)(hjs:js.map (λj=>X.N[j]?)=N2.map some)(I:Inv X pins σ H s)(hC:s.heap.objs.size<=C)(f:∀b∈fp,Cv X pins H b)(ho:∀b∈fp,∃o,s.heap.get? b=some o)
  {h':Heap} {t':Nat} {m:Str->Option Value} (hm:h'.Ns C m) (k:∀b o,s.heap.get? b=some o->h'.get? b=some o):Inv (X.DW scope (x++N2) x s H C fp) [] (ah x.length none++xW σ js) H {s with heap:=h',toks:=t'} where
 ok:=Te S hf I hC f ho
 os:=rfl
 bare:=I.bare
 base:=Un.kept k
 loc:=⟨m,hm,λi y v e1 e2 e3=>by
  by_cases hi:i<x.length
  ·have e2:(ah x.length none++xW σ js)[i]? =some (some v):=e2
   rw[cO (by rw[bA];exact hi),cV,if_pos hi]at e2
   cases e2
  ·have e1:(x++N2)[i]? =some y:=e1
   have e2:(ah x.length none++xW σ js)[i]? =some (some v):=e2
   rw[cz (by lia)]at e1
   rw[cz (by rw[bA];lia),bA]at e2
   generalize i-x.length=i at e1 e2
   unfold xW at e2
   rw[aT]at e2
   obtain⟨j,hj,e2⟩:=Option.map_eq_some_iff.mp e2
   have e4:X.N[j]? =some y:=by
    have q:=congrArg (λl=>l[i]?) hjs
    simp only[aT,hj,e1,f_]at q
    exact bp q
   have hy:y∈N2:=bW e1
   have hfree:=S.z7 y hy
   have hcell:X.env.scope.names.lookup y=some .cell:=by rw[hf];exact S.cells _ (lookup_mem hfree) rfl
   have e5:σ[j]? =some (some v):=by
    cases q:σ[j]? with
    |none=>rw[q]at e2;cases e2
    |some o=>rw[q]at e2;have:o=some v:=e2;rw[this]
   obtain⟨m0,_,hl⟩:=I.loc
   obtain⟨u,r,l⟩:=hl j y v e4 e5 (.inr (.inl hcell))
   refine⟨u,r,.inr ⟨.inl (DB (by rw[hf];exact S.VR) hfree hcell),?_⟩⟩
   rcases l with ⟨z,_⟩|⟨_,c,ec,o,eo,ed⟩
   ·have z':X.env.scope.names.lookup y=some .local:=z
    rw[hcell]at z';cases z'
   ·obtain⟨c',hc'⟩:=DX (env:=X.env) (cs:=[]) (.inl (lookup_mem hfree))
    have e6:=B0 S hf I.ok hc'
    rw[ec]at e6;cases e6
    exact⟨c,hc',o,k _ _ eo,ed⟩⟩
 cell:=λy c e=>by
  obtain⟨v,o,eo,ed⟩:=I.cell y c (B0 S hf I.ok e)
  exact⟨v,o,k _ _ eo,ed⟩
 free:=I.lB.fresh hC
 wK:=λy c e=>I.wK y c (B0 S hf I.ok e)
 pin:=λp hp=>by simp at hp
 lB:=I.lB.kept k
 len:=by
  have q:=congrArg eR hjs
  simp only[aj]at q
  simp[xW,q]
noncomputable def LV (J:It) (k:Nat) (g:TG) (z7:St) (tt:TT) (te:TE) (H1:Hp) (Q:VK):Prop:=
 ∃W:Nat->Nat->List V->Hp->Prop,(∃m,W 0 m [] H1)/\∀i m ys H,W i m ys H->ys.length<=sizeLine/\
  ((J.stop i H/\∀p,H p=none->Q (.ref p) (upd H p (.lst ys)))∨
   (J.go i H/\∀x H',J.S0 i H x H'->∀os:St,os.length=k->g x (os++z7) H' λσ2 H2=>(∃os':St,os'.length=k/\σ2=os'++z7)/\
    tt σ2 H2 λb H3=>if b=true then te σ2 H3 λy H4=>∃m',m'<m/\W (i+1) m' (ys++[y]) H4 else∃m',m'<m/\W (i+1) m' ys H3))
theorem MZ{J:It}{z7:St}{tt:TT}{te:TE}{H1:Hp}{Q:VK}(h:vP J z7 tt te H1 Q):LV J 1 (jG 0) z7 tt te H1 Q:=by
 obtain⟨W,w0,turn⟩:=h
 refine⟨W,w0,λi m ys H hw=> ?_⟩
 obtain⟨hz,alt⟩:=turn i m ys H hw
 refine⟨hz,alt.imp id λ⟨go,step⟩=>⟨go,λx H' hy os ho=> ?_⟩⟩
 match os,ho with
 | [o],_=>exact⟨⟨[some x],rfl,rfl⟩,step x H' hy⟩
noncomputable def LU (K:aC) (J:It) (z7:St) (tt:TT) (te:TE) (H1:Hp) (Q:VK):Prop:=
 ∃W:Nat->Nat->List V->Hp->Prop,(∃m,W 0 m [] H1)/\∀i m ys H,W i m ys H->ys.length<=sizeLine/\
  ((J.stop i H/\∀p,H p=none->Q (.ref p) (upd H p (.lst ys)))∨
   (J.go i H/\∀x H',J.S0 i H x H'->∃a u v,x= .ref a/\LR K H' a [u,v]/\
    tt (some u::some v::z7) H' λb H3=>if b=true then te (some u::some v::z7) H3 λy H4=>∃m',m'<m/\W (i+1) m' (ys++[y]) H4 else∃m',m'<m/\W (i+1) m' ys H3))
noncomputable abbrev g2 (K:aC):TG:=Pr K 2 (Aj (jG 0) (Aj (jG 1) Md))
theorem Pa{K:aC}{J:It}{z7:St}{tt:TT}{te:TE}{H1:Hp}{Q:VK}(h:LU K J z7 tt te H1 Q):LV J 2 (g2 K) z7 tt te H1 Q:=by
 obtain⟨W,w0,turn⟩:=h
 refine⟨W,w0,λi m ys H hw=> ?_⟩
 obtain⟨hz,alt⟩:=turn i m ys H hw
 refine⟨hz,alt.imp id λ⟨go,step⟩=>⟨go,λx H' hy os ho=> ?_⟩⟩
 obtain⟨a,u,v,ex,sq,st⟩:=step x H' hy
 match os,ho with
 | [o,o'],_=>exact⟨a,[u,v],ex,sq,rfl,u,[v],rfl,v,[],rfl,rfl,⟨[some u,some v],rfl,rfl⟩,st⟩
noncomputable def MK (K:aC) (js:List Nat) (wi:TI) (tt:TT) (te:TE):TE:=λσ H Q=>wi σ H λJ H1=>LU K J (xW σ js) tt te H1 Q
theorem DD{C:Addr}{h h':Heap}(hs:eJ C h h'){b:Addr}{o:Obj}(hb:b≠C)(e:h.get? b=some o):h'.get? b=some o:=(hs.2 b hb).trans e
theorem IX{Y:Cx}{pl:List (Addr×Obj)}{σ':St}{H3:Hp}{s4:Shared}{h':Heap}{D:Addr}{ys:List V}{its:List Value}{n:Nat}(I:Inv X pins σ H s)(f:∀b∈fp,Cv X pins H b)
  (hY:Y=X.DW scope (x++N2) x s H C fp) (hC:s.heap.objs.size<=C) (hD:s.heap.objs.size<=D) (hDC:D≠C) (I4:Inv Y pl σ' H3 s4) (hs:eJ C s4.heap h') (hD3:H3 D=none)
  (eD:s4.heap.get? D=some {cls:= .type "list",data:= .seq its.toArray n}) (rv:Vals ys its) (hz:ys.length<=sizeLine):Inv X pins σ (upd H3 D (.lst ys)) {s4 with heap:=h'}:=by
 subst hY
 have ne:∀b o,s.heap.get? b=some o->b≠C:=λb o e=>bh (aR (aV e) hC)
 have neD:∀b o,s.heap.get? b=some o->b≠D:=λb o e=>bh (aR (aV e) hD)
 have fC:H3 C=none:=I4.free
 have un:Un (F4 X.stack) fp H H3 s.heap h':=⟨λb o e n hb hx=>DD hs (ne b o e) (I4.base.keep b o e n hb hx),λb o e n hb hx=>by
   obtain⟨sl,e1⟩:=I4.base.slot b o e n hb hx
   exact⟨sl,DD hs (ne b o e) e1⟩,I4.base.free,λb o e hx=>by
   obtain⟨o',e1⟩:=I4.base.there b o e hx
   exact⟨o',DD hs (ne b o e) e1⟩,I4.base.Cs,I4.base.Bn,I4.base.Bp⟩
 have lB:zQ X.prog X.w H3 h':=λb ob e=>(I4.lB b ob e).A4 (λc w' hc q=>by
  refine(hs.2 c ?_).trans q
  rintro rfl
  rcases hc with rfl|hc
  ·rw[fC]at e;cases e
  ·rw[fC]at hc;cases hc) (λ_ q=>q) λ_ _ q=>q
 have I6:Inv X pins σ H3 {s4 with heap:=h'}:=I.VM (ch:=fp) I4.os un lB I4.bare λb hb=>⟨(f b hb).2.2.2.1,(f b hb).2.1,(f b hb).2.2.2.2.1,(f b hb).2.2.2.2.2⟩
 have h0:X.s₀.heap.get? D=none:=by
  cases z:X.s₀.heap.get? D with
  |none=>rfl
  |some o=>exact absurd (aR (aV z) (aW I.sz hD)) (b_ _)
 exact I6.adopt (a:=D) (o:= .lst ys) hD3 ⟨hz,its,n,rv,DD hs hDC eD⟩ h0 (aE (bh (aR I.lt hD))) (λy c ec z=>by
  obtain⟨v,o,eo,_⟩:=I.cell y c ec
  exact neD c o eo z) λp hp z=>neD p.1 p.2 (I.pin p hp).1 z
theorem DY{elt iter tg:Expr}{pos p0:Pos}{g:TG}{CW:It->Hp->Prop}{ifs:List Expr}{wi:TI}{tt:TT}{te:TE}{use:Option (Value->Sem Unit)}{R:Value->Shared->Prop}{Q:VK}(S:u7 fsc scope x N2)(hf:X.env.scope=fsc)(hjs:js.map (λj=>X.N[j]?)=N2.map some)(hc:X.calm=true)(hi:PI X tg iter wi)(hg:∀s H C ex,PG (X.DW scope (x++N2) x s H C ex) tg g)
  (ht:∀s H C ex,Ku (X.DW scope (x++N2) x s H C ex) ifs tt) (he:∀s H C ex,PE (X.DW scope (x++N2) x s H C ex) elt te) (hs:∀v,foldedSetIterable iter X.env v=pure v) (I:Inv X pins σ H s) (hCW:∀J H1,CW J H1->LV J x.length g (xW σ js) tt te H1 Q) (h:wi σ H CW)
  (fin:∀(fp:List Addr) (s2 s4:Shared) (H2 H3:Hp) (C D:Addr) (Y:Cx) (pl:List (Addr×Obj)) (σ':St) (ys:List V) (its:List Value) (n:Nat),Inv X pins σ H2 s2->(∀b∈fp,Cv X pins H2 b)->Y=X.DW scope (x++N2) x s2 H2 C fp->s2.heap.objs.size<=C->s2.heap.objs.size<=D->D≠C->
   Inv Y pl σ' H3 s4->H3 D=none->s4.heap.get? D=some {cls:= .type "list",data:= .seq its.toArray n}->Vals ys its->ys.length<=sizeLine->Q (.ref D) (upd H3 D (.lst ys))->compPost (model X.prog X.w) X.A X.xe use R (.ref D) C (.ok .next) s4):
  wpAny (model X.prog X.w) X.A (comprehension (.ListComp elt [⟨tg,iter,ifs,0⟩] scope pos) scope X.env p0 (newList []) false (eval iter X.env) use) R X.xe s:=by
 refine wpAny_comprehension_free (use:=use) (cl:=L8 scope X.env) rfl hs (FZ λy hy e=>I.ok.has y.1 (.inl (show X.env.scope.names.lookup y.1=some .cell by rw[hf];exact S.cells y hy e))) S.kind S.locs ?_
 refine wpAny_mono (hi pins s σ H _ I h) (λv s1 h1=>wpAny_mono h1 (λitv s2 h2=> ?_) λ_ _ z=>z) λ_ _ z=>z
 obtain⟨it,fp,tn,J,H2,e,I2,T,st2,f2,hcw⟩:=h2
 obtain⟨W,⟨m0,w0⟩,turn⟩:=hCW _ _ hcw
 subst e
 have ho2:∀b∈fp,∃o,s2.heap.get? b=some o:=λb hb=>let ⟨o,e,_⟩:=T.obj _ _ st2 b hb;⟨o,e⟩
 refine wpAny_newObj_type (wpAny_newFunctionEnv S.P0 (by intro y hy;simp at hy) (λh₁ hns₁ hsb₁=> ?_) S.kind)
 dsimp only at hns₁ hsb₁⊢
 generalize hH2:s2.heap.push {cls:= .type "list",dict:=none,data:= .seq ([]:List Value).toArray}=G at hns₁ hsb₁⊢
 have hGs:G.objs.size=s2.heap.objs.size+1:=by rw[←hH2,fD]
 generalize hCe:G.objs.size=C at hns₁ hsb₁⊢
 have hCs:C=s2.heap.objs.size+1:=hCe.symm.trans hGs
 generalize hDe:s2.heap.objs.size=D at*
 have hC:s2.heap.objs.size<=C:=by lia
 have hDC:D≠C:=by lia
 have leDC:D<=C:=by lia
 have old:∀b o,s2.heap.get? b=some o->h₁.get? b=some o:=λb o e=>by
  have hb:b<D:=hDe▸aV e
  exact hsb₁.extBut b o (bh (aR hb leDC)) (aO _ (hH2▸aO _ e))
 have eD1:h₁.get? D=some {cls:= .type "list",data:= .seq ([]:List Value).toArray}:=by
  refine hsb₁.extBut _ _ hDC (aO _ ?_)
  rw[←hH2,←hDe]
  exact bT _ rfl
 have I4:=Q9 (C:=C) (h':=h₁) (t':=s2.toks+([]:List (Str×Value)).length) S hf hjs I2 hC f2 ho2 hns₁ old
 generalize hY:X.DW scope (x++N2) x s2 H2 C fp=Y at I4
 have hYA:Y.A=X.A:=by rw[←hY]
 have hYp:Y.prog=X.prog:=by rw[←hY]
 have hYw:Y.w=X.w:=by rw[←hY]
 have hYK:Y.K=X.K:=by rw[←hY]
 have hYc:Y.calm=true:=by rw[←hY];exact hc
 have hYL:Y.env.locals=C:=hY▸rfl
 have hYx:Y.xe=λ_ _=>False:=by rw[←hY]
 have hYe:Y.env=compEnvC scope (L8 scope X.env) C X.env:=by rw[←hY]
 have hYs:Y.s₀.heap.objs.size=D:=by rw[←hY];exact hDe
 have hYpn:Y.pn=[]:=by rw[←hY]
 have fpD:∀b∈fp,b<D:=λb hb=>by
  obtain⟨o,e⟩:=ho2 b hb
  exact hDe▸aV e
 have cel:∀y c,Y.env.cells.lookup y=some c->X.env.cells.lookup y=some c:=λy c e=>by
  rw[hYe]at e
  exact B0 S hf I2.ok e
 have celD:∀y c,Y.env.cells.lookup y=some c->c≠D:=λy c e z=>by
  obtain⟨v,o,eo,_⟩:=I2.cell y c (cel y c e)
  have q:=aV eo
  rw[hDe,z]at q
  exact b_ _ q
 have Dfs:D∉Y.fs:=by
  rw[←hY]
  intro hm
  obtain⟨_,o,eo,_⟩:=I2.stack.mem hm
  have q:=aV eo
  rw[hDe]at q
  exact b_ _ q
 have stat:∀{H':Hp} {pl:List (Addr×Obj)},(∀b∈fp,H' b=none)->(∀p∈pl,p.1=D)->∀b∈fp,Cv Y pl H' b:=λ{H' pl} hn hp b hb=>by
  refine⟨hn b hb,by rw[hYL];exact bh (aR (fpD b hb) leDC),?_,.inl (by rw[←hY];exact hb),λy c e=>(f2 b hb).2.2.2.2.1 y c (cel y c e),λp hm=> ?_⟩
  ·rw[←hY]
   intro hm
   rcases List.mem_cons.mp (I2.Kl b hm) with z|z
   ·exact(f2 b hb).2.1 z
   ·exact(f2 b hb).2.2.1 z
  ·rw[hYpn,bw]at hm
   rw[hp p hm]
   exact(bh (fpD b hb)).symm
 have pinD:∀{σ':St} {H':Hp} {s':Shared} {o:Obj},Inv Y [] σ' H' s'->s'.heap.get? D=some o->(∀v,o.data≠ .cell v)->H' D=none->Inv Y [(D,o)] σ' H' s':=λ{σ' H' s' o} Iy e d n=>
  Iy.DA λp hp=>by
   rw[aU]at hp
   subst hp
   exact⟨e,n,by rw[hYL];exact hDC,Dfs,d⟩
 have pg:PG Y tg g:=by rw[←hY];exact hg _ _ _ _
 have ht':Ku Y ifs tt:=by rw[←hY];exact ht _ _ _ _
 have he':PE Y elt te:=by rw[←hY];exact he _ _ _ _
 have loop:∀s₃:Shared,s₃={s2 with heap:=h₁,toks:=s2.toks+([]:List (Str×Value)).length}->
   codeAny (model X.prog X.w) X.A (.compLoop (.ListComp elt [⟨tg,iter,ifs,0⟩] scope pos) 0 (.ref it) (.ref D) (compEnvC scope (L8 scope X.env) C X.env))
    (compPost (model X.prog X.w) X.A X.xe use R (.ref D) C) s₃:=by
  rintro s₃ rfl
  refine z8 (λn s'=>∃i ys os its k H',eR os=x.length/\Inv Y [] (os++xW σ js) H' s'/\tn i s'.heap/\(∀b∈fp,H' b=none)/\H' D=none/\s'.heap.get? D=some {cls:= .type "list",data:= .seq (its:List Value).toArray k}/\Vals ys its/\W i n ys H') ?_ m0
   ⟨0,[],ah x.length none,[],0,H2,bA,I4,T.keep _ _ _ st2 λb _ o e=>old b o e,λb hb=>(f2 b hb).1,I2.lB.fresh (by lia),eD1,.nil,w0⟩
  rintro n s3 ⟨i,ys,os,its,k,H3,hos,I3,st3,fr3,hD3,eD3,rv3,w3⟩
  obtain⟨hz,alt⟩:=turn i n ys H3 w3
  have I3p:=pinD I3 eD3 (λv z=>by cases z) hD3
  rcases alt with ⟨stop,q⟩|⟨go,step⟩
  ·have h4:=T.done Y hYp hYw hYK hYc i _ s3 _ H3 (λ_ _=>False) I3p (stat fr3 λp hp=>by rw[aU]at hp;subst hp;rfl) st3 stop
   rw[hYA]at h4
   refine wpAny_mono h4 (λr s4 ⟨hr,I4'⟩=> ?_) λ_ _ z=>z
   subst hr
   have pD:=I4'.pin (D,{cls:= .type "list",data:= .seq its.toArray k}) (br _ (List.mem_singleton.mpr rfl))
   exact fin fp s2 s4 H2 H3 C D Y _ _ ys its k I2 f2 hY.symm hC (by lia) hDC I4' pD.2.1 pD.1 rv3 hz (q D pD.2.1)
  ·have h4:=T.item Y hYp hYw hYK hYc i _ s3 _ H3 (λ_ _=>False) I3p (stat fr3 λp hp=>by rw[aU]at hp;subst hp;rfl) st3 go
   rw[hYA]at h4
   refine wpAny_mono h4 (λr s4 ⟨u,hr,h4'⟩=> ?_) λ_ _ z=>z
   subst hr
   refine wpAny_mono h4' (λ_ s5 ⟨xv,H5,I5,r5,y5,st5,fr5⟩=> ?_) λ_ _ z=>z
   have I5':=I5.pinned (stat fr5 λp hp=>by rw[aU]at hp;subst hp;rfl) (T.obj _ _ st5)
   have keepT:∀{σ7:St} {H7:Hp} {s7:Shared},Inv Y ([(D,{cls:= .type "list",data:= .seq its.toArray k})]++GK fp s5.heap) σ7 H7 s7->tn (i+1) s7.heap/\(∀b∈fp,H7 b=none)/\H7 D=none/\
     s7.heap.get? D=some {cls:= .type "list",data:= .seq its.toArray k}:=λ{σ7 H7 s7} I7=>by
    have pD:=I7.pin (D,{cls:= .type "list",data:= .seq its.toArray k}) (br _ (bV _ (List.mem_singleton.mpr rfl)))
    refine⟨T.keep _ _ _ st5 λb hb o e=>(I7.pin (b,o) (br _ (br _ (y2 hb e)))).1,λb hb=> ?_,pD.2.1,pD.1⟩
    obtain⟨o,e,d⟩:=T.obj _ _ st5 b hb
    exact(I7.pin (b,o) (br _ (br _ (y2 hb e)))).2.1
   have h6:=pg _ s5 _ H5 xv u _ I5' r5 (step xv H5 y5 os hos)
   rw[hYA,hYe,hYp,hYw,hYx]at h6
   refine wpAny_mono h6 (λ_ s6 ⟨σ6,H6,I6,⟨os',hos',e6⟩,q6⟩=> ?_) λ_ _ z=>z
   subst e6
   have h7:=ht' _ s6 _ H6 _ I6 q6
   rw[hYA,hYe,hYp,hYw,hYx]at h7
   refine wpAny_mono h7 (λb s7 ⟨H7,I7,q7⟩=> ?_) λ_ _ z=>z
   cases b with
   |false=>
    rw[if_neg aZ]at q7⊢
    obtain⟨m',hm,w7⟩:=q7
    obtain⟨k1,k2,k3,k4⟩:=keepT I7
    exact⟨m',hm,i+1,ys,os',its,k,H7,hos',I7.DA λp hp=>by simp at hp,k1,k2,k3,k4,rv3,w7⟩
   |true=>
    rw[if_pos rfl]at q7⊢
    have h8:=he' _ s7 _ H7 _ I7 q7
    rw[hYA,hYe,hYp,hYw,hYx]at h8
    refine wpAny_mono h8 (λy s8 ⟨yv,H8,I8,r8,m',hm,w8⟩=> ?_) λ_ _ z=>z
    obtain⟨k1,k2,k3,k4⟩:=keepT I8
    refine wpAny_list_append_plain (l:=D) (items:=its.toArray) ⟨k,k4⟩ (λh9 pl9 sb9=> ?_) (by rw[aX,←rv3.length];exact hz)
    obtain⟨k9,e9⟩:=pl9
    have I9:Inv Y [] (os'++xW σ js) H8 {s8 with heap:=h9}:=(I8.DA (pins':=[]) λp hp=>by simp at hp).turned (it:=D) (t':=s8.toks) (λb o hb e=>(sb9.2 b hb).trans e) k3 (by rw[hYL];exact hDC)
     (.inr (by rw[hYs];exact aN _)) celD (by rw[hYpn];intro p hp;simp at hp)
    exact⟨m',hm,i+1,ys++[yv],os',its++[y],k9,H8,hos',I9,T.keep _ _ _ k1 λb hb o e=>(sb9.2 b (bh (fpD b hb))).trans e,k2,k3,by rw[e9,List.push_toArray],rv3.snoc r8,w8⟩
 exact codeAny_compStart_list (loop _ rfl) (T.self _ 0 _ _ _ (T.keep _ _ _ st2 λb _ o e=>old b o e) (loop _ rfl))
theorem Qk{x:Str}{px:Pos}(S:u7 fsc scope [x] N2){s:Shared}{H:Hp}{C:Addr}{ex:List Addr}:PG (X.DW scope (x::N2) [x] s H C ex) (.Name x px) (jG 0):=
 Fz (i:=0) S.nd rfl (.inl (lookup_relabel_local (S.own x aM))) (.inl (by show [x].contains x=true;simp))
theorem RY{x:Str}{elt iter:Expr}{px pos:Pos}{ifs:List Expr}{wi:TI}{tt:TT}{te:TE}(S:u7 fsc scope [x] N2)(hf:X.env.scope=fsc)(hjs:js.map (λj=>X.N[j]?)=N2.map some)(hc:X.calm=true)(hi:PI X (.Name x px) iter wi)
  (ht:∀s H C ex,Ku (X.DW scope (x::N2) [x] s H C ex) ifs tt) (he:∀s H C ex,PE (X.DW scope (x::N2) [x] s H C ex) elt te) (hs:∀v,foldedSetIterable iter X.env v=pure v:=by intro _;rfl):
  PE X (.ListComp elt [⟨.Name x px,iter,ifs,0⟩] scope pos) (yu js wi tt te):=by
 intro pins s σ H Q I h
 rw[eval_ListComp]
 refine DY (x:=[x]) (g:=jG 0) (use:=none) S hf hjs hc hi (λ_ _ _ _=>Qk S) ht he hs I (λ_ _=>MZ) h λfp s2 s4 H2 H3 C D Y pl σ' ys its n I2 f2 hY hC hD hDC I4 hD3 eD rv hz q=> ?_
 obtain⟨m,hn,_⟩:=I4.loc
 rw[show Y.env.locals=C from hY▸rfl]at hn
 exact⟨m,hn,λh' hs'=>⟨.ref D,_,IX (scope:=scope) (x:=[x]) (N2:=N2) I2 f2 hY hC hD hDC I4 hs' hD3 eD rv hz,rfl,q⟩⟩
theorem R5{x1 x2:Str}{p1 p2 pt:Pos}{k:Nat}(hc:X.calm=true)(S:u7 fsc scope [x1,x2] N2){s:Shared}{H:Hp}{C:Addr}{ex:List Addr}:PG (X.DW scope (x1::x2::N2) [x1,x2] s H C ex) (.Tuple [.Name x1 p1,.Name x2 p2] k pt) (g2 X.K):=
 Ql (X:=X.DW scope (x1::x2::N2) [x1,x2] s H C ex) hc
  (GJ (Fz (i:=0) S.nd rfl (.inl (lookup_relabel_local (S.own x1 aM))) (.inl (by show [x1,x2].contains x1=true;simp)))
   (GJ (Fz (i:=1) S.nd rfl (.inl (lookup_relabel_local (S.own x2 (aP _ aM)))) (.inl (by show [x1,x2].contains x2=true;simp))) Nw))
theorem Qc{x1 x2:Str}{elt iter:Expr}{p1 p2 pt pos:Pos}{k:Nat}{ifs:List Expr}{wi:TI}{tt:TT}{te:TE}(S:u7 fsc scope [x1,x2] N2)(hf:X.env.scope=fsc)(hjs:js.map (λj=>X.N[j]?)=N2.map some)(hc:X.calm=true)(hi:PI X (.Tuple [.Name x1 p1,.Name x2 p2] k pt) iter wi)
  (ht:∀s H C ex,Ku (X.DW scope (x1::x2::N2) [x1,x2] s H C ex) ifs tt) (he:∀s H C ex,PE (X.DW scope (x1::x2::N2) [x1,x2] s H C ex) elt te) (hs:∀v,foldedSetIterable iter X.env v=pure v:=by intro _;rfl):
  PE X (.ListComp elt [⟨.Tuple [.Name x1 p1,.Name x2 p2] k pt,iter,ifs,0⟩] scope pos) (MK X.K js wi tt te):=by
 intro pins s σ H Q I h
 rw[eval_ListComp]
 refine DY (x:=[x1,x2]) (g:=g2 X.K) (use:=none) S hf hjs hc hi (λ_ _ _ _=>R5 hc S) ht he hs I (λ_ _=>Pa) h λfp s2 s4 H2 H3 C D Y pl σ' ys its n I2 f2 hY hC hD hDC I4 hD3 eD rv hz q=> ?_
 obtain⟨m,hn,_⟩:=I4.loc
 rw[show Y.env.locals=C from hY▸rfl]at hn
 exact⟨m,hn,λh' hs'=>⟨.ref D,_,IX (scope:=scope) (x:=[x1,x2]) (N2:=N2) I2 f2 hY hC hD hDC I4 hs' hD3 eD rv hz,rfl,q⟩⟩
theorem Mw{x:Str}{elt iter:Expr}{px py pos spos:Pos}{ifs:List Expr}{wi:TI}{tt:TT}{te:TE}{i:Nat}{y:Str}(hN:X.N.Nodup)(hy:X.N[i]? =some y)(hl:Loc X.env.scope y)
  (S:u7 fsc scope [x] N2) (hf:X.env.scope=fsc) (hjs:js.map (λj=>X.N[j]?)=N2.map some) (hc:X.calm=true) (hi:PI X (.Name x px) iter wi)
  (ht:∀s H C ex,Ku (X.DW scope (x::N2) [x] s H C ex) ifs tt) (he:∀s H C ex,PE (X.DW scope (x::N2) [x] s H C ex) elt te) (hs:∀v,foldedSetIterable iter X.env v=pure v:=by intro _;rfl)
  (hsw:swapsWith (.ListComp elt [⟨.Name x px,iter,ifs,0⟩] scope pos) (some (.Name y py)) spos.line X.env=pure true:=by rfl)
  (hfn:X.fn y=true∨X.env.scope.names.lookup y=some .local:=by first|exact .inl rfl|exact .inr rfl|assumption):
  PS X (.Assign [.Name y py] (.ListComp elt [⟨.Name x px,iter,ifs,0⟩] scope pos) spos) (kB (yu js wi tt te) (jG i)):=by
 intro pins s σ H Dn I h
 rw[exec_Assign_Name_used _ _ _ _ hsw]
 refine wpAny_bind (wpAny_standAt (wpAny_bind ?_))
 show wpAny _ _ (do let _←comprehension (.ListComp elt [⟨.Name x px,iter,ifs,0⟩] scope pos) scope X.env _ (newList []) false (eval iter X.env) (some (assign (.Name y py) X.env))) _ _ s
 refine wpAny_bind (wpAny_mono (DY (x:=[x]) (g:=jG 0) (use:=some (assign (.Name y py) X.env)) (R:=λ_ s'=>SP X pins Dn .next s') S hf hjs hc hi (λ_ _ _ _=>Qk S) ht he hs I (λ_ _=>MZ) h λfp s2 s4 H2 H3 C D Y pl σ' ys its n I2 f2 hY hC hD hDC I4 hD3 eD rv hz q=> ?_)
  (λ_ s' hq=>wpAny_pure (wpAny_pure hq)) λ_ _ e=>e)
 show wpAny _ _ (assign (.Name y py) X.env (.ref D)) _ _ s4
 have I7:Inv X pins σ (upd H3 D (.lst ys)) s4:=IX (scope:=scope) (x:=[x]) (N2:=N2) (h':=s4.heap) I2 f2 hY hC hD hDC I4 (Heap.SameBut.refl ..) hD3 eD rv hz
 have nC:∀b o,s2.heap.get? b=some o->b≠C:=λb o e=>bh (aR (aV e) hC)
 have cC:∀z c,X.env.cells.lookup z=some c->c≠C:=λz c e=>by
  obtain⟨v,o,eo,_⟩:=I2.cell z c e
  exact nC c o eo
 have lC:X.env.locals≠C:=bh (aR I2.lt hC)
 obtain⟨m,hn,_⟩:=I4.loc
 have eL:Y.env.locals=C:=hY▸rfl
 have fC:upd H3 D (HO.lst ys) C=none:=by rw[i_ (aE hDC)];exact eL▸I4.free
 rw[eL]at hn
 refine wpAny_assign_Name (IK I7 hN hy hl (v:= .ref D) rfl (λs'' I8 ⟨a,sb,ha⟩=> ?_) hfn)
 have na:C≠a:=by
  rcases ha with rfl|ha
  ·exact aE lC
  ·exact aE (cC _ _ ha)
 refine⟨m,hn.sameBut sb na,λh' hs'=>⟨_,_,I8.turned (it:=C) (t':=s''.toks) (λb o hb e=>(hs'.2 b hb).trans e) fC (aE lC) (.inr (aW I2.sz hC)) cC λp hp=> ?_,q⟩⟩
 exact nC p.1 p.2 (I2.pin p hp).1
end
end L2
namespace L2
open PySem PySem.Spec PyProof.Rows
section
variable{X:Cx}{tg:Expr}
end
end L2
namespace L2
open PySem PySem.Spec PyProof.Rows
noncomputable def FI:List (Option Bool)->Option Bool
 | []=>some true
 |none::_=>none
 |some b::r=>(FI r).map λc=>b&&c
noncomputable def E7 (H:Hp):Nat->V->V->Option Bool
 |0,x,y=>if sW x=true/\sW y=true then some (N1 x y) else none
 |d+1,x,y=>match x,y with
  | .ref a,.ref b=>(match H a,H b with
   |some (.lst xs),some (.lst ys)=>if xs.length=ys.length then FI (dD (E7 H d) xs ys) else some false
   |some (.tup xs),some (.tup ys)=>if xs.length=ys.length then FI (dD (E7 H d) xs ys) else none
   |_,_=>none)
  |x,y=>if sW x=true/\sW y=true then some (N1 x y) else none
theorem yB{l:List (Option Bool)}{b:Bool}:FI l=some b->∃e:Nat->Bool,(∀j o,l[j]? =some o->o=some (e j))/\(bG l.length).all e=b:=by
 induction l generalizing b with
 |nil=>intro h;cases h;exact⟨λ_=>true,λj o z=>by simp at z,rfl⟩
 |cons o r ih=>
  intro h
  cases o with
  |none=>cases h
  |some b0=>
   obtain⟨c,hc,rfl⟩:=Option.map_eq_some_iff.mp h
   obtain⟨e,h1,h2⟩:=ih hc
   refine⟨λj=>match j with|0=>b0|j+1=>e j,λj o z=> ?_,?_⟩
   ·cases j with
    |zero=>simp at z;exact z.symm
    |succ j=>exact h1 j o (by simpa using z)
   ·rw[ai,gr,bP,List.all_map,←h2]
    rfl
theorem KU{x:V}(h:sW x=true):N1 x x=true:=by
 cases x<;>first|rfl|exact decide_eq_true rfl|exact nomatch h
theorem F0{H:Hp}:∀(d:Nat) {x:V} {b:Bool},E7 H d x x=some b->b=true
 |0,x,b,h=>by
  unfold E7 at h
  split at h
  ·rename_i z;cases h;exact KU z.1
  ·cases h
 |d+1,x,b,h=>by
  unfold E7 at h
  split at h
  ·split at h
   ·rename_i xs ys e1 e2
    rw[e1]at e2
    cases e2
    rw[if_pos rfl]at h
    obtain⟨e,h1,h2⟩:=yB h
    rw[←h2,eU]
    intro j hj
    rw[iS,cY,dt]at hj
    have z:=h1 j (E7 H d xs[j] xs[j]) (by rw[cT,af hj])
    exact F0 d z
   ·rename_i xs ys e1 e2
    rw[e1]at e2
    cases e2
    rw[if_pos rfl]at h
    obtain⟨e,h1,h2⟩:=yB h
    rw[←h2,eU]
    intro j hj
    rw[iS,cY,dt]at hj
    have z:=h1 j (E7 H d xs[j] xs[j]) (by rw[cT,af hj])
    exact F0 d z
   ·cases h
  ·split at h
   ·rename_i z;cases h;exact KU z.1
   ·cases h
section
variable{X:Cx}
theorem z_{pins:List (Addr×Obj)}{σ:St}{H:Hp}{s:Shared}(I:Inv X pins σ H s):∀(d:Nat) (A:Around) {x y:V} {u v:Value} {b:Bool},A.units+d<cLine->RelV x u->RelV y v->E7 H d x y=some b->iQ A s u v b
 |0,A,x,y,u,v,b,hu,rx,ry,h=>by
  unfold E7 at h
  split at h
  ·rename_i z;cases h;exact Mb rx ry z.1 z.2
  ·cases h
 |d+1,A,x,y,u,v,b,hu,rx,ry,h=>by
  by_cases hs:∃a,x= .ref a/\y= .ref a
  ·obtain⟨a,rfl,rfl⟩:=hs
   cases (show u=bj a from rx)
   cases (show v=bj a from ry)
   rw[F0 (d+1) h]
   exact iR _
  ·unfold E7 at h
   split at h
   ·rename_i a c
    split at h
    ·rename_i xs ys e1 e2
     cases (show u=bj a from rx)
     cases (show v=bj c from ry)
     have hne:a≠c:=λz=>hs ⟨a,rfl,by rw[z]⟩
     obtain⟨i1,r1,p1,_⟩:=I.list (lT.of e1)
     obtain⟨i2,r2,p2,_⟩:=I.list (lT.of e2)
     refine ie hne ?_
     have l1:=r1.length
     have l2:=r2.length
     split at h
     ·rename_i hl
      obtain⟨e,h1,h2⟩:=yB h
      rw[cY,←hl,dt]at h2
      have z:=SeqAt.RcAt.lists (A:=A) (s:=s) (e:=e) p1.isList p2.isList (by simp;lia) (by lia) λj j1 j2=> ?_
      ·have e3:i1.toArray.size=xs.length:=by simp[l1]
       rw[e3,h2]at z
       exact z
      ·simp only[aX]at j1 j2
       have k1:j<xs.length:=by lia
       have k2:j<ys.length:=by lia
       obtain⟨w1,g1,q1⟩:=r1.get (af k1)
       obtain⟨w2,g2,q2⟩:=r2.get (af k2)
       have z:=h1 j (E7 H d xs[j] ys[j]) (by rw[cT,af k1,af k2])
       have e4:i1.toArray[j]=w1:=by simpa [j1] using g1
       have e5:i2.toArray[j]=w2:=by simpa [j2] using g2
       rw[e4,e5]
       exact z_ I d A.in1 (by rw[dX];lia) q1 q2 z
     ·rename_i hl
      cases h
      exact SeqAt.RcAt.lists_lengths p1.isList p2.isList (by simp;lia) (by lia)
    ·rename_i xs ys e1 e2
     cases (show u=bj a from rx)
     cases (show v=bj c from ry)
     have hne:a≠c:=λz=>hs ⟨a,rfl,by rw[z]⟩
     obtain⟨i1,r1,p1,_⟩:=I.tuple (.inl (.inl e1))
     obtain⟨i2,r2,p2,_⟩:=I.tuple (.inl (.inl e2))
     refine ie hne ?_
     have l1:=r1.length
     have l2:=r2.length
     split at h
     ·rename_i hl
      obtain⟨e,h1,h2⟩:=yB h
      rw[cY,←hl,dt]at h2
      have z:=SeqAt.RcAt.tuples (A:=A) (s:=s) (e:=e) p1 p2 (by lia) λj j1 j2=> ?_
      ·have e3:i1.toArray.size=xs.length:=by simp[l1]
       have e4:i2.toArray.size=xs.length:=by simp[←l2,hl]
       rw[e3,e4,dt,h2,beq_self_eq_true,Bool.and_true]at z
       exact z
      ·simp only[aX]at j1 j2
       have k1:j<xs.length:=by lia
       have k2:j<ys.length:=by lia
       obtain⟨w1,g1,q1⟩:=r1.get (af k1)
       obtain⟨w2,g2,q2⟩:=r2.get (af k2)
       have z:=h1 j (E7 H d xs[j] ys[j]) (by rw[cT,af k1,af k2])
       have e4:i1.toArray[j]=w1:=by simpa [j1] using g1
       have e5:i2.toArray[j]=w2:=by simpa [j2] using g2
       rw[e4,e5]
       exact z_ I d A.in1 (by rw[dX];lia) q1 q2 z
     ·cases h
    ·cases h
   ·split at h
    ·rename_i z;cases h;exact Mb rx ry z.1 z.2
    ·cases h
noncomputable def Rc:R2:=λx y H Q=>match x,y with
 | .ref a,.ref b=>(match H a,H b with
  |some (.lst xs),some (.lst ys)=>if xs.length=ys.length then(match FI (dD (E7 H 2) xs ys) with
    |some k=>Q (.bl k) H
    |none=>False) else Q (.bl false) H
  |_,_=>False)
 |_,_=>False
noncomputable def NU:R2:=λx y H Q=>match x,y with
 | .ref a,.ref b=>(match H a,H b with
  |some (.lst xs),some (.lst ys)=>if xs.length=ys.length then(match FI (dD (E7 H 2) xs ys) with
    |some k=>Q (.bl (!k)) H
    |none=>False) else Q (.bl true) H
  |_,_=>False)
 |_,_=>False
theorem Vu(hu:X.A.units+8<cLine):tW X (compareOp .Eq) Rc:=by
 intro pins s σ H x y v u Q I rx ry h
 unfold Rc at h
 split at h
 case h_2=>exact h.elim
 rename_i a b
 split at h
 case h_2=>exact h.elim
 rename_i xs ys e1 e2
 cases (show v=bj a from rx)
 cases (show u=bj b from ry)
 obtain⟨i1,r1,p1,_⟩:=I.list (lT.of e1)
 obtain⟨i2,r2,p2,_⟩:=I.list (lT.of e2)
 have l1:=r1.length
 have l2:=r2.length
 split at h
 ·rename_i hl
  split at h
  case h_2=>exact h.elim
  rename_i k hk
  obtain⟨e,h1,h2⟩:=yB hk
  rw[cY,←hl,dt]at h2
  refine SeqAt.eq_listAt (e:=e) p1.isList p2.isList (by simp;lia) (by lia) (λj j1 j2=> ?_) ⟨.bl k,H,I,?_,h⟩
  ·simp only[aX]at j1 j2
   have k1:j<xs.length:=by lia
   have k2:j<ys.length:=by lia
   obtain⟨w1,g1,q1⟩:=r1.get (af k1)
   obtain⟨w2,g2,q2⟩:=r2.get (af k2)
   have z:=h1 j (E7 H 2 xs[j] ys[j]) (by rw[cT,af k1,af k2])
   have e4:i1.toArray[j]=w1:=by simpa [j1] using g1
   have e5:i2.toArray[j]=w2:=by simpa [j2] using g2
   rw[e4,e5]
   exact z_ I 2 X.A.in1 (by rw[dX];lia) q1 q2 z
  ·have e3:i1.toArray.size=xs.length:=by simp[l1]
   rw[e3,h2]
   exact rfl
 ·exact SeqAt.eq_list_lengthsAt p1.isList p2.isList (by simp;lia) (by lia) ⟨.bl false,H,I,rfl,h⟩
end
section
variable{X:Cx}
theorem VC(hu:X.A.units+8<cLine):tW X (compareOp .NotEq) NU:=by
 intro pins s σ H x y v u Q I rx ry h
 unfold NU at h
 split at h
 case h_2=>exact h.elim
 rename_i a b
 split at h
 case h_2=>exact h.elim
 rename_i xs ys e1 e2
 cases (show v=bj a from rx)
 cases (show u=bj b from ry)
 obtain⟨i1,r1,p1,_⟩:=I.list (lT.of e1)
 obtain⟨i2,r2,p2,_⟩:=I.list (lT.of e2)
 have l1:=r1.length
 have l2:=r2.length
 split at h
 ·rename_i hl
  split at h
  case h_2=>exact h.elim
  rename_i k hk
  obtain⟨e,h1,h2⟩:=yB hk
  rw[cY,←hl,dt]at h2
  refine SeqAt.RcNeAt.lists (e:=e) p1.isList p2.isList (by simp;lia) (by lia) (λj j1 j2=> ?_) X.prog X.w X.xe _ ⟨.bl (!k),H,I,?_,h⟩
  ·simp only[aX]at j1 j2
   have k1:j<xs.length:=by lia
   have k2:j<ys.length:=by lia
   obtain⟨w1,g1,q1⟩:=r1.get (af k1)
   obtain⟨w2,g2,q2⟩:=r2.get (af k2)
   have z:=h1 j (E7 H 2 xs[j] ys[j]) (by rw[cT,af k1,af k2])
   have e4:i1.toArray[j]=w1:=by simpa [j1] using g1
   have e5:i2.toArray[j]=w2:=by simpa [j2] using g2
   rw[e4,e5]
   exact z_ I 2 X.A.in1 (by rw[dX];lia) q1 q2 z
  ·have e3:i1.toArray.size=xs.length:=by simp[l1]
   rw[e3,h2]
   exact rfl
 ·exact SeqAt.RcNeAt.lists_lengths p1.isList p2.isList (by simp;lia) (by lia) X.prog X.w X.xe _ ⟨.bl true,H,I,rfl,h⟩
end
theorem vP.Im{K:aC}{a:Addr}{xs:List V}{z7:St}{tt:TT}{te:TE}{H:Hp}{Q:VK}(p:V->Bool)(f:V->V)(hS:lT K H a xs)(hz:xs.length<=sizeLine)
  (ht:∀x∈xs,∀K':Bool->Hp->Prop,K' (p x) H->tt (some x::z7) H K') (he:∀x∈xs,p x=true->∀K':VK,K' (f x) H->te (some x::z7) H K')
  (q:∀l,H l=none->Q (.ref l) (upd H l (.lst ((xs.filter p).map f)))):vP (QN K a) z7 tt te H Q:=by
 refine⟨λi m ys H'=>H'=H/\i<=xs.length/\m=xs.length-i/\ys=((xs.take i).filter p).map f,⟨xs.length,rfl,b7 _,rfl,by simp⟩,λi m ys H' ⟨e1,hi,em,ey⟩=> ?_⟩
 subst e1 ey
 refine⟨aW (by rw[aj];exact aW (cU _ _) (by rw[c_];lia)) hz,?_⟩
 by_cases z:i<xs.length
 ·have hx:xs[i]? =some xs[i]:=af z
  refine .inr ⟨⟨xs,xs[i],hS,hx⟩,λx H2 ⟨e2,e3⟩=> ?_⟩
  have ex:x=xs[i]:=by have:=e3 xs hS;rw[hx]at this;exact(bp this).symm
  rw[e2,ex]
  have tk:xs.take (i+1)=xs.take i++[xs[i]]:=by rw[cx,hx];rfl
  refine ht _ (bH z) _ ?_
  cases hp:p xs[i] with
  |true=>
   rw[if_pos rfl]
   refine he _ (bH z) hp _ ⟨xs.length-(i+1),by lia,rfl,z,rfl,?_⟩
   rw[tk,df,bo];simp[hp]
  |false=>
   rw[if_neg aZ]
   refine⟨xs.length-(i+1),by lia,rfl,z,rfl,?_⟩
   rw[tk,df,bo];simp[hp]
 ·have e:i=xs.length:=by lia
  subst e
  rw[cF]
  exact .inl ⟨⟨xs,hS,aN _⟩,q⟩
theorem M9{X:Cx}{scope:Scope}{N:List Str}{x:List Str}{s:Shared}{H:Hp}{C:Addr}{ex:List Addr}:Exc (X.DW scope N x s H C ex) (λ_ _ _ _=>False):=
 ⟨λ_ _ _ _ _ _ _ ⟨_,_,_,_,_,_,_,_,_,_,_,_,h⟩=>h,λ_ _ _ _ _ _ _ _ _ _ _ _ h=>h,PassesOwn.never⟩
noncomputable def bools:List V->Option (List Bool)
 | []=>some []
 | .bl b::r=>(bools r).map λbs=>b::bs
 |_::_=>none
noncomputable def KD:List V->Hp->VK->Prop:=λxs H Q=>match xs with
 | [.ref a]=>(match H a with
  |some (.lst ys)=>∀l,H l=none->Q (.ref l) (upd H l (.lst ys))
  |_=>False)
 |_=>False
noncomputable def Rb:R2:=λx y H Q=>match eqv x y with
 |some b=>Q (.bl b) H
 |none=>Rc x y H Q
noncomputable def KH:R2:=λx y H Q=>match eqv x y with
 |some b=>Q (.bl (!b)) H
 |none=>NU x y H Q
section
variable{X:Cx}
theorem Tq:sT X (.type "list") KD:=IY.mono λxs H Q h=>by
 unfold KD at h
 split at h
 case h_2=>exact h.elim
 split at h
 case h_2=>exact h.elim
 rename_i ys e
 exact⟨_,ys,rfl,.inl (lT.of e),h⟩
theorem Vt(hu:X.A.units+8<cLine):tW X (compareOp .Eq) Rb:=by
 intro pins s σ H x y v u Q I rx ry h
 unfold Rb at h
 split at h
 ·rename_i b e
  exact Vs pins s σ H x y v u Q I rx ry (by unfold zK;rw[e];exact h)
 ·exact Vu hu pins s σ H x y v u Q I rx ry h
theorem O7(hu:X.A.units+8<cLine):tW X (compareOp .NotEq) KH:=by
 intro pins s σ H x y v u Q I rx ry h
 unfold KH at h
 split at h
 ·rename_i b e
  exact VB pins s σ H x y v u Q I rx ry (by unfold Rh;rw[e];exact h)
 ·exact VC hu pins s σ H x y v u Q I rx ry h
theorem Tz{ca:Bool}{k:Nat}{A:Around}(hr:pU ca k A):A.units+8<cLine:=bQ (gT (by decide:8<=64) _) hr.units
end
theorem EI{K:aC}{a:Addr}{xs:List V}{z7:St}{tt:TT}{te:TE}{H:Hp}{Q:VK}(P:Nat->List V->Hp->Prop)(h0:P 0 [] H)(hS:∀i ys H',P i ys H'->lT K H' a xs)(hz:xs.length<=sizeLine)(hlen:∀i ys H',P i ys H'->ys.length<=i)
  (step:∀i x ys H',xs[i]? =some x->P i ys H'->∀K1:List V->Hp->Prop,(∀ys' H3,P (i+1) ys' H3->K1 ys' H3)->tt (some x::z7) H' λb H2=>if b=true then te (some x::z7) H2 (λy H3=>K1 (ys++[y]) H3) else K1 ys H2)
  (q:∀ys H',P xs.length ys H'->∀l,H' l=none->Q (.ref l) (upd H' l (.lst ys))):vP (QN K a) z7 tt te H Q:=by
 refine⟨λi m ys H'=>P i ys H'/\i<=xs.length/\m=xs.length-i,⟨xs.length,h0,b7 _,rfl⟩,λi m ys H' ⟨hP,hi,em⟩=> ?_⟩
 refine⟨aW (aW (hlen _ _ _ hP) hi) hz,?_⟩
 have hS':=hS _ _ _ hP
 by_cases z:i<xs.length
 ·have hx:xs[i]? =some xs[i]:=af z
  refine .inr ⟨⟨xs,xs[i],hS',hx⟩,λx H2 ⟨e2,e3⟩=> ?_⟩
  have ex:x=xs[i]:=by have:=e3 xs hS';rw[hx]at this;exact(bp this).symm
  rw[e2,ex]
  exact step i _ ys H' hx hP (λys' H3=>∃m',m'<m/\(P (i+1) ys' H3/\i+1<=xs.length/\m'=xs.length-(i+1))) λys' H3 h=>⟨_,by omega,h,z,rfl⟩
 ·have e:i=xs.length:=by lia
  subst e
  exact .inl ⟨⟨xs,hS',aN _⟩,q _ _ hP⟩
end L2
namespace L2
open PySem PySem.Spec PyProof.Rows
theorem IJ:∀{l1 l2:List Int},l1.Perm l2->l1.Pairwise (·<=·)->l2.Pairwise (·<=·)->l1=l2
 | [],l2,p,_,_=>(List.Perm.nil_eq p)
 |a::r,[],p,_,_=>absurd p.length_eq (by simp)
 |a::r,b::r2,p,h1,h2=>by
  have ha:a∈b::r2:=p.mem_iff.mp aM
  have hb:b∈a::r:=p.mem_iff.mpr aM
  rw[eM]at h1 h2
  have e:a=b:=by
   rcases List.mem_cons.mp ha with e|ha
   ·exact e
   ·rcases List.mem_cons.mp hb with e|hb
    ·exact e.symm
    ·have:=h2.1 a ha
     have:=h1.1 b hb
     lia
  subst e
  rw[IJ ((List.perm_cons a).mp p) h1.2 h2.2]
noncomputable def mY (ns:List Int):List Int:=ns.mergeSort (λa b=>decide (a<=b))
theorem qi(ns:List Int):(mY ns).Perm ns:=List.mergeSort_perm ns _
theorem Dd(ns:List Int):(mY ns).Pairwise (·<=·):=by
 have h:=List.pairwise_mergeSort (le:=λ(a b:Int)=>decide (a<=b)) (λa b c=>by simp;lia) (λa b=>by simp;lia) ns
 exact h.imp (by simp)
theorem PD{ns ns':List Int}(p:ns'.Perm ns)(h:ns'.Pairwise (·<=·)):ns'=mY ns:=IJ (p.trans (qi ns).symm) h (Dd ns)
noncomputable def K0:List V->Option (List Int)
 | []=>some []
 | .int i::r=>(K0 r).map λns=>i::ns
 |_::_=>none
theorem D7:∀ns:List Int,K0 (ns.map V.int)=some ns
 | []=>rfl
 |n::r=>by simp only[ao,K0,D7 r,f_]
theorem K2:∀{ys:List V} {ns:List Int},K0 ys=some ns->ys=ns.map V.int
 | [],ns,h=>by cases h;rfl
 |y::r,ns,h=>by
  cases y with
  |int i=>
   obtain⟨cs,hc,rfl⟩:=Option.map_eq_some_iff.mp h
   rw[ao,←K2 hc]
  |_=>cases h
noncomputable def Rl:List V->Hp->VK->Prop:=λxs H Q=>match xs with
 | [.ref a]=>(match H a with
  |some (.lst ys)=>(match K0 ys with
   |some ns=>(∀n∈ns,0<=n/\n<=1000000)/\ns.length<=1000000/\Q (.int ns.sum) H
   |none=>False)
  |_=>False)
 |_=>False
theorem LM{ns:List Int}:∀(k:Nat),(∀n∈ns,0<=n/\n<=1000000)->k<=ns.length->0<=(ns.take k).sum/\(ns.take k).sum<=1000000*k
 |0,_,_=>by simp
 |k+1,h,hk=>by
  obtain⟨a,b⟩:=LM k h (by lia)
  have hx:ns[k]? =some ns[k]:=af (by lia)
  have:=h ns[k] (bH _)
  rw[cx,hx,eB]
  simp only[Option.toList_some,b8,fk]
  lia
theorem AG{ns:List Int}:∀(k:Nat),k<=ns.length->preSum (λi=>ns.getD i 0) k=(ns.take k).sum
 |0,_=>by simp[preSum]
 |k+1,hk=>by
  have hx:ns[k]? =some ns[k]:=af (by lia)
  rw[cx,hx,eB]
  show preSum (λi=>ns.getD i 0) k+ns.getD k 0=_
  rw[AG k (Nat.le_of_succ_le hk),au,hx]
  simp
section
variable{X:Cx}
theorem VL(hc:X.calm=true):sT X (.builtin "sum") Rl:=by
 intro pins s σ H xs us Q I r h
 unfold Rl at h
 split at h
 case h_2=>exact h.elim
 rename_i a
 obtain⟨u,rfl,rx⟩:=vals1 r
 cases (show u=bj a from rx)
 split at h
 case h_2=>exact h.elim
 rename_i ys ea
 split at h
 case h_2=>exact h.elim
 rename_i ns hb
 have ey:=K2 hb
 subst ey
 obtain⟨hn,hl,h⟩:=h
 obtain⟨its,rv,pl,hz⟩:=I.list (lT.of ea)
 have hlen:=rv.length
 rw[aj]at hlen
 have hat:∀(i:Nat) (v:Value),its.toArray[i]? =some v->∃t,v= .int (ns.getD i 0) t:=λi v hv=>by
  have hv':its[i]? =some v:=by simpa using hv
  have hi:i<ns.length:=by rw[hlen];exact(List.getElem?_eq_some_iff.mp hv').1
  obtain⟨w,g,q⟩:=rv.get (show(ns.map V.int)[i]? =some (V.int ns[i]) by rw[aT,af hi];rfl)
  rw[hv']at g
  cases g
  obtain⟨t,rfl⟩:=q
  exact⟨t,by rw[au,af hi];rfl⟩
 refine call_sum_walk (wpAny_pyIter_list pl.isList ?_)
 have hne:a≠s.heap.objs.size:=by
  obtain⟨o,n,ho,_⟩:=pl
  exact bh (aV ho)
 have lt:a<s.heap.objs.size:=by
  obtain⟨o,n,ho,_⟩:=pl
  exact aV ho
 refine⟨s.heap.objs.size,_,_,_,_,_,λi=>ns.getD i 0,rfl,Walks.list (by show X.A.handled=none;exact I.ok.hd hc) s.heap.objs.size a hne its.toArray,⟨⟨_,bT _ rfl,rfl,rfl⟩,pl.isList.push _⟩,λb hb=> ?_,λi v hP=>hat i v hP,λj hj=> ?_,λh' tk t' hk=> ?_⟩
 ·rw[fD]
  rcases List.mem_cons.mp hb with rfl|hb
  ·exact eW _
  ·rw[aU]at hb;subst hb;exact Nat.lt_succ_of_lt lt
 ·have hj':j<ns.length:=by rw[hlen];simpa using hj
  have hx:ns[j]? =some ns[j]:=af hj'
  have h1:=hn ns[j] (bH _)
  obtain⟨h2,h3⟩:=LM (j+1) hn hj'
  rw[AG (j+1) hj']
  simp only[au,hx,fX]
  unfold InLong
  constructor<;>constructor<;>lia
 ·rw[show its.toArray.size=ns.length by simp[hlen],AG _ (aN _),cF]
  refine⟨.int _,H,?_,⟨_,rfl⟩,h⟩
  have I1:Inv X pins σ H {s with heap:=s.heap.push {cls:= .type "list_iterator",data:= .fields #[.ref a,.int 0 0]}}:=I.kept (t':=s.toks) λb o q=>aO _ q
  have fp:=I.N4 (H':=H) (aN _) (I.lB.fresh (aN _))
  exact I1.turned (it:=s.heap.objs.size) (λb o hb e=>hk b o (by simpa using hb) e) fp.1 fp.2.1 fp.2.2.2.1 fp.2.2.2.2.1 fp.2.2.2.2.2
noncomputable def Ip:List (Key×V)->Option (List Int)
 | []=>some []
 |(.inl i,_)::r=>(Ip r).map λns=>i::ns
 |_::_=>none
theorem KZ:∀{kvs:List (Key×V)} {ns:List Int},Ip kvs=some ns->kvs.map (·.1)=ns.map bZ
 | [],ns,h=>by cases h;rfl
 |(k,v)::r,ns,h=>by
  cases k with
  |inl i=>
   obtain⟨cs,hc,rfl⟩:=Option.map_eq_some_iff.mp h
   rw[ao,ao,←KZ hc]
  |inr x=>cases h
noncomputable def z6:List V->Hp->VK->Prop:=λxs H Q=>match xs with
 | [.ref a]=>(match H a with
  |some (.dK kvs)=>(match Ip kvs with
   |some ns=>ns.length<64/\∀l,H l=none->Q (.ref l) (upd H l (.lst ((mY ns).map V.int)))
   |none=>False)
  |_=>False)
 |_=>False
theorem Gb:∀{l:List Value} {ns:List Int},l.length=ns.length->(∀(j:Nat) (v:Value),l[j]? =some v->∃t,v= .int (ns.getD j 0) t)->IntsAre l ns
 | [],[],_,_=> .nil
 |v::r,n::m,hl,h=>by
  obtain⟨t,e⟩:=h 0 v rfl
  rw[e]
  exact .cons n t (Gb (by simpa using hl) λj w hw=>h (j+1) w (by simpa using hw))
theorem Oe{i:Int}{v:Value}(h:EM (.inl i) v=true):∃t,v= .int i t:=by
 rcases mJ h with ⟨k,t,e,rfl⟩|⟨x,t,e,_⟩
 ·cases e;exact⟨t,rfl⟩
 ·cases e
theorem NV(hc:X.calm=true):sT X (.builtin "sorted") z6:=by
 intro pins s σ H xs us Q I r h
 unfold z6 at h
 split at h
 case h_2=>exact h.elim
 rename_i a
 obtain⟨u,rfl,rx⟩:=vals1 r
 cases (show u=bj a from rx)
 split at h
 case h_2=>exact h.elim
 rename_i kvs ea
 split at h
 case h_2=>exact h.elim
 rename_i ns hb
 obtain⟨hl,h⟩:=h
 obtain⟨z,hd,vs,rel,o,es,ep,hat⟩:=M8 I.lB ea
 have da:Heap.DictAt (mX X.prog X.w) s.heap a vs ep:=⟨o,es,hat⟩
 have hk1:=KZ hb
 have hk2:=rel.keys
 have hlen:vs.length=ns.length:=by
  have:=congrArg eR (hk2.symm.trans hk1)
  simpa using this
 have h64:64<=sizeLine:=by decide
 refine fS kind_sorted plain_sorted entry_sorted (args_sorted1 _) ?_
 refine wpAny_bind (wpAny_pure ?_)
 refine wpAny_bind (PySem.W.kdu_collect (PySem.W.kdl_dict hd) (by show X.A.handled=none;exact I.ok.hd hc) da (by lia) λh' tk acc hk hi=> ?_)
 have hal:acc.toList.length=ns.length:=by rw[←hlen];simpa using hi.1
 have hints:IntsAre acc.toList ns:=Gb hal λj v hv=>by
  obtain⟨k,x,e1,e2⟩:=hi.2 j v (by simpa using hv)
  have e3:(vs.map (·.1))[j]? =some k:=by rw[aT,e1];rfl
  rw[←hk2,hk1,aT]at e3
  obtain⟨n,e4,rfl⟩:=Option.map_eq_some_iff.mp e3
  obtain⟨t,rfl⟩:=Oe (show EM (.inl n) v=true from e2)
  exact⟨t,by rw[au,e4];rfl⟩
 refine wpAny_bind (wpAny_newList ?_ (by lia))
 have hgt:(h'.push {cls:= .type "list",data:= .seq acc.toList.toArray}).get? h'.objs.size=some (seqObj "list" acc.toList.toArray 0):=bT _ rfl
 refine wpAny_bind (wpAny_holding (wpAny_call_entry slot_list_sort ⟨_,hgt,rfl⟩ entry_list_sort (list_sort_tree hgt hints (by lia) λout ns' h1 h2 h3=> ?_) (args_list_sort _)))
 refine⟨_,rfl,wpAny_pure ⟨_,rfl,?_⟩⟩
 have e:=PD h2 h3
 subst e
 have hln:=h2.length_eq
 have I2:Inv X pins σ H {s with heap:=h',toks:=tk}:=I.kept λb o e=>hk b o e
 have hf:H h'.objs.size=none:=I2.lB.fresh (aN _)
 obtain⟨en,he⟩:=sortedHeap_at (h:=h'.push {cls:= .type "list",data:= .seq acc.toList.toArray}) (a:=h'.objs.size) (vs:=acc.toList) (out:=out) hgt
 refine⟨.ref h'.objs.size,_,I2.laid (t':=tk) (λb o e=>(sortedHeap_old (bh (aV e)) (aV (aO _ e))).trans (aO _ e)) (aN _) (show mQ X.prog X.w _ _ _ (.lst ((mY ns).map V.int)) from ?_),rfl,h _ hf⟩
 exact⟨by rw[aj,hln];exact aW (dW hl) (by decide),out.toList,en,Ey h1,by simpa using he⟩
noncomputable def Ra:R2:=λx y H Q=>match x,y with
 | .ref l,.ref b=>(match H l,H b with
  |some (.lst xs),some (.lst zs)=>xs.length+zs.length<=sizeLine/\∀p,H p=none->Q (.ref p) (upd H p (.lst (xs++zs)))
  |_,_=>False)
 |_,_=>False
theorem Vr:tW X (binaryOp .Add) Ra:=Ue.mono λx y H Q h=>by
 unfold Ra at h
 split at h
 case h_2=>exact h.elim
 split at h
 case h_2=>exact h.elim
 rename_i xs zs e1 e2
 exact⟨_,_,xs,zs,rfl,rfl,e1,e2,h.1,h.2⟩
noncomputable def Fh:V->List V->Hp->VK->Prop:=λx vs H Q=>match x,vs with
 | .ref l,[.ref b]=>(match H l,H b with
  |some (.lst xs),some (.lst zs)=>l≠b/\xs.length+zs.length<=sizeLine/\Q .kG (upd H l (.lst (xs++zs)))
  |_,_=>False)
 |_,_=>False
theorem O5:WA X "list.extend" Fh:=λpins s σ H x xs v us Q I rx rxs h=>by
 unfold Fh at h
 split at h
 case h_2=>exact h.elim
 split at h
 case h_2=>exact h.elim
 rename_i ys zs e1 e2
 exact Om pins s σ H _ _ v us Q I rx rxs ⟨_,_,ys,zs,rfl,rfl,e1,e2,h.2.1,h.2.2⟩
noncomputable def O0:R2:=λx y H Q=>match y with
 | .ref a=>(match H a,kL x with
  |some (.dK kvs),some k=>Q (.bl (vH kvs k).isSome) H
  |_,_=>False)
 |_=>False
theorem Vv(hu:X.A.units+1<cLine):tW X (compareOp .In) O0:=by
 intro pins s σ H x y v u Q I rx ry h
 unfold O0 at h
 split at h
 case h_2=>exact h.elim
 rename_i a
 split at h
 case h_2=>exact h.elim
 rename_i kvs k ea ek
 have ey:=Fu ek
 subst ey
 cases (show u=bj a from ry)
 exact W3 hu I (Ks.k ea) rx λs' I'=>⟨.bl _,H,I',rfl,h⟩
end
noncomputable def MW (td ty:TE):TE:=λσ H Q=>td σ H λx H1=>match x with
 | .ref a=>(match H1 a with
  |some (.dK _)=>ty σ H1 λy H2=>(match H2 a,kL y with
   |some (.dK kvs),some k=>(match vH kvs k with
    |some v=>Q v (upd H2 a (.dK (F1 kvs k)))
    |none=>False)
   |_,_=>False)
  |_=>False)
 |_=>False
section
variable{X:Cx}{o e:Expr}{td ty:TE}{apos cpos:Pos}
theorem Ti(ho:PE X o td)(he:PE X e ty)(m:M1 X o "pop" apos e cpos):PE X (.Call (.Attribute o "pop" apos) [e] [] cpos) (MW td ty):=by
 intro pins s σ H Q I h
 refine wpAny_Call_method m.base m.XQ m.line PySem.F.plainAttrs_dict gH PySem.F.type_dict_pop (pL (ho pins s σ H _ I h) λu s1 ⟨x,H1,I1,rx,q1⟩=> ?_)
 try dsimp only at q1
 split at q1
 case h_2=>exact q1.elim
 rename_i a
 split at q1
 case h_2=>exact q1.elim
 rename_i kvs0 ea0
 obtain rfl:u=bj a:=rx
 obtain⟨t1,t2,_⟩:=TC I1 (TF ea0)
 refine⟨t1,t2,?_⟩
 rw[m.trees]
 refine gj rfl (eZ (fI (pL (he pins s1 σ H1 _ I1 q1) λiv s2 ⟨y,H2,I2,ry,q2⟩=>fP ?_)))
 try dsimp only at q2
 split at q2
 case h_2=>exact q2.elim
 rename_i kvs k ea ek
 split at q2
 case h_2=>exact q2.elim
 rename_i v l
 have ey:=Fu ek
 subst ey
 exact VN I2 ea ry l (.inl rfl) λw' s3 I3 rw'=>⟨v,_,I3,rw',q2⟩
end
noncomputable def FV (ta:TA):TE:=λσ H Q=>ta σ H λvs H1=>match vs with
 | [.int i,.int j]=> -(2^62)<=i/\i<2^62/\ -(2^62)<=j/\j<2^62/\(j-i).toNat<=sizeLine/\∀p,H1 p=none->Q (.ref p) (upd H1 p (.lst ((bG (j-i).toNat).map λt:Nat=>V.int (i+(t:Int)))))
 |_=>False
theorem LQ:∀(l:List Value) (a:Int),(∀(j:Nat) (v:Value),l[j]? =some v->∃t,v= .int (a+j) t)->Vals ((bG l.length).map λt:Nat=>V.int (a+(t:Int))) l
 | [],_,_=> .nil
 |v::r,a,h=>by
  rw[ai,gr,ao,bU]
  obtain⟨t,e⟩:=h 0 v rfl
  refine .cons ⟨t,e⟩ ?_
  have z:=LQ r (a+1) λj w hw=>by
   obtain⟨t,e⟩:=h (j+1) w (by simpa using hw)
   exact⟨t,by rw[e];congr 1;lia⟩
  have ef:((λt:Nat=>V.int (a+t))∘Nat.succ)=λt:Nat=>V.int (a+1+t):=by
   funext t
   show V.int (a+((t+1:Nat):Int))=_
   congr 1;lia
  rw[ef]
  exact z
section
variable{X:Cx}{a b:Expr}{ta:TA}{p pos p2 pos2:Pos}
theorem Qe(hc:X.calm=true)(hgl:Gl X "list")(hml:X.mg "list"=none)(hgr:Gl X "range")(hmr:X.mg "range"=none)(ha:PA X [a,b] ta)(hs:starEach [a,b] X.env=[(false,eval a X.env),(false,eval b X.env)]:=by rfl)(hs2:starEach [b] X.env=[(false,eval b X.env)]:=by rfl):
  PE X (.Call (.Name "list" p) [.Call (.Name "range" p2) [a,b] [] pos2] [] pos) (FV ta):=by
 intro pins s σ H Q I h
 refine wpAny_Call_Name_kw (yV I hgl hml PyProof.Rows.Boot.«list» ?_ (by decide) (by decide))
 refine cq ?_ (tP rfl) (tO rfl)
 rw[tP (e:= .Call (.Name "range" p2) [a,b] [] pos2) (rest:=[]) rfl]
 show wpAny _ _ (spliced ((false,eval (.Call (.Name "range" p2) [a,b] [] pos2) X.env)::backTo pos (starEach [] X.env))) _ _ s
 refine fI (Call_ (yV I hgr hmr boot_range (cq (pL (ha pos2 pins s σ H _ I h) λus s1 ⟨vs,H1,I1,r1,q1⟩=> ?_) (by rw[hs,hs2]) (by rw[hs2];rfl))))
 try dsimp only at q1
 split at q1
 case h_2=>exact q1.elim
 rename_i i j
 obtain⟨q1,q2,q3,q4,q5,q⟩:=q1
 cases r1 with
 |cons r rr=>
  cases rr with
  |cons r' rr=>
   cases rr
   obtain⟨t,rfl⟩:=r
   obtain⟨t',rfl⟩:=r'
   refine call_range_2 (fP ?_)
   refine call_list_range (I1.ok.hd hc) (iX ..) (small_one q1 q2 q3 q4) (n:=(j-i).toNat) (by rw[rangeSize_one];split<;>lia) (aW q5 (by decide)) λh' tk acc' c' hk he hi=> ?_
   have I2:=I1.kept (h':=s1.heap.push {cls:= .type "range",data:= .fields #[.int i t,.int j t',.int 1 s1.toks]}) (t':=s1.toks+1) λb o e=>aO _ e
   have hl:acc'.toList.length=(j-i).toNat:=by simpa using hi.1
   have vr:=LQ acc'.toList i λk v hv=>by
    obtain⟨tt,e⟩:=hi.2 k v (by simpa using hv)
    exact⟨tt,by rw[e];congr 1;lia⟩
   rw[hl]at vr
   have fr:=I2.lB.fresh (aN _)
   exact⟨.ref _,_,I2.laid (t':=tk) hk (aN _) (show mQ X.prog X.w _ h' _ (.lst ((bG (j-i).toNat).map λt:Nat=>V.int (i+(t:Int)))) from⟨by rw[aj,cb];exact q5,acc'.toList,c',vr,by simpa using he⟩),rfl,q _ fr⟩
end
end L2
namespace L2
open PySem PySem.Spec PyProof.Rows
section
variable{X:Cx}{pins:List (Addr×Obj)}{σ:St}{H:Hp}{s:Shared}{h':Heap}
theorem Inv.Sz{t':Nat}{it jt:Addr}(I:Inv X pins σ H s)(k:∀b o,b≠it->b≠jt->s.heap.get? b=some o->h'.get? b=some o)(f:Cv X pins H it)(g:Cv X pins H jt):Inv X pins σ H {s with heap:=h',toks:=t'}:=by
 obtain⟨hn,hL,_,h1,h2,h3⟩:=f
 obtain⟨hn',hL',_,h1',h2',h3'⟩:=g
 have nit:∀b u,H b=some u->b≠it:=λb u e z=>by rw[z,hn]at e;cases e
 have njt:∀b u,H b=some u->b≠jt:=λb u e z=>by rw[z,hn']at e;cases e
 have k':∀b o,b∉ [it,jt]->s.heap.get? b=some o->h'.get? b=some o:=λb o hc e=>k b o (λz=>hc (by simp[z])) (λz=>hc (by simp[z])) e
 refine I.step (g':=s.gens) (d':=s.drawn) (ch:=[it,jt]) (λb hb=> ?_) (λb o _ _ hc e _=>k' b o hc e) (λb o _ _ hc e _=>⟨o.slots,k' b o hc e⟩) (λ_ _ _ _ n=>n)
  (λb o hc e=>⟨o,k' b o hc e⟩) (λ_ _ e=>e) (λ_ _ _ e=>e) (λb ps e=>⟨#[],by rw[e];simp⟩) (λm hm=> ?_) (λb u e=> ?_) I.bare
 ·rcases List.mem_cons.mp hb with rfl|hb
  ·exact⟨h1,hL,h2,h3⟩
  ·rw[aU]at hb
   subst hb
   exact⟨h1',hL',h2',h3'⟩
 ·obtain⟨o,es,ep,ho,r⟩:=hm
  exact⟨o,es,ep,k _ o (aE hL) (aE hL') ho,r⟩
 ·refine(I.lB b u e).A4 (λc v hc q=>k c v ?_ ?_ q) (λ_ q=>q) λ_ _ q=>q
  ·rcases hc with z|z
   ·rw[z];exact nit b u e
   ·exact nit c _ z
  ·rcases hc with z|z
   ·rw[z];exact njt b u e
   ·exact njt c _ z
end
noncomputable def Wv (K:aC) (a:Addr):It:=
 ⟨λi H=>∃xs x,lT K H a xs/\xs[i]? =some x,λi H x H'=>∃p y,H p=none/\x= .ref p/\H'=upd H p (.tup [.int i,y])/\∀xs,lT K H a xs->xs[i]? =some y,λi H=>∃xs,lT K H a xs/\xs.length<=i⟩
theorem OJ{P:Program}{w:World}{K:aC}{elts:List Expr}{k:Nat}{pos:Pos}(a e it:Addr)(ne:e≠it):Turn P w K (.Tuple elts k pos) (Wv K a) [e,it] e (λi h=>(∃old,IsEnum h e it (i:Int) old)/\h.IsListIter it a i) where
 mem:=by simp
 obj:=λi h st b hb=>by
  obtain⟨⟨old,en⟩,li⟩:=st
  rcases List.mem_cons.mp hb with rfl|hb
  ·exact⟨_,en,λv z=>by cases z⟩
  ·rw[aU]at hb
   subst hb
   obtain⟨o,e,c,d⟩:=li
   exact⟨o,e,λv z=>by rw[d]at z;cases z⟩
 keep:=λi h h' st k=>by
  obtain⟨⟨old,en⟩,li⟩:=st
  exact⟨⟨old,k e (by simp) _ en⟩,li.at λo e=>k it (by simp) o e⟩
 item:=by
  intro X hP hw hK hc i pins s σ H E I hf st hg
  subst hP hw hK
  obtain⟨xs,x,hq,hx⟩:=hg
  obtain⟨its,rv,p,hz⟩:=I.list hq
  obtain⟨u,hu,ru⟩:=rv.get hx
  obtain⟨⟨old,en⟩,li⟩:=st
  have fe:=hf e (by simp)
  have fi:=hf it (by simp)
  refine wpAny_pyNext_enum_item en li p.isList (x:=u) (by simpa using hu) ne λh' out li' tup sz kp=> ?_
  refine⟨_,rfl,wpAny_letOwnedTupleGo_enum out λh2 en2 sb2=> ?_⟩
  have hT:∀b o,s.heap.get? b=some o->s.heap.objs.size≠b:=λb o eb=>du (aV eb)
  obtain⟨oe,eE⟩:∃o,s.heap.get? e=some o:=⟨_,en⟩
  obtain⟨oi,eI,_⟩:=id li
  have I1:Inv X pins σ H {s with heap:=h2,toks:=s.toks+1}:=I.Sz (λb o n1 n2 eb=>(sb2.2 b n1).trans (kp b o n1 n2 eb)) fe fi
  have hf0:H s.heap.objs.size=none:=I.lB.fresh (aN _)
  have tup2:h2.get? s.heap.objs.size=some {cls:=dC "tuple",data:=iB #[dA (↑i) s.toks,u]}:=(sb2.2 _ (hT e oe eE)).trans tup
  have h0:X.s₀.heap.get? s.heap.objs.size=none:=by
   cases z:X.s₀.heap.get? s.heap.objs.size with
   |none=>rfl
   |some o=>exact absurd (aR (aV z) I.sz) (b_ _)
  have I2:=I1.adopt (a:=s.heap.objs.size) (o:= .tup [.int i,x]) hf0 ⟨show 2<=sizeLine by decide,[dA (↑i) s.toks,u],.cons ⟨_,rfl⟩ (.cons ru .nil),⟨_,tup2,rfl,_,rfl⟩⟩ h0 (du I.lt) (λy c ec z=>by
    obtain⟨v,o,eo,_⟩:=I.cell y c ec
    exact hT c o eo z.symm) λp hp z=>hT p.1 p.2 (I.pin p hp).1 z.symm
  refine⟨.ref s.heap.objs.size,_,I2,rfl,⟨_,x,hf0,rfl,rfl,λys hy=>by rw[I.Di hy hq];exact hx⟩,⟨⟨_,by exact_mod_cast en2⟩,?_⟩,λb hb=> ?_⟩
  ·exact li'.at λo eo=>(sb2.2 it (aE ne)).trans eo
  ·have nb:b≠s.heap.objs.size:=by
    rcases List.mem_cons.mp hb with rfl|hb
    ·exact aE (hT _ oe eE)
    ·rw[aU]at hb
     subst hb
     exact aE (hT _ oi eI)
   rw[i_ nb]
   exact(hf b hb).1
 done:=by
  intro X hP hw hK hc i pins s σ H E I hf st hg
  subst hP hw hK
  obtain⟨xs,hq,hx⟩:=hg
  obtain⟨its,rv,p,hz⟩:=I.list hq
  obtain⟨⟨old,en⟩,li⟩:=st
  obtain⟨f0,f1,f2,f3,f4,f5⟩:=hf it (by simp)
  have hl:=rv.length
  exact wpAny_pyNext_enum_end (I.ok.hd hc) en li p.isList (by simp;lia) λh' eb=>⟨rfl,I.turned (t':=s.toks) (λb o hb e=>eb b o hb e) f0 f1 f3 f4 f5⟩
 self:=λ_ _ _ _ _ st h=>let ⟨⟨_,en⟩,_⟩:=st;wpAny_pyIter_enum en h
noncomputable def Nf (K:aC) (ta:TA):TI:=λσ H R=>ta σ H λvs H1=>match vs with
 | [.ref a]=>(∃xs,lT K H1 a xs)/\R (Wv K a) H1
 |_=>False
section
variable{X:Cx}
theorem R7{elts:List Expr}{k:Nat}{tpos:Pos}{a:Expr}{ta:TA}{p pos:Pos}(hg:Gl X "enumerate")(hm:X.mg "enumerate"=none)(ha:PA X [a] ta)(hs:starEach [a] X.env=[(false,eval a X.env)]:=by rfl):
  PI X (.Tuple elts k tpos) (.Call (.Name "enumerate" p) [a] [] pos) (Nf X.K ta):=by
 intro pins s σ H R I h
 refine Call_ (yV I hg hm boot_enumerate (cq (pL (ha pos pins s σ H _ I h) λus s1 ⟨vs,H1,I1,r1,q1⟩=> ?_) hs rfl))
 try dsimp only at q1
 split at q1
 case h_2=>exact q1.elim
 rename_i l
 obtain⟨⟨xs,hq⟩,q⟩:=q1
 cases r1 with
 |cons r rr=>
  cases rr
  cases r
  obtain⟨its,rv,pl,hz⟩:=I1.list hq
  refine call_enumerate_list pl.isList λh' en li sz kp=> ?_
  have I2:Inv X pins σ H1 {s1 with heap:=h'}:=I1.kept (t':=s1.toks) kp
  refine wpAny_pyIter_enum en ?_
  refine⟨s1.heap.objs.size+1,[s1.heap.objs.size+1,s1.heap.objs.size],_,_,H1,rfl,I2,OJ l _ _ (du (eW _)),⟨⟨_,by exact_mod_cast en⟩,li⟩,λb hb=> ?_,q⟩
  rcases List.mem_cons.mp hb with rfl|hb
  ·exact I1.N4 (fG _) (I1.lB.fresh (fG _))
  ·rw[aU]at hb
   subst hb
   exact I1.N4 (aN _) (I1.lB.fresh (aN _))
end
theorem IZ{K:aC}{a:Addr}{xs:List V}{z7:St}{tt:TT}{te:TE}{H:Hp}{Q:VK}(P:Nat->List V->Hp->Prop)(h0:P 0 [] H)(hS:∀i ys H',P i ys H'->lT K H' a xs)(hz:xs.length<=sizeLine)(hlen:∀i ys H',P i ys H'->ys.length<=i)
  (step:∀(i:Nat) x ys H',xs[i]? =some x->P i ys H'->∀p,H' p=none->∀K1:List V->Hp->Prop,(∀ys' H3,P (i+1) ys' H3->K1 ys' H3)->tt (some (.int i)::some x::z7) (upd H' p (.tup [.int i,x])) λb H2=>if b=true then te (some (.int i)::some x::z7) H2 (λy H3=>K1 (ys++[y]) H3) else K1 ys H2)
  (q:∀ys H',P xs.length ys H'->∀l,H' l=none->Q (.ref l) (upd H' l (.lst ys))):LU K (Wv K a) z7 tt te H Q:=by
 refine⟨λi m ys H'=>P i ys H'/\i<=xs.length/\m=xs.length-i,⟨xs.length,h0,b7 _,rfl⟩,λi m ys H' ⟨hP,hi,em⟩=> ?_⟩
 refine⟨aW (aW (hlen _ _ _ hP) hi) hz,?_⟩
 have hS':=hS _ _ _ hP
 by_cases z:i<xs.length
 ·have hx:xs[i]? =some xs[i]:=af z
  refine .inr ⟨⟨xs,xs[i],hS',hx⟩,λx H2 ⟨p,y,hp,ex,eH,hy⟩=> ?_⟩
  have ey:y=xs[i]:=by have:=hy xs hS';rw[hx]at this;exact(bp this).symm
  subst ex eH ey
  refine⟨p,_,_,rfl,.inl (.inl i8),?_⟩
  exact step i _ ys H' hx hP p hp (λys' H3=>∃m',m'<m/\(P (i+1) ys' H3/\i+1<=xs.length/\m'=xs.length-(i+1))) λys' H3 h=>⟨_,by omega,h,z,rfl⟩
 ·have e:i=xs.length:=by lia
  subst e
  exact .inl ⟨⟨xs,hS',aN _⟩,q _ _ hP⟩
theorem CN{lo:Int}{n:Nat}{z7:St}{tt:TT}{te:TE}{H:Hp}{Q:VK}(P:Nat->List V->Hp->Prop)(h0:P 0 [] H)(hz:n<=sizeLine)(hlen:∀i ys H',P i ys H'->ys.length<=i)
  (step:∀(i:Nat) ys H',i<n->P i ys H'->∀K1:List V->Hp->Prop,(∀ys' H3,P (i+1) ys' H3->K1 ys' H3)->tt (some (.int (lo+i))::z7) H' λb H2=>if b=true then te (some (.int (lo+i))::z7) H2 (λy H3=>K1 (ys++[y]) H3) else K1 ys H2)
  (q:∀ys H',P n ys H'->∀l,H' l=none->Q (.ref l) (upd H' l (.lst ys))):vP (QO lo n) z7 tt te H Q:=by
 refine⟨λi m ys H'=>P i ys H'/\i<=n/\m=n-i,⟨n,h0,b7 _,rfl⟩,λi m ys H' ⟨hP,hi,em⟩=> ?_⟩
 refine⟨aW (aW (hlen _ _ _ hP) hi) hz,?_⟩
 by_cases z:i<n
 ·refine .inr ⟨z,λx H2 ⟨e2,e3⟩=> ?_⟩
  rw[e2,e3]
  exact step i ys H' z hP (λys' H3=>∃m',m'<m/\(P (i+1) ys' H3/\i+1<=n/\m'=n-(i+1))) λys' H3 h=>⟨_,by omega,h,z,rfl⟩
 ·have e:i=n:=by lia
  subst e
  exact .inl ⟨aN _,q _ _ hP⟩
section
variable{X:Cx}
noncomputable def OZ:R2:=λx y H Q=>match x,y with
 | .ref a,.ref b=>(match H a,H b with
  |some (.tup xs),some (.tup ys)=>xs≠ []/\ys≠ []/\xs.length+ys.length<=sizeLine/\∀p,H p=none->Q (.ref p) (upd H p (.tup (xs++ys)))
  |_,_=>False)
 |_,_=>False
theorem Tf:tW X (binaryOp .Add) OZ:=RS.mono λx y H Q h=>by
 unfold OZ at h
 split at h
 case h_2=>exact h.elim
 split at h
 case h_2=>exact h.elim
 rename_i xs zs e1 e2
 exact⟨_,_,xs,zs,rfl,rfl,.of e1,.of e2,h.1,h.2.2.1,λz=>absurd z h.2.1,λ_=>h.2.2.2⟩
theorem To{K:aC}{e:Expr}{f:Str}{pos:Pos}{ta:TE}(hK:X.K=K)(he:PE X e ta)(hb:attributeBase e f X.env (eval e X.env)=eval e X.env):PE X (.Attribute e f pos) (KC K ta f):=hK▸SH he hb
end
end L2
namespace L2
open PySem PySem.Spec PyProof.Rows
structure JE(X:Cx)(e:Expr)(t:TE):Prop where
 run:PE X e t
structure JT(X:Cx)(e:Expr)(t:TT):Prop where
 run:PT X e t
structure JW(X:Cx)(e:Expr)(t:TT):Prop where
 run:PW X e t
structure JA(X:Cx)(e:List Expr)(t:TA):Prop where
 run:PA X e t
structure JS(X:Cx)(e:Stmt)(t:TS):Prop where
 run:PS X e t
structure nR(X:Cx)(e:List Stmt)(t:TS):Prop where
 run:LY X e t
structure JG(X:Cx)(e:Expr)(t:TG):Prop where
 run:PG X e t
structure Ww(X:Cx)(e:List Expr)(t:QP):Prop where
 run:Vf X e t
structure JI(X:Cx)(tg e:Expr)(t:TI):Prop where
 run:PI X tg e t
structure JO(X:Cx)(e:Option Expr)(t:TO):Prop where
 run:PO X e t
structure OP(X:Cx)(e:List Expr)(t:TT):Prop where
 run:Ku X e t
structure Ez(X:Cx)(f:Value->Value->Sem Value)(r:R2):Prop where
 run:tW X f r
structure XH(X:Cx)(f:Value->Sem Value)(r:V->Hp->VK->Prop):Prop where
 run:Vj X f r
structure Br(X:Cx)(f:Value)(r:List V->Hp->VK->Prop):Prop where
 run:sT X f r
structure WM(X:Cx)(r:R2):Prop where
 run:S4 X r
structure WO(X:Cx)(r:V->Option Int->Option Int->Hp->VK->Prop):Prop where
 run:SF X r
structure Vd(X:Cx)(t:NQ):Prop where
 run:QZ X t
structure WN(X:Cx)(id:String)(r:V->List V->Hp->VK->Prop):Prop where
 run:XI X id r
section
variable{X:Cx}{rest:List Expr}{lo hi:Option Expr}{id T:String}{op:Operator}{st:Stmt}{srest:List Stmt}{hrest:List ExceptHandler}
theorem i4(i:Nat){x:Str}{pos:Pos}(hN:X.N[i]? =some x:=by rfl)(hv:WB X.env.scope x:=by first|exact Or.inl rfl|exact gG (Or.inl rfl)|exact gG (gG rfl))(hd:(x==("__debug__":Str))=false:=by decide)(hcd:(x==("__classdict__":Str))=false:=by decide):JE X (.Name x pos) (jd i):=⟨cv i hN hv hd hcd⟩
theorem mf{x:Str}{v:V}{pos:Pos}(h:Gv X.mg x v)(hg:Gl X x:=by rfl)(hd:(x==("__debug__":Str))=false:=by decide):JE X (.Name x pos) (tC v):=⟨Wd h hg hd⟩
theorem Df{x:Str}{T:String}{pos:Pos}(hm:X.mg x=none)(hv:bootBuiltins x=some (.type T))(hg:Gl X x:=by rfl)(hn:x≠"__name__":=by decide)(hd:(x==("__debug__":Str))=false:=by decide):JE X (.Name x pos) (tC (.ty T)):=⟨Wf hm hv hg hn hd⟩
theorem l9{j pos}:JE X (.Constant .none j pos) (tC .kG):=⟨Ur⟩
theorem vt{b j pos}:JE X (.Constant (.bool b) j pos) (tC (.bl b)):=⟨Wc⟩
theorem i9{i j pos}:JE X (.Constant (.int i) j pos) (tC (.int i)):=⟨Up⟩
theorem jb{x j pos}:JE X (.Constant (.str x) j pos) (tC (.str x)):=⟨Uu⟩
theorem je{op:Operator}{r:R2}(ho:Ez X (binaryOp op) r)(ha:JE X a ta)(hb:JE X b tb):JE X (.BinOp a op b pos) (lu r ta tb):=⟨We ho.run ha.run hb.run⟩
theorem Js{op:UnaryOp}{r:V->Hp->VK->Prop}(ho:XH X (unaryOp op) r)(ha:JE X a ta):JE X (.UnaryOp op a pos) (WI r ta):=⟨Wg ho.run ha.run⟩
theorem K7(ha:JE X a ta):JE X (.UnaryOp .Not a pos) (NK ta):=⟨Us ha.run⟩
theorem yd(ha:JE X a ta)(hb:JE X (.BoolOp .And (b::rest) pos) tb):JE X (.BoolOp .And (a::b::rest) pos) (DL ta tb):=⟨Uo ha.run hb.run⟩
theorem yh{op}{t:TE}(h:JE X a t):JE X (.BoolOp op [a] pos) t:=⟨Ut h.run⟩
theorem vN{op:CmpOp}{r:R2}(ho:Ez X (compareOp op) r)(ha:JE X a ta)(hb:JE X b tb)(hm:behindInMarks op b=false):JE X (.Compare a [op] [b] pos) (lu r ta tb):=⟨RX ho.run ha.run hb.run hm⟩
theorem Mi{op op':CmpOp}{r r':R2}(ho:Ez X (compareOp op) r)(ho':Ez X (compareOp op') r')(ha:JE X a ta)(hb:JE X b tb)(hc:JE X c tc)(hm:lastMarks [op,op'] [b,c]=false:=by with_unfolding_all rfl):JE X (.Compare a [op,op'] [b,c] pos) (MJ r r' ta tb tc):=⟨Qb ho.run ho'.run ha.run hb.run hc.run hm⟩
theorem mS(h:JA X es t):JE X (.List es pos) (zD t):=⟨Qf h.run⟩
theorem we{x1}(h:JA X es t):JE X (.Tuple es x1 pos) (LN t):=⟨Uv h.run⟩
theorem B7  :JE X (.Dict [] [] pos) G9:=⟨Qd⟩
theorem B8{r:V->Option Int->Option Int->Hp->VK->Prop}(hr:WO X r)(he:JE X e te)(hl:JO X lo tl)(hu:JO X hi th):JE X (.Subscript e (.Slice lo hi none p2) pos) (Va r te tl th):=⟨Qj hr.run he.run hl.run hu.run⟩
theorem Oa(ha:JA X es t)(hi:JE X e ti)(hs:Fg e):JE X (.Subscript (.List es p2) e pos) (lu OC (zD t) ti):=⟨R1 ha.run hi.run hs⟩
theorem jr(hu:X.A.units+1<cLine)(ho:JE X o td)(hi:JE X i ty)(hs:S6 i):JE X (.Subscript o i pos) (jZ td ty):=⟨Tg hu ho.run hi.run hs⟩
theorem jN{r:R2}(hr:WM X r)(ha:JE X a ta)(hb:JE X b tb)(hs:Fg b):JE X (.Subscript a b pos) (lu r ta tb):=⟨SR hr.run ha.run hb.run hs⟩
theorem i7(F:jO X.prog X.w X.K X.mg X.base (lV X.prog X.w) ca k f fd ps sp)(hr:pU ca k X.A)(hg:Gl X x)(hm:X.mg x=some (.ref f))(hk:bO X.K (.ref f)=true)(hb:Binds X.K fd ps [])(hx:Exc X E)(ha:JA X (e::es) t)(hdb:(x==("__debug__":Str))=false:=by decide)(h:(e::es).all notStar=true:=by rfl):JE X (.Call (.Name x p) (e::es) [] pos) (jm sp E t):=⟨Qa F hr hg hm hk hb hx ha.run hdb h⟩
theorem rY(M:Mk X.K C f)(F:jO X.prog X.w X.K X.mg X.base (lV X.prog X.w) ca k f fd ps sp)(hr:pU ca (k+1) X.A)(hg:Gl X x)(hm:X.mg x=some (.ref C))(hb:Binds X.K fd ps [])(hx:Exc X E)(ha:JA X (e::es) t)(hdb:(x==("__debug__":Str))=false:=by decide)(h:(e::es).all notStar=true:=by rfl):JE X (.Call (.Name x p) (e::es) [] pos) (rZ C sp E t):=⟨Qh M F hr hg hm hb hx ha.run hdb h⟩
theorem As(M:Mk X.K C f)(F:jO X.prog X.w X.K X.mg X.base (lV X.prog X.w) ca k f fd ps sp)(hr:pU ca (k+1) X.A)(hg:Gl X x)(hm:X.mg x=some (.ref C))(hb:Binds X.K fd ps [])(hx:Exc X E)(hdb:(x==("__debug__":Str))=false:=by decide):JE X (.Call (.Name x p) [] [] pos) (rZ C sp E jv):=⟨Ov M F hr hg hm hb hx hdb⟩
theorem jz(hc:Br X (.builtin id) r)(hg:Gl X x)(hm:X.mg x=none)(hv:bootBuiltins x=some (.builtin id))(ha:JA X (e::es) t)(hn:x≠"__name__":=by decide)(hdb:(x==("__debug__":Str))=false:=by decide)(h:(e::es).all notStar=true:=by rfl):JE X (.Call (.Name x p) (e::es) [] pos) (A6 r t):=⟨Ot hc.run hg hm hv ha.run hn hdb h⟩
theorem yS(hc:Br X (.type T) r)(hg:Gl X x)(hm:X.mg x=none)(hv:bootBuiltins x=some (.type T))(ha:JA X (e::es) t)(hn:x≠"__name__":=by decide)(hdb:(x==("__debug__":Str))=false:=by decide)(h:(e::es).all notStar=true:=by rfl):JE X (.Call (.Name x p) (e::es) [] pos) (A6 r t):=⟨Mu hc.run hg hm hv ha.run hn hdb h⟩
theorem jL{pl:Sem Bool}(he:JE X o ta)(c:Hc X.K C)(hm:Meth X.K C m f)(F:jO X.prog X.w X.K X.mg X.base (lV X.prog X.w) ca k f fd ps sp)(hr:pU ca k X.A)(hb:Binds X.K fd ps [])(hx:Exc X E)(ha:JA X (e::es) t)(hns:(e::es).all notStar=true:=by rfl)(ht:eval (.Call (.Attribute o m apos) (e::es) [] pos) X.env=(do
   let ov←eval o X.env
   standAt apos.atName
   let (f,first)←holding [ov] (getMethod ov m pl)
   callWith pos f first (backTo pos (starEach (e::es) X.env)) (backToKw pos (keywordEach [] X.env))):=by rfl):JE X (.Call (.Attribute o m apos) (e::es) [] pos) (yI C m sp E ta t):=⟨Tr he.run c hm F hr hb hx ha.run hns ht⟩
theorem lJ{pl:Sem Bool}(he:JE X o ta)(c:Hc X.K C)(hm:Meth X.K C m f)(F:jO X.prog X.w X.K X.mg X.base (lV X.prog X.w) ca k f fd ps sp)(hr:pU ca k X.A)(hb:Binds X.K fd ps [])(hx:Exc X E)(ht:eval (.Call (.Attribute o m apos) [] [] pos) X.env=(do
   let ov←eval o X.env
   standAt apos.atName
   let (f,first)←holding [ov] (getMethod ov m pl)
   callWith pos f first (backTo pos (starEach [] X.env)) (backToKw pos (keywordEach [] X.env))):=by rfl):JE X (.Call (.Attribute o m apos) [] [] pos) (yI C m sp E ta jv):=⟨Rn he.run c hm F hr hb hx ht⟩
theorem xq{id:String}{name:Str}(slot:Slot "list" name id)(hty:typeOf (.builtin id)=pure (.type "method_descriptor"))(hm:WN X id r)(ho:JE X o to)(ha:JA X (e::es) t)(hns:(e::es).all notStar=true:=by rfl)(hbase:attributeBase o name X.env (eval o X.env)=eval o X.env:=by rfl)(hfew:((backTo cpos (starEach (e::es) X.env)).all (λx=> !x.1)&&(backToKw cpos (keywordEach [] X.env)).all (λx=>x.1.isSome)
   &&decide ((e::es).length+([]:List Keyword).length+(if ([]:List Keyword).isEmpty then 0 else 1)<30))=true:=by rfl) (hline:(apos.endLine==cpos.line)=true:=by rfl):JE X (.Call (.Attribute o name apos) (e::es) [] cpos) (NS r to t):=⟨WV slot hty hm.run ho.run ha.run hns hbase hfew hline⟩
theorem jg(he:JE X e ta)(hb:attributeBase e f X.env (eval e X.env)=eval e X.env):JE X (.Attribute e f pos) (KC X.K ta f):=⟨SH he.run hb⟩
theorem K4{K:aC}{e:Expr}{f:Str}{pos:Pos}{ta:TE}(hK:X.K=K)(he:JE X e ta)(hb:attributeBase e f X.env (eval e X.env)=eval e X.env):JE X (.Attribute e f pos) (KC K ta f):=⟨To hK he.run hb⟩
theorem Ob  :JO X none Km:=⟨R9⟩
theorem Ar(h:JE X e te):JO X (some e) (Ii te):=⟨Ts h.run⟩
theorem iZ  :JA X [] jv:=⟨Um⟩
theorem iY(ha:JE X e te)(hr:JA X es t)(h:notStar e=true:=by rfl):JA X (e::es) (jc te t):=⟨Xn ha.run hr.run h⟩
theorem kI(ha:JT X a tA):JT X (.UnaryOp .Not a pos) (sR tA):=⟨UG ha.run⟩
theorem oV{X:Cx}{e:Expr}{t:TT}(h:JW X e t):JT X e t:=⟨PW.pt h.run⟩
theorem jj{op:CmpOp}{r:R2}(ho:Ez X (compareOp op) r)(ha:JE X a ta)(hb:JE X b tb)(hm:behindInMarks op b=false):JT X (.Compare a [op] [b] pos) (jY (lu r ta tb)):=⟨Sg ho.run ha.run hb.run hm⟩
theorem jM(ha:JE X a ta)(he:∀whole,isTrue a X.env whole=(do let v←whole;standAt a.pos;holding [v] (truthy v))):JT X a (λσ H Q=>ta σ H λx H'=>∃k,pT X.K x H' k/\Q k H'):=⟨Qs ha.run he⟩
theorem um(ha:JT X a tA):JW X (.BoolOp .And [a] pos) tA:=⟨Sh ha.run⟩
theorem uU(ha:JT X a tA):JW X (.BoolOp .Or [a] pos) tA:=⟨UI ha.run⟩
theorem qm(ha:JT X a tA)(hb:JW X (.BoolOp .And (b::rest) pos) tB'):JW X (.BoolOp .And (a::b::rest) pos) (A5 tA tB'):=⟨UH ha.run hb.run⟩
theorem uE(ha:JT X a tA)(hb:JW X (.BoolOp .Or (b::rest) pos) tB'):JW X (.BoolOp .Or (a::b::rest) pos) (NL tA tB'):=⟨Wk ha.run hb.run⟩
theorem jx  :nR X [] j5:=⟨Se⟩
theorem i6(h1:JS X st t):nR X [st] t:=⟨Sf h1.run⟩
theorem i3(h1:JS X st t)(h2:nR X srest u):nR X (st::srest) (kN t u):=⟨Qr h1.run h2.run⟩
theorem jR{i:Nat}{x:Str}(hN:X.N.Nodup)(hi:X.N[i]? =some x)(hx:Loc X.env.scope x)(hf:X.fn x=true∨X.env.scope.names.lookup x=some .local:=by first|exact .inl rfl|exact .inr rfl|assumption):JG X (.Name x pos) (jG i):=⟨Fz hN hi hx hf⟩
theorem jh(he:JE X e te):JS X (.Return (some e) pos) (kM te):=⟨UD he.run⟩
theorem Od  :JS X (.Return none pos) NM:=⟨Sd⟩
theorem ji(he:JE X e te)(hs:swapsWith e none pos.line X.env=pure false:=by rfl):JS X (.Expr e pos) (kc te):=⟨Sb he.run hs⟩
theorem jH{c:Expr}{a b:List Stmt}{tc:TT}(hc:JT X c tc)(ha:nR X a t)(hb:nR X b u):JS X (.If c a b pos) (kZ tc t u):=⟨Wj hc.run ha.run hb.run⟩
theorem jA{i:Nat}{x:Str}{e:Expr}{te:TE}{pos':Pos}(hN:X.N.Nodup)(hi:X.N[i]? =some x)(hx:Loc X.env.scope x)(he:JE X e te)(hs:swapsWith e (some (.Name x pos')) pos.line X.env=pure false:=by rfl)(hf:X.fn x=true∨X.env.scope.names.lookup x=some .local:=by first|exact .inl rfl|exact .inr rfl|assumption):JS X (.Assign [.Name x pos'] e pos) (kB te (jG i)):=⟨UE hN hi hx he.run hs hf⟩
theorem kH(ha:JE X o ta)(hv:JE X value tv)(hs:swapsWith value (some (.Attribute o f pos')) pos.line X.env=pure false):JS X (.Assign [.Attribute o f pos'] value pos) (r_ X.K ta tv f):=⟨Tt ha.run hv.run hs⟩
theorem K3(hu:X.A.units+1<cLine)(ho:JE X o td)(hi:JE X i ty)(hv:JE X value tv)(hs:swapsWith value (some (.Subscript o i pos')) pos.line X.env=pure false):JS X (.Assign [.Subscript o i pos'] value pos) (KA td ty tv):=⟨Tj hu ho.run hi.run hv.run hs⟩
theorem rG{tg e:Expr}{te:TE}{g:TG}(he:JE X e te)(hg:JG X tg g)(hs:swapsWithSole [tg] e pos.line X.env=pure false:=by rfl)(hw:swappedStores [tg] e X.env=pure none:=by rfl)(h1:(assignEach [tg] X.env).map (·.2)=[assign tg X.env]:=by rfl):JS X (.Assign [tg] e pos) (kB te g):=⟨UB he.run hg.run hs hw h1⟩
theorem rF{o i:Expr}{to ti:TE}{t:NQ}(ho:JE X o to)(hi:JE X i ti)(hs:Vd X t)(ha:∀v,assign (.Subscript o i pos) X.env v=(do
   let ov←holding [v] (eval o X.env)
   let iv←holding [v,ov] (eval i X.env)
   standAt pos
   holding [v,ov,iv] (setItem ov iv v)
   release [v,ov,iv] []):=by intro _;rfl):JG X (.Subscript o i pos) (E8 to ti t):=⟨Ux ho.run hi.run hs.run ha⟩
theorem jX(hx:Exc X E)(hg:Gl X x)(hm:X.mg x=some (.ref C))(hq:DT X.K C)(hc:X.calm=true)(ha:JA X (e::es) t)(h:(e::es).all notStar=true:=by rfl)(hdb:(x==("__debug__":Str))=false:=by decide):JS X (.Raise (some (.Call (.Name x np) (e::es) [] cpos)) none pos) (lH C E t):=⟨OA hx hg hm hq hc ha.run h hdb⟩
theorem mI{a:Expr}{ta:TA}{p pos:Pos}(hg:Gl X "range")(hm:X.mg "range"=none)(ha:JA X [a] ta)(hs:starEach [a] X.env=[(false,eval a X.env)]:=by rfl):JI X tg (.Call (.Name "range" p) [a] [] pos) (Ao ta):=⟨Ox hg hm ha.run hs⟩
theorem K8{a b:Expr}{ta:TA}{p pos:Pos}(hg:Gl X "range")(hm:X.mg "range"=none)(ha:JA X [a,b] ta)(hs:starEach [a,b] X.env=[(false,eval a X.env),(false,eval b X.env)]:=by rfl)(hs2:starEach [b] X.env=[(false,eval b X.env)]:=by rfl):JI X tg (.Call (.Name "range" p) [a,b] [] pos) (Py ta):=⟨Oy hg hm ha.run hs hs2⟩
theorem vO  :Ww X [] Md:=⟨Nw⟩
theorem lS{e:Expr}{es:List Expr}{t:TG}{u:QP}(h1:JG X e t)(h2:Ww X es u)(hs:(assignEach (e::es) X.env).map (·.2)=assign e X.env::(assignEach es X.env).map (·.2):=by rfl):Ww X (e::es) (Aj t u):=⟨GJ h1.run h2.run hs⟩
theorem lj{l:Expr}{tl:TE}(hl:JE X l tl):JI X tg l (tU X.K tl):=⟨R8 hl.run⟩
theorem Iu{elts:List Expr}{k:Nat}{tpos:Pos}{a:Expr}{ta:TA}{p pos:Pos}(hg:Gl X "enumerate")(hm:X.mg "enumerate"=none)(ha:JA X [a] ta)(hs:starEach [a] X.env=[(false,eval a X.env)]:=by rfl):JI X (.Tuple elts k tpos) (.Call (.Name "enumerate" p) [a] [] pos) (Nf X.K ta):=⟨R7 hg hm ha.run hs⟩
theorem kT{iter:Expr}{body:List Stmt}{wi:TI}{g:TG}{tb:TS}{pos:Pos}(hp:PassesOwn (model X.prog X.w) X.A X.env X.xe)(hc:X.calm=true)(hi:JI X tg iter wi)(hg:JG X tg g)(hb:nR X body tb)(hs:∀x,foldedSetIterable iter X.env x=pure x:=by intro _;rfl):JS X (.For tg iter body [] pos) (UR wi g tb):=⟨UC hp hc hi.run hg.run hb.run hs⟩
theorem yf{x:Str}{elt iter:Expr}{px pos:Pos}{ifs:List Expr}{wi:TI}{tt:TT}{te:TE}(S:u7 fsc scope [x] N2)(hf:X.env.scope=fsc)(hjs:js.map (λj=>X.N[j]?)=N2.map some)(hc:X.calm=true)(hi:JI X (.Name x px) iter wi)(ht:∀s H C ex,OP (X.DW scope (x::N2) [x] s H C ex) ifs tt)(he:∀s H C ex,JE (X.DW scope (x::N2) [x] s H C ex) elt te)(hs:∀v,foldedSetIterable iter X.env v=pure v:=by intro _;rfl):JE X (.ListComp elt [⟨.Name x px,iter,ifs,0⟩] scope pos) (yu js wi tt te):=⟨RY S hf hjs hc hi.run (λs H C ex=>(ht s H C ex).run) (λs H C ex=>(he s H C ex).run) hs⟩
theorem Mj{x1 x2:Str}{elt iter:Expr}{p1 p2 pt pos:Pos}{k:Nat}{ifs:List Expr}{wi:TI}{tt:TT}{te:TE}(S:u7 fsc scope [x1,x2] N2)(hf:X.env.scope=fsc)(hjs:js.map (λj=>X.N[j]?)=N2.map some)(hc:X.calm=true)(hi:JI X (.Tuple [.Name x1 p1,.Name x2 p2] k pt) iter wi)(ht:∀s H C ex,OP (X.DW scope (x1::x2::N2) [x1,x2] s H C ex) ifs tt)(he:∀s H C ex,JE (X.DW scope (x1::x2::N2) [x1,x2] s H C ex) elt te)(hs:∀v,foldedSetIterable iter X.env v=pure v:=by intro _;rfl):JE X (.ListComp elt [⟨.Tuple [.Name x1 p1,.Name x2 p2] k pt,iter,ifs,0⟩] scope pos) (MK X.K js wi tt te):=⟨Qc S hf hjs hc hi.run (λs H C ex=>(ht s H C ex).run) (λs H C ex=>(he s H C ex).run) hs⟩
theorem tu{x:Str}{elt iter:Expr}{px py pos spos:Pos}{ifs:List Expr}{wi:TI}{tt:TT}{te:TE}{i:Nat}{y:Str}(hN:X.N.Nodup)(hy:X.N[i]? =some y)(hl:Loc X.env.scope y)(S:u7 fsc scope [x] N2)(hf:X.env.scope=fsc)(hjs:js.map (λj=>X.N[j]?)=N2.map some)(hc:X.calm=true)(hi:JI X (.Name x px) iter wi)(ht:∀s H C ex,OP (X.DW scope (x::N2) [x] s H C ex) ifs tt)(he:∀s H C ex,JE (X.DW scope (x::N2) [x] s H C ex) elt te)(hs:∀v,foldedSetIterable iter X.env v=pure v:=by intro _;rfl)(hsw:swapsWith (.ListComp elt [⟨.Name x px,iter,ifs,0⟩] scope pos) (some (.Name y py)) spos.line X.env=pure true:=by rfl)(hfn:X.fn y=true∨X.env.scope.names.lookup y=some .local:=by first|exact .inl rfl|exact .inr rfl|assumption):JS X (.Assign [.Name y py] (.ListComp elt [⟨.Name x px,iter,ifs,0⟩] scope pos) spos) (kB (yu js wi tt te) (jG i)):=⟨Mw hN hy hl S hf hjs hc hi.run (λs H C ex=>(ht s H C ex).run) (λs H C ex=>(he s H C ex).run) hs hsw hfn⟩
theorem yi{es:List Expr}{k:Nat}{t:QP}{n:Nat}(hc:X.calm=true)(h:Ww X es t)(hn:(assignEach es X.env).length=n:=by rfl)(hst:(assignEach es X.env).findIdx? (·.1)=none:=by rfl):JG X (.Tuple es k pos) (Pr X.K n t):=⟨Ql hc h.run hn hst⟩
theorem B9{X:Cx}:OP X [] Sx:=⟨Qm⟩
theorem qk{X:Cx}{c:Expr}{tt:TT}(h:JT X c tt):OP X [c] tt:=⟨Qn h.run⟩
theorem j4  :Ez X (binaryOp .Add) qx:=⟨Vq⟩
theorem uD  :Ez X (binaryOp .Sub) E6:=⟨VJ⟩
theorem Bf  :Ez X (binaryOp .Mult) KG:=⟨VA⟩
theorem qj  :Ez X (binaryOp .FloorDiv) wG:=⟨Tn⟩
theorem mW  :Ez X (binaryOp .Mod) xU:=⟨Vz⟩
theorem Nj  :Ez X (binaryOp .Pow) Rj:=⟨VF⟩
theorem xr  :Ez X (compareOp .Lt) LS:=⟨W0⟩
theorem Jo  :Ez X (compareOp .LtE) Vp:=⟨WZ⟩
theorem PJ  :Ez X (compareOp .Gt) U0:=⟨WW⟩
theorem mz  :Ez X (compareOp .Eq) zK:=⟨Vs⟩
theorem Gh  :Ez X (compareOp .NotEq) Rh:=⟨VB⟩
theorem Gg  :Ez X (compareOp .Is) QS:=⟨WX⟩
theorem yc  :Ez X (compareOp .IsNot) sV:=⟨Rm⟩
theorem Jr  :XH X (unaryOp .USub) O2:=⟨VE⟩
theorem De  :Ez X (binaryOp .Mult) KI:=⟨VG⟩
theorem j7  :WM X zL:=⟨WY⟩
theorem RF  :WM X (Rg X.K):=⟨Vx⟩
theorem kX  :Br X (.builtin "len") xk:=⟨Vy⟩
theorem PK  :Br X (.builtin "len") (MX X.K):=⟨Tp⟩
theorem wc{X:Cx}:Br X (.builtin "isinstance") (OB X.K):=⟨O9⟩
theorem RE  :Br X (.type "int") cInt:=⟨Vw⟩
theorem PL  :WO X U1:=⟨W2⟩
theorem RG  :WO X (Rk X.K):=⟨VI⟩
theorem uC  :Vd X xV:=⟨VH⟩
theorem oW  :WN X "list.append" qy:=⟨O3⟩
theorem K5  :Br X (.type "list") KD:=⟨Tq⟩
theorem RC(hu:X.A.units+8<cLine):Ez X (compareOp .Eq) Rb:=⟨Vt hu⟩
theorem Jp(hu:X.A.units+8<cLine):Ez X (compareOp .NotEq) KH:=⟨O7 hu⟩
theorem B_{c:Expr}{body:List Stmt}{tc:TT}{tb:TS}(hp:PassesOwn (model X.prog X.w) X.A X.env X.xe)(hc:JT X c tc)(hb:nR X body tb):JS X (.While c body [] pos) (QG tc tb):=⟨Qq hp hc.run hb.run⟩
theorem RH(hc:X.calm=true):Br X (.builtin "sum") Rl:=⟨VL hc⟩
theorem RB  :Ez X (binaryOp .Add) Ra:=⟨Vr⟩
theorem Ml(hc:X.calm=true)(hgl:Gl X "list")(hml:X.mg "list"=none)(hgr:Gl X "range")(hmr:X.mg "range"=none)(ha:JA X [a,b] ta)(hs:starEach [a,b] X.env=[(false,eval a X.env),(false,eval b X.env)]:=by rfl)(hs2:starEach [b] X.env=[(false,eval b X.env)]:=by rfl):JE X (.Call (.Name "list" p) [.Call (.Name "range" p2) [a,b] [] pos2] [] pos) (FV ta):=⟨Qe hc hgl hml hgr hmr ha.run hs hs2⟩
theorem RD(hu:X.A.units+1<cLine):Ez X (compareOp .In) O0:=⟨Vv hu⟩
theorem PH(ho:JE X o td)(he:JE X e ty)(m:M1 X o "pop" apos e cpos):JE X (.Call (.Attribute o "pop" apos) [e] [] cpos) (MW td ty):=⟨Ti ho.run he.run m⟩
theorem Mh  :WN X "list.extend" Fh:=⟨O5⟩
theorem EL(hc:X.calm=true):Br X (.builtin "sorted") z6:=⟨NV hc⟩
theorem PF  :Ez X (binaryOp .Add) OZ:=⟨Tf⟩
end
section
variable{X:Cx}{scope:Scope}{N2:List Str}{x:List Str}{s:Shared}{Hb:Hp}{C:Addr}{ex:List Addr}
theorem PN{a:Expr}{ta:TE}(ha:JE (X.DW scope N2 x s Hb C ex) a ta)(he:∀whole,isTrue a (X.DW scope N2 x s Hb C ex).env whole=(do let v←whole;standAt a.pos;holding [v] (truthy v))):JT (X.DW scope N2 x s Hb C ex) a (λσ H Q=>ta σ H λx H'=>∃k,pT X.K x H' k/\Q k H'):=jM ha he
end
end L2
namespace L2
open PySem PySem.Spec PyProof.Rows
variable{X:Cx}
end L2
namespace L2
open PySem PySem.Spec PyProof.Rows
section
variable{X:Cx}{pins:List (Addr×Obj)}{σ:St}{H:Hp}{s:Shared}{h':Heap}
theorem Inv.NN{t':Nat}{ch:List Addr}(I:Inv X pins σ H s)(k:∀b o,b∉ch->s.heap.get? b=some o->h'.get? b=some o)(f:∀b∈ch,Cv X pins H b):Inv X pins σ H {s with heap:=h',toks:=t'}:=by
 have nit:∀b u,H b=some u->b∉ch:=λb u e z=>by rw[(f b z).1]at e;cases e
 refine I.step (g':=s.gens) (d':=s.drawn) (ch:=ch) (λb hb=> ?_) (λb o _ _ hc e _=>k b o hc e) (λb o _ _ hc e _=>⟨o.slots,k b o hc e⟩) (λ_ _ _ _ n=>n)
  (λb o hc e=>⟨o,k b o hc e⟩) (λ_ _ e=>e) (λ_ _ _ e=>e) (λb ps e=>⟨#[],by rw[e];simp⟩) (λm hm=> ?_) (λb u e=> ?_) I.bare
 ·obtain⟨hn,hL,_,h1,h2,h3⟩:=f b hb
  exact⟨h1,hL,h2,h3⟩
 ·obtain⟨o,es,ep,ho,r⟩:=hm
  exact⟨o,es,ep,k _ o (λz=>(f _ z).2.1 rfl) ho,r⟩
 ·refine(I.lB b u e).A4 (λc v hc q=>k c v ?_ q) (λ_ q=>q) λ_ _ q=>q
  rcases hc with z|z
  ·rw[z];exact nit b u e
  ·exact nit c _ z
end
noncomputable def Vc (K:aC) (a b:Addr):It:=
 ⟨λi H=>∃xs x ys y,lT K H a xs/\xs[i]? =some x/\lT K H b ys/\ys[i]? =some y,λi H x H'=>∃p u v,H p=none/\x= .ref p/\H'=upd H p (.tup [u,v])/\(∀xs,lT K H a xs->xs[i]? =some u)/\∀ys,lT K H b ys->ys[i]? =some v,
  λi H=>∃xs ys,lT K H a xs/\lT K H b ys/\(xs.length<=i∨ys.length<=i)⟩
theorem QI{P:Program}{w:World}{K:aC}{elts:List Expr}{k:Nat}{pos:Pos}(a b z TI TO i1 i2:Addr)(D:ZipApart z TI TO i1 i2 a b):
  Turn P w K (.Tuple elts k pos) (Vc K a b) [z,TI,TO,i1,i2] z (λi h=>IsZip h z TI TO .none/\IsPair h TI (.ref i1) (.ref i2)/\(∃c d,IsPair h TO c d)/\h.IsListIter i1 a i/\h.IsListIter i2 b i) where
 mem:=by simp
 obj:=λi h st c hc=>by
  obtain⟨hz,hTI,⟨_,_,hTO⟩,l1,l2⟩:=st
  simp only[bI,bz,or_false]at hc
  rcases hc with rfl|rfl|rfl|rfl|rfl
  ·exact⟨_,hz,λv z=>by cases z⟩
  ·exact⟨_,hTI,λv z=>by cases z⟩
  ·exact⟨_,hTO,λv z=>by cases z⟩
  ·obtain⟨o,e,c,d⟩:=l1;exact⟨o,e,λv z=>by rw[d]at z;cases z⟩
  ·obtain⟨o,e,c,d⟩:=l2;exact⟨o,e,λv z=>by rw[d]at z;cases z⟩
 keep:=λi h h' st k=>by
  obtain⟨hz,hTI,⟨c,d,hTO⟩,l1,l2⟩:=st
  exact⟨k z (by simp) _ hz,k TI (by simp) _ hTI,⟨c,d,k TO (by simp) _ hTO⟩,l1.at λo e=>k i1 (by simp) o e,l2.at λo e=>k i2 (by simp) o e⟩
 item:=by
  intro X hP hw hK hc i pins s σ H E I hf st hg
  subst hP hw hK
  obtain⟨xs,x,ys,y,hq,hx,hq2,hy⟩:=hg
  obtain⟨its,rv,p,hzl⟩:=I.list hq
  obtain⟨u,hu,ru⟩:=rv.get hx
  obtain⟨its2,rv2,p2,hzl2⟩:=I.list hq2
  obtain⟨v,hv,rv'⟩:=rv2.get hy
  obtain⟨hz,hTI,⟨c0,d0,hTO⟩,l1,l2⟩:=st
  refine wpAny_pyNext_zip_item D hz hTI hTO l1 l2 p.isList p2.isList (x:=u) (y:=v) (by simpa using hu) (by simpa using hv) λh' z1 to1 l1' l2' tup sz kp=> ?_
  refine⟨_,rfl,wpAny_letOwnedTupleGo_zip z1 λh2 z2 sb2=> ?_⟩
  have hT:∀b o,s.heap.get? b=some o->s.heap.objs.size≠b:=λb o eb=>du (aV eb)
  have nT:∀b∈ [z,TI,TO,i1,i2],b≠s.heap.objs.size:=λb hb=>by
   simp only[bI,bz,or_false]at hb
   rcases hb with rfl|rfl|rfl|rfl|rfl
   ·exact aE (hT _ _ hz)
   ·exact aE (hT _ _ hTI)
   ·exact aE (hT _ _ hTO)
   ·obtain⟨o,e,_⟩:=l1;exact aE (hT _ _ e)
   ·obtain⟨o,e,_⟩:=l2;exact aE (hT _ _ e)
  have I1:Inv X pins σ H {s with heap:=h2,toks:=s.toks}:=I.NN (ch:=[z,TI,TO,i1,i2]) (λb o nb eb=>(sb2.2 b (λq=>nb (by rw[q];simp))).trans (kp b o (λq=>nb (by rw[q];simp)) (λq=>nb (by rw[q];simp)) (λq=>nb (by rw[q];simp)) (λq=>nb (by rw[q];simp)) eb)) hf
  have hf0:H s.heap.objs.size=none:=I.lB.fresh (aN _)
  have tup2:h2.get? s.heap.objs.size=some {cls:=dC "tuple",data:=iB #[u,v]}:=(sb2.2 _ (aE (nT z (by simp)))).trans tup
  have h0:X.s₀.heap.get? s.heap.objs.size=none:=by
   cases e:X.s₀.heap.get? s.heap.objs.size with
   |none=>rfl
   |some o=>exact absurd (aR (aV e) I.sz) (b_ _)
  have I2:=I1.adopt (a:=s.heap.objs.size) (o:= .tup [x,y]) hf0 ⟨show 2<=sizeLine by decide,[u,v],.cons ru (.cons rv' .nil),⟨_,tup2,rfl,_,rfl⟩⟩ h0 (du I.lt) (λq c ec zq=>by
    obtain⟨v',o,eo,_⟩:=I.cell q c ec
    exact hT c o eo zq.symm) λp hp zq=>hT p.1 p.2 (I.pin p hp).1 zq.symm
  refine⟨.ref s.heap.objs.size,_,I2,rfl,⟨_,x,y,hf0,rfl,rfl,λzs hzs=>by rw[I.Di hzs hq];exact hx,λzs hzs=>by rw[I.Di hzs hq2];exact hy⟩,⟨z2,(sb2.2 TI D.TIz).trans (kp TI _ D.TIz D.TITO D.TIi1 D.TIi2 hTI),⟨u,v,(sb2.2 TO D.TOz).trans to1⟩,l1'.at λo eo=>(sb2.2 i1 D.i1z).trans eo,l2'.at λo eo=>(sb2.2 i2 D.i2z).trans eo⟩,λb hb=> ?_⟩
  rw[i_ (nT b hb)]
  exact(hf b hb).1
 done:=by
  intro X hP hw hK hc i pins s σ H E I hf st hg
  subst hP hw hK
  obtain⟨xs,ys,hq,hq2,hx⟩:=hg
  obtain⟨its,rv,p,hzl⟩:=I.list hq
  obtain⟨its2,rv2,p2,hzl2⟩:=I.list hq2
  obtain⟨hz,hTI,⟨c0,d0,hTO⟩,l1,l2⟩:=st
  have e1:=rv.length
  have e2:=rv2.length
  refine wpAny_pyNext_zip_end (I.ok.hd hc) D hz hTI hTO l1 l2 p.isList p2.isList (by
   rcases hx with hx|hx
   ·left;simp;lia
   ·right;simp;lia) λh' kp=>⟨rfl,?_⟩
  exact I.NN (t':=s.toks) (ch:=[z,TI,TO,i1,i2]) (λb o nb eb=>kp b o (λq=>nb (by rw[q];simp)) (λq=>nb (by rw[q];simp)) (λq=>nb (by rw[q];simp)) (λq=>nb (by rw[q];simp)) eb) hf
 self:=λ_ _ _ _ _ st h=>wpAny_pyIter_zip st.1 h
noncomputable def Rw (K:aC) (ta:TA):TI:=λσ H R=>ta σ H λvs H1=>match vs with
 | [.ref a,.ref b]=>(∃xs,lT K H1 a xs)/\(∃xs,lT K H1 b xs)/\R (Vc K a b) H1
 |_=>False
section
variable{X:Cx}
theorem Uz{elts:List Expr}{k:Nat}{tpos:Pos}{a b:Expr}{ta:TA}{p pos:Pos}(hg:Gl X "zip")(hm:X.mg "zip"=none)(ha:PA X [a,b] ta)(hs:starEach [a,b] X.env=(false,eval a X.env)::starEach [b] X.env:=by rfl)(hs2:(backTo pos (starEach [b] X.env)).any (·.1)=false:=by rfl):
  PI X (.Tuple elts k tpos) (.Call (.Name "zip" p) [a,b] [] pos) (Rw X.K ta):=by
 intro pins s σ H R I h
 refine Call_ (yV I hg hm PyProof.Rows.Boot.«zip» (cq (pL (ha pos pins s σ H _ I h) λus s1 ⟨vs,H1,I1,r1,q1⟩=> ?_) hs hs2))
 try dsimp only at q1
 split at q1
 case h_2=>exact q1.elim
 rename_i l1 l2
 obtain⟨⟨xs,hq⟩,⟨ys,hq2⟩,q⟩:=q1
 cases r1 with
 |cons r rr=>
  cases rr with
  |cons r' rr'=>
   cases rr'
   cases r
   cases r'
   obtain⟨its,rv,pl,hz⟩:=I1.list hq
   obtain⟨its2,rv2,pl2,hz2⟩:=I1.list hq2
   refine call_zip_2 pl.isList pl2.isList λh' z1 ti to li1 li2 sz kp=> ?_
   have I2:Inv X pins σ H1 {s1 with heap:=h'}:=I1.kept (t':=s1.toks) kp
   refine wpAny_pyIter_zip z1 ?_
   have n1:l1<s1.heap.objs.size:=by obtain⟨o,e,_⟩:=pl.isList;exact aV e
   have n2:l2<s1.heap.objs.size:=by obtain⟨o,e,_⟩:=pl2.isList;exact aV e
   have D:∀n:Nat,l1<n->l2<n->ZipApart (n+4) (n+2) (n+3) n (n+1) l1 l2:=λn h1 h2=>
    ⟨bh (by lia),bh (by lia),bh (by lia),bh (by lia),bh (by lia),du (by lia),du (by lia),du (by lia),du (by lia),bh (by lia),
     bh (aR h1 (cg n 4)),bh (aR h1 (cg n 3)),bh (aR h1 (cg n 0)),bh (aR h1 (cg n 1)),bh (aR h2 (cg n 4)),bh (aR h2 (cg n 3)),bh (aR h2 (cg n 0)),bh (aR h2 (cg n 1))⟩
   refine⟨s1.heap.objs.size+4,[s1.heap.objs.size+4,s1.heap.objs.size+2,s1.heap.objs.size+3,s1.heap.objs.size,s1.heap.objs.size+1],_,_,H1,rfl,I2,QI l1 l2 (s1.heap.objs.size+4) (s1.heap.objs.size+2) (s1.heap.objs.size+3) s1.heap.objs.size (s1.heap.objs.size+1) (D _ n1 n2),⟨z1,ti,⟨_,_,to⟩,li1,li2⟩,λb hb=> ?_,q⟩
   have hb':s1.heap.objs.size<=b:=by
    simp only[bI,bz,or_false]at hb
    rcases hb with rfl|rfl|rfl|rfl|rfl
    ·exact cg _ _
    ·exact cg _ _
    ·exact cg _ _
    ·exact aN _
    ·exact cg _ _
   exact I1.N4 hb' (I1.lB.fresh hb')
end
theorem K9{X:Cx}{elts:List Expr}{k:Nat}{tpos:Pos}{a b:Expr}{ta:TA}{p pos:Pos}(hg:Gl X "zip")(hm:X.mg "zip"=none)(ha:JA X [a,b] ta)(hs:starEach [a,b] X.env=(false,eval a X.env)::starEach [b] X.env:=by rfl)(hs2:(backTo pos (starEach [b] X.env)).any (·.1)=false:=by rfl):JI X (.Tuple elts k tpos) (.Call (.Name "zip" p) [a,b] [] pos) (Rw X.K ta):=⟨Uz hg hm ha.run hs hs2⟩
theorem lA.zip{K:aC}{a b:Addr}{xs ys:List V}{g:TG}{tb:TS}{D:Ends}{σ:St}{H:Hp}(Pv:Nat->St->Hp->Prop)(hlen:xs.length=ys.length)(h0:Pv 0 σ H)(hl:∀i σ H,i<=xs.length->Pv i σ H->lT K H a xs/\lT K H b ys)
  (hs:∀i x y σ H p,xs[i]? =some x->ys[i]? =some y->Pv i σ H->H p=none->g (.ref p) σ (upd H p (.tup [x,y])) λσ2 H2=>tb {D with nx:=Pv (i+1),ct:=Pv (i+1),bk:=D.nx} σ2 H2) (hd:∀σ H,Pv xs.length σ H->D.nx σ H):lA (Vc K a b) g tb D σ H:=by
 refine⟨λi m σ H=>Pv i σ H/\i<=xs.length/\m=xs.length-i,⟨_,h0,b7 _,rfl⟩,λi m σ H ⟨hP,hi,hm⟩=> ?_⟩
 obtain⟨sa,sb⟩:=hl i σ H hi hP
 by_cases z:i<xs.length
 ·have ex:xs[i]? =some xs[i]:=af z
  have ey:ys[i]? =some (ys[i]'(by omega)):=af (by omega)
  refine .inr ⟨⟨xs,_,ys,_,sa,ex,sb,ey⟩,Pv (i+1),λσ' H' hN=>⟨xs.length-(i+1),by lia,hN,z,rfl⟩,?_⟩
  rintro x H' ⟨p,u,v,hp,rfl,rfl,hu,hv⟩
  exact hs i u v σ H p (hu xs sa) (hv ys sb) hP hp
 ·have e:i=xs.length:=by lia
  subst e
  exact .inl ⟨⟨xs,ys,sa,sb,.inl (aN _)⟩,hd σ H hP⟩
end L2
namespace L2
open PySem PySem.Spec PyProof.Rows
section
variable{X:Cx}{pins:List (Addr×Obj)}{σ:St}{H:Hp}{s:Shared}{d:Addr}{kvs:List (Key×V)}
end
section
variable{X:Cx}
end
end L2
namespace L2
open PySem PySem.Spec PyProof.Rows
section
variable{X:Cx}
structure Wy(X:Cx)(pos:Pos)(keys:List (Option Expr))(values:List Expr)(trs:List (TE×TE)):Prop where
 run:Vg X pos keys values trs
theorem Oc{pos:Pos}:Wy X pos [] [] []:=⟨R_⟩
theorem wg{pos:Pos}{k v:Expr}{ks:List (Option Expr)}{vs:List Expr}{tk tv:TE}{trs:List (TE×TE)}(hk:JE X k tk)(hv:JE X v tv)(hr:Wy X pos ks vs trs):Wy X pos (some k::ks) (v::vs) ((tk,tv)::trs):=⟨Qo hk.run hv.run hr.run⟩
theorem N_{pos:Pos}{keys:List (Option Expr)}{values:List Expr}{trs:List (TE×TE)}(h:Wy X pos keys values trs)(hall:keys.all (·.isSome)=true:=by rfl)(hl:keys.length=values.length:=by rfl)(h0:keys≠ []:=by simp)(h15:keys.length<=15:=by decide):JE X (.Dict keys values pos) (QF trs):=⟨RZ h.run hall hl h0 h15⟩
end
noncomputable def O1:R2:=λx y H Q=>match x,y with
 | .ref a,.ref b=>(match H a,H b with
  |some (.tup xs),some (.tup ys)=>xs.length=ys.length/\(match FI (dD (E7 H 2) xs ys) with
    |some k=>Q (.bl (!k)) H
    |none=>False)
  |_,_=>KH (.ref a) (.ref b) H Q)
 |x,y=>KH x y H Q
theorem VD{X:Cx}(hu:X.A.units+8<cLine):tW X (compareOp .NotEq) O1:=by
 intro pins s σ H x y v u Q I rx ry h
 unfold O1 at h
 split at h
 case h_2=>exact O7 hu pins s σ H _ _ v u Q I rx ry h
 rename_i a b
 split at h
 case h_2=>exact O7 hu pins s σ H _ _ v u Q I rx ry h
 rename_i xs ys e1 e2
 obtain⟨hl,h⟩:=h
 cases (show v=bj a from rx)
 cases (show u=bj b from ry)
 obtain⟨i1,r1,p1,_⟩:=I.tuple (.inl (.inl e1))
 obtain⟨i2,r2,p2,_⟩:=I.tuple (.inl (.inl e2))
 have l1:=r1.length
 have l2:=r2.length
 split at h
 case h_2=>exact h.elim
 rename_i k hk
 obtain⟨e,h1,h2⟩:=yB hk
 rw[cY,←hl,dt]at h2
 refine SeqAt.RcNeAt.tuples (e:=e) p1 p2 (by lia) (λj j1 j2=> ?_) X.prog X.w X.xe _ ⟨.bl (!k),H,I,?_,h⟩
 ·simp only[aX]at j1 j2
  have k1:j<xs.length:=by lia
  have k2:j<ys.length:=by lia
  obtain⟨w1,g1,q1⟩:=r1.get (af k1)
  obtain⟨w2,g2,q2⟩:=r2.get (af k2)
  have z:=h1 j (E7 H 2 xs[j] ys[j]) (by rw[cT,af k1,af k2])
  have e4:i1.toArray[j]=w1:=by simpa [j1] using g1
  have e5:i2.toArray[j]=w2:=by simpa [j2] using g2
  rw[e4,e5]
  exact z_ I 2 X.A.in1 (by rw[dX];lia) q1 q2 z
 ·have e3:i1.toArray.size=xs.length:=by simp[l1]
  have e4:i2.toArray.size=xs.length:=by simp[←l2,hl]
  rw[e3,e4,dt,h2,beq_self_eq_true,Bool.and_true]
  exact rfl
theorem Jq{X:Cx}(hu:X.A.units+8<cLine):Ez X (compareOp .NotEq) O1:=⟨VD hu⟩
end L2
namespace L2
open PySem PySem.Spec PyProof.Rows
section
variable{X:Cx}
end
end L2
namespace L2
open PySem PySem.Spec PyProof.Rows
section
variable{X:Cx}
noncomputable def NT (neg:Bool):R2:=λx y H Q=>match y with
 | .ref p=>(match H p with
  |some (.lst xs)=>sW x=true/\xs.all sW=true/\Q (.bl (if neg then !Ry x xs else Ry x xs)) H
  |some (.tup xs)=>sW x=true/\xs.all sW=true/\Q (.bl (if neg then !Ry x xs else Ry x xs)) H
  |_=>False)
 |_=>False
theorem Rf{K:aC}{neg:Bool}{x y:V}{H:Hp}{Q:VK}(h:NT neg x y H Q):XY K neg x y H Q:=by
 unfold NT at h
 split at h
 case h_2=>exact h.elim
 split at h
 ·rename_i xs e
  exact⟨_,xs,rfl,.inl (lT.of e),h⟩
 ·rename_i xs e
  exact⟨_,xs,rfl,.inr (LR.of e),h⟩
 ·exact h.elim
theorem O8:tW X (compareOp .NotIn) (NT true):=JL.mono λ_ _ _ _=>Rf
noncomputable abbrev g3 (K:aC):TG:=Pr K 3 (Aj (jG 0) (Aj (jG 1) (Aj (jG 2) Md)))
section
variable{fsc scope:Scope}{N2:List Str}{js:List Nat}
end
theorem Gi:Ez X (compareOp .NotIn) (NT true):=⟨O8⟩
end
theorem lA.Gn{K:aC}{a:Addr}{xs:List V}{g:TG}{tb:TS}{D:Ends}{σ:St}{H:Hp}(Pv:Nat->St->Hp->Prop)(h0:Pv 0 σ H)(hl:∀i σ H,i<=xs.length->Pv i σ H->lT K H a xs)
  (hs:∀i x σ H,xs[i]? =some x->Pv i σ H->∀R:St->Hp->Prop,(∀σ' H',Pv (i+1) σ' H'->R σ' H')->g x σ H λσ2 H2=>tb {D with nx:=R,ct:=R,bk:=D.nx} σ2 H2) (hd:∀σ H,Pv xs.length σ H->D.nx σ H):lA (QN K a) g tb D σ H:=
 lA.list Pv h0 hl (λi x σ H hx hp=>hs i x σ H hx hp _ λ_ _ h=>h) hd
theorem lA.Cc{lo:Int}{n:Nat}{g:TG}{tb:TS}{D:Ends}{σ:St}{H:Hp}(Pv:Nat->St->Hp->Prop)(h0:Pv 0 σ H)
  (hs:∀i σ H,i<n->Pv i σ H->∀R:St->Hp->Prop,(∀σ' H',Pv (i+1) σ' H'->R σ' H')->g (.int (lo+i)) σ H λσ2 H2=>tb {D with nx:=R,ct:=R,bk:=D.nx} σ2 H2) (hd:∀σ H,Pv n σ H->D.nx σ H):lA (QO lo n) g tb D σ H:=
 lA.range Pv h0 (λi σ H hi hp=>hs i σ H hi hp _ λ_ _ h=>h) hd
theorem ints_get{ks:List Int}{i:Nat}{x:V}(h:(ks.map V.int)[i]? =some x):∃hi:i<ks.length,x= .int ks[i]/\ks.take (i+1)=ks.take i++[ks[i]]:=by
 have hi:i<ks.length:=by have:=(List.getElem?_eq_some_iff.mp h).1;rw[aj]at this;exact this
 rw[aT,af hi]at h
 exact⟨hi,(bp h).symm,List.take_succ_eq_append_getElem hi⟩
theorem vP.W8{K:aC}{a:Addr}{xs:List V}{z7:St}{te:TE}{H:Hp}{Q:VK}(f:V->V)(hS:lT K H a xs)(hz:xs.length<=sizeLine)(he:∀x∈xs,∀K':VK,K' (f x) H->te (some x::z7) H K')(q:∀l,H l=none->Q (.ref l) (upd H l (.lst (xs.map f)))):vP (QN K a) z7 Sx te H Q:=
 vP.Im (λ_=>true) f hS hz (λ_ _ _ h=>h) (λx hx _ K' h=>he x hx K' h) λl hl=>by rw[List.filter_eq_self.mpr λ_ _=>rfl];exact q l hl
theorem PB{x:Int}{l:List Int}:Ry (.int x) (l.map V.int)=decide (x∈l):=by
 unfold Ry
 rw[List.any_map]
 induction l with
 |nil=>rfl
 |cons a r ih=>
  rw[d7,ih]
  have:(((λy=>N1 y (V.int x))∘V.int) a)=decide (x=a):=by
   show(a==x)=decide (x=a)
   by_cases h:a=x
   ·simp[h]
   ·simp[h,aE h]
  rw[this]
  by_cases h:x=a
  ·simp[h]
  ·simp[h]
theorem D5{H:Hp}{d:Nat}:∀{l r:List Int},l.length=r.length->FI (dD (E7 H (d+1)) (l.map V.int) (r.map V.int))=some (decide (l=r))
 | [],[],_=>rfl
 |a::l,b::r,h=>by
  have ih:=D5 (H:=H) (d:=d) (l:=l) (r:=r) (by simpa using h)
  have e:E7 H (d+1) (V.int a) (V.int b)=some (decide (a=b)):=by
   simp only[E7,sW,and_self,if_true,N1]
   by_cases z:a=b
   ·simp[z]
   ·simp[z]
  show FI (E7 H (d+1) (V.int a) (V.int b)::dD (E7 H (d+1)) (l.map V.int) (r.map V.int))=_
  rw[e]
  show(FI (dD (E7 H (d+1)) (l.map V.int) (r.map V.int))).map _=_
  rw[ih]
  by_cases z:a=b<;>by_cases y:l=r<;>simp[z,y]
theorem fsc{N P:List Str}{sc:Scope}(a:sc.kind= .function:=by rfl)(b:sc.isCoroutine=false:=by rfl)(c:sc.isGenerator=false:=by rfl)(d:N.Nodup:=by decide+kernel)(e:N.take P.length=P:=by rfl)(f:∀x∈P,sc.names.lookup x=some .local∨sc.names.lookup x=some .cell:=by decide+kernel)(g:∀y∈sc.names,y.2≠ .free:=by decide+kernel):jf N P sc:=⟨a,b,c,d,e,f,g⟩
theorem lo{sc:Scope}{x:Str}(h:Loc sc x:=by first|exact Or.inl rfl|exact gG rfl):Loc sc x:=h
noncomputable def uX (C:Addr) (m:Str) (x:V) (H:Hp):Prop:=match x with
 | .ref a=>(match H a with
  |some (.ins C' _ fs)=>C'=C/\fs.lookup m=none
  |_=>False)
 |_=>False
theorem jB{C:Addr}{m:Str}{sp:Sp}{E:St->XK}{ta:TE}{t:TA}{σ:St}{H:Hp}{Q:VK}:yI C m sp E ta t σ H Q=ta σ H λx H1=>uX C m x H1/\t σ H1 λvs H2=>sp (x::vs) H2 Q (E σ):=by
 unfold yI
 congr
 funext x H1
 unfold uX
 cases x with
 |ref a=>
  dsimp only
  rcases H1 a with _|o
  ·simp
  ·cases o<;>dsimp only<;>try simp
   simp[and_assoc]
 |_=>simp
theorem jS{b:Bool}{P:Bool->Prop}:(∃k,V.bl b=V.bl k/\P k)=P b:=propext ⟨λ⟨_,e,p⟩=>by cases e;exact p,λp=>⟨b,rfl,p⟩⟩
noncomputable def kK (f:Str) (x:V) (H:Hp):Option V:=match x with
 | .ref a=>(match H a with
  |some (.ins _ _ fs)=>fs.lookup f
  |_=>none)
 |_=>none
noncomputable def qw (K:aC) (f:Str) (x:V) (H:Hp):Prop:=match x with
 | .ref a=>(match H a with
  |some (.ins C _ _)=>Hc K C/\mj K C f
  |_=>False)
 |_=>False
theorem jE{K:aC}{ta:TE}{f:Str}{σ:St}{H:Hp}{Q:VK}:KC K ta f σ H Q=ta σ H λx H1=>qw K f x H1/\(match kK f x H1 with
  |some v=>Q v H1
  |none=>False):=by
 unfold KC
 congr
 funext x H1
 unfold kK qw
 cases x with
 |ref a=>
  dsimp only
  rcases H1 a with _|o
  ·simp
  ·cases o<;>dsimp only<;>try simp
   rename_i C dx fs
   cases bx f fs<;>simp[and_assoc]
 |_=>simp
theorem MR{a0 a1 q:Prop}(h:a0/\a1/\q):q/\a0/\a1:=⟨h.2.2,h.1,h.2.1⟩
theorem QQ{a0 a1 a2 q:Prop}(h:a0/\a1/\a2/\q):q/\a0/\a1/\a2:=⟨h.2.2.2,h.1,h.2.1,h.2.2.1⟩
theorem Vo{a0 a1 a2 a3 q:Prop}(h:a0/\a1/\a2/\a3/\q):q/\a0/\a1/\a2/\a3:=⟨h.2.2.2.2,h.1,h.2.1,h.2.2.1,h.2.2.2.1⟩
theorem XN{a0 a1 a2 a3 a4 q:Prop}(h:a0/\a1/\a2/\a3/\a4/\q):q/\a0/\a1/\a2/\a3/\a4:=⟨h.2.2.2.2.2,h.1,h.2.1,h.2.2.1,h.2.2.2.1,h.2.2.2.2.1⟩
theorem XO{a0 a1 a2 a3 a4 a5 q:Prop}(h:a0/\a1/\a2/\a3/\a4/\a5/\q):q/\a0/\a1/\a2/\a3/\a4/\a5:=⟨h.2.2.2.2.2.2,h.1,h.2.1,h.2.2.1,h.2.2.2.1,h.2.2.2.2.1,h.2.2.2.2.2.1⟩
theorem WS{a0 a1 a2 a3 a4 a5 a6 a7 a8 q:Prop}(h:a0/\a1/\a2/\a3/\a4/\a5/\a6/\a7/\a8/\q):q/\a0/\a1/\a2/\a3/\a4/\a5/\a6/\a7/\a8:=⟨h.2.2.2.2.2.2.2.2.2,h.1,h.2.1,h.2.2.1,h.2.2.2.1,h.2.2.2.2.1,h.2.2.2.2.2.1,h.2.2.2.2.2.2.1,h.2.2.2.2.2.2.2.1,h.2.2.2.2.2.2.2.2.1⟩
theorem WT{a0 a1 a2 a3 a4 a5 a6 a7 a8 a9 a10 a11 q:Prop}(h:a0/\a1/\a2/\a3/\a4/\a5/\a6/\a7/\a8/\a9/\a10/\a11/\q):q/\a0/\a1/\a2/\a3/\a4/\a5/\a6/\a7/\a8/\a9/\a10/\a11:=⟨h.2.2.2.2.2.2.2.2.2.2.2.2,h.1,h.2.1,h.2.2.1,h.2.2.2.1,h.2.2.2.2.1,h.2.2.2.2.2.1,h.2.2.2.2.2.2.1,h.2.2.2.2.2.2.2.1,h.2.2.2.2.2.2.2.2.1,h.2.2.2.2.2.2.2.2.2.1,h.2.2.2.2.2.2.2.2.2.2.1,h.2.2.2.2.2.2.2.2.2.2.2.1⟩
theorem Bm{α:Type}{C:List α->Prop}(h:∀a0,C [a0]):∀us:List α,us.length=1->C us
 | [a0],_=>h a0
theorem zS{α:Type}{C:List α->Prop}(h:∀a0 a1,C [a0,a1]):∀us:List α,us.length=2->C us
 | [a0,a1],_=>h a0 a1
theorem Il{α:Type}{C:List α->Prop}(h:∀a0 a1 a2,C [a0,a1,a2]):∀us:List α,us.length=3->C us
 | [a0,a1,a2],_=>h a0 a1 a2
theorem U4{α:Type}{C:List α->Prop}(h:∀a0 a1 a2 a3,C [a0,a1,a2,a3]):∀us:List α,us.length=4->C us
 | [a0,a1,a2,a3],_=>h a0 a1 a2 a3
end L2
namespace L2
open PySem PySem.Spec PyProof.Rows
section
variable{X:Cx}{r:V->List V->Hp->VK->Prop}{o:Expr}{to:TE}{apos cpos:Pos}
end
section
variable{X:Cx}
end
end L2
namespace L2
open PySem PySem.Spec PyProof.Rows
section
variable{P:Program}{w:World}{A:Around}{E:Value->Shared->Prop}{s:Shared}
end
end L2
namespace L2
open PySem PySem.Spec PyProof.Rows
section
variable{P:Program}{w:World}{A:Around}{E:Value->Shared->Prop}{s:Shared}{z TI TO i1 i2 l1 l2:Addr}{k1 k2:Nat}{xs ys:Array Value}{x y a b:Value}{J1 J2:Heap->Nat->Prop}
end
end L2
namespace L2
open PySem PySem.Spec PyProof.Rows
end L2
namespace L2
open PySem PySem.Spec PyProof.Rows
section
variable{X:Cx}{pins:List (Addr×Obj)}{σ:St}{H:Hp}{s:Shared}{k:Bool}{a:Addr}{xs ys:List V}
end
section
variable{X:Cx}
end
section
variable{X:Cx}{r:V->List V->Hp->VK->Prop}{o i:Expr}{to td ty:TE}{apos cpos pos:Pos}
end
noncomputable def SX:TE:=λ_ _ _=>False
theorem Qi{X:Cx}{e:Expr}:PE X e SX:=by
 intro pins s σ H Q I h
 exact h.elim
theorem Gj{X:Cx}{e:Expr}:JE X e SX:=⟨Qi⟩
end L2
namespace L2
open PySem PySem.Spec PyProof.Rows
section
variable{X:Cx}{E:St->XK}{a L:Addr}{cls:Value}{s':Shared}{M:Model}{A:Around}{Q:Unit->Shared->Prop}{E':Value->Shared->Prop}
end
section
variable{M:Model}{A:Around}{E:Value->Shared->Prop}{s:Shared}{env:Env}
end
section
variable{prog:Program}{w:World}{A:Around}{R:Result->Shared->Prop}{s:Shared}
end
section
variable{X:Cx}{pins:List (Addr×Obj)}{σ:St}{H:Hp}{s:Shared}{scope fsc:Scope}{x:List Str}{N2:List Str}{js:List Nat}{fp:List Addr}{C:Addr}
end
end L2
namespace L2
open PySem PySem.Spec PyProof.Rows
noncomputable def US (P:Addr):TE:=λ_ H Q=>∃ps,H P=some (.G_ ps)/\TriplesOk ps.toList/\∀l ps',H l=none->TriplesOk ps'.toList->Q (.ref l) (upd H P (.G_ ps'))
section
variable{X:Cx}{pins:List (Addr×Obj)}{σ:St}{H:Hp}{s:Shared}
theorem Inv.tabs{P:Addr}{ps more:Array Value}{h':Heap}{t':Nat}(I:Inv X pins σ H s)(hP:H P=some (.G_ ps))(ext:∀b o,b≠P->s.heap.get? b=some o->h'.get? b=some o)(hP':h'.get? P=some {cls:= .none,data:= .fields (ps++more)}):
  Inv X pins σ (upd H P (.G_ (ps++more))) {s with heap:=h',toks:=t'}:=by
 have ne:∀b,H b=none->b≠P:=λb n z=>by rw[z,hP]at n;cases n
 refine I.step (g':=s.gens) (d':=s.drawn) (ch:=[]) (λ_ z=>nomatch z) (λb o _ _ _ e n=>ext b o (ne b n) e) (λb o _ _ _ e n=>⟨o.slots,ext b o (ne b n) e⟩) (λb o _ e n=>by rw[i_ (ne b n)];exact n) (λb o _ e=> ?_) (λb xs e=>by rw[i_ λz=>by rw[z,hP]at e;cases e];exact e) (λb o u e=>by rw[i_ λz=>by rw[z,hP]at e;cases e];exact e) (λb qs e=> ?_) (λm hm=> ?_) (λb u e=> ?_) I.bare
 ·by_cases hb:b=P
  ·exact⟨_,by rw[hb];exact hP'⟩
  ·exact⟨o,ext b o hb e⟩
 ·by_cases hb:b=P
  ·subst hb
   rw[hP]at e;cases e
   exact⟨more,i8⟩
  ·exact⟨#[],by rw[i_ hb,e];simp⟩
 ·obtain⟨o,es,ep,e,r⟩:=hm
  exact⟨o,es,ep,ext _ o (ne _ I.free) e,r⟩
 ·by_cases hb:b=P
  ·subst hb
   rw[i8]at e;cases e
   exact hP'
  ·rw[i_ hb]at e
   refine(I.lB b u e).A4 (λc v hc q=>ext c v ?_ q) (λc q=>by rw[i_ λz=>by rw[z,hP]at q;cases q];exact q) (λc xs q=>by rw[i_ λz=>by rw[z,hP]at q;cases q];exact q)
   rcases hc with rfl|hc
   ·exact hb
   ·exact λz=>by rw[z,hP]at hc;cases hc
theorem Uq{c P:Addr}{params:Arguments}{body:Expr}{scope:Scope}{pos:Pos}(hcode:X.env.code= .ref c)(hK:dO X.K c P=true){fsc:Scope}(hf:X.env.scope=fsc)(hcl:∀y∈scope.names,y.2= .free->fsc.names.lookup y.1=some .cell)
  (hdef:defaultsOf params X.env=([],[])):PE X (.Lambda params body scope pos) (US P):=by
 intro pins s σ H Q I h
 obtain⟨ps,hP,ht,q⟩:=h
 have hPs:s.heap.get? P=some (PySem.W.tabObj ps):=I.lB P _ hP
 have C:PySem.W.CodeHd s.heap c P:=gW I.DR hK
 have hg:s.heap.Ns mainGlobals X.mg:=I.mod.glob.keeps I.bk
 have hgP:mainGlobals≠P:=λz=>by
  obtain⟨o,es,ep,e,d,_⟩:=hg
  rw[z,hPs]at e;cases e;cases d
 obtain⟨bm,ob,b1,b2,b3,b4,b5,b6⟩:=I.mod.bmain
 have b3:=I.bk _ _ b3
 have hb:s.heap.BuiltinsAt X.mg P:=⟨bm,ob,b1,b2,(λz=>by
   obtain⟨o,es,ep,e,d,_⟩:=hg
   rw[z,e]at b3;cases b3;rw[d]at b6;cases b6),(λz=>by rw[z,hPs]at b3;cases b3;cases b4),b3,b4,b5,b6⟩
 have hclo:=FZ (scope:=scope) (env:=X.env) λy hy e=>I.ok.has y.1 (.inl (show X.env.scope.names.lookup y.1=some .cell by rw[hf];exact hcl y hy e))
 refine PySem.W.kla_eval hdef ?_
 cases hnf:codeAmong pos ps.toList with
 |none=>
  refine PySem.W.kla_makeFunction hclo I.ok.glob hg hcode C hPs ht hnf hgP hb λc' ctv h' tk ext hge hlt hrec htab=> ?_
  have hn:H h'.objs.size=none:=I.lB.fresh (by lia)
  have hle:P<h'.objs.size:=aV htab
  refine⟨.ref h'.objs.size,_,I.tabs (more:= #[rawInt pos.line,rawInt pos.col,.ref c']) (t':=tk) hP (λb o hb e=>aO _ (ext b o hb e)) (aO _ htab),rfl,q _ _ hn ?_⟩
  rw[Array.toList_append]
  exact TriplesOk_snoc _ _ _ _ ht
 |some cv=>
  refine PySem.W.kla_makeFunctionHit hclo I.ok.glob hg hcode C hPs ht hnf hb λctv h' tk ext hge=> ?_
  have hn:H h'.objs.size=none:=I.lB.fresh hge
  have I':=I.tabs (more:= #[]) (t':=tk) hP (λb o _ e=>aO {cls:= .type "function",data:= .func (PySem.W.kla_fn "<lambda>" (X.env.qual++"<lambda>") params body scope (L8 scope X.env) ((X.mg "__name__").getD .none) cv ctv)} (ext b o e)) (by rw[fH];exact aO _ (ext _ _ hPs))
  rw[fH]at I'
  exact⟨.ref h'.objs.size,_,I',rfl,q _ _ hn ht⟩
theorem PM{c P:Addr}{params:Arguments}{body:Expr}{scope:Scope}{pos:Pos}(hcode:X.env.code= .ref c)(hK:dO X.K c P=true){fsc:Scope}(hf:X.env.scope=fsc)(hcl:∀y∈scope.names,y.2= .free->fsc.names.lookup y.1=some .cell)
  (hdef:defaultsOf params X.env=([],[])):JE X (.Lambda params body scope pos) (US P):=⟨Uq hcode hK hf hcl hdef⟩
end
noncomputable def MP (ts:List Addr) (H:Hp):Prop:=(∀b,b∉ts->H b=none∨∃o xs,H b=some (.F8 o (.lst xs)))/\∀b∈ts,H b=some (.G_ #[])
theorem Oh{ts:List Addr}{P:Program}{w:World}{K:aC}{mg mb:Str->Option Value}{CX:OM}{ca:Bool}{k:Nat}{fa a:Addr}{fd:FuncData}{x:Str}{sp:Sp}{s₁:Shared}{vs:List Value}{ns:List Int}
  (KX:K.In s₁.heap) (hns:s₁.heap.Ns mainGlobals mg) (hb:s₁.heap.Ns builtinsNs mb) (hbb:∀x:Str,x≠"__name__"->mb x=bootBuiltins x) (hlim:s₁.heap.NoLimit) (hbm:BMain mg s₁.heap) (hts:∀p∈ts,s₁.heap.get? p=some {cls:= .none,data:= .fields #[]}) (hKt:∀p∈ts,K.lookup p=none) (hct:∀p∈ts,isCodeTable s₁.heap p) (hg:s₁.gens= #[])
  (ha:s₁.heap.get? a=some {cls:= .type "list",data:= .seq vs.toArray}) (hi:IntsAre vs ns) (hl:ns.length<=sizeLine) (hr:pU ca k callerA)
  (F:∀base:Heap,K.In base->base.Ns mainGlobals mg->jO P w K mg base CX ca k fa fd [x] sp) (hbind:∀(s:Shared) (u:Value),BindsTo s fd ⟨[u],[]⟩ [(x,u)])
  (hsp:∀H:Hp,MP ts H->lT K H a (ns.map V.int)->sp [.ref a] H (λv _=>v= .bl true) λ_ _ _=>False)
  (hCX:∀H e s',CX [] H s₁ (λ_ _ _=>False) e s'->False):
  codeAny (model P w) callerA (.call (.ref fa) ⟨[.ref a],[]⟩) (λr s'=>r= .ok (.ret (.bool true))/\OldK s₁.heap s'.heap/\s'.os=s₁.os/\AllBare s'.gens) s₁:=by
 have rv:=Ey hi
 have lenV:=hi.length
 have hat:a∉ts:=λh=>by
  have:=hts a h
  rw[ha]at this
  injection this with this
  injection this with h1
  cases h1
 have core:∀H:Hp,MP ts H->lT K H a (ns.map V.int)->zQ P w H s₁.heap->(∀b,H b≠none->b=a∨b∈ts)->(a∉ts->H a≠none->K.lookup a=none)->
   codeAny (model P w) callerA (.call (.ref fa) ⟨[.ref a],[]⟩) (λr s'=>r= .ok (.ret (.bool true))/\OldK s₁.heap s'.heap/\s'.os=s₁.os/\AllBare s'.gens) s₁:=by
  intro H hO hS lB hA hK
  have base_of:∀{b:Addr} {o:Obj},s₁.heap.get? b=some o->H b=none->(Ji s₁.heap H).get? b=some o:=λe n=>Px e n
  have noA:∀{b:Addr} {o:Obj} {es:Array DictEntry} {ep:Nat},s₁.heap.get? b=some o->o.data= .dict es ep->H b=none:=λ{b o es ep} e d=>by
   cases q:H b with
   |none=>rfl
   |some u=>
    rcases hA b (by rw[q];simp) with e'|e'
    ·subst e'
     rw[ha]at e;cases e
     have d':iB vs.toArray _=Data.dict es ep:=d
     cases d'
    ·rw[hts b e']at e;cases e
     have d':iz #[]=Data.dict es ep:=d
     cases d'
  have nsK:∀{b:Addr} {m:Str->Option Value},s₁.heap.Ns b m->(Ji s₁.heap H).Ns b m:=λ{b m} ⟨o,es,ep,e,d,r⟩=>⟨o,es,ep,base_of e (noA e d),d,r⟩
  have hKb:K.In (Ji s₁.heap H):=λb o e=>base_of (KX b o e) (by
   cases q:H b with
   |none=>rfl
   |some u=>
    rcases hA b (by rw[q];simp) with e'|e'
    ·subst e'
     rw[hK hat (by rw[q];simp)]at e;cases e
    ·rw[hKt b e']at e;cases e)
  have hM:Mod K mg (Ji s₁.heap H):=⟨hKb,nsK hns,⟨mb,nsK hb,hbb⟩,let ⟨mc,h1,h2⟩:=hlim;⟨mc,nsK h1,h2⟩,let ⟨bm,ob,b1,b2,b3,b4⟩:=hbm;⟨bm,ob,b1,b2,base_of b3 (by
   cases q:H bm with
   |none=>rfl
   |some u=>
    rcases hA bm (by rw[q];simp) with e'|e'
    ·subst e'
     rw[ha]at b3;cases b3
     have d':iB vs.toArray _=Data.plain:=b4.2.2
     cases d'
    ·rw[hts bm e']at b3;cases b3
     have d':iz #[]=Data.plain:=b4.2.2
     cases d'),b4⟩⟩
  have e0:LW P w K mg (Ji s₁.heap H) callerA [] s₁ H:=⟨rfl,hM,λb o e=>RQ e,hX (N6 _ _),trivial,λb hb=>absurd (show b∈([]:List Addr) from hb) (by simp),lB,.of_eq hg⟩
  refine codeAny_mono ((F _ hKb (nsK hns)).run callerA [] s₁ H ⟨[.ref a],[]⟩ [.ref a] [.ref a] _ _ hr e0 (hbind s₁ (.ref a)) (.cons rfl .nil) (hsp H hO hS)) λr s' h=> ?_
  cases r with
  |error e=>exact(hCX H e s' h).elim
  |ok fl=>
   cases fl with
   |next=>exact dg h
   |brk=>exact dg h
   |cont=>exact dg h
   |ret u=>
    obtain⟨v,H',os,bare,un,hok',r',q⟩:=h
    have q':v= .bl true:=q
    subst q'
    obtain rfl:u=gP true:=r'
    have key:∀b o,s₁.heap.get? b=some o->asItWas s₁.heap s'.heap b o/\∃o',s'.heap.get? b=some o':=λb o e=>by
     by_cases hb:b∈ts
     ·obtain⟨more,z2⟩:=un.Bp b #[] (hO.2 b hb)
      have e2:s'.heap.get? b=some {cls:= .none,data:= .fields (#[]++more)}:=hok' b _ z2
      rw[hts b hb]at e;cases e
      exact⟨.inr (.inl ⟨hct b hb,rfl,#[],more,rfl,e2⟩),_,e2⟩
     ·have k:s'.heap.get? b=some o:=by
       rcases hO.1 b hb with z|⟨ob,xs,z⟩
       ·exact un.keep b o e z (by intro z;exact absurd (show b∈([]:List Addr) from z) (by simp)) (by simp)
       ·have z2:=un.Bn b ob _ z
        obtain⟨e1,_⟩:=lB b _ z
        obtain⟨e2,_⟩:=hok' b _ z2
        rw[e]at e1;cases e1
        exact e2
      exact⟨.inl k,o,k⟩
    exact⟨rfl,⟨λb o e=>(key b o e).1,λb o e=>(key b o e).2⟩,os,bare⟩
 cases hk:K.lookup a with
 |some o=>
  have e:=KX a o hk
  rw[ha]at e
  cases e
  refine core (λb=>if b∈ts then some (.G_ #[]) else none) ⟨λb hb=> .inl (if_neg hb),λb hb=>if_pos hb⟩ (.inr ⟨_,vs.toArray,_,hk,rfl,rfl,rfl,by rw[aX,lenV];exact hl,by simpa using rv⟩) (λb u z=> ?_) (λb z=> ?_) λh z=>absurd (if_neg h) z
  ·by_cases hb:b∈ts
   ·have z':=(if_pos hb).symm.trans z
    cases z'
    exact hts b hb
   ·have z':=(if_neg hb).symm.trans z
    cases z'
  ·by_cases hb:b∈ts
   ·exact .inr hb
   ·exact absurd (if_neg hb) z
 |none=>
  refine core (λb=>if b∈ts then some (.G_ #[]) else if b=a then some (.F8 {cls:= .type "list",data:= .seq vs.toArray} (.lst (ns.map V.int))) else none) ⟨λb hb=> ?_,λb hb=>if_pos hb⟩ (.inl (.inr ⟨{cls:= .type "list",data:= .seq vs.toArray},(if_neg hat).trans (if_pos rfl)⟩)) (λb u z=> ?_) (λb z=> ?_) λ_ _=>hk
  ·by_cases hba:b=a
   ·exact .inr ⟨_,_,(if_neg hb).trans (if_pos hba)⟩
   ·exact .inl ((if_neg hb).trans (if_neg hba))
  ·by_cases hb:b∈ts
   ·have z':=(if_pos hb).symm.trans z
    cases z'
    exact hts b hb
   ·have z:=(if_neg hb).symm.trans z
    by_cases hba:b=a
    ·have z':=(if_pos hba).symm.trans z
     cases z'
     subst hba
     exact⟨ha,by rw[aj];exact hl,vs,_,rv,ha⟩
    ·have z':=(if_neg hba).symm.trans z
     cases z'
  ·by_cases hb:b∈ts
   ·exact .inr hb
   ·by_cases hba:b=a
    ·exact .inl hba
    ·exact absurd ((if_neg hb).trans (if_neg hba)) z
theorem QJ{ts:List Addr}{l:gb}{n k:Nat}{q:Program}{loose:List Str}{XP:(Str->Option Value)->Heap->Prop}{YP:World->Heap->Prop}{d:DefRec}{K:Params->aC}{CX:World->OM}{ca:Bool}{sp:World->Sp}{x:Str}
  (hn:l.most=some n) (hn2:n<=sizeLine) (hdf:d.params.defaults=[]) (hr:pU ca k callerA)
  (hY:∀(w:World) (h:Heap),YP w h->(K w.params).In h) (hT:∀(w:World) (h:Heap),YP w h->∀p∈ts,h.get? p=some {cls:= .none,data:= .fields #[]}) (hKt:∀(w:World),∀p∈ts,(K w.params).lookup p=none) (hct:∀(w:World),∀p∈ts,∃c,dO (K w.params) c p=true)
  (F:∀(w:World) (mg:Str->Option Value) (fa:Addr) (h:Heap),(K w.params).In h->h.Ns mainGlobals mg->mg d.name=some (.ref fa)->
   ∃fd:FuncData,(∀(s:Shared) (u:Value),BindsTo s fd ⟨[u],[]⟩ [(x,u)])/\
    ∀base:Heap,(K w.params).In base->base.Ns mainGlobals mg->jO l.prog w (K w.params) mg base (CX w) ca k fa fd [x] (sp w))
  (hsp:∀(w:World) (H:Hp) (a:Addr) (ns:List Int),ns.length<=n->MP ts H->lT (K w.params) H a (ns.map V.int)->sp w [.ref a] H (λv _=>v= .bl true) λ_ _ _=>False)
  (hCX:∀(w:World) (H:Hp) (s:Shared) (e:Value) (s':Shared),CX w [] H s (λ_ _ _=>False) e s'->False):
  iV q loose XP YP l.row.toRowW d [] (λf vs=>iP f vs):=by
 refine Att.Ky hn hdf λw s₀ s₁ mg mb fa o pm cd doc a vs ns G Y ho hd hcd hmg hobj hints hlen hg=> ?_
 have KX:=hY w _ Y
 obtain⟨fd,hb,hF⟩:=F w mg fa _ KX G.T.g hmg
 exact Oh (ts:=ts) KX G.T.g G.T.b G.T.builtins G.T.nolimit G.T.bmain (hT w _ Y) (hKt w) (λp hp=>by
  obtain⟨c,hc⟩:=hct w p hp
  exact((gW KX hc).tab (hT w _ Y p hp)).isCodeTable) hg hobj hints (aW hlen hn2) hr hF hb (λH hO hS=>hsp w H a ns hlen hO hS) λH e s'=>hCX w H s₁ e s'
section
variable{P:Program}{w:World}{K:aC}{mg:Str->Option Value}{base:Heap}
theorem mZ.Xl{x qual:Str}{st:Stmt}{f:Addr}{fd:FuncData}{N ps:List Str}{ca:Bool}{k:Nat}{sp:Sp}(F:mZ K x qual st f fd)(S:jf N ps (ja st))(len:∀vs H Q E,sp vs H Q E->vs.length=ps.length)
  (hbody:∀(cdv:Value) (A:Around) (outer:List Env) (s:Shared) (H:Hp) (vs:List V) (Q:VK) (E:XK),fd.code=cdv->pU ca k (A.deeper (envOfC qual (ja st) s.heap.objs.size f cdv))->
   Exc (WD ca P w K mg base N qual (ja st) f cdv A outer s H E) (λ_=>E)->sp vs H Q E->
   ∃t,LY (WD ca P w K mg base N qual (ja st) f cdv A outer s H E) (vf st) t/\t {nx:=λ_ H'=>Q .kG H',rt:=Q} (start N vs) H):jO P w K mg base (lV P w) ca (k+1) f fd ps sp:=by
 obtain⟨oc,od,kV,doc,pm,an,cdv,ct,osl,rfl,lk,hcd⟩:=F.ex
 refine SI (CX:=lV P w) lk hcd S len λA outer s H vs Q E hr hsp=> ?_
 obtain⟨t,h,q⟩:=hbody cdv A outer s H vs Q E rfl hr (Pk rfl rfl) hsp
 refine⟨t,h.Bq λe s2 ⟨a,cls,ee,u⟩=> ?_,q⟩
 subst ee
 show wpAny _ _ (leaving _ _) _ _ _
 unfold leaving
 exact wpAny_bind (u.note rfl rfl rfl λh' u'=>u'.XR λh'' u''=>u''.out rfl rfl rfl)
end
end L2
namespace L2
open PySem PySem.Spec PyProof.Rows
section
variable{prog:Program}{w:World}{A:Around}{E:Value->Shared->Prop}{s:Shared}{κ:SortKind}{r:Value->Int}{a₀:Array Keyed}{st:SortSt}
noncomputable def rk (r:Value->Int) (xs:Array Keyed) (i:Nat):Int:=(xs[i]?.map λp=>r p.1).getD 0
structure SB(κ:SortKind)(a₀:Array Keyed)(st:SortSt):Prop where
 pm:(arrOf st).Perm a₀
 kd:kindOf st=κ
 fl:failedOf st=none
 pd:pendingOf st= #[]
noncomputable def Cm (prog:Program) (w:World) (A:Around) (s:Shared) (κ:SortKind) (r:Value->Int) (a₀:Array Keyed):Prop:=
 ∀(E:Value->Shared->Prop) (Q:Bool->Shared->Prop) (p q:Keyed),p∈a₀.toList->q∈a₀.toList->r p.1≠r q.1->Q (decide (r p.1<r q.1)) s->wpAny (model prog w) A (keyLt' κ p.1 q.1) Q E s
noncomputable def Ap (r:Value->Int) (xs:Array Keyed):Prop:=(xs.toList.map λp=>r p.1).Nodup
theorem Ap.of{xs ys:Array Keyed}(h:Ap r ys)(p:xs.Perm ys):Ap r xs:=
 (((Array.perm_iff_toList_perm.mp p).map λq:Keyed=>r q.1).nodup_iff).mpr h
theorem IG{xs:Array Keyed}{i:Nat}(h:i<xs.size):rk r xs i=r xs[i].1:=by
 unfold rk;rw[getElem?_pos xs i h];rfl
theorem Qt{xs:Array Keyed}(h:Ap r xs){i j:Nat}(hi:i<xs.size)(hj:j<xs.size)(n:i≠j):rk r xs i≠rk r xs j:=by
 have g:∀{i j:Nat},i<xs.size->j<xs.size->i<j->rk r xs i≠rk r xs j:=λ{i j} hi hj l=>by
  have:=List.pairwise_iff_getElem.mp h i j (by simpa using hi) (by simpa using hj) l
  rw[IG hi,IG hj];simpa using this
 rcases hZ n with l|l
 ·exact g hi hj l
 ·exact λe=>g hj hi l e.symm
theorem FA{xs ys:Array Keyed}{i j:Nat}(h:xs[i]? =ys[j]?):rk r xs i=rk r ys j:=by unfold rk;rw[h]
theorem SB.sz(b:SB κ a₀ st):(arrOf st).size=a₀.size:=b.pm.size_eq
theorem SB.set(b:SB κ a₀ st){xs:Array Keyed}(p:xs.Perm (arrOf st)):SB κ a₀ (setArr st xs):=⟨p.trans b.pm,b.kd,b.fl,b.pd⟩
theorem Ls(c:Cm prog w A s κ r a₀)(ap:Ap r a₀)(b:SB κ a₀ st){i j:Nat}(hi:i<a₀.size)(hj:j<a₀.size)(ne:i≠j){Q:Option Bool->SortSt->Prop}
  (h:Q (some (decide (rk r (arrOf st) i<rk r (arrOf st) j))) st):wpS (model prog w) A E s (ltAt' i j) Q st:=by
 have hi':i<(arrOf st).size:=by rw[b.sz];exact hi
 have hj':j<(arrOf st).size:=by rw[b.sz];exact hj
 have mem:∀{k:Nat} (hk:k<(arrOf st).size),(arrOf st)[k]∈a₀.toList:=λhk=>(Array.perm_iff_toList_perm.mp b.pm).mem_iff.mp (by simp)
 have ne':=Qt (ap.of b.pm) hi' hj' ne
 rw[IG hi',IG hj']at h ne'
 rw[ltAt'_eq]
 refine wpS_bind (wpS_get (wpS_bind ?_))
 rw[elem'_eq,getElem?_pos _ i hi']
 refine wpS_pure (wpS_bind ?_)
 rw[elem'_eq,getElem?_pos _ j hj']
 refine wpS_pure ?_
 rw[lt'_eq]
 refine wpS_bind (wpS_get (wpS_bind ?_))
 rw[b.kd]
 refine wpS_lift (wpAny_attempt (c _ _ _ _ (mem hi') (mem hj') ne' ⟨rfl,?_⟩))
 exact wpS_pure h
noncomputable def Ri (r:Value->Int) (xs:Array Keyed) (k:Nat):Prop:=∀i j,i<=j->j<k->rk r xs i<=rk r xs j
theorem OV(c:Cm prog w A s κ r a₀)(ap:Ap r a₀)(b:SB κ a₀ st){a m:Nat}(hm:m<=a₀.size)(h1:1<=a)(ham:a<=m)(up:Ri r (arrOf st) a){Q:AscSt->SortSt->Prop}
  (h:∀n,a<=n->n<=m->Ri r (arrOf st) n->(n<m->rk r (arrOf st) n<rk r (arrOf st) (n-1))->Q (none,n) st):wpS (model prog w) A E s (ascLoop a m) Q st:=by
 unfold ascLoop
 refine wpS_forRange (I:=λi c st'=>st=st'/\c=(none,i)/\Ri r (arrOf st) i) ?_ ?_ ⟨rfl,rfl,up⟩
 ·rintro i _ _ hi him ⟨rfl,rfl,ui⟩
  refine wpS_bind (Ls c ap b (by lia) (by lia) (show i≠i-1 by lia) ?_)
  dsimp only
  by_cases z:rk r (arrOf st) i<rk r (arrOf st) (i-1)
  ·rw[if_pos (decide_eq_true z)]
   exact wpS_pure (h i hi (by lia) ui λ_=>z)
  ·rw[if_neg (by simpa using z)]
   refine wpS_pure ⟨rfl,rfl,λx y xy yl=> ?_⟩
   by_cases e:y=i
   ·subst e
    by_cases e2:x=y
    ·subst e2;exact cN _
    ·exact hE (ui x (y-1) (by lia) (by lia)) (by lia)
   ·exact ui x y xy (by lia)
 ·rintro _ _ ⟨rfl,rfl,ui⟩
  rw[show max a m=m by lia]at ui⊢
  exact h m ham (aN _) ui λz=>absurd z (b_ _)
theorem Rr(c:Cm prog w A s κ r a₀)(ap:Ap r a₀)(b:SB κ a₀ st){a m:Nat}(hm:m<=a₀.size)(h1:1<=a)(ham:a<=m)(dn:∀i j,i<j->j<a->rk r (arrOf st) j<rk r (arrOf st) i){Q:DescSt->SortSt->Prop}
  (h:∀n,a<=n->n<=m->(∀i j,i<j->j<n->rk r (arrOf st) j<rk r (arrOf st) i)->Q (none,n,0) st):wpS (model prog w) A E s (descLoop a m) Q st:=by
 unfold descLoop
 refine wpS_forRange (I:=λi c st'=>st=st'/\c=(none,i,0)/\∀x y,x<y->y<i->rk r (arrOf st) y<rk r (arrOf st) x) ?_ ?_ ⟨rfl,rfl,dn⟩
 ·rintro i _ _ hi him ⟨rfl,rfl,di⟩
  refine wpS_bind (Ls c ap b (by lia) (by lia) (show i≠i-1 by lia) ?_)
  dsimp only
  by_cases z:rk r (arrOf st) i<rk r (arrOf st) (i-1)
  ·rw[if_pos (decide_eq_true z),if_neg (by lia)]
   refine wpS_pure ⟨rfl,rfl,λx y xy yl=> ?_⟩
   by_cases e:y=i
   ·subst e
    by_cases e2:x=y-1
    ·subst e2;exact z
    ·exact Int.lt_trans z (di x (y-1) (by lia) (by lia))
   ·exact di x y xy (by lia)
  ·rw[if_neg (by simpa using z)]
   have ne:=Qt (ap.of b.pm) (show i<(arrOf st).size by rw[b.sz];lia) (show i-1<(arrOf st).size by rw[b.sz];lia) (by lia)
   refine wpS_bind (Ls c ap b (by lia) (by lia) (show i-1≠i by lia) ?_)
   dsimp only
   rw[if_pos (decide_eq_true (show rk r (arrOf st) (i-1)<rk r (arrOf st) i by lia))]
   exact wpS_pure (h i hi (by lia) di)
 ·rintro _ _ ⟨rfl,rfl,di⟩
  rw[show max a m=m by lia]at di⊢
  exact h m ham (aN _) di
theorem UM(c:Cm prog w A s κ r a₀)(ap:Ap r a₀)(b:SB κ a₀ st)(h1:1<=a₀.size){Q:Option Nat->SortSt->Prop}
  (h:∀n st',SB κ a₀ st'->n<=a₀.size->Ri r (arrOf st') n->Q (some n) st'):wpS (model prog w) A E s (countRun' 0 a₀.size) Q st:=by
 rw[countRun0_eq]
 refine wpS_bind (OV c ap b (aN _) (aN _) h1 (λi j ij j1=>by rw[show i=j by lia];exact cN _) λn n1 nm un fall=> ?_)
 dsimp only
 by_cases e:n=a₀.size
 ·rw[if_pos (by simpa using e)]
  exact wpS_pure (h n _ b nm un)
 ·rw[if_neg (by simpa using e)]
  by_cases e1:n>1
  ·rw[if_pos e1]
   refine wpS_bind (Ls c ap b (by lia) (by omega) (show 0≠n-1 by omega) ?_)
   dsimp only
   have ne:=Qt (ap.of b.pm) (show 0<(arrOf st).size by rw[b.sz];lia) (show n-1<(arrOf st).size by rw[b.sz];omega) (by omega)
   have le:=un 0 (n-1) (by lia) (by omega)
   rw[if_pos (decide_eq_true (show rk r (arrOf st) 0<rk r (arrOf st) (n-1) by lia))]
   exact wpS_pure (h n _ b nm un)
  ·rw[if_neg e1]
   have e2:n=1:=by lia
   subst e2
   unfold descPart
   refine wpS_bind (wpS_lift (wpAny_rule ⟨rfl,?_⟩))
   have z:=fall (by lia)
   refine wpS_bind (Rr c ap b (aN _) (by decide) (by lia) (λi j ij j2=>by rw[show i=0 by lia,show j=1 by lia];exact z) λn n1 nm dn=> ?_)
   dsimp only
   rw[if_neg (by lia)]
   unfold tail3
   rw[reverseSlice'_eq]
   refine wpS_bind (wpS_modify (wpS_bind ?_))
   have pm:=mirror_perm (arrOf st) 0 n ((n-0)/2)
   have e:∀k,k<n->rk r (mirror (arrOf st) 0 n ((n-0)/2)) k=rk r (arrOf st) (n-1-k):=λk hk=>by
    have q:=getElem?_mirror_all (xs:=arrOf st) (i:=0) (j:=n) (by rw[b.sz];exact nm) k
    rw[if_pos ⟨b7 _,hk⟩,h_]at q
    exact FA q
   refine OV c ap (b.set pm) (aN _) (by lia) nm (λi j ij jn=> ?_) λn' _ nm' un' _=> ?_
   ·show rk r (mirror (arrOf st) 0 n ((n-0)/2)) i<=rk r (mirror (arrOf st) 0 n ((n-0)/2)) j
    rw[e i (by lia),e j jn]
    by_cases e2:i=j
    ·subst e2;exact cN _
    ·exact Int.le_of_lt (dn _ _ (by lia) (by omega))
   ·exact wpS_pure (h n' _ (b.set pm) nm' un')
theorem TB(c:Cm prog w A s κ r a₀)(ap:Ap r a₀)(b:SB κ a₀ st){ok:Nat}(lB:ok<=a₀.size)(up:Ri r (arrOf st) ok){Q:Bool->SortSt->Prop}
  (h:∀st',SB κ a₀ st'->Ri r (arrOf st') a₀.size->Q true st'):wpS (model prog w) A E s (binarySort' 0 a₀.size ok) Q st:=by
 rw[binarySort'_eq]
 simp only[h_]
 refine wpS_bind (wpS_forRange (I:=λk c st'=>c=(none,())/\SB κ a₀ st'/\Ri r (arrOf st') (min k a₀.size)) (Q:=λc st'=>wpS _ _ _ _ _ Q st') ?_ ?_ ⟨rfl,b,λi j ij jl=> ?_⟩)
 ·rintro k _ st' hk hkn ⟨rfl,b',u'⟩
  rw[fm (dW hkn)]at u'
  have ks:k<(arrOf st').size:=by rw[b'.sz];exact hkn
  refine wpS_bind (wpS_mono (wpS_forRange (Q:=λc st''=>st'=st''/\∃lo hi,c=(none,lo,hi)/\lo<=k/\(∀i,i<lo->rk r (arrOf st') i<=rk r (arrOf st') k)/\∀i,lo<=i->i<k->rk r (arrOf st') k<=rk r (arrOf st') i) (I:=λx c st''=>st'=st''/\∃lo hi,c=(none,lo,hi)/\lo<=hi/\hi<=k/\hi-lo<=k-x/\(∀i,i<lo->rk r (arrOf st') i<=rk r (arrOf st') k)/\∀i,hi<=i->i<k->rk r (arrOf st') k<=rk r (arrOf st') i) ?_ ?_ ⟨rfl,0,k,rfl,b7 _,aN _,by lia,λi z=>absurd z (cP _),λi z1 z2=>by lia⟩) ?_)
  ·rintro x _ _ _ hx ⟨rfl,lo,hi,rfl,l1,l2,l3,f1,f2⟩
   dsimp only
   by_cases g:lo>=hi
   ·rw[if_pos g]
    exact wpS_pure ⟨rfl,lo,hi,rfl,by lia,f1,λi i1 i2=>f2 i (by lia) i2⟩
   ·rw[if_neg g]
    refine wpS_bind (Ls c ap b' hkn (by lia) (show k≠(lo+hi)/2 by lia) ?_)
    dsimp only
    by_cases z:rk r (arrOf st') k<rk r (arrOf st') ((lo+hi)/2)
    ·rw[if_pos (decide_eq_true z)]
     exact wpS_pure ⟨rfl,lo,_,rfl,by lia,by lia,by omega,f1,λi i1 i2=>hE (Int.le_of_lt z) (u' _ _ i1 i2)⟩
    ·rw[if_neg (by simpa using z)]
     exact wpS_pure ⟨rfl,_,hi,rfl,by lia,by omega,by omega,λi i1=>hE (u' i ((lo+hi)/2) (by lia) (by lia)) (by lia),f2⟩
  ·rintro _ _ ⟨rfl,lo,hi,rfl,l1,l2,l3,f1,f2⟩
   exact⟨rfl,lo,hi,rfl,by lia,f1,λi i1 i2=>f2 i (by lia) i2⟩
  ·rintro _ _ ⟨rfl,lo,hi,rfl,l1,f1,f2⟩
   dsimp only
   rw[moveDown'_eq]
   refine wpS_bind (wpS_modify (wpS_pure ⟨rfl,b'.set (bubble_perm _ _ _),λi j ij jk=> ?_⟩))
   have bb:∀x,rk r (bubble (arrOf st') k (k-lo)) x=if x=lo then rk r (arrOf st') k else if lo<x/\x<=k then rk r (arrOf st') (x-1) else rk r (arrOf st') x:=λx=>by
    have q:=getElem?_bubble ks (k-lo) (by lia) x
    rw[show k-(k-lo)=lo by lia]at q
    by_cases c1:x=lo
    ·rw[if_pos c1]at q⊢;exact FA q
    ·rw[if_neg c1]at q⊢
     by_cases c2:lo<x/\x<=k
     ·rw[if_pos c2]at q⊢;exact FA q
     ·rw[if_neg c2]at q⊢;exact FA q
   show rk r (bubble (arrOf st') k (k-lo)) i<=rk r (bubble (arrOf st') k (k-lo)) j
   rw[bb,bb]
   have jk':j<k+1:=by lia
   by_cases i1:i<lo
   ·rw[if_neg (by lia),if_neg (by lia)]
    by_cases j1:j=lo
    ·rw[if_pos j1];exact f1 i i1
    ·rw[if_neg j1]
     by_cases j2:lo<j/\j<=k
     ·rw[if_pos j2];exact u' _ _ (by lia) (by lia)
     ·rw[if_neg j2];exact u' _ _ ij (by lia)
   ·by_cases i2:i=lo
    ·rw[if_pos i2]
     by_cases j1:j=lo
     ·rw[if_pos j1];exact cN _
     ·rw[if_neg j1,if_pos (by lia)];exact f2 _ (by lia) (by lia)
    ·rw[if_neg i2,if_pos (by lia),if_neg (by lia),if_pos (by lia)]
     exact u' _ _ (by omega) (by lia)
 ·rintro _ st' ⟨rfl,b',u'⟩
  rw[show min (max (max ok 1) a₀.size) a₀.size=a₀.size by lia]at u'
  exact wpS_pure (h st' b' u')
 ·by_cases e:ok=0
  ·rw[show i=j by lia];exact cN _
  ·exact up i j ij (by lia)
theorem Sn(c:Cm prog w A s κ r a₀)(ap:Ap r a₀)(b:SB κ a₀ st)(h2:2<=a₀.size)(h64:a₀.size<64){Q:Unit->SortSt->Prop}
  (h:∀st',(arrOf st').Perm a₀->failedOf st'=none->Ri r (arrOf st') a₀.size->Q () st'):wpS (model prog w) A E s sortRuns' Q st:=by
 have mr:minRun' a₀.size a₀.size 0=a₀.size:=by
  obtain⟨f,hf⟩:=Nat.exists_eq_succ_of_ne_zero (show a₀.size≠0 by lia)
  have e:=minRun'_succ f a₀.size 0
  rw[if_pos h64]at e
  rw[show a₀.size=f+1 from hf]at e⊢
  exact e
 rw[sortRuns'_eq]
 refine wpS_bind (wpS_get ?_)
 simp only[b.sz,mr]
 have fin:∀st',SB κ a₀ st'->Ri r (arrOf st') a₀.size->(setPending st' ((pendingOf st').push (0,a₀.size,0)):SortSt)=setPending st' #[(0,a₀.size,0)]:=λst' b' _=>by rw[b'.pd];rfl
 refine wpS_bind (wpS_mono (wpS_forRange (Q:=λc st'=>c=(none,a₀.size)/\∃st2,SB κ a₀ st2/\Ri r (arrOf st2) a₀.size/\st'=setPending st2 #[(0,a₀.size,0)])
  (I:=λx c st'=>if x=0 then c=(none,0)/\SB κ a₀ st' else c=(none,a₀.size)/\∃st2,SB κ a₀ st2/\Ri r (arrOf st2) a₀.size/\st'=setPending st2 #[(0,a₀.size,0)]) ?_ ?_ (by rw[if_pos rfl];exact⟨rfl,b⟩)) ?_)
 ·intro x c' st' _ hx I
  by_cases x0:x=0
  ·subst x0
   rw[if_pos rfl]at I
   obtain⟨rfl,b'⟩:=I
   dsimp only
   rw[if_neg (by lia)]
   simp only[Nat.sub_zero,dt,h_]
   refine wpS_bind (UM c ap b' (by lia) λn st2 b2 n2 u2=> ?_)
   dsimp only
   by_cases z:n<a₀.size
   ·rw[if_pos z]
    refine wpS_bind (wpS_lift (wpAny_rule ⟨rfl,?_⟩))
    refine wpS_bind (TB c ap b2 n2 u2 λst3 b3 u3=> ?_)
    simp only[dG,aK,if_false]
    refine wpS_bind (wpS_get ?_)
    rw[show(pendingOf st3).back? =none by rw[b3.pd];rfl]
    dsimp only
    exact wpS_bind (wpS_modify (wpS_pure ⟨rfl,st3,b3,u3,fin st3 b3 u3⟩))
   ·rw[if_neg z]
    obtain rfl:n=a₀.size:=by lia
    refine wpS_bind (wpS_get ?_)
    rw[show(pendingOf st2).back? =none by rw[b2.pd];rfl]
    dsimp only
    exact wpS_bind (wpS_modify (wpS_pure ⟨rfl,st2,b2,u2,fin st2 b2 u2⟩))
  ·rw[if_neg x0]at I
   obtain⟨rfl,r⟩:=I
   dsimp only
   rw[if_pos (aN _)]
   exact wpS_pure ⟨rfl,r⟩
 ·intro c' st' I
  rw[if_neg (by lia)]at I
  exact I
 ·rintro _ _ ⟨rfl,st2,b2,u2,rfl⟩
  dsimp only
  refine wpS_bind (wpS_mono (wpS_forRange (Q:=λc st'=>c=(none,())/\setPending st2 #[(0,a₀.size,0)]=st') (I:=λ_ c st'=>c=(none,())/\setPending st2 #[(0,a₀.size,0)]=st') ?_ (λ_ _ z=>z) ⟨rfl,rfl⟩) ?_)
  ·rintro _ _ _ _ _ ⟨rfl,rfl⟩
   refine wpS_bind (wpS_get ?_)
   rw[if_pos (show(pendingOf (setPending st2 #[(0,a₀.size,0)])).size<=1 from aN 1)]
   exact wpS_pure ⟨rfl,rfl⟩
  ·rintro _ _ ⟨rfl,rfl⟩
   exact wpS_pure (h _ b2.pm b2.fl u2)
noncomputable def Kv (h:Heap) (r:Value->Int) (v:Value):Prop:=∃a i t u,v= .ref a/\h.IsTuple a #[.int i t,u]/\r v=i
theorem Kv.old{h h':Heap}{v:Value}(p:Kv h r v)(k:∀a o,h.get? a=some o->o.cls= .type "tuple"->h'.get? a=some o):Kv h' r v:=by
 obtain⟨a,i,t,u,e,⟨o,e1,e2,n,e3⟩,er⟩:=p
 exact⟨a,i,t,u,e,⟨o,k _ _ e1 e2,e2,n,e3⟩,er⟩
theorem Pn(v:Value):firstOfTuple' v=(do if (←typeOf v) != .type "tuple" then return none
                                              return (←eO v)[0]?):=rfl
theorem RM(b:Bool)(x y:Value):keyLt' (tuples' b) x y=(do
  let xs←eO x;let ys←eO y
  for ((p,q),i) in (xs.toList.zip ys.toList).zipIdx do
             if !(←eqBool p q) then return←oneLt' (b&&i==0) p q
  return xs.size<ys.size):=rfl
theorem Np{M:Model}{α β:Type}{f:α->Sem β}{G:β->Prop}:∀{vs:List α} {Q:Array β->Shared->Prop},(∀v∈vs,∃y,G y/\∀Q':β->Shared->Prop,Q' y s->wpAny M A (f v) Q' E s)->(∀ys:List β,ys.length=vs.length->(∀y∈ys,G y)->Q ys.toArray s)->wpAny M A (vs.toArray.mapM f) Q E s:=by
 have g:∀{vs:List α} {Q:List β->Shared->Prop},(∀v∈vs,∃y,G y/\∀Q':β->Shared->Prop,Q' y s->wpAny M A (f v) Q' E s)->(∀ys:List β,ys.length=vs.length->(∀y∈ys,G y)->Q ys s)->wpAny M A (vs.mapM f) Q E s:=by
  intro vs
  induction vs with
  |nil=>intro Q _ q;rw[List.mapM_nil];exact wpAny_pure (q [] rfl (λ_ z=>nomatch z))
  |cons v r ih=>
   intro Q h q
   rw[List.mapM_cons]
   obtain⟨y,gy,k⟩:=h v (aM ..)
   refine wpAny_bind (k _ (wpAny_bind (ih (λu hu=>h u (aP _ hu)) λys l g=>wpAny_pure (q (y::ys) (by simp[l]) λz hz=> ?_))))
   rcases List.mem_cons.mp hz with rfl|hz
   ·exact gy
   ·exact g z hz
 intro vs Q h q
 rw[List.mapM_toArray,←bind_pure_comp]
 exact wpAny_bind (g h λys l gg=>wpAny_pure (q ys l gg))
theorem Wi{vs:List Value}(ht:∀v∈vs,Kv s.heap r v):Cm prog w A s (tuples' true) r (pairsOf vs):=by
 intro E Q p q hp hq ne h
 have m:∀{p:Keyed},p∈(pairsOf vs).toList->p.1∈vs:=λ{p} hp=>by rw[pairsOf_toList]at hp;exact(fj (a:=p.1) (b:=p.2) hp).1
 obtain⟨a,i,t,u,ea,⟨o,o1,o2,n,o3⟩,er⟩:=ht _ (m hp)
 obtain⟨b,j,t',u',eb,⟨o',o1',o2',n',o3'⟩,er'⟩:=ht _ (m hq)
 rw[er,er']at h ne
 rw[RM,ea,eb]
 refine wpAny_bind (listItems_at o1 o3 (wpAny_bind (listItems_at o1' o3' ?_)))
 show wpAny _ _ (forIn [((dA i t,dA j t'),0),((u,u'),1)] _ _>>=_) _ _ _
 refine wpAny_bind ?_
 rw[iN]
 refine wpAny_bind (wpAny_bind (wpAny_eqBool_int ?_))
 rw[show(i==j)=false by simpa using ne]
 refine wpAny_bind (oneLt_int ?_)
 exact wpAny_pure (wpAny_pure (wpAny_pure h))
theorem Sa{vs:List Value}(h0:0<vs.length)(ht:∀v∈vs,Kv s.heap r v){Q:SortKind->Shared->Prop}(h:Q (tuples' true) s):wpAny (model prog w) A (keyKind' vs.toArray) Q E s:=by
 rw[keyKind'_eq]
 refine wpAny_bind (Np (G:=λy=>∃i t,y=some (dA i t)) (λv hv=> ?_) λys yl yg=> ?_)
 ·obtain⟨a,i,t,u,rfl,⟨o,o1,o2,n,o3⟩,er⟩:=ht v hv
  refine⟨some (.int i t),⟨i,t,rfl⟩,λQ' q=> ?_⟩
  rw[Pn]
  refine wpAny_bind (wpAny_typeOf_ref o1 ?_)
  rw[o2,if_neg (by decide)]
  exact wpAny_bind (listItems_at o1 o3 (wpAny_pure q))
 ·rw[if_pos (by rw[iD,eU];intro y hy;obtain⟨i,t,rfl⟩:=yg y hy;rfl)]
  refine wpAny_bind (wpAny_rule (wpAny_bind ?_))
  rw[oneTypeOnly'_eq,List.filterMap_toArray]
  have g2:∀x∈ys.filterMap id,∃i t,x=dA i t:=λx hx=>by
   obtain⟨y,hy,e⟩:=List.mem_filterMap.mp hx
   obtain⟨i,t,rfl⟩:=yg y hy
   cases e;exact⟨i,t,rfl⟩
  have l2:0<(ys.filterMap id).length:=by
   obtain⟨y,hy⟩:=fw (show 0<ys.length by lia)
   obtain⟨i,t,rfl⟩:=yg y hy
   exact gp (List.mem_filterMap.mpr ⟨_,hy,rfl⟩)
  refine wpAny_bind (Np (G:=λy=>y=dC "int") (λv hv=> ?_) λzs zl zg=> ?_)
  ·obtain⟨i,t,rfl⟩:=g2 v hv
   exact⟨_,rfl,λQ' q=>wpAny_typeOf (typeIs_int s i t) q⟩
  ·cases zs with
   |nil=>rw[aq]at zl;lia
   |cons z rr=>
    obtain rfl:=zg z (aM ..)
    show wpAny _ _ (pure (if ((dC "int"::rr).toArray.all λx=>x==dC "int")=true then some (dC "int") else none)) _ _ _
    rw[if_pos (by rw[iD,eU];intro y hy;rw[zg y hy];decide)]
    exact wpAny_pure (wpAny_pure h)
theorem QC{a:Addr}{vs:List Value}{n:Nat}{P:Fin->Shared->Prop}(ho:s.heap.get? a=some (seqObj "list" vs.toArray n))(ht:∀v∈vs,Kv s.heap r v)(nd:(vs.map r).Nodup)(h64:vs.length<64)
  (h:∀out:Array Value,out.toList.Perm vs->(out.toList.map r).Pairwise (·<=·)->P (.done (.ret .none)) {s with heap:=sortedHeap s.heap a vs out}):
  wpAny (model prog w) A (Builtin.«list.sort» ⟨[.ref a],[]⟩) P E s:=by
 have ha:=aV ho
 have hsz:vs.toArray.size=vs.length:=by simp
 obtain⟨e1,ho1⟩:∃e1,(s.heap.update a (c9 λ_=> #[])).get? a=some (seqObj "list" #[] e1):=⟨_,get?_update_seq ho (λ_=> #[])⟩
 rw[list_sort_plain]
 refine wpAny_bind (listItems_at ho rfl (wpAny_bind (listUpdate_at ho rfl (wpAny_bind (seqEpoch_at ho1 rfl (wpAny_bind (wpAny_newTuple (wpAny_bind (wpAny_newList (wpAny_holding ?_))))))))))
 have old:∀b o,s.heap.get? b=some o->b≠a->(((s.heap.update a (c9 λ_=> #[])).push (seqObj "tuple" vs.toArray 0)).push (seqObj "list" #[] 0)).get? b=some o:=λb o e nb=>aO _ (aO _ (by rw[gQ _ _ _ _ nb];exact e))
 have ho6:(((s.heap.update a (c9 λ_=> #[])).push (seqObj "tuple" vs.toArray 0)).push (seqObj "list" #[] 0)).get? a=some (seqObj "list" #[] e1):=aO _ (aO _ ho1)
 show wpAny (model prog w) A _ P E {s with heap:=((s.heap.update a (c9 λ_=> #[])).push (seqObj "tuple" vs.toArray 0)).push (seqObj "list" #[] 0)}
 have fin:∀xs:Array Keyed,xs.Perm (pairsOf vs)->Ri r xs (pairsOf vs).size->(xs.map (·.2)).toList.Perm vs/\((xs.map (·.2)).toList.map r).Pairwise (·<=·):=λxs pm up=>by
  have pl:=Array.perm_iff_toList_perm.mp pm
  rw[pairsOf_toList]at pl
  have e12:∀p∈xs.toList,p.2=p.1:=λp hp=>by
   obtain⟨i,hi,e⟩:=List.mem_iff_getElem.mp (pl.mem_iff.mp hp)
   rw[List.getElem_zip]at e
   rw[←e]
  refine⟨by rw[Array.toList_map];exact(pl.map _).trans (by rw[List.map_snd_zip (aN _)]),?_⟩
  rw[List.pairwise_iff_getElem]
  intro i j hi hj ij
  simp only[aj,fz,gB]at hi hj
  have q:=up i j (dW ij) (by rw[←pm.size_eq];exact hj)
  rw[IG hi,IG hj]at q
  simp only[dY,Array.getElem_toList,Array.getElem_map]
  rw[e12 xs[i] (by simp),e12 xs[j] (by simp)]
  exact q
 have ht6:∀v∈vs,Kv (((s.heap.update a (c9 λ_=> #[])).push (seqObj "tuple" vs.toArray 0)).push (seqObj "list" #[] 0)) r v:=λv hv=>(ht v hv).old λb o e c=>old b o e λz=>by rw[z,ho]at e;cases e;exact absurd (show dC "list"=dC "tuple" from c) (by decide)
 by_cases h2:vs.toArray.size<2
 ·rw[if_pos h2,if_pos h2]
  refine wpAny_bind (wpAny_pure ?_)
  dsimp only
  rw[StateT.run_pure]
  refine wpAny_bind (wpAny_pure (wpAny_bind (seqEpoch_at ho6 rfl (wpAny_bind (listUpdate_at ho6 rfl ?_ (hsz2:=by rw[gB];show(pairsOf vs).size<=_;rw[pairsOf_size,sizeLine_eq];lia))))))
  simp only[bne_self_eq_false,aK,if_false]
  obtain⟨f1,f2⟩:=fin (pairsOf vs) (iK _) λi j ij jl=>by rw[show i=j by rw[pairsOf_size]at jl;lia];exact cN _
  exact wpAny_pure (h _ f1 f2)
 ·rw[if_neg h2,if_neg h2]
  refine wpAny_bind (Sa (r:=r) (by lia) ht6 (wpAny_bind (wpAny_mono (Sn (κ:=tuples' true) (r:=r) (a₀:=pairsOf vs) (Q:=λ_ st'=>(arrOf st').Perm (pairsOf vs)/\failedOf st'=none/\Ri r (arrOf st') (pairsOf vs).size) (Wi ht6) ?_ ⟨iK _,rfl,rfl,rfl⟩ (by rw[pairsOf_size];lia) (by rw[pairsOf_size];exact h64) λst' a1 a2 a3=>⟨a1,a2,a3⟩) ?_ λ_ _ e=>e)))
  ·show((pairsOf vs).toList.map _).Nodup
   rw[pairsOf_toList,show(λp:Keyed=>r p.1)=r∘aJ from rfl,←bU,List.map_fst_zip (aN _)]
   exact nd
  rintro⟨⟨⟩,st'⟩ _ ⟨rfl,pm,hf,up⟩
  refine wpAny_bind (seqEpoch_at ho6 rfl (wpAny_bind (listUpdate_at ho6 rfl ?_ (hsz2:=by refine aW (hX ((gB ..).trans (pm.size_eq.trans (pairsOf_size _)))) ?_;rw[sizeLine_eq];lia))))
  dsimp only
  rw[hf]
  simp only[bne_self_eq_false,aK,if_false]
  obtain⟨f1,f2⟩:=fin _ pm up
  exact wpAny_pure (h _ f1 f2)
theorem MF{l:Addr}{vs:List Value}{Q:Value->Shared->Prop}(hl:s.heap.IsList l vs.toArray)(ht:∀v∈vs,Kv s.heap r v)(nd:(vs.map r).Nodup)(h64:vs.length<64)
  (h:∀out:Array Value,out.toList.Perm vs->(out.toList.map r).Pairwise (·<=·)->Q (.ref (s.heap.objs.size+1)) {s with heap:=sortedAll s.heap vs out}):
  wpAny (model prog w) A (call (.builtin "sorted") [.ref l]) Q E s:=by
 refine fS kind_sorted plain_sorted entry_sorted (args_sorted1 _) (show wpAny _ _ (Builtin.«sorted» _) _ _ _ from ?_)
 unfold Builtin.«sorted»
 refine wpAny_bind (m:=checkCount "sorted" 1 1 _) (wpAny_pure (wpAny_bind (collect_list hl (wpAny_bind (wpAny_newList ?_)))))
 have z:((s.heap.push (seqObj "list" #[] 0)).update s.heap.objs.size (c9 (·++vs.toArray))).objs.size=s.heap.objs.size+1:=(Heap.size_update ..).trans (size_push' ..)
 have at':(((s.heap.push (seqObj "list" #[] 0)).update s.heap.objs.size (c9 (·++vs.toArray))).push (seqObj "list" vs.toArray 0)).get? (s.heap.objs.size+1)=some (seqObj "list" vs.toArray 0):=z▸bT _ rfl
 show wpAny _ _ _ _ _ ({s with heap:=((s.heap.push (seqObj "list" #[] 0)).update s.heap.objs.size (c9 (·++vs.toArray))).push (seqObj "list" vs.toArray 0)}:Shared)
 rw[z]
 refine wpAny_bind (wpAny_holding (wpAny_call_entry slot_list_sort ⟨_,at',rfl⟩ entry_list_sort (QC (r:=r) at' (λv hv=>(ht v hv).old λb o e c=>aO _ ?_) nd h64 λout f1 f2=>⟨_,rfl,wpAny_pure ⟨_,rfl,h out f1 f2⟩⟩) (args_list_sort _)))
 rw[gQ _ _ _ _ (bh (aV e))]
 exact aO _ e
end
section
variable{X:Cx}
noncomputable def FW:List V->Hp->VK->Prop:=λxs H Q=>∃(a:Addr) (ys:List Addr),xs=[.ref a]/\H a=some (.lst (ys.map V.ref))/\ys.length<64/\∃ps:Addr->Int×Int,(∀y∈ys,H y=some (.tup [.int (ps y).1,.int (ps y).2]))/\(ys.map λy=>(ps y).1).Nodup/\
 ∀(zs:List Addr) (l:Addr),H l=none->zs.Perm ys->(zs.map λy=>(ps y).1).Pairwise (·<=·)->Q (.ref l) (upd H l (.lst (zs.map V.ref)))
theorem IM:∀{ys:List Addr} {vs:List Value},Vals (ys.map V.ref) vs->vs=ys.map bj
 | [],_,.nil=>rfl
 |y::r,_::_,.cons h t=>by cases (show _=bj y from h);rw[IM t];rfl
theorem IF:∀{ys:List Addr},Vals (ys.map V.ref) (ys.map bj)
 | []=> .nil
 |y::r=> .cons rfl IF
theorem NW:sT X (.builtin "sorted") FW:=by
 intro pins s σ H xs us Q I r h
 obtain⟨a,ys,rfl,ea,yl,ps,hp,nd,h⟩:=h
 obtain⟨u,rfl,rx⟩:=vals1 r
 cases (show u=bj a from rx)
 obtain⟨its,rv,pl,hz⟩:=I.list (lT.of ea)
 obtain rfl:=IM rv
 have ez:∀zs:List Addr,(zs.map bj).map (λv=>match v with| .ref y=>(ps y).1|_=>0)=zs.map λy=>(ps y).1:=λzs=>by rw[bU];rfl
 refine MF (r:=λv=>match v with| .ref y=>(ps y).1|_=>0) pl.isList (λv hv=> ?_) (by rw[ez];exact nd) (by rw[aj];exact yl) λout f1 f2=> ?_
 ·obtain⟨y,hy,rfl⟩:=List.mem_map.mp hv
  obtain⟨its,rv,p,_⟩:=I.tuple (.inl (.inl (hp y hy)))
  obtain⟨u1,u2,rfl,r1,r2⟩:=rv.two
  obtain⟨t,rfl⟩:=r1
  exact⟨y,_,t,u2,rfl,p,rfl⟩
 ·obtain⟨zs,e,pm⟩:∃zs:List Addr,out.toList=zs.map bj/\zs.Perm ys:=by
   refine⟨out.toList.map λv=>match v with| .ref y=>y|_=>0,?_,?_⟩
   ·rw[bU]
    refine(cZ (g:=id) λv hv=> ?_).trans (gq _)|>.symm
    obtain⟨y,_,rfl⟩:=List.mem_map.mp (f1.mem_iff.mp hv)
    rfl
   ·have:=f1.map λv=>match v with| .ref y=>y|_=>0
    rw[bU]at this
    exact this.trans (by rw[show((λv:Value=>match v with| .ref y=>y|_=>0)∘bj)=id from rfl,gq])
  have hf:H (s.heap.objs.size+1)=none:=I.lB.fresh (fG _)
  obtain⟨en,he⟩:=sortedAll_at s.heap (ys.map bj) out
  refine⟨.ref (s.heap.objs.size+1),_,I.laid (t':=s.toks) (λb o e=>sortedAll_old e) (fG _) (show mQ X.prog X.w _ _ _ (.lst (zs.map V.ref)) from⟨by rw[aj,pm.length_eq];exact aW (dW yl) (by decide),out.toList,en,by rw[e];exact IF,by simpa using he⟩),rfl,h zs _ hf pm ?_⟩
  rw[e,ez]at f2
  exact f2
theorem K6:Br X (.builtin "sorted") FW:=⟨NW⟩
end
end L2
namespace K12
open PySem L2
noncomputable def top (i:Nat):Stmt:=PySem.Challenge.pw_cellkeep_k12_whole_young.main.body.getD i (.Pass ⟨0,0,0,0⟩)
noncomputable abbrev Cj:Stmt:=top 12
noncomputable abbrev zf:Stmt:=inClass (top 58) 0
noncomputable abbrev zh:Stmt:=inClass (top 58) 1
noncomputable abbrev zj:Stmt:=inClass (top 58) 2
noncomputable abbrev xH:Stmt:=inClass (top 58) 6
noncomputable abbrev y7:Stmt:=inClass (top 64) 1
noncomputable abbrev AH:Stmt:=inClass (top 66) 0
noncomputable abbrev xC:Stmt:=inClass (top 66) 4
noncomputable abbrev y9:Stmt:=inClass (top 66) 5
noncomputable abbrev AJ:Stmt:=inClass (top 69) 3
noncomputable abbrev zd:Stmt:=inClass (top 71) 0
noncomputable abbrev rN:Stmt:=inClass (top 71) 2
noncomputable abbrev AL:Stmt:=inClass (top 73) 0
noncomputable abbrev vC:Stmt:=inClass (top 73) 5
noncomputable abbrev Ei:Stmt:=top 77
noncomputable abbrev zp:Stmt:=top 78
noncomputable abbrev zo:Stmt:=top 80
noncomputable abbrev vD:Stmt:=top 85
noncomputable abbrev AS:Stmt:=top 13
noncomputable abbrev zi:Stmt:=inClass (top 58) 5
noncomputable abbrev AR:Stmt:=top 18
noncomputable abbrev Ci:Stmt:=top 19
noncomputable abbrev zw:Stmt:=top 29
noncomputable abbrev Ej:Stmt:=top 40
noncomputable abbrev My:Stmt:=top 41
noncomputable abbrev xE:Stmt:=inClass (top 56) 0
noncomputable abbrev rn:Stmt:=inClass (top 56) 4
noncomputable abbrev pQ:Stmt:=inClass (top 56) 5
noncomputable abbrev AK:Stmt:=inClass (top 58) 4
noncomputable abbrev zc:Stmt:=inClass (top 69) 0
noncomputable abbrev tK:Stmt:=inClass (top 69) 4
noncomputable abbrev EW:Stmt:=inClass (top 71) 4
noncomputable abbrev xN:Stmt:=top 20
noncomputable abbrev zv:Stmt:=top 21
noncomputable abbrev Mz:Stmt:=top 24
noncomputable abbrev xF:Stmt:=inClass (top 56) 1
noncomputable abbrev xD:Stmt:=inClass (top 56) 3
noncomputable abbrev xK:Stmt:=top 22
noncomputable abbrev zt:Stmt:=top 23
noncomputable abbrev JV:Stmt:=top 25
noncomputable abbrev wt:Stmt:=inClass (top 56) 2
noncomputable abbrev y8:Stmt:=inClass (top 64) 0
noncomputable abbrev y_:Stmt:=inClass (top 66) 1
noncomputable abbrev Cd:Stmt:=inClass (top 66) 3
noncomputable abbrev AI:Stmt:=inClass (top 69) 2
noncomputable abbrev DC:Stmt:=inClass (top 71) 3
noncomputable abbrev EY:Stmt:=inClass (top 73) 3
noncomputable abbrev EX:Stmt:=inClass (top 73) 4
noncomputable abbrev ze:Stmt:=inClass (top 75) 0
noncomputable abbrev AQ:Stmt:=top 38
noncomputable abbrev xI:Stmt:=top 39
noncomputable abbrev xJ:Stmt:=top 51
noncomputable abbrev Ce:Stmt:=inClass (top 66) 2
noncomputable abbrev AO:Stmt:=top 79
noncomputable abbrev Qy:Stmt:=top 30
noncomputable abbrev Ck:Stmt:=top 31
noncomputable abbrev GN:Stmt:=top 32
noncomputable abbrev MB:Stmt:=top 36
noncomputable abbrev Ek:Stmt:=top 37
noncomputable abbrev Cf:Stmt:=top 82
noncomputable abbrev AM:Stmt:=top 83
noncomputable abbrev Cn:Stmt:=top 33
noncomputable abbrev Mx:Stmt:=top 34
noncomputable abbrev xM:Stmt:=top 35
noncomputable abbrev JU:Stmt:=top 44
noncomputable abbrev uI:Stmt:=top 87
noncomputable abbrev GO:Stmt:=top 43
noncomputable abbrev zu:Stmt:=top 53
noncomputable abbrev xG:Stmt:=inClass (top 58) 8
noncomputable abbrev uq:Stmt:=inClass (top 64) 5
noncomputable abbrev wu:Stmt:=inClass (top 75) 2
noncomputable abbrev zr:Stmt:=top 50
noncomputable abbrev tJ:Stmt:=inClass (top 64) 3
noncomputable abbrev u_:Stmt:=inClass (top 64) 4
noncomputable abbrev u4:Stmt:=top 86
noncomputable abbrev MA:Stmt:=top 49
noncomputable abbrev AN:Stmt:=top 81
noncomputable abbrev AU:Stmt:=top 48
noncomputable abbrev zm:Stmt:=top 84
noncomputable abbrev Cg:Stmt:=top 47
noncomputable abbrev o9:Stmt:=top 46
noncomputable abbrev oj:Stmt:=top 88
noncomputable abbrev EZ:Stmt:=top 89
theorem uK{s t:TS}{D:Ends}{σ:St}{H:Hp}(P:St->Hp->Prop)(h1:∀R:St->Hp->Prop,(∀σ' H',P σ' H'->R σ' H')->s {D with nx:=R} σ H)(h2:∀σ' H',P σ' H'->t D σ' H'):kN s t D σ H:=h1 (t D) h2
noncomputable def cat (ns:List Int) (k:Int):Int:=ns.getD k.toNat 0
theorem OW{ns:List Int}{k:Int}(h0:0<=k)(h:k<(ns.map V.int).length):yy (ns.map V.int) k=some (.int (cat ns k)):=by
 obtain⟨n,rfl⟩:∃n:Nat,k=n:=⟨k.toNat,by lia⟩
 rw[aj]at h
 refine ko ?_
 rw[aT,af (by lia)]
 simp only[cat,bB,f_,au,af (show n<ns.length by lia),fX]
theorem Ro{ns:List Int}{k:Int}(h0:0<=k)(h:¬k<(ns.map V.int).length):cat ns k=0:=by
 rw[aj]at h
 unfold cat
 rw[au,cK (by lia)]
 rfl
theorem jw{s t:TS}{D:Ends}{σ:St}{H:Hp}(P:St->Hp->Prop)(h1:∀R:St->Hp->Prop,(∀σ' H',P σ' H'->R σ' H')->s {D with nx:=R} σ H)(h2:∀G:St->Hp->Prop,G=t D->∀σ' H',P σ' H'->G σ' H'):kN s t D σ H:=h1 (t D) (h2 (t D) rfl)
theorem lA.enum{K:aC}{a:Addr}{xs:List V}{g:TG}{tb:TS}{D:Ends}{σ:St}{H:Hp}(Pv:Nat->St->Hp->Prop)(h0:Pv 0 σ H)(hl:∀i σ H,i<=xs.length->Pv i σ H->lT K H a xs)
  (hs:∀(i:Nat) x σ H p,xs[i]? =some x->Pv i σ H->H p=none->∀R:St->Hp->Prop,(∀σ' H',Pv (i+1) σ' H'->R σ' H')->g (.ref p) σ (upd H p (.tup [.int i,x])) λσ2 H2=>tb {D with nx:=R,ct:=R,bk:=D.nx} σ2 H2) (hd:∀σ H,Pv xs.length σ H->D.nx σ H):lA (Wv K a) g tb D σ H:=by
 refine⟨λi m σ H=>Pv i σ H/\i<=xs.length/\m=xs.length-i,⟨_,h0,b7 _,rfl⟩,λi m σ H ⟨hP,hi,hm⟩=> ?_⟩
 have sa:=hl i σ H hi hP
 by_cases z:i<xs.length
 ·refine .inr ⟨⟨xs,_,sa,af z⟩,Pv (i+1),λσ' H' hN=>⟨xs.length-(i+1),by omega,hN,z,rfl⟩,?_⟩
  rintro x H' ⟨p,y,hp,rfl,rfl,hy⟩
  exact hs i y σ H p (hy xs sa) hP hp _ λ_ _ h=>h
 ·obtain rfl:i=xs.length:=by lia
  exact .inl ⟨⟨xs,sa,aN _⟩,hd σ H hP⟩
theorem lA.XC{K:aC}{a b:Addr}{xs ys:List V}{g:TG}{tb:TS}{D:Ends}{σ:St}{H:Hp}(Pv:Nat->St->Hp->Prop)(hlen:xs.length=ys.length)(h0:Pv 0 σ H)(hl:∀i σ H,i<=xs.length->Pv i σ H->lT K H a xs/\lT K H b ys)
  (hs:∀i x y σ H p,xs[i]? =some x->ys[i]? =some y->Pv i σ H->H p=none->∀R:St->Hp->Prop,(∀σ' H',Pv (i+1) σ' H'->R σ' H')->g (.ref p) σ (upd H p (.tup [x,y])) λσ2 H2=>tb {D with nx:=R,ct:=R,bk:=D.nx} σ2 H2) (hd:∀σ H,Pv xs.length σ H->D.nx σ H):lA (Vc K a b) g tb D σ H:=
 lA.zip Pv hlen h0 hl (λi x y σ H p hx hy hP hp=>hs i x y σ H p hx hy hP hp _ λ_ _ h=>h) hd
theorem Pe{xs:List V}{k:Nat}(h:k<=xs.length):DZ xs (some (k:Int)) none=xs.drop k:=by
 unfold DZ
 rw[HT.JR,HT.Qx,fm h,gu (by rw[eV];lia)]
theorem Jj{tc:TT}{t u:TS}{D:Ends}{σ:St}{H:Hp}(h:∀K:Bool->Hp->Prop,K true H->tc σ H K)(ht:t D σ H):kZ tc t u D σ H:=h _ (by rw[if_pos rfl];exact ht)
theorem Io{tc:TT}{t u:TS}{D:Ends}{σ:St}{H:Hp}(h:∀K:Bool->Hp->Prop,K false H->tc σ H K)(ht:u D σ H):kZ tc t u D σ H:=h _ (by rw[if_neg (by intro z;cases z)];exact ht)
inductive C3 (p0 p1 p2:Prop):Prop
 |mk (h0:p0) (h1:p1) (h2:p2):C3 p0 p1 p2
inductive C4 (p0 p1 p2 p3:Prop):Prop
 |mk (h0:p0) (h1:p1) (h2:p2) (h3:p3):C4 p0 p1 p2 p3
inductive C5 (p0 p1 p2 p3 p4:Prop):Prop
 |mk (h0:p0) (h1:p1) (h2:p2) (h3:p3) (h4:p4):C5 p0 p1 p2 p3 p4
inductive C6 (p0 p1 p2 p3 p4 p5:Prop):Prop
 |mk (h0:p0) (h1:p1) (h2:p2) (h3:p3) (h4:p4) (h5:p5):C6 p0 p1 p2 p3 p4 p5
inductive C7 (p0 p1 p2 p3 p4 p5 p6:Prop):Prop
 |mk (h0:p0) (h1:p1) (h2:p2) (h3:p3) (h4:p4) (h5:p5) (h6:p6):C7 p0 p1 p2 p3 p4 p5 p6
inductive C8 (p0 p1 p2 p3 p4 p5 p6 p7:Prop):Prop
 |mk (h0:p0) (h1:p1) (h2:p2) (h3:p3) (h4:p4) (h5:p5) (h6:p6) (h7:p7):C8 p0 p1 p2 p3 p4 p5 p6 p7
inductive C9 (p0 p1 p2 p3 p4 p5 p6 p7 p8:Prop):Prop
 |mk (h0:p0) (h1:p1) (h2:p2) (h3:p3) (h4:p4) (h5:p5) (h6:p6) (h7:p7) (h8:p8):C9 p0 p1 p2 p3 p4 p5 p6 p7 p8
inductive Wu (p0 p1 p2 p3 p4 p5 p6 p7 p8 p9:Prop):Prop
 |mk (h0:p0) (h1:p1) (h2:p2) (h3:p3) (h4:p4) (h5:p5) (h6:p6) (h7:p7) (h8:p8) (h9:p9):Wu p0 p1 p2 p3 p4 p5 p6 p7 p8 p9
inductive WL (p0 p1 p2 p3 p4 p5 p6 p7 p8 p9 p10:Prop):Prop
 |mk (h0:p0) (h1:p1) (h2:p2) (h3:p3) (h4:p4) (h5:p5) (h6:p6) (h7:p7) (h8:p8) (h9:p9) (h10:p10):WL p0 p1 p2 p3 p4 p5 p6 p7 p8 p9 p10
inductive XD (p0 p1 p2 p3 p4 p5 p6 p7 p8 p9 p10 p11:Prop):Prop
 |mk (h0:p0) (h1:p1) (h2:p2) (h3:p3) (h4:p4) (h5:p5) (h6:p6) (h7:p7) (h8:p8) (h9:p9) (h10:p10) (h11:p11):XD p0 p1 p2 p3 p4 p5 p6 p7 p8 p9 p10 p11
inductive XE (p0 p1 p2 p3 p4 p5 p6 p7 p8 p9 p10 p11 p12 p13:Prop):Prop
 |mk (h0:p0) (h1:p1) (h2:p2) (h3:p3) (h4:p4) (h5:p5) (h6:p6) (h7:p7) (h8:p8) (h9:p9) (h10:p10) (h11:p11) (h12:p12) (h13:p13):XE p0 p1 p2 p3 p4 p5 p6 p7 p8 p9 p10 p11 p12 p13
inductive Y2 {t0:Type} {t1:Type} (p:t0->t1->Prop):Prop
 |mk (x0:t0) (x1:t1) (h:p x0 x1):Y2 p
inductive Y3 {t0:Type} {t1:Type} {t2:Type} (p:t0->t1->t2->Prop):Prop
 |mk (x0:t0) (x1:t1) (x2:t2) (h:p x0 x1 x2):Y3 p
inductive Y4 {t0:Type} {t1:Type} {t2:Type} {t3:Type} (p:t0->t1->t2->t3->Prop):Prop
 |mk (x0:t0) (x1:t1) (x2:t2) (x3:t3) (h:p x0 x1 x2 x3):Y4 p
inductive Y5 {t0:Type} {t1:Type} {t2:Type} {t3:Type} {t4:Type} (p:t0->t1->t2->t3->t4->Prop):Prop
 |mk (x0:t0) (x1:t1) (x2:t2) (x3:t3) (x4:t4) (h:p x0 x1 x2 x3 x4):Y5 p
inductive Y6 {t0:Type} {t1:Type} {t2:Type} {t3:Type} {t4:Type} {t5:Type} (p:t0->t1->t2->t3->t4->t5->Prop):Prop
 |mk (x0:t0) (x1:t1) (x2:t2) (x3:t3) (x4:t4) (x5:t5) (h:p x0 x1 x2 x3 x4 x5):Y6 p
inductive Y7 {t0:Type} {t1:Type} {t2:Type} {t3:Type} {t4:Type} {t5:Type} {t6:Type} (p:t0->t1->t2->t3->t4->t5->t6->Prop):Prop
 |mk (x0:t0) (x1:t1) (x2:t2) (x3:t3) (x4:t4) (x5:t5) (x6:t6) (h:p x0 x1 x2 x3 x4 x5 x6):Y7 p
inductive Y9 {t0:Type} {t1:Type} {t2:Type} {t3:Type} {t4:Type} {t5:Type} {t6:Type} {t7:Type} {t8:Type} (p:t0->t1->t2->t3->t4->t5->t6->t7->t8->Prop):Prop
 |mk (x0:t0) (x1:t1) (x2:t2) (x3:t3) (x4:t4) (x5:t5) (x6:t6) (x7:t7) (x8:t8) (h:p x0 x1 x2 x3 x4 x5 x6 x7 x8):Y9 p
inductive XM {t0:Type} {t1:Type} {t2:Type} {t3:Type} {t4:Type} {t5:Type} {t6:Type} {t7:Type} {t8:Type} {t9:Type} {t10:Type} (p:t0->t1->t2->t3->t4->t5->t6->t7->t8->t9->t10->Prop):Prop
 |mk (x0:t0) (x1:t1) (x2:t2) (x3:t3) (x4:t4) (x5:t5) (x6:t6) (x7:t7) (x8:t8) (x9:t9) (x10:t10) (h:p x0 x1 x2 x3 x4 x5 x6 x7 x8 x9 x10):XM p
noncomputable def N9:V->Bool
 | .int _=>true
 |_=>false
noncomputable def WE:V->Bool
 | .bl _=>true
 |_=>false
noncomputable def Kn (H:Hp):V->Prop
 | .kG=>True
 | .bl _=>True
 | .int _=>True
 | .str _=>True
 | .ref a=>(∃xs,H a=some (.lst xs))∨(∃xs,H a=some (.tup xs))∨∃kvs,H a=some (.dK kvs)
 |_=>False
theorem Kn.same{H H':Hp}{v:V}(s:jD H H')(h:Kn H v):Kn H' v:=by
 cases v with
 |ref a=>
  rcases h with ⟨xs,e⟩|⟨xs,e⟩|⟨xs,e⟩
  ·exact .inl ⟨xs,s _ _ e⟩
  ·exact .inr (.inl ⟨xs,s _ _ e⟩)
  ·exact .inr (.inr ⟨xs,s _ _ e⟩)
 |_=>exact h
noncomputable def wi (v:V) (a b:Int):Bool:=match v with
 | .int i=>decide (a<=i)&&decide (i<=b)
 |_=>false
theorem E3{i a b:Int}(h1:a<=i)(h2:i<=b):wi (.int i) a b=true:=by simp[wi,h1,h2]
noncomputable def iv:V->Int
 | .int i=>i
 |_=>0
noncomputable def kd (v:V):Option Str:=match v with
 | .int w=>if w= -1 then some "nothing" else if w%2=0/\wi (.int (w/2)) (-1000000000000) 1000000000000=true then some "number" else if w%2=1/\wi (.int (w/2)) 0 9999=true then some "place" else none
 |_=>none
noncomputable def wo (v:V):V:=match v with
 | .int w=>if w= -1 then .kG else .int (w/2)
 |_=> .kG
theorem sN{i:Int}:kd (.int i)=if i= -1 then some (bg "nothing") else if i%2=0/\ -2000000000000<=i/\i<=2000000000000 then some (bg "number") else if i%2=1/\1<=i/\i<=19999 then some (bg "place") else none:=by
 have e1:(i%2=0/\wi (.int (i/2)) (-1000000000000) 1000000000000=true)↔(i%2=0/\ -2000000000000<=i/\i<=2000000000000):=by
  simp only[wi,aQ,decide_eq_true_eq];constructor<;>intro h<;>lia
 have e2:(i%2=1/\wi (.int (i/2)) 0 9999=true)↔(i%2=1/\1<=i/\i<=19999):=by
  simp only[wi,aQ,decide_eq_true_eq];constructor<;>intro h<;>lia
 simp only[kd,e1,e2]
theorem TJ{i:Int}:N9 (.int i)=true:=rfl
theorem XT{H:Hp}{i:Int}:Kn H (.int i)=True:=rfl
theorem Rz{v:V}(h:N9 v=true):∃i,v= .int i:=by cases v<;>first|exact⟨_,rfl⟩|cases h
noncomputable def Pl (v:V):Prop:=∀H,Kn H v
theorem Q2{ws:List Int}{i:Int}(h0:0<=i)(h1:i<=ws.length-1):yy (ws.map V.int) i=some (.int (ws.getD i.toNat 0)):=by
 rw[Ta h0 (by rw[aj];lia),aT,af (by lia),au,af (show i.toNat<ws.length by lia)]
 rfl
theorem Ni{ws:List Int}{i:Int}(h0:0<=i)(h1:i<=ws.length-1):Jm (ws.map V.int).length i=some i.toNat:=Aq h0 (by rw[aj];lia)
theorem oo{v:V}{a b:Int}(h:wi v a b=true):∃i,v= .int i/\a<=i/\i<=b:=by
 cases v with
 |int i=>simp[wi]at h;exact⟨i,rfl,h.1,h.2⟩
 |_=>cases h
theorem PQ{v:V}{x:Str}(h:kd v=some x):∃i,v= .int i:=by
 cases v with
 |int i=>exact⟨i,rfl⟩
 |_=>cases h
theorem GY{ws:List Int}{i:Nat}{x:Int}:(ws.map V.int).set i (.int x)=(ws.set i x).map V.int:=by rw[fh]
theorem Xt:¬(("size":Str)="words"):=by decide+kernel
noncomputable def Nq (n:Int) (q:Addr):List (Str×V):=[("size",V.int n),("words",V.ref q)]
theorem Gy{n:Int}{q:Addr}:(Nq n q).lookup ("size":Str)=some (.int n):=by
 simp[Nq,bx]
theorem Bh{n:Int}{q:Addr}:(Nq n q).lookup ("words":Str)=some (.ref q):=by
 simp[Nq,bx,show(("words":Str)=="size")=false by decide+kernel]
theorem Gw{n:Int}{q:Addr}{m:Str}(h1:(m==("size":Str))=false)(h2:(m==("words":Str))=false):(Nq n q).lookup m=none:=by
 simp[Nq,bx,h1,h2]
theorem PY{n:Int}{q:Addr}:(Nq n q).lookup ("want_place":Str)=none:=Gw (by decide+kernel) (by decide+kernel)
theorem T3{n:Int}{q:Addr}:(Nq n q).lookup ("want_stretch":Str)=none:=Gw (by decide+kernel) (by decide+kernel)
theorem Gx{n:Int}{q:Addr}:(Nq n q).lookup ("read":Str)=none:=Gw (by decide+kernel) (by decide+kernel)
theorem Eb{n:Int}{q:Addr}:(Nq n q).lookup ("write":Str)=none:=Gw (by decide+kernel) (by decide+kernel)
theorem T1{n:Int}{q:Addr}:(Nq n q).lookup ("copy":Str)=none:=Gw (by decide+kernel) (by decide+kernel)
theorem T2{n:Int}{q:Addr}:lq "words" (.ref q) (lq "size" (.int n) [])=Nq n q:=by
 simp[lq,Xt,Nq]
structure kC(c:Addr)(H:Hp)(p q:Addr)(ws:List Int):Prop where
 ob:∃dx,H p=some (.ins c dx (Nq ws.length q))
 ls:H q=some (.lst (ws.map V.int))
section
variable{c p q:Addr}{H H':Hp}{ws:List Int}
theorem kC.ne(m:kC c H p q ws):p≠q:=by
 obtain⟨⟨dx,e⟩,l⟩:=m
 intro z;subst z;rw[e]at l;cases l
theorem kC.keep(m:kC c H p q ws)(h:∀b o,H b=some o->b=p∨b=q->H' b=some o):kC c H' p q ws:=
 ⟨let ⟨dx,e⟩:=m.ob;⟨dx,h _ _ e (.inl rfl)⟩,h _ _ m.ls (.inr rfl)⟩
theorem kC.same(m:kC c H p q ws)(s:jD H H'):kC c H' p q ws:=m.keep λb o e _=>s b o e
theorem kC.put(m:kC c H p q ws)(i:Nat)(x:Int):kC c (upd H q (.lst ((ws.set i x).map V.int))) p q (ws.set i x):=by
 refine⟨?_,i8⟩
 obtain⟨dx,e⟩:=m.ob
 refine⟨dx,?_⟩
 rw[i_ m.ne,bf];exact e
end
noncomputable def jP (ws:List Int):Prop:=∀w∈ws,(kd (.int w)).isSome=true
noncomputable def hd (w:Int):Option Int:=if w%2=0/\0<=w/\w<=68/\w/2%4<=2 then some (w/2) else none
noncomputable def lx (ws:List Int) (i:Nat):Option Int:=match hd (ws.getD i 0) with
 |some n=>if (i:Int)+n/4<=ws.length-1 then some n else none
 |none=>none
theorem VT{w n:Int}(h:hd w=some n):w=2*n/\0<=n/\n<=34/\n%4<=2:=by
 unfold hd at h
 split at h
 ·cases h;omega
 ·cases h
theorem Jt{ws:List Int}(h:jP ws){i:Nat}(hi:i<ws.length):∃x,kd (.int (ws.getD i 0))=some x:=by
 have:ws.getD i 0∈ws:=by rw[au,af hi];exact bH hi
 exact Option.isSome_iff_exists.mp (h _ this)
theorem CM{ws:List Int}{i:Nat}{n:Int}(h:lx ws i=some n):ws.getD i 0=2*n/\0<=n/\n<=34/\n%4<=2/\(i:Int)+n/4<=ws.length-1:=by
 unfold lx at h
 split at h
 ·rename_i m e
  split at h
  ·cases h
   obtain⟨a,b,c,d⟩:=VT e
   exact⟨a,b,c,d,by assumption⟩
  ·cases h
 ·cases h
theorem K_{i:Int}{x:Str}(h:kd (.int i)=some x):(x=bg "nothing"/\i= -1)∨(x=bg "number"/\i%2=0/\ -2000000000000<=i/\i<=2000000000000)∨(x=bg "place"/\i%2=1/\1<=i/\i<=19999):=by
 rw[sN]at h
 split at h
 ·cases h;exact .inl ⟨rfl,by assumption⟩
 ·split at h
  ·cases h;exact .inr (.inl ⟨rfl,by assumption⟩)
  ·split at h
   ·cases h;exact .inr (.inr ⟨rfl,by assumption⟩)
   ·cases h
theorem Xc:¬(bg "nothing"=bg "number"):=by decide+kernel
theorem Xf:¬(bg "place"=bg "number"):=by decide+kernel
theorem Xd:¬(bg "number"=bg "place"):=by decide+kernel
theorem Xe:¬(bg "nothing"=bg "place"):=by decide+kernel
theorem QL{w:Int}(h:w≠ -1):wo (.int w)= .int (w/2):=by simp[wo,h]
theorem pW{ws:List Int}{i:Nat}:lx ws i=if ws.getD i 0%2=0/\0<=ws.getD i 0/\ws.getD i 0<=68/\ws.getD i 0/2%4<=2/\(i:Int)+ws.getD i 0/2/4<=ws.length-1 then some (ws.getD i 0/2) else none:=by
 unfold lx hd
 generalize ws.getD i 0=W
 by_cases c:W%2=0/\0<=W/\W<=68/\W/2%4<=2
 ·rw[if_pos c]
  by_cases d:(i:Int)+W/2/4<=ws.length-1
  ·rw[if_pos ⟨c.1,c.2.1,c.2.2.1,c.2.2.2,d⟩];exact if_pos d
  ·rw[if_neg λz=>d z.2.2.2.2];exact if_neg d
 ·rw[if_neg c,if_neg λz=>c ⟨z.1,z.2.1,z.2.2.1,z.2.2.2.1⟩]
noncomputable def rh (w:Int):Bool:=decide (w%2=1/\0<w)
noncomputable def blank (ws:List Int) (i:Nat):Nat->List Int
 |0=>ws
 |k+1=>(blank ws i k).set (i+k) (-1)
theorem vJ{ws:List Int}{i:Nat}:∀k,(blank ws i k).length=ws.length
 |0=>rfl
 |k+1=>by rw[blank,bf,vJ k]
theorem z5{ws:List Int}{i j:Nat}:∀k,(blank ws i k)[j]? =if i<=j/\j<i+k then ws[j]?.map (λ_=> -1) else ws[j]?
 |0=>by rw[if_neg (by lia)];rfl
 |k+1=>by
  rw[blank,bC,vJ]
  by_cases z:i+k=j
  ·subst z
   have c:i<=i+k/\i+k<i+(k+1):=by lia
   rw[if_pos rfl,if_pos c]
   by_cases y:i+k<ws.length
   ·rw[if_pos y,af y];rfl
   ·rw[if_neg y,cK (by lia)];rfl
  ·rw[if_neg z,z5 k]
   by_cases y:i<=j/\j<i+k
   ·rw[if_pos y,if_pos (by lia)]
   ·rw[if_neg y,if_neg (by lia)]
noncomputable def laid (ws:List Int) (i s:Nat):List Int:=(blank ws i (s+1)).set i (8*s)
theorem Dg{ws:List Int}{i s:Nat}:(laid ws i s).length=ws.length:=by rw[laid,bf,vJ]
theorem RK{ws:List Int}{i s:Nat}:blank (ws.set i (8*s)) (i+1) s=laid ws i s:=by
 refine ik λj=> ?_
 rw[z5,laid,bC,bC,z5,vJ]
 by_cases z:i=j
 ·subst z
  rw[if_neg (by lia),if_pos rfl,if_pos rfl]
 ·rw[if_neg z,if_neg z]
  by_cases y:i+1<=j/\j<i+1+s
  ·rw[if_pos y,if_pos (by lia)]
  ·rw[if_neg y,if_neg (by lia)]
theorem jP.set{ws:List Int}{i:Nat}{x:Int}(h:jP ws)(hx:(kd (.int x)).isSome=true):jP (ws.set i x):=λw hw=>by
 rcases eA hw with z|rfl
 ·exact h w z
 ·exact hx
theorem jP.blank{ws:List Int}{i:Nat}(h:jP ws):∀k,jP (blank ws i k)
 |0=>h
 |k+1=>(jP.blank h k).set (by rw[sN,if_pos rfl];rfl)
theorem RL{ws:List Int}{i s j:Nat}(h:j<i∨i+s<j):(laid ws i s).getD j 0=ws.getD j 0:=by
 rw[laid,au,bC,if_neg (by lia),z5,if_neg (by lia),←au]
theorem RJ{ws:List Int}{i s:Nat}(h:i<ws.length):(laid ws i s).getD i 0=8*s:=by
 rw[laid,au,bC,if_pos rfl,if_pos (by rw[vJ];exact h)];rfl
theorem L7{ws:List Int}{i s:Nat}(hs:s<=8)(h:i+s<ws.length):lx (laid ws i s) i=some (4*s):=by
 rw[pW,RJ (by lia),Dg,if_pos (by lia)]
 congr 1;lia
theorem jP.laid{ws:List Int}{i s:Nat}(h:jP ws)(hs:s<=8):jP (laid ws i s):=
 (h.blank _).set (by rw[sN,if_neg (by lia),if_pos (by lia)];rfl)
theorem W_:¬(("begin":Str)="top"):=by decide+kernel
theorem Xa:¬(("end":Str)="top"):=by decide+kernel
noncomputable def wz (b e t:Int):List (Str×V):=[("begin",V.int b),("end",V.int e),("top",V.int t)]
section
variable{b e t x:Int}{m:Str}
theorem II:(wz b e t).lookup ("begin":Str)=some (.int b):=by simp[wz,bx]
theorem Wo:(wz b e t).lookup ("end":Str)=some (.int e):=by
 simp[wz,bx,show(("end":Str)=="begin")=false by decide+kernel]
theorem LF:(wz b e t).lookup ("top":Str)=some (.int t):=by
 simp[wz,bx,show(("top":Str)=="begin")=false by decide+kernel,show(("top":Str)=="end")=false by decide+kernel]
theorem Ep(h1:(m==("begin":Str))=false)(h2:(m==("end":Str))=false)(h3:(m==("top":Str))=false):(wz b e t).lookup m=none:=by
 simp[wz,bx,h1,h2,h3]
theorem yp:(wz b e t).lookup ("room":Str)=none:=Ep (by decide+kernel) (by decide+kernel) (by decide+kernel)
theorem AX:(wz b e t).lookup ("used":Str)=none:=Ep (by decide+kernel) (by decide+kernel) (by decide+kernel)
theorem NF:(wz b e t).lookup ("has":Str)=none:=Ep (by decide+kernel) (by decide+kernel) (by decide+kernel)
theorem LG:(wz b e t).lookup ("take":Str)=none:=Ep (by decide+kernel) (by decide+kernel) (by decide+kernel)
theorem OF:(wz b e t).lookup ("empty":Str)=none:=Ep (by decide+kernel) (by decide+kernel) (by decide+kernel)
theorem Eo:(wz b e t).lookup ("cells":Str)=none:=Ep (by decide+kernel) (by decide+kernel) (by decide+kernel)
theorem NH:lq "top" (.int x) (wz b e t)=wz b e x:=by simp[lq,wz,W_,Xa]
theorem NG:(wz b e t).length=3:=rfl
end
noncomputable def walks (ws:List Int):Int->List Int->Int->Prop
 |a,[],t=>a=t
 |a,s::r,t=>(0<=a/\a<ws.length/\∃n,lx ws a.toNat=some n/\n/4+1=s)/\walks ws (a+s) r t
noncomputable def Eh:Int->List Int->List Int
 |_,[]=>[]
 |a,s::r=>a::Eh (a+s) r
theorem Ij{ws:List Int}{a:Int}{n s:Int}(hc:lx ws a.toNat=some n)(hs:n/4+1=s):1<=s/\s<=9:=by
 obtain⟨_,h0,h1,_,_⟩:=CM hc
 lia
theorem IP{ws:List Int}:∀{sz:List Int} {a t:Int},walks ws a sz t->a+sz.length<=t
 | [],a,t,h=>by have:a=t:=h;simp[this]
 |s::r,a,t,h=>by
  have h1:=IP h.2
  obtain⟨_,_,n,hc,hn⟩:=h.1
  have:=Ij hc hn
  rw[ai]
  lia
theorem IE:∀{xs:List Int} {a s:Int},Eh a (xs++[s])=Eh a xs++[a+xs.sum]
 | [],a,s=>by simp[Eh]
 |x::r,a,s=>by
  rw[bq]
  simp only[Eh,b8,bq]
  rw[IE,show a+x+r.sum=a+(x+r.sum) by lia]
theorem Lo:∀{xs:List Int} {a:Int},(Eh a xs).length=xs.length
 | [],_=>rfl
 |x::r,a=>by simp only[Eh,ai,Lo]
theorem T5:¬(("memory":Str)="old"):=by decide+kernel
theorem T6:¬(("memory":Str)="young"):=by decide+kernel
theorem V1:¬(("memory":Str)="spare"):=by decide+kernel
theorem T7:¬(("old":Str)="young"):=by decide+kernel
theorem V2:¬(("old":Str)="spare"):=by decide+kernel
theorem V3:¬(("young":Str)="spare"):=by decide+kernel
noncomputable def zR (m o y s:Addr):List (Str×V):=[("memory",V.ref m),("old",V.ref o),("young",V.ref y),("spare",V.ref s)]
section
variable{m o y s x:Addr}{f:Str}
theorem tT:(zR m o y s).lookup ("memory":Str)=some (.ref m):=by simp[zR,bx]
theorem FG:(zR m o y s).lookup ("old":Str)=some (.ref o):=by
 simp[zR,bx,show(("old":Str)=="memory")=false by decide+kernel]
theorem zG:(zR m o y s).lookup ("young":Str)=some (.ref y):=by
 simp[zR,bx,show(("young":Str)=="memory")=false by decide+kernel,show(("young":Str)=="old")=false by decide+kernel]
theorem FH:(zR m o y s).lookup ("spare":Str)=some (.ref s):=by
 simp[zR,bx,show(("spare":Str)=="memory")=false by decide+kernel,show(("spare":Str)=="old")=false by decide+kernel,show(("spare":Str)=="young")=false by decide+kernel]
theorem IS(h1:(f==("memory":Str))=false)(h2:(f==("old":Str))=false)(h3:(f==("young":Str))=false)(h4:(f==("spare":Str))=false):(zR m o y s).lookup f=none:=by
 simp[zR,bx,h1,h2,h3,h4]
theorem OR:(zR m o y s).lookup ("flip":Str)=none:=IS (by decide+kernel) (by decide+kernel) (by decide+kernel) (by decide+kernel)
theorem S9:(zR m o y s).lookup ("lay_young":Str)=none:=IS (by decide+kernel) (by decide+kernel) (by decide+kernel) (by decide+kernel)
theorem S8:(zR m o y s).lookup ("lay_old":Str)=none:=IS (by decide+kernel) (by decide+kernel) (by decide+kernel) (by decide+kernel)
theorem OS:(zR m o y s).lookup ("lay_into":Str)=none:=IS (by decide+kernel) (by decide+kernel) (by decide+kernel) (by decide+kernel)
theorem S_:lq "spare" (.ref s) (lq "young" (.ref y) (lq "old" (.ref o) (lq "memory" (.ref m) [])))=zR m o y s:=by simp[lq,zR,T5,T6,V1,T7,V2,V3]
theorem OU:lq "young" (.ref x) (zR m o y s)=zR m o x s:=by simp[lq,zR,T6,T7]
theorem OT:lq "spare" (.ref x) (zR m o y s)=zR m o y x:=by simp[lq,zR,V1,V2,V3]
theorem Q0:(zR m o y s).length=4:=rfl
end
structure S3 where
 b:Int
 e:Int
 t:Int
noncomputable def vQ (c:Addr) (H:Hp) (p:Addr) (x:S3):Prop:=∃dx,H p=some (.ins c dx (wz x.b x.e x.t))
structure sS(cA cM cS:Addr)(H:Hp)(p m q o y s:Addr)(ws:List Int)(so sy ss:S3):Prop where
 ob:∃dx,H p=some (.ins cA dx (zR m o y s))
 mem:kC cM H m q ws
 old:vQ cS H o so
 r9:vQ cS H y sy
 Ex:vQ cS H s ss
 oy:o≠y
 os:o≠s
 ys:y≠s
 pd:p≠m/\p≠o/\p≠y/\p≠s
 md:m≠o/\m≠y/\m≠s
section
variable{cA cM cS:Addr}{H H':Hp}{p m q o y s:Addr}{ws ws':List Int}{so sy ss:S3}
theorem vQ.ne{c x q':Addr}{xs:List V}{z:S3}(h:vQ c H x z)(hq:H q'=some (.lst xs)):x≠q':=by
 obtain⟨dx,e⟩:=h
 intro w;subst w;rw[e]at hq;cases hq
theorem vQ.same{c x:Addr}{z:S3}(h:vQ c H x z)(k:jD H H'):vQ c H' x z:=let ⟨dx,e⟩:=h;⟨dx,k _ _ e⟩
theorem sS.same(a:sS cA cM cS H p m q o y s ws so sy ss)(h:jD H H'):sS cA cM cS H' p m q o y s ws so sy ss:=
 {a with ob:=let ⟨dx,e⟩:=a.ob;⟨dx,h _ _ e⟩,mem:=a.mem.same h,old:=a.old.same h,r9:=a.r9.same h,Ex:=a.Ex.same h}
theorem sS.flip(a:sS cA cM cS H p m q o y s ws so sy ss){dx:Addr}(e:H' p=some (.ins cA dx (zR m o s y)))(k:∀b x,H b=some x->b≠p->H' b=some x):sS cA cM cS H' p m q o s y ws so ss sy where
 ob:=⟨dx,e⟩
 mem:=a.mem.keep λb x eb hb=>k b x eb (by
  rcases hb with rfl|rfl
  ·exact aE a.pd.1
  ·obtain⟨dz,ez⟩:=a.ob
   intro z;rw[z,ez]at eb;have:=a.mem.ls;rw[z,ez]at this;cases this)
 old:=let ⟨dx,e⟩:=a.old;⟨dx,k _ _ e (aE a.pd.2.1)⟩
 r9:=let ⟨dx,e⟩:=a.Ex;⟨dx,k _ _ e (aE a.pd.2.2.2)⟩
 Ex:=let ⟨dx,e⟩:=a.r9;⟨dx,k _ _ e (aE a.pd.2.2.1)⟩
 oy:=a.os
 os:=a.oy
 ys:=aE a.ys
 pd:=⟨a.pd.1,a.pd.2.1,a.pd.2.2.2,a.pd.2.2.1⟩
 md:=⟨a.md.1,a.md.2.2,a.md.2.1⟩
theorem sS.V5(a:sS cA cM cS H p m q o y s ws so sy ss){z:S3}(mem:kC cM H' m q ws')(e:vQ cS H' o z)(k:∀b x,H b=some x->b≠q->b≠o->H' b=some x):sS cA cM cS H' p m q o y s ws' z sy ss:=
 {a with
  ob:=let ⟨dx,e⟩:=a.ob;⟨dx,k _ _ e (λz=>by rw[z,a.mem.ls]at e;cases e) a.pd.2.1⟩
  mem:=mem
  old:=e
  r9:=let ⟨dx,e⟩:=a.r9;⟨dx,k _ _ e (vQ.ne ⟨dx,e⟩ a.mem.ls) (aE a.oy)⟩
  Ex:=let ⟨dx,e⟩:=a.Ex;⟨dx,k _ _ e (vQ.ne ⟨dx,e⟩ a.mem.ls) (aE a.os)⟩}
theorem sS.XB(a:sS cA cM cS H p m q o y s ws so sy ss){z:S3}(mem:kC cM H' m q ws')(e:vQ cS H' y z)(k:∀b x,H b=some x->b≠q->b≠y->H' b=some x):sS cA cM cS H' p m q o y s ws' so z ss:=
 {a with
  ob:=let ⟨dx,e⟩:=a.ob;⟨dx,k _ _ e (λz=>by rw[z,a.mem.ls]at e;cases e) a.pd.2.2.1⟩
  mem:=mem
  old:=let ⟨dx,e⟩:=a.old;⟨dx,k _ _ e (vQ.ne ⟨dx,e⟩ a.mem.ls) a.oy⟩
  r9:=e
  Ex:=let ⟨dx,e⟩:=a.Ex;⟨dx,k _ _ e (vQ.ne ⟨dx,e⟩ a.mem.ls) (aE a.ys)⟩}
theorem sS.Xv(a:sS cA cM cS H p m q o y s ws so sy ss){z:S3}(e:vQ cS H' s z)(k:∀b x,H b=some x->b≠s->H' b=some x):sS cA cM cS H' p m q o y s ws so sy z:=
 {a with
  ob:=let ⟨dx,e⟩:=a.ob;⟨dx,k _ _ e a.pd.2.2.2⟩
  mem:=a.mem.keep λb x eb hb=>k b x eb (by
   rcases hb with rfl|rfl
   ·exact a.md.2.2
   ·exact aE (a.Ex.ne a.mem.ls))
  old:=let ⟨dx,e⟩:=a.old;⟨dx,k _ _ e a.os⟩
  r9:=let ⟨dx,e⟩:=a.r9;⟨dx,k _ _ e a.ys⟩
  Ex:=e}
end
noncomputable def kF (ws:List Int) (i s:Nat) (g:Int):List Int:=(laid ws i s).set i (2*(4*s+g))
theorem sO{ws:List Int}{i s:Nat}{g:Int}:(kF ws i s g).length=ws.length:=by rw[kF,bf,Dg]
theorem jP.kF{ws:List Int}{i s:Nat}{g:Int}(h:jP ws)(hs:s<=8)(g0:0<=g)(g2:g<=2):jP (kF ws i s g):=
 (h.laid hs).set (by rw[sN,if_neg (by lia),if_pos (by lia)];rfl)
theorem Lb{ws:List Int}{i s j:Nat}{g:Int}(h:j<i∨i+s<j):(kF ws i s g).getD j 0=ws.getD j 0:=by
 rw[kF,au,bC,if_neg (by lia),←au,RL h]
theorem La{ws:List Int}{i s:Nat}{g:Int}(h:i<ws.length):(kF ws i s g).getD i 0=2*(4*s+g):=by
 rw[kF,au,bC,if_pos rfl,if_pos (by rw[Dg];exact h)];rfl
theorem Mn{ws:List Int}{i s j:Nat}{g:Int}(h:i<j)(h1:j<=i+s)(h2:j<ws.length):(kF ws i s g).getD j 0= -1:=by
 rw[kF,au,bC,if_neg (by lia),laid,bC,if_neg (by lia),z5,if_pos (by lia),af h2];rfl
theorem KJ{ws:List Int}{i s:Nat}{g:Int}(hs:s<=8)(h:i+s<ws.length)(g0:0<=g)(g2:g<=2):lx (kF ws i s g) i=some (4*s+g):=by
 rw[pW,La (by lia),sO,if_pos (by lia)]
 congr 1;lia
noncomputable def cp (ws ks:List Int) (g:Nat):Nat->List Int
 |0=>ws
 |k+1=>(cp ws ks g k).set (g+k) (ks.getD k 0)
theorem z9{ws ks:List Int}{g:Nat}:∀k,(cp ws ks g k).length=ws.length
 |0=>rfl
 |k+1=>by rw[cp,bf,z9 k]
noncomputable def U8 (v:V) (n m:Int):Bool:=wi v 0 (n-m)
noncomputable def L6 (d:Addr):List (Str×V):=[("written",V.ref d)]
section
variable{d d':Addr}{f:Str}
theorem MV:(L6 d).lookup ("written":Str)=some (.ref d):=by simp[L6,bx]
theorem FT(h:(f==("written":Str))=false):(L6 d).lookup f=none:=by simp[L6,bx,h]
theorem Ib:(L6 d).lookup ("write":Str)=none:=FT (by decide+kernel)
theorem Q6:(L6 d).lookup ("rub":Str)=none:=FT (by decide+kernel)
theorem MU:(L6 d).lookup ("has":Str)=none:=FT (by decide+kernel)
theorem FU:(L6 d).lookup ("places":Str)=none:=FT (by decide+kernel)
theorem NR:(L6 d).lookup ("clear":Str)=none:=FT (by decide+kernel)
theorem Tc:lq "written" (.ref d) []=L6 d:=rfl
theorem Q5:lq "written" (.ref d') (L6 d)=L6 d':=by simp[lq,L6]
theorem Q4:(L6 d).length=1:=rfl
end
noncomputable def Hd (ks:List Int):List (Key×V):=ks.map λk=>(bZ k,V.bl true)
theorem Q7{ks:List Int}:(Hd ks).length=ks.length:=aj ..
theorem IW{k:Int}:∀{ks:List Int},vH (Hd ks) (bZ k)=if k∈ks then some (.bl true) else none
 | []=>rfl
 |x::r=>by
  by_cases e:x=k
  ·subst e
   rw[if_pos aM]
   exact DN rfl
  ·have e':¬((bZ x:Key)=bZ k):=λz=>e (gA z)
   show vH ((bZ x,V.bl true)::Hd r) (bZ k)=_
   rw[DM e',IW]
   by_cases m:k∈r
   ·rw[if_pos m,if_pos (aP _ m)]
   ·rw[if_neg m,if_neg (by simp;exact⟨λz=>e z.symm,m⟩)]
theorem Q8{k:Int}{ks:List Int}:putK (Hd ks) (bZ k) (.bl true)=Hd (if k∈ks then ks else ks++[k]):=by
 have ha:((Hd ks).any λkv=>decide (kv.1=(bZ k:Key)))=decide (k∈ks):=by
  induction ks with
  |nil=>rfl
  |cons x r ih=>
   show(decide ((bZ x:Key)=bZ k) ||(Hd r).any _)=_
   rw[ih]
   by_cases e:x=k
   ·subst e;simp
   ·have e':¬((bZ x:Key)=bZ k):=λz=>e (gA z)
    simp[e']
    intro z;exact absurd z.symm e
 unfold putK
 rw[ha]
 by_cases m:k∈ks
 ·rw[if_pos (by simpa using m),if_pos m]
  unfold Hd
  rw[bU]
  refine cZ λx _=> ?_
  show(if (bZ x:Key)=bZ k then(bZ x,V.bl true) else(bZ x,V.bl true))=_
  split<;>rfl
 ·rw[if_neg (by simpa using m),if_neg m]
  unfold Hd
  rw[bo];rfl
theorem OY{k:Int}{ks:List Int}:F1 (Hd ks) (bZ k)=Hd (ks.filter λx=>decide (x≠k)):=by
 unfold F1 Hd
 rw[d_]
 congr 1
 refine iq λx _=> ?_
 show decide ((bZ x:Key)≠bZ k)=decide (x≠k)
 by_cases e:x=k
 ·subst e;simp
 ·simp[e,show¬((bZ x:Key)=bZ k) from λz=>e (gA z)]
structure va(c:Addr)(H:Hp)(p d:Addr)(ks:List Int):Prop where
 ob:∃dx,H p=some (.ins c dx (L6 d))
 dc:H d=some (.dK (Hd ks))
noncomputable def N7 (ks:List Int) (k:Int):List Int:=if k∈ks then ks else ks++[k]
noncomputable def Qw (ks:List Int) (k:Int):List Int:=ks.filter λx=>decide (x≠k)
section
variable{c p d:Addr}{H H':Hp}{ks ks':List Int}
theorem va.ne(m:va c H p d ks):p≠d:=by
 obtain⟨⟨dx,e⟩,l⟩:=m
 intro z;subst z;rw[e]at l;cases l
theorem va.keep(m:va c H p d ks)(h:∀b o,H b=some o->b=p∨b=d->H' b=some o):va c H' p d ks:=
 ⟨let ⟨dx,e⟩:=m.ob;⟨dx,h _ _ e (.inl rfl)⟩,h _ _ m.dc (.inr rfl)⟩
theorem va.same(m:va c H p d ks)(s:jD H H'):va c H' p d ks:=m.keep λb o e _=>s b o e
theorem va.put(m:va c H p d ks):va c (upd H d (.dK (Hd ks'))) p d ks':=by
 refine⟨?_,i8⟩
 obtain⟨dx,e⟩:=m.ob
 exact⟨dx,by rw[i_ m.ne];exact e⟩
end
noncomputable def SK (q:Addr):List (Str×V):=[("words",V.ref q)]
section
variable{q:Addr}{f:Str}
theorem Pu:(SK q).lookup ("words":Str)=some (.ref q):=by simp[SK,bx]
theorem Mf(h:(f==("words":Str))=false):(SK q).lookup f=none:=by simp[SK,bx,h]
theorem Nc:(SK q).lookup ("put":Str)=none:=Mf (by decide+kernel)
theorem Nd:(SK q).lookup ("row":Str)=none:=Mf (by decide+kernel)
theorem Pw:(SK q).lookup ("want_hand":Str)=none:=Mf (by decide+kernel)
end
structure yz(c:Addr)(H:Hp)(p q:Addr)(ws:List Int):Prop where
 ob:∃dx,H p=some (.ins c dx (SK q))
 ls:H q=some (.lst (ws.map V.int))
section
variable{c p q:Addr}{H H':Hp}{ws:List Int}
theorem yz.ne(m:yz c H p q ws):p≠q:=by
 obtain⟨⟨dx,e⟩,l⟩:=m
 intro z;subst z;rw[e]at l;cases l
theorem yz.keep(m:yz c H p q ws)(h:∀b o,H b=some o->b=p∨b=q->H' b=some o):yz c H' p q ws:=
 ⟨let ⟨dx,e⟩:=m.ob;⟨dx,h _ _ e (.inl rfl)⟩,h _ _ m.ls (.inr rfl)⟩
theorem yz.same(m:yz c H p q ws)(s:jD H H'):yz c H' p q ws:=m.keep λb o e _=>s b o e
theorem yz.put(m:yz c H p q ws)(i:Nat)(x:Int):yz c (upd H q (.lst ((ws.set i x).map V.int))) p q (ws.set i x):=by
 refine⟨?_,i8⟩
 obtain⟨dx,e⟩:=m.ob
 exact⟨dx,by rw[i_ m.ne];exact e⟩
end
theorem Ft{w:Int}(h:rh w=true)(k:(kd (.int w)).isSome=true):kd (.int w)=some (bg "place")/\w/2<=9999/\0<=w/2/\wo (.int w)= .int (w/2):=by
 simp only[rh,decide_eq_true_eq]at h
 rw[sN,if_neg (by lia),if_neg (by lia)]at k⊢
 by_cases c:w%2=1/\1<=w/\w<=19999
 ·rw[if_pos c];exact⟨rfl,by lia,by lia,by show(if w= -1 then V.kG else V.int (w/2))=_;rw[if_neg (by lia)]⟩
 ·rw[if_neg c]at k;cases k
theorem PZ{w:Int}(h:rh w=false)(k:(kd (.int w)).isSome=true):∃x,kd (.int w)=some x/\x≠bg "place":=by
 simp only[rh,decide_eq_false_iff_not]at h
 rw[sN]at k⊢
 by_cases c:w= -1
 ·rw[if_pos c];exact⟨_,rfl,by decide+kernel⟩
 rw[if_neg c]at k⊢
 by_cases c2:w%2=0/\ -2000000000000<=w/\w<=2000000000000
 ·rw[if_pos c2];exact⟨_,rfl,by decide+kernel⟩
 rw[if_neg c2]at k⊢
 rw[if_neg (by lia)]at k;cases k
theorem L9{ws ks:List Int}{g j:Nat}:∀k,(j<g∨g+k<=j)->(cp ws ks g k).getD j 0=ws.getD j 0
 |0,_=>rfl
 |k+1,h=>by
  rw[cp,au,bC,if_neg (by lia),←au]
  exact L9 k (by lia)
theorem Pb{ws ks:List Int}{g j:Nat}:∀k,g<=j->j<g+k->j<ws.length->(cp ws ks g k).getD j 0=ks.getD (j-g) 0
 |0,h1,h2,_=>by lia
 |k+1,h1,h2,h3=>by
  rw[cp,au,bC]
  by_cases c:g+k=j
  ·rw[if_pos c,if_pos (by rw[z9];lia),←c,show g+k-g=k by lia];rfl
  ·rw[if_neg c,←au]
   exact Pb k h1 (by lia) h3
theorem Pc{ws ks:List Int}{g:Nat}(h:jP ws)(h2:∀x∈ks,(kd (.int x)).isSome=true):∀k,jP (cp ws ks g k)
 |0=>h
 |k+1=>by
  refine(Pc h h2 k).set ?_
  by_cases c:k<ks.length
  ·rw[au,af c];exact h2 _ (bH c)
  ·rw[au,cK (by lia)];decide
noncomputable def Cu (ws:List Int) (i t:Nat) (k n g:Int):List Int:=((cp ws ((ws.drop i).take k.toNat) t k.toNat).set t (2*(4*(n/4)+g))).set i (2*t+1)
noncomputable def QK (q:Addr):List (Str×V):=[("told",V.ref q)]
section
variable{q:Addr}{f:Str}
theorem Ws:(QK q).lookup ("told":Str)=some (.ref q):=by simp[QK,bx]
theorem UY(h:(f==("told":Str))=false):(QK q).lookup f=none:=by simp[QK,bx,h]
theorem OL:(QK q).lookup ("names":Str)=none:=UY (by decide+kernel)
theorem UX:lq "told" (.ref q) []=QK q:=rfl
end
noncomputable def tv:Option Int->V
 |some i=> .int i
 |none=> .kG
theorem Xh:¬(("waiting":Str)="spoken"):=by decide+kernel
noncomputable def SN (d q:Addr):List (Str×V):=[("waiting",V.ref d),("spoken",V.ref q)]
section
variable{d q:Addr}{f:Str}
theorem VU:(SN d q).lookup ("waiting":Str)=some (.ref d):=by simp[SN,bx]
theorem TX(h1:(f==("waiting":Str))=false)(h2:(f==("spoken":Str))=false):(SN d q).lookup f=none:=by simp[SN,bx,h1,h2]
theorem Lc:(SN d q).lookup ("pending":Str)=none:=TX (by decide+kernel) (by decide+kernel)
theorem TV:lq "spoken" (.ref q) (lq "waiting" (.ref d) [])=SN d q:=by simp[lq,SN,Xh]
end
theorem T4:¬(("hands":Str)="book"):=by decide+kernel
theorem V0:¬(("hands":Str)="weaks"):=by decide+kernel
theorem Xb:¬(("hands":Str)="lasts"):=by decide+kernel
theorem VZ:¬(("book":Str)="weaks"):=by decide+kernel
theorem W9:¬(("book":Str)="lasts"):=by decide+kernel
theorem Xg:¬(("weaks":Str)="lasts"):=by decide+kernel
noncomputable def Bo (h b w l:Addr):List (Str×V):=[("hands",V.ref h),("book",V.ref b),("weaks",V.ref w),("lasts",V.ref l)]
section
variable{h b w l:Addr}{f:Str}
theorem JP:(Bo h b w l).lookup ("hands":Str)=some (.ref h):=by simp[Bo,bx]
theorem JN:(Bo h b w l).lookup ("book":Str)=some (.ref b):=by simp[Bo,bx,show(("book":Str)=="hands")=false by decide+kernel]
theorem UL:(Bo h b w l).lookup ("weaks":Str)=some (.ref w):=by simp[Bo,bx,show(("weaks":Str)=="hands")=false by decide+kernel,show(("weaks":Str)=="book")=false by decide+kernel]
theorem UK:(Bo h b w l).lookup ("lasts":Str)=some (.ref l):=by simp[Bo,bx,show(("lasts":Str)=="hands")=false by decide+kernel,show(("lasts":Str)=="book")=false by decide+kernel,show(("lasts":Str)=="weaks")=false by decide+kernel]
theorem Sl(h1:(f==("hands":Str))=false)(h2:(f==("book":Str))=false)(h3:(f==("weaks":Str))=false)(h4:(f==("lasts":Str))=false):(Bo h b w l).lookup f=none:=by
 simp[Bo,bx,h1,h2,h3,h4]
theorem Lr:(Bo h b w l).lookup ("follow":Str)=none:=Sl (by decide+kernel) (by decide+kernel) (by decide+kernel) (by decide+kernel)
theorem Sk:lq "lasts" (.ref l) (lq "weaks" (.ref w) (lq "book" (.ref b) (lq "hands" (.ref h) [])))=Bo h b w l:=by simp[lq,Bo,T4,V0,Xb,VZ,W9,Xg]
end
theorem RN{d:Addr}:(lq "waiting" (V.ref d) []).length<1000:=by simp[lq]
structure Vk(c:Addr)(H:Hp)(p q:Addr):Prop where
 ob:∃dx,H p=some (.ins c dx (QK q))
 ls:H q=some (.lst [])
structure Wz(c:Addr)(H:Hp)(p d:Addr):Prop where
 ob:∃dx q,H p=some (.ins c dx (SN d q))
 dc:H d=some (.dK [])
theorem Jh{ws:List Int}{i j:Nat}{w:Int}(h:i≠j):(ws.set i w).getD j 0=ws.getD j 0:=by
 rw[au,bC,if_neg h,←au]
theorem Jg{ws:List Int}{i:Nat}{w:Int}(h:i<ws.length):(ws.set i w).getD i 0=w:=by
 rw[au,bC,if_pos rfl,if_pos h];rfl
noncomputable def pM (ws:List Int) (a:Int):Int:=ws.getD a.toNat 0
inductive Th where
 |no
 |nu (n:Int)
 |ce (k:Nat)
noncomputable def wd (p:Nat->Option Int):Th->Int
 | .no=> -1
 | .nu n=>2*n
 | .ce k=>2*(p k).getD 0+1
structure Own where
 P:List (Option Int)
 G:List Int
 S:List (List Th)
 D:List Th
noncomputable def Own.p (x:Own) (k:Nat):Option Int:=x.P.getD k none
noncomputable def Own.g (x:Own) (k:Nat):Int:=x.G.getD k 0
noncomputable def Own.s (x:Own) (k:Nat):List Th:=x.S.getD k []
noncomputable def Own.z (x:Own) (k:Nat):Int:=(x.s k).length+1
noncomputable def Own.t (x:Own) (k j:Nat):Th:=(x.s k).getD j .no
structure Mem where
 ws:List Int
 so:S3
 sy:S3
 ss:S3
 hw:List Int
 ks:List Int
noncomputable def tS (z:Nat->Int):Int->List (Nat×Int)->Int->Prop
 |a,[],t=>a=t
 |a,x::r,t=>x.2=a/\tS z (a+z x.1) r t
noncomputable def IL (z:Nat->Int) (l:List (Nat×Int)):Int:=(l.map λx=>z x.1).sum
section
variable{z:Nat->Int}{l l':List (Nat×Int)}{a t:Int}
theorem tB(h:tS z a l t):t=a+IL z l:=by
 induction l generalizing a with
 |nil=>have:a=t:=h;simp[IL,this]
 |cons x r ih=>have:=ih h.2;simp only[IL,ao,b8]at this⊢;lia
theorem uW(hz:∀k,1<=z k)(h:tS z a l t){k:Nat}{q:Int}(m:(k,q)∈l):a<=q/\q+z k<=t:=by
 induction l generalizing a with
 |nil=>cases m
 |cons x r ih=>
  have e:=tB h.2
  have pos:0<=IL z r:=by
   clear ih h m e
   induction r with
   |nil=>simp[IL]
   |cons y r ih=>have:=hz y.1;simp only[IL,ao,b8]at ih⊢;lia
  rcases List.mem_cons.mp m with rfl|m
  ·obtain⟨h1,h2⟩:=h;dsimp only at h1 e;lia
  ·have:=ih h.2 m;have:=hz x.1;lia
theorem uV(hz:∀k,1<=z k)(h:tS z a l t){k k':Nat}{q q' i:Int}(m:(k,q)∈l)(m':(k',q')∈l)(h1:q<=i)(h2:i<q+z k)(h3:q'<=i)(h4:i<q'+z k'):k=k'/\q=q':=by
 induction l generalizing a with
 |nil=>cases m
 |cons x r ih=>
  have h0:=h.1
  rcases List.mem_cons.mp m with e|m1
  ·rcases List.mem_cons.mp m' with e'|m2
   ·rw[←e]at e';cases e';exact⟨rfl,rfl⟩
   ·have:=uW hz h.2 m2;rw[←e]at this h0;dsimp only at this h0;lia
  ·rcases List.mem_cons.mp m' with e'|m2
   ·have:=uW hz h.2 m1;rw[←e']at this h0;dsimp only at this h0;lia
   ·exact ih h.2 m1 m2
theorem Gk{b:Int}(h:tS z a l b)(h':tS z b l' t):tS z a (l++l') t:=by
 induction l generalizing a with
 |nil=>have:a=b:=h;subst this;exact h'
 |cons x r ih=>exact⟨h.1,ih h.2⟩
theorem Bg{k:Nat}(h:tS z a l t):tS z a (l++[(k,t)]) (t+z k):=Gk h ⟨rfl,rfl⟩
theorem Iw{z':Nat->Int}(e:∀x∈l,z' x.1=z x.1)(h:tS z a l t):tS z' a l t:=by
 induction l generalizing a with
 |nil=>exact h
 |cons x r ih=>refine⟨h.1,?_⟩;rw[e x (aM ..)];exact ih (λy hy=>e y (aP _ hy)) h.2
theorem D_(h:tS z a l t):l.map cj=Eh a (l.map λx=>z x.1):=by
 induction l generalizing a with
 |nil=>rfl
 |cons x r ih=>simp only[ao,Eh];rw[h.1,ih h.2]
end
theorem MI{α:Type}{f:α->Int}(hf:∀x,0<=f x):∀m:List α,0<=(m.map f).sum
 | []=>by simp
 |y::r=>by have:=hf y;have:=MI hf r;rw[ao,b8];lia
theorem QE{α:Type} [DecidableEq α]{f:α->Int}{x:α}:∀{m:List α},x∈m->(m.map f).sum=f x+((m.erase x).map f).sum
 | [],h=>nomatch h
 |y::r,h=>by
  by_cases e:y=x
  ·subst e;rw[List.erase_cons_head,ao,b8]
  ·rw[List.erase_cons_tail (by simpa using e),ao,ao,b8,b8,QE ((List.mem_cons.mp h).resolve_left λz=>e z.symm)]
   lia
theorem DJ{α:Type} [DecidableEq α]{f:α->Int}(hf:∀x,0<=f x):∀{l m:List α},l.Nodup->(∀x∈l,x∈m)->(l.map f).sum<=(m.map f).sum
 | [],m,_,_=>MI hf m
 |x::l,m,nd,h=>by
  obtain⟨n1,n2⟩:=List.nodup_cons.mp nd
  have:=DJ hf n2 (m:=m.erase x) λy hy=>(List.mem_erase_of_ne (λe:y=x=>n1 (e▸hy))).mpr (h y (aP _ hy))
  rw[QE (h x (aM ..)),ao,b8]
  lia
theorem len_sub{α:Type} [DecidableEq α]{l m:List α}(nd:l.Nodup)(h:∀x∈l,x∈m):l.length<=m.length:=by
 have:=DJ (f:=λ_:α=>(1:Int)) (λ_=>by decide) nd h
 have e:∀l:List α,(l.map λ_=>(1:Int)).sum=l.length:=λl=>by induction l with|nil=>rfl|cons x r ih=>rw[ao,b8,ih,ai];lia
 rw[e,e]at this
 lia
noncomputable def lk:List (Nat×Int)->Nat->Option Int
 | [],_=>none
 |x::r,k=>if x.1=k then some x.2 else lk r k
theorem yX:∀{l:List (Nat×Int)} {k:Nat} {q:Int},lk l k=some q->(k,q)∈l
 | [],_,_,h=>nomatch h
 |x::r,k,q,h=>by
  unfold lk at h
  by_cases e:x.1=k
  ·rw[if_pos e]at h;cases h;rw[←e];exact aM ..
  ·rw[if_neg e]at h;exact aP _ (yX h)
theorem vz:∀{l:List (Nat×Int)} {k:Nat},k∉l.map aJ->lk l k=none
 | [],_,_=>rfl
 |x::r,k,h=>by
  rw[ao,bI]at h
  unfold lk
  rw[if_neg λe=>h (.inl e.symm)]
  exact vz λm=>h (.inr m)
theorem PV:∀{l:List (Nat×Int)} {k:Nat} {q:Int},(l.map aJ).Nodup->(k,q)∈l->lk l k=some q
 | [],_,_,_,m=>nomatch m
 |x::r,k,q,nd,m=>by
  obtain⟨n1,n2⟩:=List.nodup_cons.mp nd
  unfold lk
  rcases List.mem_cons.mp m with rfl|m
  ·exact if_pos rfl
  ·rw[if_neg λe:x.1=k=>n1 (by rw[e];exact bK (f:=aJ) m)]
   exact PV n2 m
theorem pI{l:List (Nat×Int)}{k:Nat}(h:k∈l.map aJ):∃q,lk l k=some q:=by
 cases e:lk l k with
 |some q=>exact⟨q,rfl⟩
 |none=>
  exfalso
  induction l with
  |nil=>cases h
  |cons x r ih=>
   unfold lk at e
   by_cases z:x.1=k
   ·rw[if_pos z]at e;cases e
   ·rw[if_neg z]at e
    rw[ao,bI]at h
    exact ih (h.resolve_left λy=>z y.symm) e
noncomputable def Gd (x:Own):Th->Prop
 | .no=>True
 | .nu n=> -1000000000000<=n/\n<=1000000000000
 | .ce k=>k<x.G.length/\(x.p k).isSome=true
structure XF(M:Mem):Prop where
 l2:M.ws.length<=200
 ob:M.so.b=0
 o0:0<=M.so.t
 ot:M.so.t<=M.so.e
 hv:(M.sy.b=M.so.e/\M.ss.b=M.sy.e/\M.ss.e=M.ws.length)∨(M.ss.b=M.so.e/\M.sy.b=M.ss.e/\M.sy.e=M.ws.length)
 yw:M.sy.e-M.sy.b=M.ss.e-M.ss.b
 y0:M.sy.b<=M.sy.t
 yt:M.sy.t<=M.sy.e
 st:M.ss.t=M.ss.b
 rm:M.sy.t-M.sy.b<=M.so.e-M.so.t
 SQ:M.so.e<=73
noncomputable def Vb (ws:List Int) (a g:Int) (f:Nat->Int) (n:Nat):Prop:=pM ws a=2*(4*n+g)/\∀j:Nat,j<n->pM ws (a+1+j)=f j
structure In(x:Own)(M:Mem)(O Y:List (Nat×Int)):Prop where
 lp:x.P.length=x.G.length
 ls:x.S.length=x.G.length
 Fb:x.G.length<=10
 ag:∀k,k<x.G.length->0<=x.g k/\x.g k<=2
 s8:∀k,(x.s k).length<=8
 fr:XF M
 wo:jP M.ws
 oe:∀k a,(k,a)∈O↔k<x.G.length/\x.g k=2/\x.p k=some a
 ye:∀k a,(k,a)∈Y↔k<x.G.length/\x.g k<2/\x.p k=some a
 od:∀k,k<x.G.length->x.g k=2->(x.p k).isSome=true
 lo:tS x.z 0 O M.so.t
 ly:tS x.z M.sy.b Y M.sy.t
 ce:∀k a,(k,a)∈O∨(k,a)∈Y->Vb M.ws a (x.g k) (λj=>wd x.p (x.t k j)) (x.s k).length
 gs:∀k a,(k,a)∈O∨(k,a)∈Y->∀t∈x.s k,Gd x t
 gd:∀t∈x.D,Gd x t
 hd:M.hw=x.D.map (wd x.p)
 d4:1<=x.D.length/\x.D.length<=4
 b1:∀q∈M.ks,∃k a j i,(k,a)∈O/\j<(x.s k).length/\q=a+1+(j:Nat)/\x.t k j= .ce i/\x.g i<2
 b2:∀k a j i,(k,a)∈O->j<(x.s k).length->x.t k j= .ce i->x.g i<2->a+1+(j:Nat)∈M.ks
 kn:M.ks.Nodup
 sep:∀k j,x.t k 5= .ce j->x.t (k+1) 0= .ce j->False
structure CS where
 ws:List Int
 ot:Int
 st:Int
 cs:List Int
noncomputable def pp (x:Own) (F:List (Nat×Int)) (k:Nat):Option Int:=(lk F k).or (x.p k)
noncomputable def Jk (x:Own) (F:List (Nat×Int)) (t:Th):Prop:=∀i,t= .ce i->x.g i<2->i∈F.map aJ
noncomputable def Vi (x:Own) (F:List (Nat×Int)) (Dn:List Int) (ws:List Int) (p:Int) (t:Th):Prop:=(pM ws p=wd x.p t/\p∉Dn)∨(pM ws p=wd (pp x F) t/\Jk x F t)
noncomputable def At (x:Own) (O F:List (Nat×Int)) (k:Nat) (a g:Int):Prop:=((k,a)∈O/\g=2)∨((k,a)∈F/\g=x.g k+1)
structure xS(x:Own)(M:Mem)(O Y F:List (Nat×Int))(Dn:List Int)(c:CS):Prop where
 len:c.ws.length=M.ws.length
 wo:jP c.ws
 cs:c.cs=F.map cj
 fy:∀k,k∈F.map aJ->∃a,(k,a)∈Y
 fn:(F.map aJ).Nodup
 lo:tS x.z M.so.t (F.filter λe=>decide (x.g e.1=1)) c.ot
 ls:tS x.z M.ss.b (F.filter λe=>decide (x.g e.1=0)) c.st
 yl:∀k a,(k,a)∈Y->k∉F.map aJ->Vb c.ws a (x.g k) (λj=>wd x.p (x.t k j)) (x.s k).length
 se:∀k a q,(k,a)∈Y->(k,q)∈F->pM c.ws a=2*q+1
 ce:∀k a g,At x O F k a g->pM c.ws a=2*(4*(x.s k).length+g)/\∀j:Nat,j<(x.s k).length->Vi x F Dn c.ws (a+1+j) (x.t k j)
 dn:∀p∈Dn,∃k a g j,At x O F k a g/\j<(x.s k).length/\p=a+1+(j:Nat)
noncomputable def Kq (x:Own) (F:List Nat):Th->List Nat
 | .ce i=>if x.g i<2/\i∉F then F++[i] else F
 |_=>F
noncomputable def r9 (s:S3) (w:Int):Bool:=rh w&&decide (s.b<=w/2/\w/2<=s.t-1)
noncomputable def kQ (s:S3) (c:CS) (w:Int):CS:=if r9 s w=true then(if rh (pM c.ws (w/2))=true then c else match lx c.ws (w/2).toNat with
  |some n=>if n%4=0 then⟨Cu c.ws (w/2).toNat c.st.toNat (n/4+1) n 1,c.ot,c.st+(n/4+1),c.cs++[c.st]⟩ else⟨Cu c.ws (w/2).toNat c.ot.toNat (n/4+1) n 2,c.ot+(n/4+1),c.st,c.cs++[c.ot]⟩
  |none=>c) else c
noncomputable def qo (s:S3) (c:CS) (w:Int):Int:=if r9 s w=true then pM (kQ s c w).ws (w/2) else w
structure QY(M:Mem)(c:CS)(w:Int):Prop where
 kw:(kd (.int w)).isSome=true
 o0:0<=c.ot
 s0:0<=c.st
 yg:r9 M.sy w=true->0<=w/2/\w/2<c.ws.length/\(rh (pM c.ws (w/2))=false->∃n,lx c.ws (w/2).toNat=some n/\(n%4=0->n/4+1<=M.ss.e-c.st/\(w/2<c.st∨c.st+(n/4+1)<=w/2))/\(n%4≠0->n/4+1<=M.so.e-c.ot/\(w/2<c.ot∨c.ot+(n/4+1)<=w/2)))
theorem zF{ws:List Int}{i j w:Int}(h0:0<=i)(h1:0<=j)(h:i≠j):pM (ws.set i.toNat w) j=pM ws j:=Jh (by lia)
theorem zE{ws:List Int}{i w:Int}(h:i<ws.length)(h0:0<=i):pM (ws.set i.toNat w) i=w:=Jg (by lia)
theorem I0{ws:List Int}{i t:Nat}{k n g:Int}:(Cu ws i t k n g).length=ws.length:=by unfold Cu;rw[bf,bf,z9]
theorem Rq{ws:List Int}{i t n g:Int}{m:Nat}(hn:n/4=m)(hi:0<=i)(ht:0<=t)(hl:t+m<ws.length)(hil:i+m<ws.length){p:Int}(hp:0<=p):
  pM (Cu ws i.toNat t.toNat (n/4+1) n g) p=if p=i then 2*t+1 else if p=t then 2*(4*m+g) else if t<p/\p<=t+m then pM ws (i+(p-t)) else pM ws p:=by
 unfold Cu
 by_cases c1:p=i
 ·subst c1
  rw[if_pos rfl,zE (by rw[bf,z9];lia) hi];lia
 rw[if_neg c1,zF hi hp (aE c1)]
 by_cases c2:p=t
 ·subst c2
  rw[if_pos rfl,zE (by rw[z9];lia) hp,hn]
 rw[if_neg c2,zF ht hp (aE c2)]
 unfold pM
 by_cases c3:t<p/\p<=t+m
 ·rw[if_pos c3,Pb _ (by lia) (by omega) (by omega),au,List.getElem?_take,if_pos (by lia),hJ,←au]
  congr 1;lia
 ·rw[if_neg c3,L9 _ (by lia)]
theorem L_{ws:List Int}{i t:Nat}{k n g:Int}(h:jP ws)(n0:0<=n)(n1:n<=34)(g0:0<=g)(g2:g<=2)(t9:t<=9999):jP (Cu ws i t k n g):=by
 unfold Cu
 refine((Pc h (λw hw=>h w (gM (gN hw))) _).set ?_).set ?_
 ·rw[sN,if_neg (by lia),if_pos (by lia)];rfl
 ·rw[sN,if_neg (by lia),if_neg (by omega),if_pos (by lia)];rfl
section
variable{x:Own}{M:Mem}{O Y F:List (Nat×Int)}{Dn:List Int}{c:CS}
theorem Own.z1(x:Own)(k:Nat):1<=x.z k:=by unfold Own.z;lia
theorem PU{k i:Nat}{q:Int}:lk (F++[(k,q)]) i=(lk F i).or (if k=i then some q else none):=by
 induction F with
 |nil=>show(if k=i then some q else none)=_;rfl
 |cons y r ih=>
  show(if y.1=i then some y.2 else lk (r++[(k,q)]) i)=(if y.1=i then some y.2 else lk r i).or _
  by_cases e:y.1=i
  ·rw[if_pos e,if_pos e];rfl
  ·rw[if_neg e,if_neg e];exact ih
theorem GL{k:Nat}(h:k∉F.map aJ):pp x F k=x.p k:=by unfold pp;rw[vz h];rfl
theorem Nz{k:Nat}{q:Int}(nd:(F.map aJ).Nodup)(h:(k,q)∈F):pp x F k=some q:=by unfold pp;rw[PV nd h];rfl
theorem UA{k:Nat}{q:Int}(hk:k∉F.map aJ){t:Th}(yk:x.g k<2)(h:Jk x F t):wd (pp x (F++[(k,q)])) t=wd (pp x F) t:=by
 cases t with
 |no=>rfl
 |nu n=>rfl
 |ce i=>
  by_cases e:i=k
  ·subst e;exact absurd (h i rfl yk) hk
  ·show 2*(pp x (F++[(k,q)]) i).getD 0+1=2*(pp x F i).getD 0+1
   unfold pp
   rw[PU,if_neg (aE e),gE]
theorem Jk.mono{F':List (Nat×Int)}{t:Th}(h:Jk x F t)(k:∀e∈F,e∈F'):Jk x F' t:=λi e y=>by
 obtain⟨z,hz,ez⟩:=List.mem_map.mp (h i e y)
 exact List.mem_map.mpr ⟨z,k z hz,ez⟩
theorem In.yg(I:In x M O Y){k:Nat}{a:Int}(h:(k,a)∈Y):x.g k=0∨x.g k=1:=by
 obtain⟨h1,h2,_⟩:=(I.ye k a).mp h
 have:=I.ag k h1
 lia
theorem In.QW(I:In x M O Y){k:Nat}{a:Int}(h:(k,a)∈Y):M.sy.b<=a/\a+x.z k<=M.sy.t:=uW x.z1 I.ly h
theorem In.QU(I:In x M O Y){k:Nat}{a:Int}(h:(k,a)∈O):0<=a/\a+x.z k<=M.so.t:=uW x.z1 I.lo h
theorem xS.fg(h:xS x M O Y F Dn c)(I:In x M O Y){k:Nat}{q:Int}(m:(k,q)∈F):x.g k=0∨x.g k=1:=by
 obtain⟨a,ha⟩:=h.fy k (bK (f:=aJ) m)
 exact I.yg ha
theorem OI(h:∀e∈F,x.g e.1=0∨x.g e.1=1):IL x.z (F.filter λe=>decide (x.g e.1=1))+IL x.z (F.filter λe=>decide (x.g e.1=0))=IL x.z F:=by
 induction F with
 |nil=>rfl
 |cons y r ih=>
  have:=ih λe he=>h e (aP _ he)
  unfold IL at this⊢
  rcases h y (aM ..) with e|e
  ·rw[bR (by simp[e]),bS (by simp[e])]
   simp only[ao,b8];lia
  ·rw[bS (by simp[e]),bR (by simp[e])]
   simp only[ao,b8];lia
theorem xS.rm(h:xS x M O Y F Dn c)(I:In x M O Y){l:List Nat}(nd:(F.map aJ++l).Nodup)(hl:∀k∈l,∃a,(k,a)∈Y):c.ot-M.so.t+(c.st-M.ss.b)+(l.map x.z).sum<=M.sy.t-M.sy.b:=by
 have e1:=tB h.lo
 have e2:=tB h.ls
 have e3:=tB I.ly
 have e4:=OI (x:=x) (F:=F) λe he=>h.fg I (k:=e.1) (q:=e.2) he
 have e5:=DJ (f:=x.z) (λk=>by have:=x.z1 k;lia) nd (m:=Y.map aJ) λk hk=>by
  rcases List.mem_append.mp hk with hk|hk
  ·obtain⟨a,ha⟩:=h.fy k hk;exact bK (f:=aJ) ha
  ·obtain⟨a,ha⟩:=hl k hk;exact bK (f:=aJ) ha
 rw[bo,eB,bU,bU]at e5
 have e6:(F.map (x.z∘aJ)).sum=IL x.z F:=rfl
 have e7:(Y.map (x.z∘aJ)).sum=IL x.z Y:=rfl
 lia
theorem xS.MM(h:xS x M O Y F Dn c)(I:In x M O Y):M.so.t<=c.ot/\c.ot<=M.so.e/\M.ss.b<=c.st/\c.st<=M.ss.e:=by
 have e:=h.rm I (l:=[]) (by rw[aD];exact h.fn) (λ_ z=>nomatch z)
 have e1:=tB h.lo
 have e2:=tB h.ls
 have n:∀l:List (Nat×Int),0<=IL x.z l:=λl=>MI (f:=λe:Nat×Int=>x.z e.1) (λe=>by have:=x.z1 e.1;lia) l
 have n1:=n (F.filter λe=>decide (x.g e.1=1))
 have n2:=n (F.filter λe=>decide (x.g e.1=0))
 have f:=I.fr
 have:=f.rm;have:=f.yw;have:=f.yt
 simp only[aB,fk]at e
 lia
theorem xS.VS(h:xS x M O Y F Dn c){k:Nat}{q:Int}(m:(k,q)∈F):(x.g k=1->M.so.t<=q/\q+x.z k<=c.ot)/\(x.g k=0->M.ss.b<=q/\q+x.z k<=c.st):=
 ⟨λe=>uW x.z1 h.lo (List.mem_filter.mpr ⟨m,by simpa using e⟩),λe=>uW x.z1 h.ls (List.mem_filter.mpr ⟨m,by simpa using e⟩)⟩
theorem xS.arg(h:xS x M O Y F Dn c)(I:In x M O Y){k:Nat}{a g:Int}(m:At x O F k a g):0<=a/\((a+x.z k<=c.ot)∨(M.ss.b<=a/\a+x.z k<=c.st))/\a+x.z k<=M.ws.length/\(a+x.z k<=M.sy.b∨M.sy.t<=a):=by
 have t:=h.MM I
 have f:=I.fr
 have:=f.hv;have:=f.yw;have:=f.y0;have:=f.yt;have:=f.o0;have:=f.ot
 rcases m with ⟨m,_⟩|⟨m,_⟩
 ·have:=I.QU m;omega
 ·have r:=h.VS m
  rcases h.fg I m with e|e
  ·have:=r.2 e;omega
  ·have:=r.1 e;lia
theorem xS.U3(h:xS x M O Y F Dn c)(I:In x M O Y){k k':Nat}{a a' g g' i:Int}(m:At x O F k a g)(m':At x O F k' a' g')(h1:a<=i)(h2:i<a+x.z k)(h3:a'<=i)(h4:i<a'+x.z k'):k=k'/\a=a':=by
 have t:=h.MM I
 have f:=I.fr
 have:=f.hv;have:=f.yw;have:=f.y0;have:=f.yt
 have L:=Gk I.lo h.lo
 have mo:∀{k:Nat} {a g:Int},At x O F k a g->((k,a)∈O++F.filter (λe=>decide (x.g e.1=1))/\a+x.z k<=c.ot)∨((k,a)∈F.filter (λe=>decide (x.g e.1=0))/\M.ss.b<=a):=λ{k a g} m=>by
  rcases m with ⟨m,_⟩|⟨m,_⟩
  ·have:=I.QU m;exact .inl ⟨bV _ m,by lia⟩
  ·rcases h.fg I m with e|e
   ·exact .inr ⟨List.mem_filter.mpr ⟨m,by simpa using e⟩,((h.VS m).2 e).1⟩
   ·exact .inl ⟨br _ (List.mem_filter.mpr ⟨m,by simpa using e⟩),((h.VS m).1 e).2⟩
 rcases mo m with ⟨n,b⟩|⟨n,b⟩
 ·rcases mo m' with ⟨n',b'⟩|⟨n',b'⟩
  ·exact uV x.z1 L n n' h1 h2 h3 h4
  ·lia
 ·rcases mo m' with ⟨n',b'⟩|⟨n',b'⟩
  ·lia
  ·exact uV x.z1 h.ls n n' h1 h2 h3 h4
end
section
variable{x:Own}{M:Mem}{O Y F:List (Nat×Int)}{Dn:List Int}{c:CS}
theorem Vi.new{k:Nat}{q p:Int}{ws ws':List Int}{t:Th}(h:Vi x F Dn ws p t)(hk:k∉F.map aJ)(yk:x.g k<2)(e:pM ws' p=pM ws p):Vi x (F++[(k,q)]) Dn ws' p t:=by
 rcases h with ⟨h1,h2⟩|⟨h1,h2⟩
 ·exact .inl ⟨e.trans h1,h2⟩
 ·exact .inr ⟨by rw[UA hk yk h2];exact e.trans h1,h2.mono λy hy=>bV _ hy⟩
theorem At.app{k:Nat}{a g:Int}{l:List (Nat×Int)}(h:At x O F k a g):At x O (F++l) k a g:=h.imp id λ⟨m,e⟩=>⟨bV _ m,e⟩
theorem xS.copy(h:xS x M O Y F Dn c)(I:In x M O Y){i:Nat}{a t:Int}(hy:(i,a)∈Y)(hi:i∉F.map aJ)(ht:(x.g i=0/\t=c.st)∨(x.g i=1/\t=c.ot)):
  xS x M O Y (F++[(i,t)]) Dn ⟨Cu c.ws a.toNat t.toNat ((4*(x.s i).length+x.g i)/4+1) (4*(x.s i).length+x.g i) (x.g i+1),if x.g i=0 then c.ot else c.ot+x.z i,if x.g i=0 then c.st+x.z i else c.st,c.cs++[t]⟩/\0<=t/\t+x.z i<=M.ws.length/\(t+x.z i<=a∨a+x.z i<=t):=by
 have tp:=h.MM I
 have f:=I.fr
 have hv:=f.hv;have yw:=f.yw;have y0:=f.y0;have yt:=f.yt;have o0:=f.o0;have l2:=f.l2;have s8:=I.s8 i
 have yr:=I.QW hy
 have gy:=I.yg hy
 have rm:=h.rm I (l:=[i]) (List.nodup_append.mpr ⟨h.fn,List.nodup_cons.mpr ⟨bz,cD⟩,λu hu v hv e=>by rw[aU]at hv;subst hv;exact hi (e▸hu)⟩) λk hk=>by rw[aU]at hk;subst hk;exact⟨a,hy⟩
 simp only[ao,aB,b8,fk]at rm
 have frm:=f.rm
 have ez:x.z i=(x.s i).length+1:=rfl
 have tb:0<=t/\t+x.z i<=M.ws.length/\(t+x.z i<=a∨a+x.z i<=t)/\(t+x.z i<=M.sy.b∨M.sy.t<=t):=by omega
 obtain⟨t0,tl,ta,ty⟩:=tb
 have hn:(4*((x.s i).length:Int)+x.g i)/4=(x.s i).length:=by lia
 have cw:∀{p:Int},0<=p->pM (Cu c.ws a.toNat t.toNat ((4*(x.s i).length+x.g i)/4+1) (4*(x.s i).length+x.g i) (x.g i+1)) p=_:=λ{p} hp=>Rq (ws:=c.ws) (i:=a) (t:=t) (g:=x.g i+1) (m:=(x.s i).length) hn (by lia) t0 (by rw[h.len];lia) (by rw[h.len];lia) hp
 have away:∀{p:Int},0<=p->p≠a->(p<t∨t+x.z i<=p)->pM (Cu c.ws a.toNat t.toNat ((4*(x.s i).length+x.g i)/4+1) (4*(x.s i).length+x.g i) (x.g i+1)) p=pM c.ws p:=λ{p} hp n d=>by
  rw[cw hp,if_neg n,if_neg (by lia),if_neg (by lia)]
 have atA:∀{k:Nat} {b g:Int},At x O F k b g->∀{p:Int},b<=p->p<b+x.z k->pM (Cu c.ws a.toNat t.toNat ((4*(x.s i).length+x.g i)/4+1) (4*(x.s i).length+x.g i) (x.g i+1)) p=pM c.ws p:=λ{k b g} m {p} p1 p2=>by
  have:=h.arg I m
  exact away (by lia) (by lia) (by omega)
 have yA:∀{k:Nat} {b:Int},(k,b)∈Y->k≠i->∀{p:Int},b<=p->p<b+x.z k->pM (Cu c.ws a.toNat t.toNat ((4*(x.s i).length+x.g i)/4+1) (4*(x.s i).length+x.g i) (x.g i+1)) p=pM c.ws p:=λ{k b} m n {p} p1 p2=>by
  have r:=I.QW m
  exact away (by lia) (λe=>n (uV x.z1 I.ly m hy p1 p2 (i:=p) (by lia) (by lia)).1) (by lia)
 have kz:∀k,((x.s k).length:Int)<x.z k:=λk=>by unfold Own.z;lia
 have i2:x.g i<2:=by lia
 refine⟨⟨?_,?_,?_,?_,?_,?_,?_,?_,?_,?_,?_⟩,t0,tl,ta⟩
 ·show(Cu c.ws _ _ _ _ _).length=_;rw[I0];exact h.len
 ·exact L_ h.wo (by lia) (by lia) (by lia) (by lia) (by lia)
 ·show c.cs++[t]=_;rw[h.cs,bo];rfl
 ·intro k hk
  rw[bo,dk]at hk
  rcases hk with hk|hk
  ·exact h.fy k hk
  ·rw[ao,aB,aU]at hk;subst hk;exact⟨a,hy⟩
 ·rw[bo]
  exact List.nodup_append.mpr ⟨h.fn,List.nodup_cons.mpr ⟨bz,cD⟩,λu hu v hv e=>by rw[ao,aB,aU]at hv;subst hv;exact hi (e▸hu)⟩
 ·show tS x.z M.so.t ((F++[(i,t)]).filter _) (if x.g i=0 then c.ot else c.ot+x.z i)
  rw[df]
  rcases ht with ⟨e,rfl⟩|⟨e,rfl⟩
  ·rw[if_pos e,bR (by simp[e]),dj,aD];exact h.lo
  ·rw[if_neg (by lia),bS (by simp[e]),dj];exact Bg h.lo
 ·show tS x.z M.ss.b ((F++[(i,t)]).filter _) (if x.g i=0 then c.st+x.z i else c.st)
  rw[df]
  rcases ht with ⟨e,rfl⟩|⟨e,rfl⟩
  ·rw[if_pos e,bS (by simp[e]),dj];exact Bg h.ls
  ·rw[if_neg (by lia),bR (by simp[e]),dj,aD];exact h.ls
 ·intro k b hb nk
  rw[bo,dk,ao,aB,aU,not_or]at nk
  obtain⟨e1,e2⟩:=h.yl k b hb nk.1
  have:=kz k
  exact⟨(yA hb nk.2 (cN _) (by lia)).trans e1,λj hj=>(yA hb nk.2 (by lia) (by lia)).trans (e2 j hj)⟩
 ·intro k b q hb hq
  rcases List.mem_append.mp hq with hq|hq
  ·have n:k≠i:=λe=>hi (by rw[←e];exact bK (f:=aJ) hq)
   have:=kz k
   exact(yA hb n (cN _) (by lia)).trans (h.se k b q hb hq)
  ·rw[aU]at hq
   cases hq
   have e1:=((I.ye i b).mp hb).2.2
   rw[((I.ye i a).mp hy).2.2]at e1
   cases e1
   show pM (Cu _ _ _ _ _ _) a=_
   rw[cw (by omega),if_pos rfl]
 ·intro k b g m
  have old:∀{k:Nat} {b g:Int},At x O F k b g->pM (Cu c.ws a.toNat t.toNat ((4*(x.s i).length+x.g i)/4+1) (4*(x.s i).length+x.g i) (x.g i+1)) b=2*(4*(x.s k).length+g)/\∀j:Nat,j<(x.s k).length->Vi x (F++[(i,t)]) Dn (Cu c.ws a.toNat t.toNat ((4*(x.s i).length+x.g i)/4+1) (4*(x.s i).length+x.g i) (x.g i+1)) (b+1+j) (x.t k j):=λ{k b g} m=>by
   obtain⟨e1,e2⟩:=h.ce k b g m
   have:=kz k
   exact⟨(atA m (cN _) (by lia)).trans e1,λj hj=>(e2 j hj).new hi i2 (atA m (by lia) (by lia))⟩
  rcases m with m|⟨m,e⟩
  ·exact old (.inl m)
  ·rcases List.mem_append.mp m with m|m
   ·exact old (.inr ⟨m,e⟩)
   ·rw[aU]at m
    cases m
    subst e
    refine⟨?_,λj hj=> .inl ⟨?_,λz=> ?_⟩⟩
    ·show pM (Cu _ _ _ _ _ _) t=_
     rw[cw t0,if_neg (by lia),if_pos rfl]
    ·show pM (Cu _ _ _ _ _ _) (t+1+j)=_
     rw[cw (by lia),if_neg (by lia),if_neg (by lia),if_pos (by lia),show a+(t+1+(j:Int)-t)=a+1+j by lia]
     exact(h.yl i a hy hi).2 j hj
    ·obtain⟨k,b,g,j',m,hj',e⟩:=h.dn _ z
     have:=h.arg I m
     have:=kz k
     omega
 ·intro p hp
  obtain⟨k,b,g,j,m,hj,e⟩:=h.dn p hp
  exact⟨k,b,g,j,m.app,hj,e⟩
theorem Be{q:Int}(h:0<=q):rh (2*q+1)=true:=by simp only[rh,decide_eq_true_eq];lia
theorem Jl{q:Int}:rh (2*q)=false:=by simp only[rh,decide_eq_false_iff_not];lia
theorem Nk(I:In x M O Y){t:Th}(g:Gd x t)(P:Nat->Option Int)(h:∀k,t= .ce k->0<=(P k).getD 0/\(P k).getD 0<=9999):(kd (.int (wd P t))).isSome=true:=by
 cases t with
 |no=>show(kd (.int (-1))).isSome=true;decide
 |nu n=>obtain⟨g1,g2⟩:=g;show(kd (.int (2*n))).isSome=true;rw[sN,if_neg (by lia),if_pos (by lia)];rfl
 |ce k=>have:=h k rfl;show(kd (.int (2*_+1))).isSome=true;rw[sN,if_neg (by lia),if_neg (by omega),if_pos (by lia)];rfl
theorem In.cell(I:In x M O Y){k:Nat}(g:Gd x (.ce k)):∃a,x.p k=some a/\((x.g k=2/\(k,a)∈O)∨(x.g k<2/\(k,a)∈Y)):=by
 obtain⟨g1,g2⟩:=g
 obtain⟨a,e⟩:=Option.isSome_iff_exists.mp g2
 have:=I.ag k g1
 by_cases z:x.g k=2
 ·exact⟨a,e,.inl ⟨z,(I.oe k a).mpr ⟨g1,z,e⟩⟩⟩
 ·exact⟨a,e,.inr ⟨by lia,(I.ye k a).mpr ⟨g1,by lia,e⟩⟩⟩
theorem wZ{s:S3}{w:Int}(h:rh w=true->w/2<s.b∨s.t<=w/2):r9 s w=false:=by
 unfold r9
 cases e:rh w with
 |false=>rfl
 |true=>have:=h e;simp only[eS,decide_eq_false_iff_not];lia
theorem xS.A4(h:xS x M O Y F Dn c){w:Int}(hy:r9 M.sy w=false):kQ M.sy c w=c/\qo M.sy c w=w:=by
 unfold qo kQ;rw[hy];exact⟨rfl,rfl⟩
theorem xS.meet(h:xS x M O Y F Dn c)(I:In x M O Y){t:Th}(g:Gd x t){w:Int}(hw:w=wd x.p t∨(w=wd (pp x F) t/\Jk x F t)):
  QY M c w/\(kd (.int (qo M.sy c w))).isSome=true/\∃l,xS x M O Y (F++l) Dn (kQ M.sy c w)/\(F++l).map aJ=Kq x (F.map aJ) t/\qo M.sy c w=wd (pp x (F++l)) t/\Jk x (F++l) t:=by
 have tp:=h.MM I
 have f:=I.fr
 have hv:=f.hv;have yw:=f.yw;have y0:=f.y0;have yt:=f.yt;have o0:=f.o0;have l2:=f.l2
 have hO:0<=c.ot:=by lia
 have hS:0<=c.st:=by lia
 have plain:∀{w:Int},(kd (.int w)).isSome=true->r9 M.sy w=false->w=wd (pp x F) t->Jk x F t->Kq x (F.map aJ) t=F.map aJ->QY M c w/\(kd (.int (qo M.sy c w))).isSome=true/\∃l,xS x M O Y (F++l) Dn (kQ M.sy c w)/\(F++l).map aJ=Kq x (F.map aJ) t/\qo M.sy c w=wd (pp x (F++l)) t/\Jk x (F++l) t:=λ{w} k y e i v=>by
  obtain⟨s1,s2⟩:=h.A4 y
  refine⟨⟨k,hO,hS,λz=>by rw[y]at z;cases z⟩,by rw[s2];exact k,[],?_⟩
  rw[aD,s1,s2,v]
  exact⟨h,rfl,e,i⟩
 cases t with
 |no=>
  have e:w= -1:=by rcases hw with e|⟨e,_⟩<;>exact e
  subst e
  exact plain (by decide) (wZ λz=>absurd z (by decide)) rfl (λi z=>nomatch z) rfl
 |nu n=>
  have e:w=2*n:=by rcases hw with e|⟨e,_⟩<;>exact e
  subst e
  exact plain (Nk I g x.p (λk z=>nomatch z)) (wZ (by rw[Jl];intro z;cases z)) rfl (λi z=>nomatch z) rfl
 |ce i=>
  obtain⟨a,ea,⟨gi,m⟩|⟨gi,m⟩⟩:=I.cell g
  ·
   have ni:i∉F.map aJ:=λz=>by obtain⟨b,hb⟩:=h.fy i z;have:=((I.ye i b).mp hb).2.1;lia
   have r:=I.QU m
   have z1:=x.z1 i
   have e:w=2*a+1:=by
    rcases hw with e|⟨e,_⟩
    ·rw[e];show 2*(x.p i).getD 0+1=_;rw[ea];rfl
    ·rw[e];show 2*(pp x F i).getD 0+1=_;rw[GL ni,ea];rfl
   subst e
   refine plain (by rw[sN,if_neg (by lia),if_neg (by lia),if_pos (by lia)];rfl) (wZ λ_=>by rw[show(2*a+1)/2=a by lia];lia) ?_ (λj z y=>by cases z;lia) ?_
   ·show _=2*(pp x F i).getD 0+1;rw[GL ni,ea];rfl
   ·show(if x.g i<2/\_ then _ else _)=_;rw[if_neg (by lia)]
  ·have r:=I.QW m
   have z1:=x.z1 i
   by_cases hi:i∈F.map aJ
   ·
    obtain⟨q,hq⟩:=pI hi
    have mq:=yX hq
    have ep:pp x F i=some q:=Nz h.fn mq
    have rq:=h.arg I (k:=i) (a:=q) (g:=x.g i+1) (.inr ⟨mq,rfl⟩)
    have vs:Kq x (F.map aJ) (.ce i)=F.map aJ:=by show(if _/\i∉_ then _ else _)=_;rw[if_neg λz=>z.2 hi]
    have inf:Jk x F (.ce i):=λj z _=>by cases z;exact hi
    have ew:wd (pp x F) (.ce i)=2*q+1:=by show 2*(pp x F i).getD 0+1=_;rw[ep];rfl
    have kq:(kd (.int (2*q+1))).isSome=true:=by rw[sN,if_neg (by omega),if_neg (by lia),if_pos (by lia)];rfl
    by_cases e0:w=2*q+1
    ·subst e0
     exact plain kq (wZ λ_=>by rw[show(2*q+1)/2=q by lia];lia) ew.symm inf vs
    ·have e:w=2*a+1:=by
      rcases hw with e|⟨e,_⟩
      ·rw[e];show 2*(x.p i).getD 0+1=_;rw[ea];rfl
      ·exact absurd (e.trans ew) e0
     subst e
     have e2:(2*a+1)/2=a:=by lia
     have hyg:r9 M.sy (2*a+1)=true:=by unfold r9;rw[Be (by lia),e2];simp only[eS,decide_eq_true_eq];lia
     have es:=h.se i a q m mq
     have ip:rh (pM c.ws a)=true:=by rw[es];exact Be (by lia)
     have mc:kQ M.sy c (2*a+1)=c:=by unfold kQ;rw[hyg,if_pos rfl,e2,if_pos ip]
     have mw:qo M.sy c (2*a+1)=2*q+1:=by unfold qo;rw[hyg,if_pos rfl,mc,e2];exact es
     refine⟨⟨by rw[sN,if_neg (by lia),if_neg (by lia),if_pos (by omega)];rfl,hO,hS,λ_=>⟨by lia,by rw[h.len];lia,λz=>by rw[e2,ip]at z;cases z⟩⟩,by rw[mw];exact kq,[],?_⟩
     rw[aD,mc,mw,vs]
     exact⟨h,rfl,ew.symm,inf⟩
   ·
    have e:w=2*a+1:=by
     rcases hw with e|⟨_,e⟩
     ·rw[e];show 2*(x.p i).getD 0+1=_;rw[ea];rfl
     ·exact absurd (e i rfl gi) hi
    subst e
    have e2:(2*a+1)/2=a:=by lia
    have hyg:r9 M.sy (2*a+1)=true:=by unfold r9;rw[Be (by lia),e2];simp only[eS,decide_eq_true_eq];lia
    obtain⟨hc,_⟩:=h.yl i a m hi
    have gy:=I.yg m
    have s8:=I.s8 i
    have ez:x.z i=(x.s i).length+1:=rfl
    have ip:rh (pM c.ws a)=false:=by rw[hc];exact Jl
    have cn:lx c.ws a.toNat=some (4*(x.s i).length+x.g i):=by
     rw[pW,show c.ws.getD a.toNat 0=pM c.ws a from rfl,hc,h.len,if_pos (by omega)]
     congr 1;lia
    have vs:Kq x (F.map aJ) (.ce i)=F.map aJ++[i]:=by show(if _/\i∉_ then _ else _)=_;rw[if_pos ⟨gi,hi⟩]
    have n4:(4*((x.s i).length:Int)+x.g i)%4=x.g i:=by lia
    have n5:(4*((x.s i).length:Int)+x.g i)/4+1=x.z i:=by lia
    have fin:∀{t:Int} {C:CS},kQ M.sy c (2*a+1)=C->C=⟨Cu c.ws a.toNat t.toNat ((4*(x.s i).length+x.g i)/4+1) (4*(x.s i).length+x.g i) (x.g i+1),if x.g i=0 then c.ot else c.ot+x.z i,if x.g i=0 then c.st+x.z i else c.st,c.cs++[t]⟩->((x.g i=0/\t=c.st)∨(x.g i=1/\t=c.ot))->
      QY M c (2*a+1)/\(kd (.int (qo M.sy c (2*a+1)))).isSome=true/\∃l,xS x M O Y (F++l) Dn (kQ M.sy c (2*a+1))/\(F++l).map aJ=Kq x (F.map aJ) (.ce i)/\qo M.sy c (2*a+1)=wd (pp x (F++l)) (.ce i)/\Jk x (F++l) (.ce i):=λ{t C} mc eC ht=>by
     subst eC
     obtain⟨md,t0,tl,ta⟩:=h.copy I m hi ht
     have mw:qo M.sy c (2*a+1)=2*t+1:=by
      unfold qo;rw[hyg,if_pos rfl,mc,e2]
      exact md.se i a t m (br _ (List.mem_singleton.mpr rfl))
     have rm:=h.rm I (l:=[i]) (List.nodup_append.mpr ⟨h.fn,List.nodup_cons.mpr ⟨bz,cD⟩,λu hu v hv e=>by rw[aU]at hv;subst hv;exact hi (e▸hu)⟩) λk hk=>by rw[aU]at hk;subst hk;exact⟨a,m⟩
     simp only[ao,aB,b8,fk]at rm
     have frm:=f.rm
     refine⟨⟨by rw[sN,if_neg (by lia),if_neg (by lia),if_pos (by lia)];rfl,hO,hS,λ_=>⟨by lia,by rw[h.len];lia,λ_=>⟨_,by rw[e2];exact cn,λz=> ?_,λz=> ?_⟩⟩⟩,?_,[(i,t)],?_,?_,?_,?_⟩
     ·rw[n5,e2];lia
     ·rw[n5,e2];lia
     ·rw[mw,sN,if_neg (by lia),if_neg (by lia),if_pos (by lia)];rfl
     ·rw[mc];exact md
     ·rw[vs,bo];rfl
     ·rw[mw]
      show _=2*(pp x (F++[(i,t)]) i).getD 0+1
      rw[Nz md.fn (br _ (List.mem_singleton.mpr rfl))];rfl
     ·intro j z _;cases z;rw[bo];exact br _ (List.mem_singleton.mpr rfl)
    have mc0:kQ M.sy c (2*a+1)=if (4*((x.s i).length:Int)+x.g i)%4=0 then⟨Cu c.ws a.toNat c.st.toNat ((4*(x.s i).length+x.g i)/4+1) (4*(x.s i).length+x.g i) 1,c.ot,c.st+((4*(x.s i).length+x.g i)/4+1),c.cs++[c.st]⟩ else⟨Cu c.ws a.toNat c.ot.toNat ((4*(x.s i).length+x.g i)/4+1) (4*(x.s i).length+x.g i) 2,c.ot+((4*(x.s i).length+x.g i)/4+1),c.st,c.cs++[c.ot]⟩:=by
     unfold kQ;rw[hyg,if_pos rfl,e2,if_neg (by rw[ip];intro z;cases z),cn]
    rcases gy with e|e
    ·refine fin (t:=c.st) (mc0.trans (if_pos (by lia))) ?_ (.inl ⟨e,rfl⟩)
     rw[if_pos e,if_pos e,n5,e];rfl
    ·refine fin (t:=c.ot) (mc0.trans (if_neg (by lia))) ?_ (.inr ⟨e,rfl⟩)
     rw[if_neg (by lia),if_neg (by lia),n5,e];rfl
theorem Own.tm{k j:Nat}(h:j<(x.s k).length):x.t k j∈x.s k:=by
 unfold Own.t;rw[au,af h];exact bH h
theorem xS.gd(h:xS x M O Y F Dn c)(I:In x M O Y){k:Nat}{a g:Int}(m:At x O F k a g){j:Nat}(hj:j<(x.s k).length):Gd x (x.t k j):=by
 rcases m with ⟨m,_⟩|⟨m,_⟩
 ·exact I.gs k a (.inl m) _ (x.tm hj)
 ·obtain⟨b,hb⟩:=h.fy k (bK (f:=aJ) m)
  exact I.gs k b (.inr hb) _ (x.tm hj)
theorem xS.slot(h:xS x M O Y F Dn c)(I:In x M O Y){k:Nat}{a g:Int}(m:At x O F k a g){j:Nat}(hj:j<(x.s k).length){w W:Int}(hw:pM c.ws (a+1+j)=w)(hW:qo M.sy c w=W):
  QY M c w/\(kd (.int W)).isSome=true/\0<=a+1+j/\a+1+j<M.ws.length/\∃l,xS x M O Y (F++l) ((a+1+j)::Dn) {kQ M.sy c w with ws:=(kQ M.sy c w).ws.set (a+1+(j:Int)).toNat W}/\(F++l).map aJ=Kq x (F.map aJ) (x.t k j):=by
 have ar:=h.arg I m
 have ez:x.z k=(x.s k).length+1:=rfl
 obtain⟨m1,m2,l,md,e1,e2,e3⟩:=h.meet I (h.gd I m hj) (w:=w) (by rcases (h.ce k a g m).2 j hj with z|z;exact .inl (hw▸z.1);exact .inr ⟨hw▸z.1,z.2⟩)
 rw[hW]at m2 e2
 refine⟨m1,m2,by lia,by omega,l,?_,e1⟩
 have ml:At x O (F++l) k a g:=m.app
 have kz:∀k,((x.s k).length:Int)<x.z k:=λk=>by unfold Own.z;lia
 have ne:∀{p:Int},0<=p->p≠a+1+j->pM ((kQ M.sy c w).ws.set (a+1+(j:Int)).toNat W) p=pM (kQ M.sy c w).ws p:=λ{p} p0 n=>zF (by lia) p0 (aE n)
 refine⟨?_,md.wo.set m2,md.cs,md.fy,md.fn,md.lo,md.ls,λk' b hb nk=> ?_,λk' b q hb hq=> ?_,λk' b g' m'=> ?_,λp hp=> ?_⟩
 ·show((kQ M.sy c w).ws.set _ W).length=_;rw[bf];exact md.len
 ·obtain⟨c1,c2⟩:=md.yl k' b hb nk
  have r:=I.QW hb
  have:=kz k'
  have f:=I.fr;have:=f.hv;have:=f.ot;have:=f.o0;have:=f.yw;have:=f.y0;have:=f.yt
  exact⟨(ne (by lia) (by lia)).trans c1,λi hi=>(ne (by lia) (by lia)).trans (c2 i hi)⟩
 ·have r:=I.QW hb
  have:=kz k'
  have f:=I.fr;have:=f.hv;have:=f.ot;have:=f.o0;have:=f.yw;have:=f.y0;have:=f.yt
  exact(ne (by lia) (by lia)).trans (md.se k' b q hb hq)
 ·obtain⟨c1,c2⟩:=md.ce k' b g' m'
  have r:=md.arg I m'
  have:=kz k'
  refine⟨(ne (by lia) λe=> ?_).trans c1,λi hi=> ?_⟩
  ·have d:=md.U3 I m' ml (i:=b) (cN _) (by lia) (by lia) (by lia)
   lia
  ·by_cases e:b+1+(i:Int)=a+1+j
   ·have d:=md.U3 I m' ml (i:=b+1+i) (by lia) (by lia) (by lia) (by lia)
    obtain⟨rfl,rfl⟩:=d
    have:i=j:=by lia
    subst this
    refine .inr ⟨?_,e3⟩
    show pM ((kQ M.sy c w).ws.set _ W) _=_
    rw[zE (by rw[md.len];lia) (by lia)]
    exact e2
   ·have ew:=ne (p:=b+1+i) (by lia) e
    rcases c2 i hi with ⟨z1,z2⟩|⟨z1,z2⟩
    ·exact .inl ⟨ew.trans z1,λz=>(List.mem_cons.mp z).elim e z2⟩
    ·exact .inr ⟨ew.trans z1,z2⟩
 ·rcases List.mem_cons.mp hp with rfl|hp
  ·exact⟨k,a,g,j,ml,hj,rfl⟩
  ·exact md.dn p hp
end
theorem MH{α:Type}{f:α->Int}:∀{l m:List α},(l.map f).Pairwise (·<·)->(m.map f).Pairwise (·<·)->(∀y,y∈l↔y∈m)->l=m
 | [],m,_,_,h=>by cases m with|nil=>rfl|cons y r=>exact absurd ((h y).mpr (aM ..)) bz
 |x::l,[],_,_,h=>absurd ((h x).mp (aM ..)) bz
 |x::l,y::m,hl,hm,h=>by
  rw[ao,eM]at hl hm
  have lo:∀z∈l,f x<f z:=λz hz=>hl.1 _ (bK hz)
  have mo:∀z∈m,f y<f z:=λz hz=>hm.1 _ (bK hz)
  have e:x=y:=by
   rcases List.mem_cons.mp ((h x).mp (aM ..)) with e|e
   ·exact e
   ·rcases List.mem_cons.mp ((h y).mpr (aM ..)) with e'|e'
    ·exact e'.symm
    ·have:=mo x e;have:=lo y e';lia
  subst e
  rw[MH hl.2 hm.2 λz=>⟨λhz=> ?_,λhz=> ?_⟩]
  ·rcases List.mem_cons.mp ((h z).mp (aP _ hz)) with e|e
   ·subst e;have:=lo z hz;lia
   ·exact e
  ·rcases List.mem_cons.mp ((h z).mpr (aP _ hz)) with e|e
   ·subst e;have:=mo z hz;lia
   ·exact e
theorem Av:∀{l:List Int},l.Pairwise (·<=·)->l.Nodup->l.Pairwise (·<·)
 | [],_,_=> .nil
 |x::l,h,nd=>by
  rw[eM]at h
  obtain⟨n1,n2⟩:=List.nodup_cons.mp nd
  exact List.pairwise_cons.mpr ⟨λy hy=>by have:=h.1 y hy;have:x≠y:=λe=>n1 (e▸hy);lia,Av h.2 n2⟩
noncomputable def uu (x:Own) (F:List Nat) (ts:List Th):List Nat:=ts.foldl (Kq x) F
noncomputable def QT (x:Own):Th->Bool
 | .ce i=>decide (x.g i<2)
 |_=>false
theorem MO{x:Own}:∀{ts:List Th} {F:List Nat},uu x F (ts.filter (QT x))=uu x F ts
 | [],_=>rfl
 |t::r,F=>by
  cases e:QT x t with
  |true=>rw[bS e];exact MO (ts:=r) (F:=Kq x F t)
  |false=>
   rw[bR (by rw[e];intro z;cases z)]
   have:Kq x F t=F:=by
    cases t with
    |no=>rfl
    |nu n=>rfl
    |ce i=>have:=of_decide_eq_false e;show(if _/\_ then _ else _)=_;rw[if_neg λz=>this z.1]
   show _=uu x (Kq x F t) r
   rw[this];exact MO
noncomputable def NY (x:Own):Nat->List Nat->Nat->List Nat
 |0,F,_=>F
 |n+1,F,t=>if t<F.length then NY x n (uu x F (x.s (F.getD t 0))) (t+1) else F
noncomputable def U5 (x:Own) (O:List (Nat×Int)):List Th:=x.D++O.flatMap λe=>x.s e.1
noncomputable def ord (x:Own) (O:List (Nat×Int)):List Nat:=NY x 11 (uu x [] (U5 x O)) 0
section
variable{x:Own}{M:Mem}{O Y F:List (Nat×Int)}{Dn:List Int}{c:CS}
noncomputable def wC (x:Own) (e:Nat×Int):List Int:=(bG (x.s e.1).length).map λj:Nat=>e.2+1+j
noncomputable def Sy (x:Own):List (Nat×Int)->Int->Th
 | [],_=> .no
 |e::r,p=>if e.2<p/\p<e.2+x.z e.1 then x.t e.1 (p-e.2-1).toNat else Sy x r p
theorem Kp{a b:Int}(h:tS x.z a O b){k:Nat}{q:Int}(m:(k,q)∈O){j:Nat}(hj:j<(x.s k).length):Sy x O (q+1+j)=x.t k j:=by
 induction O generalizing a with
 |nil=>cases m
 |cons e r ih=>
  have ez:x.z k=(x.s k).length+1:=rfl
  unfold Sy
  by_cases z:e.2<q+1+j/\q+1+j<e.2+x.z e.1
  ·rw[if_pos z]
   obtain⟨rfl,rfl⟩:=uV x.z1 h (k:=e.1) (q:=e.2) (aM ..) m (i:=q+1+j) (by lia) (by omega) (by lia) (by lia)
   congr 1;lia
  ·rw[if_neg z]
   rcases List.mem_cons.mp m with e'|m
   ·subst e';exact absurd (show q<q+1+(j:Int)/\q+1+(j:Int)<q+x.z k by omega) z
   ·exact ih h.2 m
theorem VY(k:Nat):(bG (x.s k).length).map (λj=>x.t k j)=x.s k:=by
 refine List.ext_getElem (by simp) λi h1 h2=> ?_
 rw[dY,List.getElem_range]
 unfold Own.t
 rw[au,af h2];rfl
theorem QB{a b:Int}(h:tS x.z a O b):∀{R:List (Nat×Int)},(∀e∈R,e∈O)->(R.flatMap (wC x)).map (Sy x O)=R.flatMap λe=>x.s e.1
 | [],_=>rfl
 |e::r,s=>by
  rw[dU,dU,bo,QB h λy hy=>s y (aP _ hy)]
  congr 1
  unfold wC
  rw[bU]
  refine(cZ λj hj=> ?_).trans (VY e.1)
  exact Kp h (k:=e.1) (q:=e.2) (s e (aM ..)) (List.mem_range.mp hj)
theorem Su{a b:Int}(h:tS x.z a O b):(O.flatMap (wC x)).Pairwise (·<·)/\∀p∈O.flatMap (wC x),a<=p:=by
 induction O generalizing a with
 |nil=>exact⟨.nil,λ_ z=>nomatch z⟩
 |cons e r ih=>
  obtain⟨i1,i2⟩:=ih h.2
  have h1:=h.1
  have z1:x.z e.1=(x.s e.1).length+1:=rfl
  have mm:∀p∈wC x e,a<p/\p<a+x.z e.1:=λp hp=>by
   obtain⟨j,hj,rfl⟩:=List.mem_map.mp hp
   have:=List.mem_range.mp hj
   omega
  rw[dU]
  refine⟨List.pairwise_append.mpr ⟨?_,i1,λp hp q hq=> ?_⟩,λp hp=> ?_⟩
  ·unfold wC
   rw[List.pairwise_map]
   exact List.Pairwise.imp (λ{i j} (z:i<j)=>by lia) List.pairwise_lt_range
  ·have:=mm p hp;have:=i2 q hq;lia
  ·rcases List.mem_append.mp hp with hp|hp
   ·have:=mm p hp;lia
   ·have:=i2 p hp;lia
theorem y3{e:Nat×Int}{p:Int}:p∈wC x e↔∃j,j<(x.s e.1).length/\p=e.2+1+(j:Nat):=by
 unfold wC
 rw[hV]
 exact⟨λ⟨j,h,e⟩=>⟨j,List.mem_range.mp h,e.symm⟩,λ⟨j,h,e⟩=>⟨j,List.mem_range.mpr h,e.symm⟩⟩
theorem In.bk(I:In x M O Y):mY M.ks=(O.flatMap (wC x)).filter λp=>QT x (Sy x O p):=by
 have s2:=(Su I.lo).1
 have nd:(mY M.ks).Nodup:=(qi M.ks).nodup_iff.mpr I.kn
 refine MH (f:=id) (by rw[gq];exact Av (Dd _) nd) (by rw[gq];exact s2.filter _) λp=> ?_
 rw[(qi M.ks).mem_iff,iO,iG]
 constructor
 ·intro hp
  obtain⟨k,a,j,i,m,hj,rfl,et,gi⟩:=I.b1 p hp
  refine⟨⟨(k,a),m,y3.mpr ⟨j,hj,rfl⟩⟩,?_⟩
  rw[Kp I.lo m hj,et]
  exact decide_eq_true gi
 ·rintro⟨⟨e,m,hp⟩,y⟩
  obtain⟨j,hj,rfl⟩:=y3.mp hp
  rw[Kp I.lo (k:=e.1) (q:=e.2) m hj]at y
  cases et:x.t e.1 j with
  |no=>rw[et]at y;cases y
  |nu n=>rw[et]at y;cases y
  |ce i=>rw[et]at y;exact I.b2 e.1 e.2 j i m hj et (of_decide_eq_true y)
theorem In.start(I:In x M O Y):uu x (uu x [] x.D) ((mY M.ks).map (Sy x O))=uu x [] (U5 x O):=by
 rw[I.bk,show(λp=>QT x (Sy x O p))=QT x∘Sy x O from rfl,←d_,MO,QB I.lo λe h=>h]
 unfold U5 uu
 rw[ir]
theorem Jv{z:Nat->Int}(hz:∀k,1<=z k):∀{l:List (Nat×Int)} {a b:Int},tS z a l b->(∀k q q',(k,q)∈l->(k,q')∈l->q=q')->(l.map aJ).Nodup
 | [],_,_,_,_=>cD
 |e::r,a,b,h,f=>by
  refine List.nodup_cons.mpr ⟨λm=> ?_,Jv hz h.2 λk q q' m m'=>f k q q' (aP _ m) (aP _ m')⟩
  obtain⟨y,hy,ey⟩:=List.mem_map.mp m
  have r:=uW hz h.2 (k:=y.1) (q:=y.2) hy
  have:=f e.1 e.2 y.2 (aM ..) (by rw[←ey];exact aP _ hy)
  have:=hz e.1
  have:=h.1
  lia
theorem In.XX(I:In x M O Y):(O.map aJ).Nodup:=Jv x.z1 I.lo λk q q' m m'=>by
 have e:=((I.oe k q).mp m).2.2
 rw[((I.oe k q').mp m').2.2]at e
 cases e;rfl
theorem UQ{α:Type} [DecidableEq α]{l m:List α}(nd:l.Nodup)(h:∀y∈l,y∈m)(g:m.length<=l.length):∀y∈m,y∈l:=λy hy=>by
 by_cases z:y∈l
 ·exact z
 ·have:=len_sub (l:=y::l) (m:=m) (List.nodup_cons.mpr ⟨z,nd⟩) λu hu=>by
   rcases List.mem_cons.mp hu with rfl|hu
   ·exact hy
   ·exact h u hu
  rw[ai]at this
  lia
theorem Jw{α β:Type}{f:α->β}:∀{l:List α},l.Nodup->(∀a∈l,∀b∈l,f a=f b->a=b)->(l.map f).Nodup
 | [],_,_=>cD
 |a::r,nd,h=>by
  obtain⟨n1,n2⟩:=List.nodup_cons.mp nd
  refine List.nodup_cons.mpr ⟨λm=> ?_,Jw n2 λa ha b hb=>h a (aP _ ha) b (aP _ hb)⟩
  obtain⟨b,hb,e⟩:=List.mem_map.mp m
  exact n1 (h a (aM ..) b (aP _ hb) e.symm▸hb)
theorem FC(s8:∀k,(x.s k).length<=8):∀R:List (Nat×Int),((R.flatMap (wC x)).length:Int)+R.length=IL x.z R/\(R.flatMap (wC x)).length<=8*R.length/\((R.flatMap (wC x)).length=8*R.length->∀e∈R,(x.s e.1).length=8)
 | []=>⟨rfl,aN _,λ_ _ z=>nomatch z⟩
 |e::r=>by
  obtain⟨h1,h2,h3⟩:=FC s8 r
  have l:(wC x e).length=(x.s e.1).length:=by unfold wC;rw[aj,cb]
  have:=s8 e.1
  have ez:x.z e.1=(x.s e.1).length+1:=rfl
  have es:IL x.z (e::r)=x.z e.1+IL x.z r:=by unfold IL;rw[ao,b8]
  rw[dU,aY,l,ai,es]
  refine⟨by lia,by lia,λz y hy=> ?_⟩
  rcases List.mem_cons.mp hy with rfl|hy
  ·lia
  ·exact h3 (by lia) y hy
theorem In.U6(I:In x M O Y):M.ks.length<64:=by
 refine fV λbig=> ?_
 have f:=I.fr
 have f1:=f.rm;have f2:=f.SQ
 have sub:∀p∈M.ks,p∈O.flatMap (wC x):=λp hp=>by
  obtain⟨k,a,j,i,m,hj,rfl,_⟩:=I.b1 p hp
  exact List.mem_flatMap.mpr ⟨_,m,y3.mpr ⟨j,hj,rfl⟩⟩
 have n1:=len_sub I.kn sub
 obtain⟨h1,h2,h3⟩:=FC I.s8 O
 have e1:=tB I.lo
 have e2:=tB I.ly
 have yl:∀l:List (Nat×Int),(l.length:Int)<=IL x.z l:=λl=>by
  induction l with
  |nil=>exact cN _
  |cons y r ih=>have:=x.z1 y.1;unfold IL at ih⊢;rw[ao,b8,ai];lia
 have y1:=yl Y
 have r9:∀{k j i:Nat} {a:Int},(k,a)∈O->j<(x.s k).length->x.t k j= .ce i->x.g i<2->∃b,(i,b)∈Y:=λ{k j i a} m hj et gi=>by
  have g:=I.gs k a (.inl m) _ (x.tm hj)
  rw[et]at g
  obtain⟨b,_,⟨z,_⟩|⟨_,z⟩⟩:=I.cell g
  ·lia
  ·exact⟨b,z⟩
 obtain⟨p0,hp0⟩:=fw (show 0<M.ks.length by lia)
 obtain⟨k0,a0,j0,i0,m0,hj0,_,et0,gi0⟩:=I.b1 p0 hp0
 obtain⟨b0,hb0⟩:=r9 m0 hj0 et0 gi0
 have y0:=gp hb0
 have o8:O.length=8:=by lia
 have y1:Y.length=1:=by lia
 have only:∀{i:Nat} {b:Int},(i,b)∈Y->i=i0:=λ{i b} m=>by
  obtain⟨y,rfl⟩:=List.length_eq_one_iff.mp y1
  rw[aU]at m hb0
  rw[←hb0]at m;cases m;rfl
 have all:=UQ I.kn sub (by lia)
 have each:∀{k:Nat} {a:Int},(k,a)∈O->∀{j:Nat},j<8->x.t k j= .ce i0:=λ{k a} m {j} hj=>by
  have l8:=h3 (by lia) _ m
  dsimp only at l8
  obtain⟨k',a',j',i',m',hj',e,et,gi⟩:=I.b1 _ (all (a+1+j) (List.mem_flatMap.mpr ⟨_,m,y3.mpr ⟨j,by dsimp only;lia,rfl⟩⟩))
  obtain⟨rfl,rfl⟩:=uV x.z1 I.lo m m' (i:=a+1+j) (by lia) (by unfold Own.z;lia) (by lia) (by unfold Own.z;lia)
  have:j=j':=by lia
  subst this
  obtain⟨b,hb⟩:=r9 m' hj' et gi
  rw[et,only hb]
 have hk:∀k∈O.map aJ,∃a,(k,a)∈O:=λk m=>by obtain⟨y,hy,rfl⟩:=List.mem_map.mp m;exact⟨y.2,hy⟩
 have nd:=Jw (f:=λk=>k/2) I.XX λk m k' m' e=>by
  obtain⟨a,ha⟩:=hk k m
  obtain⟨a',ha'⟩:=hk k' m'
  have e:k/2=k'/2:=e
  by_cases z:k=k'
  ·exact z
  ·rcases hZ z with l|l
   ·obtain rfl:k'=k+1:=by lia
    exact(I.sep k i0 (each ha (by decide)) (each ha' (by decide))).elim
   ·obtain rfl:k=k'+1:=by lia
    exact(I.sep k' i0 (each ha' (by decide)) (each ha (by decide))).elim
 have:=len_sub nd (m:=bG 5) λu hu=>by
  obtain⟨k,m,rfl⟩:=List.mem_map.mp hu
  obtain⟨a,ha⟩:=hk k m
  have:=((I.oe k a).mp ha).1
  have:=I.Fb
  exact List.mem_range.mpr (by lia)
 rw[aj,aj,cb,o8]at this
 lia
structure Nx(x:Own)(F:List (Nat×Int))(x':Own):Prop where
 S:x'.S=x.S
 D:x'.D=x.D
 P:x'.P.length=x.P.length
 G:x'.G.length=x.G.length
 p:∀k,k<x.G.length->x'.p k=if x.g k=2 then x.p k else lk F k
 g:∀k,k<x.G.length->x'.g k=if k∈F.map aJ then x.g k+1 else x.g k
structure S2(x:Own)(M:Mem)(F:List (Nat×Int))(Dn:List Int):Prop where
 f:∀k q,(k,q)∈F->∀j:Nat,j<(x.s k).length->q+1+j∈Dn
 b:∀p∈M.ks,p∈Dn
 d:∀t∈x.D,Jk x F t
noncomputable def T9 (x:Own) (M:Mem) (F:List (Nat×Int)) (c:CS) (ks:List Int):Mem:=⟨c.ws,⟨M.so.b,M.so.e,c.ot⟩,⟨M.ss.b,M.ss.e,c.st⟩,⟨M.sy.b,M.sy.e,M.sy.b⟩,x.D.map (wd (pp x F)),ks⟩
theorem xS.tr(h:xS x M O Y F Dn c)(I:In x M O Y)(d:S2 x M F Dn){k:Nat}{a g:Int}(m:At x O F k a g){j:Nat}(hj:j<(x.s k).length):pM c.ws (a+1+j)=wd (pp x F) (x.t k j)/\Jk x F (x.t k j):=by
 rcases (h.ce k a g m).2 j hj with ⟨z1,z2⟩|z
 ·have gt:=h.gd I m hj
  have nin:∀i,x.t k j= .ce i->¬x.g i<2:=λi e y=>by
   rcases m with ⟨m,_⟩|⟨m,_⟩
   ·exact z2 (d.b _ (I.b2 k a j i m hj e y))
   ·exact z2 (d.f k a m j hj)
  refine⟨z1.trans ?_,λi e y=>absurd y (nin i e)⟩
  cases e:x.t k j with
  |no=>rfl
  |nu n=>rfl
  |ce i=>
   have:=nin i e
   show 2*(x.p i).getD 0+1=2*(pp x F i).getD 0+1
   rw[GL λz=>by obtain⟨b,hb⟩:=h.fy i z;exact this ((I.ye i b).mp hb).2.1]
 ·exact z
theorem In.next(I:In x M O Y)(h:xS x M O Y F Dn c)(d:S2 x M F Dn){x':Own}(n:Nx x F x'){ks:List Int}(kn:ks.Nodup)
  (hk:∀p,p∈ks↔(p∈M.ks∨∃e∈F,x.g e.1=1/\p∈wC x e)/\r9 ⟨M.ss.b,M.ss.e,c.st⟩ (pM c.ws p)=true):
  In x' (T9 x M F c ks) (O++F.filter λe=>decide (x.g e.1=1)) (F.filter λe=>decide (x.g e.1=0)):=by
 have f:=I.fr
 have tp:=h.MM I
 have rm:=h.rm I (l:=[]) (by rw[aD];exact h.fn) (λ_ z=>nomatch z)
 simp only[aB,fk]at rm
 have f1:=f.rm;have f2:=f.hv;have f3:=f.yw;have f4:=f.y0;have f5:=f.yt;have f6:=f.l2;have f7:=f.o0;have f8:=f.ot
 have es:∀k,x'.s k=x.s k:=λk=>by unfold Own.s;rw[n.S]
 have et:∀k j,x'.t k j=x.t k j:=λk j=>by unfold Own.t;rw[es]
 have ez:x'.z=x.z:=by funext k;unfold Own.z;rw[es]
 have mF:∀{k:Nat} {q:Int},(k,q)∈F->k<x.G.length/\(x.g k=0∨x.g k=1)/\k∈F.map aJ:=λ{k q} m=>by
  have mk:=bK (f:=aJ) m
  obtain⟨a,ha⟩:=h.fy k mk
  exact⟨((I.ye k a).mp ha).1,I.yg ha,mk⟩
 have pF:∀{k:Nat} {q:Int},(k,q)∈F->x'.p k=some q:=λ{k q} m=>by
  obtain⟨m1,m2,m3⟩:=mF m
  rw[n.p k m1,if_neg (by lia)]
  exact PV h.fn m
 have gF:∀{k:Nat} {q:Int},(k,q)∈F->x'.g k=x.g k+1:=λ{k q} m=>by
  obtain⟨m1,m2,m3⟩:=mF m
  rw[n.g k m1,if_pos m3]
 have nF:∀{k:Nat},x.g k=2->k∉F.map aJ:=λ{k} e z=>by
  obtain⟨b,hb⟩:=h.fy k z
  have:=((I.ye k b).mp hb).2.1
  lia
 have gO:∀{k:Nat},k<x.G.length->x.g k=2->x'.g k=2/\x'.p k=x.p k:=λ{k} l e=>by
  rw[n.g k l,n.p k l,if_neg (nF e),if_pos e];exact⟨e,rfl⟩
 have th:∀{t:Th},Gd x t->Jk x F t->wd (pp x F) t=wd x'.p t/\Gd x' t:=λ{t} g i=>by
  cases t with
  |no=>exact⟨rfl,aF⟩
  |nu n=>exact⟨rfl,g⟩
  |ce k=>
   obtain⟨a,ea,⟨gi,m⟩|⟨gi,m⟩⟩:=I.cell g
   ·have o:=gO g.1 gi
    refine⟨?_,by rw[n.G];exact g.1,by rw[o.2];exact g.2⟩
    show 2*(pp x F k).getD 0+1=2*(x'.p k).getD 0+1
    rw[GL (nF gi),o.2]
   ·obtain⟨q,hq⟩:=pI (i k rfl gi)
    have mq:=yX hq
    refine⟨?_,by rw[n.G];exact g.1,by rw[pF mq];rfl⟩
    show 2*(pp x F k).getD 0+1=2*(x'.p k).getD 0+1
    rw[Nz h.fn mq,pF mq]
 have cel:∀{k:Nat} {a g:Int},At x O F k a g->x'.g k=g->Vb c.ws a (x'.g k) (λj=>wd x'.p (x'.t k j)) (x'.s k).length:=λ{k a g} m eg=>by
  refine⟨?_,λj hj=> ?_⟩
  ·rw[eg,es];exact(h.ce k a g m).1
  ·rw[es]at hj
   obtain⟨z1,z2⟩:=h.tr I d m hj
   show _=wd x'.p (x'.t k j)
   rw[et]
   exact z1.trans (th (h.gd I m hj) z2).1
 have atO:∀{k:Nat} {a:Int},(k,a)∈O++F.filter (λe=>decide (x.g e.1=1))->∃g,At x O F k a g/\x'.g k=g/\g=2/\k<x.G.length/\x'.p k=some a:=λ{k a} m=>by
  rcases List.mem_append.mp m with m|m
  ·obtain⟨o1,o2,o3⟩:=(I.oe k a).mp m
   have:=gO o1 o2
   exact⟨2,.inl ⟨m,rfl⟩,this.1,rfl,o1,by rw[this.2];exact o3⟩
  ·obtain⟨m,e⟩:=List.mem_filter.mp m
   have e:x.g k=1:=by simpa using e
   exact⟨x.g k+1,.inr ⟨m,rfl⟩,gF m,by lia,(mF m).1,pF m⟩
 have atY:∀{k:Nat} {a:Int},(k,a)∈F.filter (λe=>decide (x.g e.1=0))->∃g,At x O F k a g/\x'.g k=g/\g=1/\k<x.G.length/\x'.p k=some a:=λ{k a} m=>by
  obtain⟨m,e⟩:=List.mem_filter.mp m
  have e:x.g k=0:=by simpa using e
  exact⟨x.g k+1,.inr ⟨m,rfl⟩,gF m,by lia,(mF m).1,pF m⟩
 have yw:∀{t:Th},Gd x t->Jk x F t->(r9 ⟨M.ss.b,M.ss.e,c.st⟩ (wd (pp x F) t)=true↔∃i q,t= .ce i/\(i,q)∈F/\x.g i=0):=λ{t} g i=>by
  cases t with
  |no=>exact⟨(λz=>by rw[show wd (pp x F) Th.no= -1 from rfl,wZ (λz=>absurd z (by decide))]at z;cases z),λ⟨_,_,z,_⟩=>nomatch z⟩
  |nu n=>exact⟨(λz=>by rw[show wd (pp x F) (Th.nu n)=2*n from rfl,wZ (by rw[Jl];intro z;cases z)]at z;cases z),λ⟨_,_,z,_⟩=>nomatch z⟩
  |ce k=>
   obtain⟨a,ea,⟨gi,m⟩|⟨gi,m⟩⟩:=I.cell g
   ·have r:=I.QU m
    have:=x.z1 k
    refine⟨λz=> ?_,λ⟨i,q,e,m',e0⟩=>by cases e;lia⟩
    rw[show wd (pp x F) (Th.ce k)=2*a+1 by show 2*(pp x F k).getD 0+1=_;rw[GL (nF gi),ea];rfl,wZ λ_=>by show(2*a+1)/2<M.ss.b∨_;lia]at z
    cases z
   ·obtain⟨q,hq⟩:=pI (i k rfl gi)
    have mq:=yX hq
    have r:=h.VS mq
    have:=x.z1 k
    have e:wd (pp x F) (Th.ce k)=2*q+1:=by show 2*(pp x F k).getD 0+1=_;rw[Nz h.fn mq];rfl
    have e2:(2*q+1)/2=q:=by lia
    rw[e]
    rcases (mF mq).2.1 with e0|e0
    ·have r:=r.2 e0
     refine⟨λ_=>⟨k,q,rfl,mq,e0⟩,λ_=> ?_⟩
     unfold r9
     rw[Be (by lia),e2]
     simp only[eS,decide_eq_true_eq]
     lia
    ·have r:=r.1 e0
     refine⟨λz=> ?_,λ⟨i,q,e,m',e1⟩=>by cases e;lia⟩
     rw[wZ λ_=>by rw[e2];show q<M.ss.b∨_;lia]at z
     cases z
 refine⟨by rw[n.P,n.G];exact I.lp,by rw[n.S,n.G];exact I.ls,by rw[n.G];exact I.Fb,λk hk=> ?_,λk=>by rw[es];exact I.s8 k,?_,h.wo,λk a=> ?_,λk a=> ?_,λk hk e=> ?_,?_,?_,λk a m=> ?_,λk a m t ht=> ?_,λt ht=> ?_,?_,by rw[n.D];exact I.d4,λp hp=> ?_,λk a j i m hj e gi=> ?_,kn,λk j z1 z2=>I.sep k j (by rw[←et];exact z1) (by rw[←et];exact z2)⟩
 ·rw[n.G]at hk
  have:=I.ag k hk
  rw[n.g k hk]
  by_cases z:k∈F.map aJ
  ·rw[if_pos z]
   obtain⟨a,ha⟩:=h.fy k z
   have:=I.yg ha
   lia
  ·rw[if_neg z];exact this
 ·refine⟨?_,f.ob,?_,?_,?_,?_,?_,?_,rfl,?_,f.SQ⟩
  ·show c.ws.length<=200;rw[h.len];exact f6
  ·show 0<=c.ot;lia
  ·show c.ot<=M.so.e;lia
  ·show(M.ss.b=M.so.e/\M.sy.b=M.ss.e/\M.sy.e=c.ws.length)∨(M.sy.b=M.so.e/\M.ss.b=M.sy.e/\M.ss.e=c.ws.length);rw[h.len];lia
  ·show M.ss.e-M.ss.b=M.sy.e-M.sy.b;lia
  ·show M.ss.b<=c.st;lia
  ·show c.st<=M.ss.e;lia
  ·show c.st-M.ss.b<=M.so.e-c.ot;lia
 ·rw[n.G]
  refine⟨λm=> ?_,λ⟨h1,h2,h3⟩=> ?_⟩
  ·obtain⟨g,m1,m2,m3,m4,m5⟩:=atO m
   exact⟨m4,by lia,m5⟩
  ·have:=I.ag k h1
   rw[n.g k h1]at h2
   by_cases z:k∈F.map aJ
   ·rw[if_pos z]at h2
    obtain⟨q,hq⟩:=pI z
    have mq:=yX hq
    rw[pF mq]at h3;cases h3
    exact br _ (List.mem_filter.mpr ⟨mq,decide_eq_true (show x.g k=1 by lia)⟩)
   ·rw[if_neg z]at h2
    rw[n.p k h1,if_pos h2]at h3
    exact bV _ ((I.oe k a).mpr ⟨h1,h2,h3⟩)
 ·rw[n.G]
  refine⟨λm=> ?_,λ⟨h1,h2,h3⟩=> ?_⟩
  ·obtain⟨g,m1,m2,m3,m4,m5⟩:=atY m
   exact⟨m4,by lia,m5⟩
  ·have ag:=I.ag k h1
   rw[n.g k h1]at h2
   by_cases z:k∈F.map aJ
   ·rw[if_pos z]at h2
    obtain⟨q,hq⟩:=pI z
    have mq:=yX hq
    rw[pF mq]at h3;cases h3
    exact List.mem_filter.mpr ⟨mq,decide_eq_true (show x.g k=0 by lia)⟩
   ·rw[if_neg z]at h2
    rw[n.p k h1,if_neg (by lia),vz z]at h3
    cases h3
 ·rw[n.G]at hk
  rw[n.g k hk]at e
  by_cases z:k∈F.map aJ
  ·obtain⟨q,hq⟩:=pI z
   rw[pF (yX hq)];rfl
  ·rw[if_neg z]at e
   rw[n.p k hk,if_pos e];exact I.od k hk e
 ·rw[ez];exact Gk I.lo h.lo
 ·rw[ez];exact h.ls
 ·rcases m with m|m
  ·obtain⟨g,m1,m2,_⟩:=atO m;exact cel m1 m2
  ·obtain⟨g,m1,m2,_⟩:=atY m;exact cel m1 m2
 ·have at':∃g,At x O F k a g:=by
   rcases m with m|m
   ·obtain⟨g,m1,_⟩:=atO m;exact⟨g,m1⟩
   ·obtain⟨g,m1,_⟩:=atY m;exact⟨g,m1⟩
  obtain⟨g,m⟩:=at'
  rw[es]at ht
  obtain⟨j,hj,e⟩:=List.mem_iff_getElem.mp ht
  have e':x.t k j=t:=by unfold Own.t;rw[au,af hj];exact e
  have z:=h.tr I d m hj
  rw[←e']
  exact(th (h.gd I m hj) z.2).2
 ·rw[n.D]at ht
  exact(th (I.gd t ht) (d.d t ht)).2
 ·show x.D.map (wd (pp x F))=x'.D.map (wd x'.p)
  rw[n.D]
  exact cZ λt ht=>(th (I.gd t ht) (d.d t ht)).1
 ·obtain⟨h1,h2⟩:=(hk p).mp hp
  have at':∃k a g j,At x O F k a g/\(k,a)∈O++F.filter (λe=>decide (x.g e.1=1))/\j<(x.s k).length/\p=a+1+(j:Nat):=by
   rcases h1 with h1|⟨e,m,e1,h1⟩
   ·obtain⟨k,a,j,i,m,hj,rfl,_⟩:=I.b1 p h1
    exact⟨k,a,2,j,.inl ⟨m,rfl⟩,bV _ m,hj,rfl⟩
   ·obtain⟨j,hj,rfl⟩:=y3.mp h1
    exact⟨e.1,e.2,_,j,.inr ⟨m,rfl⟩,br _ (List.mem_filter.mpr ⟨m,decide_eq_true e1⟩),hj,rfl⟩
  obtain⟨k,a,g,j,m,m',hj,rfl⟩:=at'
  obtain⟨z1,z2⟩:=h.tr I d m hj
  rw[z1]at h2
  obtain⟨i,q,e,mi,e0⟩:=(yw (h.gd I m hj) z2).mp h2
  exact⟨k,a,j,i,m',by rw[es];exact hj,rfl,by rw[et];exact e,by rw[gF mi];lia⟩
 ·rw[es]at hj
  rw[et]at e
  obtain⟨g,m1,m2,m3,m4,m5⟩:=atO m
  obtain⟨z1,z2⟩:=h.tr I d m1 hj
  have gd:=h.gd I m1 hj
  have gk:i<x.G.length:=by rw[e]at gd;exact gd.1
  have gi':x.g i<2:=by
   rw[n.g i gk]at gi
   by_cases z:i∈F.map aJ
   ·rw[if_pos z]at gi;lia
   ·rw[if_neg z]at gi;exact gi
  have mi:=z2 i e gi'
  obtain⟨q,hq⟩:=pI mi
  have mq:=yX hq
  rw[gF mq]at gi
  refine(hk _).mpr ⟨?_,?_⟩
  ·rcases List.mem_append.mp m with m|m
   ·exact .inl (I.b2 k a j i m hj e gi')
   ·obtain⟨m,e1⟩:=List.mem_filter.mp m
    exact .inr ⟨(k,a),m,of_decide_eq_true e1,y3.mpr ⟨j,hj,rfl⟩⟩
  ·rw[z1]
   have:=(mF mq).2.1
   exact(yw gd z2).mpr ⟨i,q,e,mq,by lia⟩
theorem RO{l:List (Nat×Int)}{i:Nat}:lk (F++l) i=(lk F i).or (lk l i):=by
 induction F with
 |nil=>rfl
 |cons y r ih=>
  show(if y.1=i then some y.2 else lk (r++l) i)=(if y.1=i then some y.2 else lk r i).or _
  by_cases e:y.1=i
  ·rw[if_pos e,if_pos e];rfl
  ·rw[if_neg e,if_neg e];exact ih
theorem xS.app{l:List (Nat×Int)}(h:xS x M O Y (F++l) Dn c)(I:In x M O Y){t:Th}(i:Jk x F t):wd (pp x (F++l)) t=wd (pp x F) t/\Jk x (F++l) t:=by
 refine⟨?_,i.mono λe he=>bV _ he⟩
 cases t with
 |no=>rfl
 |nu n=>rfl
 |ce k=>
  show 2*(pp x (F++l) k).getD 0+1=2*(pp x F k).getD 0+1
  unfold pp
  rw[RO]
  cases e:lk F k with
  |some q=>rfl
  |none=>
   rw[vz (l:=l) λz=> ?_];rfl
   have m:k∈(F++l).map aJ:=by rw[bo];exact br _ z
   obtain⟨a,ha⟩:=h.fy k m
   obtain⟨q,hq⟩:=pI (i k rfl ((I.ye k a).mp ha).2.1)
   rw[e]at hq;cases hq
theorem In.mid(I:In x M O Y):xS x M O Y [] [] ⟨M.ws,M.so.t,M.ss.b,[]⟩ where
 len:=rfl
 wo:=I.wo
 cs:=rfl
 fy:=λ_ z=>nomatch z
 fn:=cD
 lo:=rfl
 ls:=rfl
 yl:=λk a m _=>I.ce k a (.inr m)
 se:=λ_ _ _ _ z=>nomatch z
 ce:=λk a g m=>by
  rcases m with ⟨m,rfl⟩|⟨m,_⟩
  ·obtain⟨c1,c2⟩:=I.ce k a (.inl m)
   rw[((I.oe k a).mp m).2.1]at c1
   exact⟨c1,λj hj=> .inl ⟨c2 j hj,bz⟩⟩
  ·cases m
 dn:=λ_ z=>nomatch z
theorem xS.M_(h:xS x M O Y F Dn c)(I:In x M O Y):F.length<=10:=by
 have:=len_sub h.fn (m:=bG 10) λk hk=>by
  obtain⟨a,ha⟩:=h.fy k hk
  have:=((I.ye k a).mp ha).1
  have:=I.Fb
  exact List.mem_range.mpr (by lia)
 rw[aj,cb]at this
 exact this
theorem MY{n t:Nat}{F:List Nat}(h:F.length<=t):NY x n F t=F:=by
 cases n with
 |zero=>rfl
 |succ n=>show(if t<F.length then _ else F)=F;rw[if_neg (by lia)]
theorem O_{n t:Nat}{F:List Nat}(h:t<F.length):NY x (n+1) F t=NY x n (uu x F (x.s (F.getD t 0))) (t+1):=if_pos h
structure E4(x:Own)(F:List (Nat×Int))(hw:List Int):Prop where
 e:hw=x.D.map (wd (pp x F))
 i:∀t∈x.D,Jk x F t
theorem E4.app{l:List (Nat×Int)}{hw:List Int}(w:E4 x F hw)(h:xS x M O Y (F++l) Dn c)(I:In x M O Y):E4 x (F++l) hw:=
 ⟨by rw[w.e];exact cZ λt ht=>(h.app I (w.i t ht)).1.symm,λt ht=>(h.app I (w.i t ht)).2⟩
theorem Bk{F:List Nat}{ts:List Th}{t:Th}:uu x F (ts++[t])=Kq x (uu x F ts) t:=by unfold uu;rw[ir];rfl
end
noncomputable def tg:HO->Str
 | .ins _ _ (f::_)=>f.1
 | .lst _=>"l"
 | .dK _=>"d"
 | .tup _=>"t"
 | .G_ _=>"b"
 |_=>""
theorem jJ{H:Hp}{a b:Addr}{o u:HO}(h:H a=some o)(k:H b=some u)(n:(tg o==tg u)=false):a≠b:=λe=>by rw[e,k]at h;cases h;rw[beq_self_eq_true]at n;cases n
theorem Ed{H:Hp}{a b:Addr}{o u:HO}{x:Str}(h:H a=some o)(k:H b=some u)(n:(tg o==x)=false)(e:(tg u==x)=true):a≠b:=λz=>by rw[z,k]at h;cases h;rw[e]at n;cases n
theorem sS.XZ{cA cM cS:Addr}{H H':Hp}{p m q o y s:Addr}{ws ws':List Int}{so sy ss:S3}(a:sS cA cM cS H p m q o y s ws so sy ss){z:S3}(mem:kC cM H' m q ws')(e:vQ cS H' s z)(k:∀b x,H b=some x->b≠q->b≠s->H' b=some x):sS cA cM cS H' p m q o y s ws' so sy z:=
 {a with
  ob:=let ⟨dx,e⟩:=a.ob;⟨dx,k _ _ e (λz=>by rw[z,a.mem.ls]at e;cases e) a.pd.2.2.2⟩
  mem:=mem
  old:=let ⟨dx,e⟩:=a.old;⟨dx,k _ _ e (vQ.ne ⟨dx,e⟩ a.mem.ls) a.os⟩
  r9:=let ⟨dx,e⟩:=a.r9;⟨dx,k _ _ e (vQ.ne ⟨dx,e⟩ a.mem.ls) a.ys⟩
  Ex:=e}
theorem sS.wr{cA cM cS:Addr}{H H':Hp}{p m q o y s:Addr}{ws ws':List Int}{so sy ss:S3}(a:sS cA cM cS H p m q o y s ws so sy ss)(mem:kC cM H' m q ws')(k:∀b x,H b=some x->b≠q->H' b=some x):sS cA cM cS H' p m q o y s ws' so sy ss:=
 a.XZ mem (let ⟨dx,e⟩:=a.Ex;⟨dx,k _ _ e (vQ.ne ⟨dx,e⟩ a.mem.ls)⟩) λb x e n _=>k b x e n
structure Ax where
 p:Addr
 m:Addr
 q:Addr
 o:Addr
 y:Addr
 s:Addr
 r:Addr
 h:Addr
 g:Addr
 b:Addr
 d:Addr
 w:Addr
 v:Addr
 l:Addr
 e:Addr
 t:Addr
structure Wh(cA cM cS cR cH cB cW cL:Addr)(H:Hp)(x:Ax)(M:Mem):Prop where
 ar:sS cA cM cS H x.p x.m x.q x.o x.y x.s M.ws M.so M.sy M.ss
 ro:∃dx,H x.r=some (.ins cR dx (Bo x.h x.b x.w x.l))
 hd:yz cH H x.h x.g M.hw
 bk:va cB H x.b x.d M.ks
 wk:Vk cW H x.w x.v
 la:Wz cL H x.l x.e
 tb:∃ps,H x.t=some (.G_ ps)/\TriplesOk ps.toList
 n1:x.q≠x.g
 n2:x.q≠x.v
 n3:x.g≠x.v
 n4:x.d≠x.e
noncomputable def Oq:HO->Bool
 | .lst _=>true
 | .dK _=>true
 | .tup _=>true
 | .F8 _ _=>true
 |_=>false
noncomputable def Kx (L:List Addr) (H H':Hp):Prop:=∀b u,H b=some u->Oq u=true->b∉L->H' b=some u
theorem Kx.refl{L:List Addr}(H:Hp):Kx L H H:=λ_ _ h _ _=>h
theorem Kx.trans{L:List Addr}{H H1 H2:Hp}(a:Kx L H H1)(b:Kx L H1 H2):Kx L H H2:=λc u h k n=>b c u (a c u h k n) k n
theorem Kx.mono{L L':List Addr}{H H':Hp}(a:Kx L H H')(h:∀b∈L,b∈L'):Kx L' H H':=λc u e k n=>a c u e k λz=>n (h c z)
theorem Co{L:List Addr}{H H':Hp}(s:jD H H'):Kx L H H':=λb u h _ _=>s b u h
noncomputable def cM (M:Mem) (c:CS):Mem:={M with ws:=c.ws,so:=⟨M.so.b,M.so.e,c.ot⟩,ss:=⟨M.ss.b,M.ss.e,c.st⟩}
noncomputable def WC (M:Mem) (c:CS) (hw:List Int):Mem:=⟨c.ws,⟨M.so.b,M.so.e,c.ot⟩,M.sy,⟨M.ss.b,M.ss.e,c.st⟩,hw,M.ks⟩
section
variable{cA cM' cS cR cH cB cW cL:Addr}{H H':Hp}{x:Ax}{M:Mem}
theorem Wh.same(h:Wh cA cM' cS cR cH cB cW cL H x M)(s:jD H H'):Wh cA cM' cS cR cH cB cW cL H' x M where
 ar:=h.ar.same s
 ro:=let ⟨dx,e⟩:=h.ro;⟨dx,s _ _ e⟩
 hd:=h.hd.same s
 bk:=h.bk.same s
 wk:=⟨let ⟨dx,e⟩:=h.wk.ob;⟨dx,s _ _ e⟩,s _ _ h.wk.ls⟩
 la:=⟨let ⟨dx,q,e⟩:=h.la.ob;⟨dx,q,s _ _ e⟩,s _ _ h.la.dc⟩
 tb:=let ⟨ps,e,t⟩:=h.tb;⟨ps,s _ _ e,t⟩
 n1:=h.n1
 n2:=h.n2
 n3:=h.n3
 n4:=h.n4
theorem Wh.IU(h:Wh cA cM' cS cR cH cB cW cL H x M){y s:Addr}{ws:List Int}{so sy ss:S3}(a:sS cA cM' cS H' x.p x.m x.q x.o y s ws so sy ss)
  (f:∀b u,H b=some u->b≠x.q->(tg u=="begin")=false->(tg u=="memory")=false->H' b=some u):Wh cA cM' cS cR cH cB cW cL H' {x with y:=y,s:=s} {M with ws:=ws,so:=so,sy:=sy,ss:=ss}:=by
 have q:=h.ar.mem.ls
 obtain⟨dr,er⟩:=h.ro
 obtain⟨dh,eh⟩:=h.hd.ob
 obtain⟨db,eb⟩:=h.bk.ob
 obtain⟨dw,ew⟩:=h.wk.ob
 obtain⟨dl,ql,el⟩:=h.la.ob
 obtain⟨ps,et,tt⟩:=h.tb
 exact⟨a,⟨dr,f _ _ er (jJ er q (by kernel_rfl)) (by kernel_rfl) (by kernel_rfl)⟩,⟨⟨dh,f _ _ eh (jJ eh q (by kernel_rfl)) (by kernel_rfl) (by kernel_rfl)⟩,f _ _ h.hd.ls (aE h.n1) (by kernel_rfl) (by kernel_rfl)⟩,
  ⟨⟨db,f _ _ eb (jJ eb q (by kernel_rfl)) (by kernel_rfl) (by kernel_rfl)⟩,f _ _ h.bk.dc (jJ h.bk.dc q (by kernel_rfl)) (by kernel_rfl) (by kernel_rfl)⟩,
  ⟨⟨dw,f _ _ ew (jJ ew q (by kernel_rfl)) (by kernel_rfl) (by kernel_rfl)⟩,f _ _ h.wk.ls (aE h.n2) (by kernel_rfl) (by kernel_rfl)⟩,
  ⟨⟨dl,ql,f _ _ el (jJ el q (by kernel_rfl)) (by kernel_rfl) (by kernel_rfl)⟩,f _ _ h.la.dc (jJ h.la.dc q (by kernel_rfl)) (by kernel_rfl) (by kernel_rfl)⟩,
  ⟨ps,f _ _ et (jJ et q (by kernel_rfl)) (by kernel_rfl) (by kernel_rfl),tt⟩,h.n1,h.n2,h.n3,h.n4⟩
theorem Wh.hand(h:Wh cA cM' cS cR cH cB cW cL H x M){hw:List Int}(a:yz cH H' x.h x.g hw)(f:∀b u,H b=some u->b≠x.g->H' b=some u):Wh cA cM' cS cR cH cB cW cL H' x {M with hw:=hw}:=by
 have q:=h.hd.ls
 obtain⟨da,ea⟩:=h.ar.ob
 obtain⟨d1,e1⟩:=h.ar.old
 obtain⟨d2,e2⟩:=h.ar.r9
 obtain⟨d3,e3⟩:=h.ar.Ex
 obtain⟨dm,em⟩:=h.ar.mem.ob
 obtain⟨dr,er⟩:=h.ro
 obtain⟨db,eb⟩:=h.bk.ob
 obtain⟨dw,ew⟩:=h.wk.ob
 obtain⟨dl,ql,el⟩:=h.la.ob
 obtain⟨ps,et,tt⟩:=h.tb
 exact⟨{h.ar with ob:=⟨da,f _ _ ea (jJ ea q (by kernel_rfl))⟩,mem:=⟨⟨dm,f _ _ em (jJ em q (by kernel_rfl))⟩,f _ _ h.ar.mem.ls h.n1⟩,old:=⟨d1,f _ _ e1 (jJ e1 q (by kernel_rfl))⟩,r9:=⟨d2,f _ _ e2 (jJ e2 q (by kernel_rfl))⟩,Ex:=⟨d3,f _ _ e3 (jJ e3 q (by kernel_rfl))⟩},
  ⟨dr,f _ _ er (jJ er q (by kernel_rfl))⟩,a,⟨⟨db,f _ _ eb (jJ eb q (by kernel_rfl))⟩,f _ _ h.bk.dc (jJ h.bk.dc q (by kernel_rfl))⟩,⟨⟨dw,f _ _ ew (jJ ew q (by kernel_rfl))⟩,f _ _ h.wk.ls (aE h.n3)⟩,⟨⟨dl,ql,f _ _ el (jJ el q (by kernel_rfl))⟩,f _ _ h.la.dc (jJ h.la.dc q (by kernel_rfl))⟩,
  ⟨ps,f _ _ et (jJ et q (by kernel_rfl)),tt⟩,h.n1,h.n2,h.n3,h.n4⟩
theorem Wh.book(h:Wh cA cM' cS cR cH cB cW cL H x M){d:Addr}{ks:List Int}(a:va cB H' x.b d ks)(nd:d≠x.e)(f:∀b u,H b=some u->b≠x.b->b≠x.d->H' b=some u):Wh cA cM' cS cR cH cB cW cL H' {x with d:=d} {M with ks:=ks}:=by
 obtain⟨dq,eq⟩:=h.bk.ob
 have q:=h.bk.dc
 obtain⟨da,ea⟩:=h.ar.ob
 obtain⟨d1,e1⟩:=h.ar.old
 obtain⟨d2,e2⟩:=h.ar.r9
 obtain⟨d3,e3⟩:=h.ar.Ex
 obtain⟨dm,em⟩:=h.ar.mem.ob
 obtain⟨dr,er⟩:=h.ro
 obtain⟨dh,eh⟩:=h.hd.ob
 obtain⟨dw,ew⟩:=h.wk.ob
 obtain⟨dl,ql,el⟩:=h.la.ob
 obtain⟨ps,et,tt⟩:=h.tb
 have g:∀{b u},H b=some u->(tg u=="written")=false->(tg u=="d")=false->H' b=some u:=λ{b u} e n1 n2=>f _ _ e (jJ e eq n1) (jJ e q n2)
 exact⟨{h.ar with ob:=⟨da,g ea (by kernel_rfl) (by kernel_rfl)⟩,mem:=⟨⟨dm,g em (by kernel_rfl) (by kernel_rfl)⟩,g h.ar.mem.ls (by kernel_rfl) (by kernel_rfl)⟩,old:=⟨d1,g e1 (by kernel_rfl) (by kernel_rfl)⟩,r9:=⟨d2,g e2 (by kernel_rfl) (by kernel_rfl)⟩,Ex:=⟨d3,g e3 (by kernel_rfl) (by kernel_rfl)⟩},
  ⟨dr,g er (by kernel_rfl) (by kernel_rfl)⟩,⟨⟨dh,g eh (by kernel_rfl) (by kernel_rfl)⟩,g h.hd.ls (by kernel_rfl) (by kernel_rfl)⟩,a,⟨⟨dw,g ew (by kernel_rfl) (by kernel_rfl)⟩,g h.wk.ls (by kernel_rfl) (by kernel_rfl)⟩,⟨⟨dl,ql,g el (by kernel_rfl) (by kernel_rfl)⟩,f _ _ h.la.dc (jJ h.la.dc eq (by kernel_rfl)) (aE h.n4)⟩,
  ⟨ps,g et (by kernel_rfl) (by kernel_rfl),tt⟩,h.n1,h.n2,h.n3,nd⟩
theorem Wh.Xy(h:Wh cA cM' cS cR cH cB cW cL H x M){ps:Array Value}(tt:TriplesOk ps.toList):Wh cA cM' cS cR cH cB cW cL (upd H x.t (.G_ ps)) x M:=by
 obtain⟨p0,q,_⟩:=h.tb
 have f:∀{b u},H b=some u->(tg u=="b")=false->upd H x.t (.G_ ps) b=some u:=λ{b u} e n=>by rw[i_ (jJ e q n)];exact e
 obtain⟨da,ea⟩:=h.ar.ob
 obtain⟨d1,e1⟩:=h.ar.old
 obtain⟨d2,e2⟩:=h.ar.r9
 obtain⟨d3,e3⟩:=h.ar.Ex
 obtain⟨dm,em⟩:=h.ar.mem.ob
 obtain⟨dr,er⟩:=h.ro
 obtain⟨dh,eh⟩:=h.hd.ob
 obtain⟨db,eb⟩:=h.bk.ob
 obtain⟨dw,ew⟩:=h.wk.ob
 obtain⟨dl,ql,el⟩:=h.la.ob
 exact⟨{h.ar with ob:=⟨da,f ea (by kernel_rfl)⟩,mem:=⟨⟨dm,f em (by kernel_rfl)⟩,f h.ar.mem.ls (by kernel_rfl)⟩,old:=⟨d1,f e1 (by kernel_rfl)⟩,r9:=⟨d2,f e2 (by kernel_rfl)⟩,Ex:=⟨d3,f e3 (by kernel_rfl)⟩},
  ⟨dr,f er (by kernel_rfl)⟩,⟨⟨dh,f eh (by kernel_rfl)⟩,f h.hd.ls (by kernel_rfl)⟩,⟨⟨db,f eb (by kernel_rfl)⟩,f h.bk.dc (by kernel_rfl)⟩,⟨⟨dw,f ew (by kernel_rfl)⟩,f h.wk.ls (by kernel_rfl)⟩,⟨⟨dl,ql,f el (by kernel_rfl)⟩,f h.la.dc (by kernel_rfl)⟩,⟨ps,i8,tt⟩,h.n1,h.n2,h.n3,h.n4⟩
end
theorem Wh.row{cA cM' cS cR cH cB cW cL:Addr}{H:Hp}{x:Ax}{M:Mem}(h:Wh cA cM' cS cR cH cB cW cL H x M){l:Addr}{xs ys:List V}(e:H l=some (.lst xs))(nq:l≠x.q)(ng:l≠x.g)(nv:l≠x.v):Wh cA cM' cS cR cH cB cW cL (upd H l (.lst ys)) x M:=by
 have f:∀{b u},H b=some u->(tg u=="l")=false->upd H l (.lst ys) b=some u:=λ{b u} eb n=>by rw[i_ (jJ eb e n)];exact eb
 obtain⟨da,ea⟩:=h.ar.ob
 obtain⟨d1,e1⟩:=h.ar.old
 obtain⟨d2,e2⟩:=h.ar.r9
 obtain⟨d3,e3⟩:=h.ar.Ex
 obtain⟨dm,em⟩:=h.ar.mem.ob
 obtain⟨dr,er⟩:=h.ro
 obtain⟨dh,eh⟩:=h.hd.ob
 obtain⟨db,eb⟩:=h.bk.ob
 obtain⟨dw,ew⟩:=h.wk.ob
 obtain⟨dl,ql,el⟩:=h.la.ob
 obtain⟨ps,et,tt⟩:=h.tb
 have g:∀{b u},H b=some u->l≠b->upd H l (.lst ys) b=some u:=λ{b u} eb n=>by rw[i_ (aE n)];exact eb
 exact⟨{h.ar with ob:=⟨da,f ea (by kernel_rfl)⟩,mem:=⟨⟨dm,f em (by kernel_rfl)⟩,g h.ar.mem.ls nq⟩,old:=⟨d1,f e1 (by kernel_rfl)⟩,r9:=⟨d2,f e2 (by kernel_rfl)⟩,Ex:=⟨d3,f e3 (by kernel_rfl)⟩},
  ⟨dr,f er (by kernel_rfl)⟩,⟨⟨dh,f eh (by kernel_rfl)⟩,g h.hd.ls ng⟩,⟨⟨db,f eb (by kernel_rfl)⟩,f h.bk.dc (by kernel_rfl)⟩,⟨⟨dw,f ew (by kernel_rfl)⟩,g h.wk.ls nv⟩,⟨⟨dl,ql,f el (by kernel_rfl)⟩,f h.la.dc (by kernel_rfl)⟩,⟨ps,f et (by kernel_rfl),tt⟩,h.n1,h.n2,h.n3,h.n4⟩
section
variable{x:Own}{M:Mem}{O Y:List (Nat×Int)}
theorem In.pl(I:In x M O Y){k:Nat}{a:Int}(m:(k,a)∈O∨(k,a)∈Y):k<x.G.length/\x.p k=some a/\0<=a/\a+x.z k<=M.ws.length:=by
 have f:=I.fr;have:=f.hv;have:=f.ot;have:=f.o0;have:=f.yw;have:=f.y0;have:=f.yt
 rcases m with m|m
 ·obtain⟨h1,_,h3⟩:=(I.oe k a).mp m
  have:=I.QU m
  exact⟨h1,h3,by lia,by lia⟩
 ·obtain⟨h1,_,h3⟩:=(I.ye k a).mp m
  have:=I.QW m
  exact⟨h1,h3,by lia,by lia⟩
theorem In.at(I:In x M O Y){k:Nat}{a:Int}(hk:k<x.G.length)(e:x.p k=some a):(k,a)∈O∨(k,a)∈Y:=by
 have:=I.ag k hk
 by_cases z:x.g k=2
 ·exact .inl ((I.oe k a).mpr ⟨hk,z,e⟩)
 ·exact .inr ((I.ye k a).mpr ⟨hk,by lia,e⟩)
theorem In.pb(I:In x M O Y){t:Th}(g:Gd x t):∀k,t= .ce k->0<=(x.p k).getD 0/\(x.p k).getD 0<=9999:=λk e=>by
 subst e
 obtain⟨a,e⟩:=Option.isSome_iff_exists.mp g.2
 have:=I.pl (I.at g.1 e)
 have:=I.fr.l2
 have:=x.z1 k
 rw[e]
 show 0<=a/\a<=9999
 lia
theorem Ak{α:Type}{l:List α}{v d:α}{k:Nat}:(l++[v]).getD k d=if k<l.length then l.getD k d else if k=l.length then v else d:=by
 rw[au]
 by_cases z:k<l.length
 ·rw[if_pos z,cO z,←au]
 ·rw[if_neg z,cz (by lia)]
  by_cases y:k=l.length
  ·rw[if_pos y,y,aL];rfl
  ·rw[if_neg y,cK (by show 1<=k-l.length;lia)];rfl
noncomputable def Own.lay (x:Own) (a g:Int) (n:Nat):Own:=⟨x.P++[some a],x.G++[g],x.S++[ah n .no],x.D⟩
theorem In.lay(I:In x M O Y){a g:Int}{n:Nat}(n8:n<=8)(hl:x.G.length<10)(g0:0<=g)(g2:g<=2)(a0:0<=a)(al:a+n<M.ws.length){so sy:S3}(fr:XF ⟨kF M.ws a.toNat n g,so,sy,M.ss,M.hw,M.ks⟩){O' Y':List (Nat×Int)}
  (hO:(g=2/\O'=O++[(x.G.length,a)]/\Y'=Y)∨(g<2/\O'=O/\Y'=Y++[(x.G.length,a)])) (lo:tS (x.lay a g n).z 0 O' so.t) (ly:tS (x.lay a g n).z sy.b Y' sy.t)
  (away:∀k b,(k,b)∈O∨(k,b)∈Y->b+x.z k<=a∨a+n<b):In (x.lay a g n) ⟨kF M.ws a.toNat n g,so,sy,M.ss,M.hw,M.ks⟩ O' Y':=by
 have ep:∀k,(x.lay a g n).p k=if k<x.G.length then x.p k else if k=x.G.length then some a else none:=λk=>by show(x.P++[some a]).getD k none=_;rw[Ak,I.lp];rfl
 have eg:∀k,(x.lay a g n).g k=if k<x.G.length then x.g k else if k=x.G.length then g else 0:=λk=>by show(x.G++[g]).getD k 0=_;rw[Ak];rfl
 have es:∀k,(x.lay a g n).s k=if k<x.G.length then x.s k else if k=x.G.length then ah n .no else []:=λk=>by show(x.S++[ah n Th.no]).getD k []=_;rw[Ak,I.ls];rfl
 have el:(x.lay a g n).G.length=x.G.length+1:=by show(x.G++[g]).length=_;rw[aY];rfl
 have et:∀k j,k<x.G.length->(x.lay a g n).t k j=x.t k j:=λk j h=>by unfold Own.t;rw[es,if_pos h]
 have tn:∀j,(x.lay a g n).t x.G.length j= .no:=λj=>by
  unfold Own.t;rw[es,if_neg (by lia),if_pos rfl,au,cV]
  by_cases z:j<n
  ·rw[if_pos z];rfl
  ·rw[if_neg z];rfl
 have to:∀k j,x.G.length<k->(x.lay a g n).t k j= .no:=λk j h=>by unfold Own.t;rw[es,if_neg (by lia),if_neg (by lia)];rfl
 have th:∀{t:Th},Gd x t->Gd (x.lay a g n) t/\wd (x.lay a g n).p t=wd x.p t:=λ{t} h=>by
  cases t with
  |no=>exact⟨aF,rfl⟩
  |nu n=>exact⟨h,rfl⟩
  |ce k=>exact⟨⟨by rw[el];have:=h.1;lia,by rw[ep,if_pos h.1];exact h.2⟩,by show 2*((x.lay a g n).p k).getD 0+1=2*(x.p k).getD 0+1;rw[ep,if_pos h.1]⟩
 have old:∀{k:Nat} {b:Int},(k,b)∈O∨(k,b)∈Y->Vb (kF M.ws a.toNat n g) b ((x.lay a g n).g k) (λj=>wd (x.lay a g n).p ((x.lay a g n).t k j)) ((x.lay a g n).s k).length:=λ{k b} m=>by
  obtain⟨p1,p2,p3,p4⟩:=I.pl m
  have aw:=away k b m
  obtain⟨c1,c2⟩:=I.ce k b m
  have ez:x.z k=(x.s k).length+1:=rfl
  refine⟨?_,λj hj=> ?_⟩
  ·rw[eg,if_pos p1,es,if_pos p1]
   show(kF M.ws a.toNat n g).getD b.toNat 0=_
   rw[Lb (by omega)];exact c1
  ·rw[es,if_pos p1]at hj
   show pM (kF M.ws a.toNat n g) (b+1+j)=wd (x.lay a g n).p ((x.lay a g n).t k j)
   rw[et k j p1,(th (I.gs k b m _ (x.tm hj))).2]
   show(kF M.ws a.toNat n g).getD (b+1+(j:Int)).toNat 0=_
   rw[Lb (by lia)];exact c2 j hj
 have new:Vb (kF M.ws a.toNat n g) a ((x.lay a g n).g x.G.length) (λj=>wd (x.lay a g n).p ((x.lay a g n).t x.G.length j)) ((x.lay a g n).s x.G.length).length:=by
  rw[eg,if_neg (b_ _),if_pos rfl,es,if_neg (b_ _),if_pos rfl,bA]
  refine⟨La (by omega),λj hj=> ?_⟩
  show pM (kF M.ws a.toNat n g) (a+1+j)=wd (x.lay a g n).p ((x.lay a g n).t x.G.length j)
  rw[tn]
  exact Mn (by omega) (by omega) (by lia)
 have mO:∀{k:Nat} {b:Int},(k,b)∈O'∨(k,b)∈Y'->((k,b)∈O∨(k,b)∈Y)∨(k=x.G.length/\b=a):=λ{k b} m=>by
  rcases hO with ⟨_,rfl,rfl⟩|⟨_,rfl,rfl⟩
  ·rcases m with m|m
   ·rcases List.mem_append.mp m with m|m
    ·exact .inl (.inl m)
    ·cases List.mem_singleton.mp m;exact .inr ⟨rfl,rfl⟩
   ·exact .inl (.inr m)
  ·rcases m with m|m
   ·exact .inl (.inl m)
   ·rcases List.mem_append.mp m with m|m
    ·exact .inl (.inr m)
    ·cases List.mem_singleton.mp m;exact .inr ⟨rfl,rfl⟩
 have oO:∀{e:Nat×Int},e∈O->e∈O':=λ{e} m=>by
  rcases hO with ⟨_,rfl,_⟩|⟨_,rfl,_⟩
  ·exact bV _ m
  ·exact m
 have iff':∀(L L':List (Nat×Int)) (c:Int->Prop),(∀k b,(k,b)∈L↔k<x.G.length/\c (x.g k)/\x.p k=some b)->((c g/\L'=L++[(x.G.length,a)])∨(¬c g/\L'=L))->∀k b,(k,b)∈L'↔k<(x.lay a g n).G.length/\c ((x.lay a g n).g k)/\(x.lay a g n).p k=some b:=λL L' c h hc k b=>by
  rw[el,eg,ep]
  by_cases z:k<x.G.length
  ·rw[if_pos z,if_pos z]
   have:(k,b)∈L'↔(k,b)∈L:=by
    rcases hc with ⟨_,rfl⟩|⟨_,rfl⟩
    ·rw[dk,aU]
     exact⟨λy=>y.resolve_right (λe=>by cases e;lia),.inl⟩
    ·exact Iff.rfl
   rw[this,h k b]
   exact⟨λy=>⟨by lia,y.2⟩,λy=>⟨z,y.2⟩⟩
  ·rw[if_neg z,if_neg z]
   have nL:(k,b)∉L:=λm=>z ((h k b).mp m).1
   by_cases y:k=x.G.length
   ·rw[if_pos y,if_pos y]
    rcases hc with ⟨c1,rfl⟩|⟨c1,rfl⟩
    ·rw[dk,aU]
     exact⟨λm=>by rcases m with m|m;exact absurd m nL;cases m;exact⟨by lia,c1,rfl⟩,λm=> .inr (by rw[y];have:=m.2.2;cases this;rfl)⟩
    ·exact⟨λm=>absurd m nL,λm=>absurd m.2.1 c1⟩
   ·refine⟨λm=> ?_,λm=>by lia⟩
    rcases hc with ⟨_,rfl⟩|⟨_,rfl⟩
    ·rcases List.mem_append.mp m with m|m
     ·exact absurd m nL
     ·cases List.mem_singleton.mp m;exact absurd rfl y
    ·exact absurd m nL
 refine⟨?_,?_,by rw[el];lia,λk hk=> ?_,λk=> ?_,fr,I.wo.kF n8 g0 g2,?_,?_,λk hk e=> ?_,lo,ly,λk b m=> ?_,λk b m t ht=> ?_,λt ht=>(th (I.gd t ht)).1,?_,I.d4,λq hq=> ?_,λk b j i m hj e gi=> ?_,I.kn,λk j z1 z2=> ?_⟩
 ·rw[el];show(x.P++[some a]).length=_;rw[aY,I.lp];rfl
 ·rw[el];show(x.S++[_]).length=_;rw[aY,I.ls];rfl
 ·rw[el]at hk
  rw[eg]
  by_cases z:k<x.G.length
  ·rw[if_pos z];exact I.ag k z
  ·rw[if_neg z,if_pos (by lia)];exact⟨g0,g2⟩
 ·rw[es]
  by_cases z:k<x.G.length
  ·rw[if_pos z];exact I.s8 k
  ·rw[if_neg z]
   by_cases y:k=x.G.length
   ·rw[if_pos y,bA];exact n8
   ·rw[if_neg y];exact b7 _
 ·refine iff' O O' (λv=>v=2) I.oe ?_
  rcases hO with ⟨h1,h2,_⟩|⟨h1,h2,_⟩
  ·exact .inl ⟨h1,h2⟩
  ·exact .inr ⟨by lia,h2⟩
 ·refine iff' Y Y' (λv=>v<2) I.ye ?_
  rcases hO with ⟨h1,_,h2⟩|⟨h1,_,h2⟩
  ·exact .inr ⟨by lia,h2⟩
  ·exact .inl ⟨h1,h2⟩
 ·rw[el]at hk
  rw[eg]at e
  rw[ep]
  by_cases z:k<x.G.length
  ·rw[if_pos z]at e⊢;exact I.od k z e
  ·rw[if_neg z,if_pos (by lia)];rfl
 ·rcases mO m with m|⟨rfl,rfl⟩
  ·exact old m
  ·exact new
 ·rcases mO m with m|⟨rfl,rfl⟩
  ·rw[es,if_pos (I.pl m).1]at ht
   exact(th (I.gs k b m t ht)).1
  ·rw[es,if_neg (b_ _),if_pos rfl]at ht
   rw[eK ht];exact aF
 ·show M.hw=x.D.map _
  rw[I.hd]
  exact cZ λt ht=>(th (I.gd t ht)).2.symm
 ·obtain⟨k,b,j,i,m,hj,e,e2,gi⟩:=I.b1 q hq
  have p:=I.pl (.inl m)
  have gi':=I.gs k b (.inl m) _ (x.tm hj)
  rw[e2]at gi'
  exact⟨k,b,j,i,oO m,by rw[es,if_pos p.1];exact hj,e,by rw[et k j p.1];exact e2,by rw[eg,if_pos gi'.1];exact gi⟩
 ·have m':(k,b)∈O:=by
   rcases hO with ⟨_,rfl,_⟩|⟨_,rfl,_⟩
   ·rcases List.mem_append.mp m with m|m
    ·exact m
    ·cases List.mem_singleton.mp m
     rw[tn]at e;cases e
   ·exact m
  have p:=I.pl (.inl m')
  rw[es,if_pos p.1]at hj
  rw[et k j p.1]at e
  have gi':=I.gs k b (.inl m') _ (x.tm hj)
  rw[e]at gi'
  rw[eg,if_pos gi'.1]at gi
  exact I.b2 k b j i m' hj e gi
 ·have k1:k+1<x.G.length:=by
   refine fV λz=> ?_
   by_cases y:k+1=x.G.length
   ·rw[y,tn]at z2;cases z2
   ·rw[to (k+1) 0 (by lia)]at z2;cases z2
  rw[et k 5 (by lia)]at z1
  rw[et (k+1) 0 k1]at z2
  exact I.sep k j z1 z2
theorem In.held(I:In x M O Y){h:Nat}{t:Th}(g:Gd x t):In {x with D:=x.D.set h t} {M with hw:=M.hw.set h (wd x.p t)} O Y:=
 {I with
  fr:=⟨I.fr.l2,I.fr.ob,I.fr.o0,I.fr.ot,I.fr.hv,I.fr.yw,I.fr.y0,I.fr.yt,I.fr.st,I.fr.rm,I.fr.SQ⟩
  gs:=λk a m t ht=>by have:=I.gs k a m t ht;cases t with|no=>exact this|nu n=>exact this|ce k=>exact this
  gd:=λu hu=>by
   have:Gd x u:=by rcases eA hu with z|rfl;exact I.gd u z;exact g
   cases u with|no=>exact this|nu n=>exact this|ce k=>exact this
  hd:=by show M.hw.set h (wd x.p t)=(x.D.set h t).map (wd x.p);rw[I.hd,fh]
  d4:=by show 1<=(x.D.set h t).length/\(x.D.set h t).length<=4;rw[bf];exact I.d4}
theorem In.U3(I:In x M O Y){k k':Nat}{a a' i:Int}(m:(k,a)∈O∨(k,a)∈Y)(m':(k',a')∈O∨(k',a')∈Y)(h1:a<=i)(h2:i<a+x.z k)(h3:a'<=i)(h4:i<a'+x.z k'):k=k'/\a=a':=by
 have f:=I.fr;have:=f.hv;have:=f.ot;have:=f.o0;have:=f.yw;have:=f.y0;have:=f.yt
 rcases m with m|m
 ·rcases m' with m'|m'
  ·exact uV x.z1 I.lo m m' h1 h2 h3 h4
  ·have:=I.QU m;have:=I.QW m';lia
 ·rcases m' with m'|m'
  ·have:=I.QU m';have:=I.QW m;lia
  ·exact uV x.z1 I.ly m m' h1 h2 h3 h4
noncomputable def Own.put (x:Own) (k j:Nat) (t:Th):Own:={x with S:=x.S.set k ((x.s k).set j t)}
theorem Own.NA{k j k':Nat}{t:Th}(h:k<x.S.length):(x.put k j t).s k'=if k'=k then(x.s k).set j t else x.s k':=by
 show(x.S.set k _).getD k' []=_
 rw[au,bC]
 by_cases z:k=k'
 ·subst z;rw[if_pos rfl,if_pos h,if_pos rfl];rfl
 ·rw[if_neg z,if_neg (aE z),←au];rfl
theorem Own.SU{k j k' j':Nat}{t:Th}(h:k<x.S.length)(hj:j<(x.s k).length):(x.put k j t).t k' j'=if k'=k/\j'=j then t else x.t k' j':=by
 unfold Own.t
 rw[Own.NA h]
 by_cases z:k'=k
 ·subst z
  rw[if_pos rfl,au,bC]
  by_cases y:j=j'
  ·subst y;rw[if_pos rfl,if_pos hj,if_pos ⟨rfl,rfl⟩];rfl
  ·rw[if_neg y,if_neg λe=>y e.2.symm,←au]
 ·rw[if_neg z,if_neg λe=>z e.1]
theorem In.put(I:In x M O Y){k j:Nat}{a:Int}{t:Th}(m:(k,a)∈O∨(k,a)∈Y)(hj:j<(x.s k).length)(g:Gd x t)(sep:∀k' i,(x.put k j t).t k' 5= .ce i->(x.put k j t).t (k'+1) 0= .ce i->False){ks:List Int}(kn:ks.Nodup)
  (hks:∀q,q∈ks↔(q∈M.ks/\q≠a+1+(j:Int))∨(q=a+1+(j:Int)/\x.g k=2/\QT x t=true)):In (x.put k j t) {M with ws:=M.ws.set (a+1+(j:Int)).toNat (wd x.p t),ks:=ks} O Y:=by
 have hS:k<x.S.length:=by rw[I.ls];exact(I.pl m).1
 have pm:=I.pl m
 have es:=λk'=>Own.NA (x:=x) (j:=j) (k':=k') (t:=t) hS
 have et:=λk' j'=>Own.SU (x:=x) (k':=k') (j':=j') (t:=t) hS hj
 have sl:∀k',((x.put k j t).s k').length=(x.s k').length:=λk'=>by
  rw[es]
  by_cases z:k'=k
  ·subst z;rw[if_pos rfl,bf]
  ·rw[if_neg z]
 have ez:(x.put k j t).z=x.z:=by funext k';unfold Own.z;rw[sl]
 have zk:∀k',x.z k'=(x.s k').length+1:=λ_=>rfl
 have th:∀{u:Th},Gd x u->Gd (x.put k j t) u:=λ{u} h=>by cases u with|no=>exact h|nu n=>exact h|ce k=>exact h
 have wne:∀{p:Int},0<=p->p≠a+1+j->pM (M.ws.set (a+1+(j:Int)).toNat (wd x.p t)) p=pM M.ws p:=λ{p} h n=>zF (by lia) h (aE n)
 refine⟨I.lp,?_,I.Fb,I.ag,λk'=>by rw[sl];exact I.s8 k',⟨?_,I.fr.ob,I.fr.o0,I.fr.ot,?_,I.fr.yw,I.fr.y0,I.fr.yt,I.fr.st,I.fr.rm,I.fr.SQ⟩,I.wo.set (Nk I g x.p (I.pb g)),I.oe,I.ye,I.od,by rw[ez];exact I.lo,by rw[ez];exact I.ly,λk' b m'=> ?_,λk' b m' u hu=> ?_,λu hu=>th (I.gd u hu),I.hd,I.d4,λq hq=> ?_,λk' b j' i m' hj' e gi=> ?_,kn,sep⟩
 ·show(x.S.set k _).length=_;rw[bf];exact I.ls
 ·show(M.ws.set _ _).length<=200;rw[bf];exact I.fr.l2
 ·show(M.sy.b=M.so.e/\M.ss.b=M.sy.e/\M.ss.e=((M.ws.set _ _).length:Int))∨(M.ss.b=M.so.e/\M.sy.b=M.ss.e/\M.sy.e=((M.ws.set _ _).length:Int));rw[bf];exact I.fr.hv
 ·obtain⟨c1,c2⟩:=I.ce k' b m'
  have p':=I.pl m'
  have z':=zk k'
  have z'':=zk k
  refine⟨?_,λj' hj'=> ?_⟩
  ·rw[sl]
   refine(wne p'.2.2.1 λe=> ?_).trans c1
   have d:=I.U3 m' m (i:=b) (cN _) (by lia) (by lia) (by lia)
   lia
  ·rw[sl]at hj'
   show pM (M.ws.set _ _) (b+1+j')=wd x.p ((x.put k j t).t k' j')
   rw[et]
   by_cases e:b+1+(j':Int)=a+1+j
   ·have d:=I.U3 m' m (i:=b+1+j') (by lia) (by lia) (by lia) (by lia)
    obtain⟨rfl,rfl⟩:=d
    have:j'=j:=by lia
    subst this
    rw[if_pos ⟨rfl,rfl⟩,zE (by lia) (by lia)]
   ·rw[wne (by lia) e,if_neg λy=>e ?_]
    ·exact c2 j' hj'
    ·obtain⟨rfl,rfl⟩:=y
     have:=pm.2.1
     rw[p'.2.1]at this
     cases this;rfl
 ·rw[es]at hu
  by_cases z:k'=k
  ·subst z
   rw[if_pos rfl]at hu
   rcases eA hu with y|rfl
   ·exact th (I.gs k' b m' u y)
   ·exact th g
  ·rw[if_neg z]at hu;exact th (I.gs k' b m' u hu)
 ·rcases (hks q).mp hq with ⟨h1,h2⟩|⟨h1,h2,h3⟩
  ·obtain⟨k',b,j',i,m',hj',e,e2,gi⟩:=I.b1 q h1
   refine⟨k',b,j',i,m',by rw[sl];exact hj',e,?_,gi⟩
   rw[et,if_neg λy=> ?_];exact e2
   obtain⟨rfl,rfl⟩:=y
   have:=pm.2.1
   rw[(I.pl (.inl m')).2.1]at this
   cases this
   exact h2 e
  ·cases t with
   |no=>cases h3
   |nu n=>cases h3
   |ce i=>
    have mO:(k,a)∈O:=(I.oe k a).mpr ⟨pm.1,h2,pm.2.1⟩
    exact⟨k,a,j,i,mO,by rw[sl];exact hj,h1,by rw[et,if_pos ⟨rfl,rfl⟩],of_decide_eq_true h3⟩
 ·rw[sl]at hj'
  rw[et]at e
  have p':=I.pl (.inl m')
  have z':=zk k'
  have z'':=zk k
  by_cases y:k'=k/\j'=j
  ·rw[if_pos y]at e
   obtain⟨rfl,rfl⟩:=y
   have ea:=pm.2.1
   rw[p'.2.1]at ea
   cases ea
   subst e
   exact(hks _).mpr (.inr ⟨rfl,((I.oe _ _).mp m').2.1,decide_eq_true gi⟩)
  ·rw[if_neg y]at e
   refine(hks _).mpr (.inl ⟨I.b2 k' b j' i m' hj' e gi,λe2=>y ?_⟩)
   have d:=I.U3 (.inl m') m (i:=b+1+j') (by lia) (by lia) (by lia) (by lia)
   exact⟨d.1,by lia⟩
theorem In.new{o y n:Int}(o0:0<=o)(y0:0<=y)(ol:o<=73)(yl:y<=20)(yo:y<=o)(n1:1<=n)(n4:n<=4):In ⟨[],[],[],ah n.toNat .no⟩ ⟨ah (o+2*y).toNat (-1),⟨0,o,0⟩,⟨o,o+y,o⟩,⟨o+y,o+2*y,o+y⟩,ah n.toNat (-1),[]⟩ [] [] where
 lp:=rfl
 ls:=rfl
 Fb:=b7 _
 ag:=λk h=>absurd h (cP _)
 s8:=λk=>b7 _
 fr:=⟨by show(ah _ _).length<=200;rw[bA];lia,rfl,cN _,o0,.inl ⟨rfl,rfl,by show o+2*y=((ah _ _).length:Int);rw[bA];lia⟩,by show o+y-o=o+2*y-(o+y);lia,cN _,by show o<=o+y;lia,rfl,by show o-o<=o-0;lia,ol⟩
 wo:=λw hw=>by rw[eK hw];decide
 oe:=λk a=>⟨(λz=>by cases z),λz=>absurd z.1 (cP _)⟩
 ye:=λk a=>⟨(λz=>by cases z),λz=>absurd z.1 (cP _)⟩
 od:=λk h=>absurd h (cP _)
 lo:=rfl
 ly:=rfl
 ce:=λk a m=>by rcases m with m|m<;>cases m
 gs:=λk a m=>by rcases m with m|m<;>cases m
 gd:=λt ht=>by rw[eK ht];exact aF
 hd:=by rw[hU];rfl
 d4:=by rw[bA];lia
 b1:=λq h=>nomatch h
 b2:=λk a j i m=>nomatch m
 kn:=cD
 sep:=λk j z=>by cases z
end
theorem Own.TU{x:Own}{a g:Int}{n:Nat}(h:∀k j,x.t k j= .no)(k j:Nat):(x.lay a g n).t k j= .no:=by
 show((x.S++[ah n Th.no]).getD k []).getD j .no= .no
 rw[Ak]
 by_cases z:k<x.S.length
 ·rw[if_pos z];exact h k j
 ·rw[if_neg z]
  by_cases y:k=x.S.length
  ·rw[if_pos y,au,cV]
   by_cases w:j<n
   ·rw[if_pos w];rfl
   ·rw[if_neg w];rfl
  ·rw[if_neg y];rfl
theorem Own.TR{x:Own}{a g:Int}{n:Nat}(lp:x.P.length=x.G.length)(h:∀k,k<x.G.length->(x.p k).isSome=true)(k:Nat)(hk:k<(x.lay a g n).G.length):((x.lay a g n).p k).isSome=true:=by
 have hk:k<(x.G++[g]).length:=hk
 rw[aY]at hk
 have hk:k<x.G.length+1:=hk
 show((x.P++[some a]).getD k none).isSome=true
 rw[Ak,lp]
 by_cases z:k<x.G.length
 ·rw[if_pos z];exact h k z
 ·rw[if_neg z,if_pos (by lia)];rfl
theorem Own.lay_z{x:Own}{a g:Int}{n k:Nat}(ls:x.S.length=x.G.length):(k<x.G.length->(x.lay a g n).z k=x.z k)/\(x.lay a g n).z x.G.length=n+1:=by
 have e:∀k,(x.lay a g n).z k=(((x.S++[ah n Th.no]).getD k []).length:Int)+1:=λ_=>rfl
 refine⟨λh=> ?_,?_⟩
 ·rw[e,Ak,if_pos (by lia)];rfl
 ·rw[e,Ak,if_neg (by lia),if_pos ls.symm,bA]
theorem In.Nl{x:Own}{M:Mem}{O Y:List (Nat×Int)}(I:In x M O Y){a g:Int}{n:Nat}:tS (x.lay a g n).z 0 O M.so.t/\tS (x.lay a g n).z M.sy.b Y M.sy.t:=
 ⟨Iw (λe he=>(Own.lay_z I.ls).1 ((I.oe e.1 e.2).mp he).1) I.lo,Iw (λe he=>(Own.lay_z I.ls).1 ((I.ye e.1 e.2).mp he).1) I.ly⟩
structure Ow where
 d:Addr
 lp:Addr
 la:Addr
 ls:Addr
 lh:Addr
 rs:List Addr
noncomputable def ON (p r:Addr) (u:Ow):List (Key×V):=[(.inr "areas",.ref p),(.inr "roots",.ref r),(.inr "places",.ref u.lp),(.inr "ages",.ref u.la),(.inr "slots",.ref u.ls),(.inr "hands",.ref u.lh)]
section
variable{p r:Addr}{u:Ow}
theorem GI:vH (ON p r u) (dQ (bg "areas"))=some (.ref p):=by kernel_rfl
theorem Ln:vH (ON p r u) (dQ (bg "roots"))=some (.ref r):=by kernel_rfl
theorem tI:vH (ON p r u) (dQ (bg "places"))=some (.ref u.lp):=by kernel_rfl
theorem qt:vH (ON p r u) (dQ (bg "ages"))=some (.ref u.la):=by kernel_rfl
theorem BR:vH (ON p r u) (dQ (bg "slots"))=some (.ref u.ls):=by kernel_rfl
theorem P2:vH (ON p r u) (dQ (bg "hands"))=some (.ref u.lh):=by kernel_rfl
end
noncomputable def MQ (H:Hp):Th->V->Prop
 | .no,v=>v= .kG
 | .nu n,v=>∃a,v= .ref a/\H a=some (.tup [.str (bg "number"),.int n])
 | .ce k,v=>∃a,v= .ref a/\H a=some (.tup [.str (bg "cell"),.int k])
structure Ct(H:Hp)(ts:List Th)(vs:List V):Prop where
 l:vs.length=ts.length
 g:∀(j:Nat) (t:Th) (v:V),ts[j]? =some t->vs[j]? =some v->MQ H t v
noncomputable def Ow.as (u:Ow):List Addr:=u.lp::u.la::u.ls::u.lh::u.rs
structure lW(H:Hp)(x:Ax)(u:Ow)(w:Own):Prop where
 dc:H u.d=some (.dK (ON x.p x.r u))
 pl:H u.lp=some (.lst (w.P.map tv))
 ag:H u.la=some (.lst (w.G.map V.int))
 sl:H u.ls=some (.lst (u.rs.map V.ref))
 rl:u.rs.length=w.S.length
 sr:∀(k:Nat) (a:Addr),u.rs[k]? =some a->∃vs,H a=some (.lst vs)/\Ct H (w.s k) vs
 hd:∃vs,H u.lh=some (.lst vs)/\Ct H w.D vs
 nd:u.as.Nodup
 ne:∀a∈u.as,a≠x.q/\a≠x.g/\a≠x.v
 n2:u.d≠x.d
theorem MQ.kx{H H':Hp}{L:List Addr}{t:Th}{v:V}(h:MQ H t v)(k:Kx L H H')(hT:∀a∈L,∀xs,H a≠some (.tup xs)):MQ H' t v:=by
 cases t with
 |no=>exact h
 |nu n=>obtain⟨a,e,z⟩:=h;exact⟨a,e,k _ _ z rfl λy=>hT a y _ z⟩
 |ce n=>obtain⟨a,e,z⟩:=h;exact⟨a,e,k _ _ z rfl λy=>hT a y _ z⟩
theorem Ct.kx{H H':Hp}{L:List Addr}{t:List Th}{v:List V}(h:Ct H t v)(k:Kx L H H')(hT:∀a∈L,∀xs,H a≠some (.tup xs)):Ct H' t v:=⟨h.l,λj t v e1 e2=>(h.g j t v e1 e2).kx k hT⟩
theorem lW.kx{H H':Hp}{x:Ax}{u:Ow}{w:Own}{L:List Addr}(h:lW H x u w)(k:Kx L H H')(hL:∀a∈u.d::u.as,a∉L)(hT:∀a∈L,∀xs,H a≠some (.tup xs)):lW H' x u w:=by
 have m:∀a∈u.as,a∉L:=λa ha=>hL a (aP _ ha)
 refine{h with dc:=k _ _ h.dc rfl (hL _ (aM ..)),pl:=k _ _ h.pl rfl (m _ (by simp[Ow.as])),ag:=k _ _ h.ag rfl (m _ (by simp[Ow.as])),sl:=k _ _ h.sl rfl (m _ (by simp[Ow.as])),sr:=λi a e=> ?_,hd:= ?_}
 ·obtain⟨vs,e1,e2⟩:=h.sr i a e
  exact⟨vs,k _ _ e1 rfl (m _ (by have:=bW e;simp[Ow.as,this])),e2.kx k hT⟩
 ·obtain⟨vs,e1,e2⟩:=h.hd
  exact⟨vs,k _ _ e1 rfl (m _ (by simp[Ow.as])),e2.kx k hT⟩
theorem lW.same{H H':Hp}{x:Ax}{u:Ow}{w:Own}(h:lW H x u w)(s:jD H H'):lW H' x u w:=h.kx (L:=[]) (Co s) (λ_ _ z=>nomatch z) λ_ z=>nomatch z
section
variable{cA cM cS cR cH cB cW cL:Addr}{H H':Hp}{x:Ax}{M:Mem}{u:Ow}{w:Own}
theorem lW.go(h:lW H x u w)(o:Wh cA cM cS cR cH cB cW cL H x M)(k:Kx [x.q,x.g,x.d] H H'):lW H' x u w:=by
 refine h.kx k (λa ha z=> ?_) λa z xs e=> ?_
 ·rcases List.mem_cons.mp ha with rfl|ha
  ·rcases List.mem_cons.mp z with z|z
   ·exact jJ h.dc o.ar.mem.ls (by kernel_rfl) z
   ·rcases List.mem_cons.mp z with z|z
    ·exact jJ h.dc o.hd.ls (by kernel_rfl) z
    ·exact h.n2 (List.mem_singleton.mp z)
  ·have n:=h.ne a ha
   rcases List.mem_cons.mp z with z|z
   ·exact n.1 z
   ·rcases List.mem_cons.mp z with z|z
    ·exact n.2.1 z
    ·have z:=List.mem_singleton.mp z
     have hl:∃ys,H a=some (.lst ys):=by
      rcases List.mem_cons.mp ha with rfl|ha
      ·exact⟨_,h.pl⟩
      rcases List.mem_cons.mp ha with rfl|ha
      ·exact⟨_,h.ag⟩
      rcases List.mem_cons.mp ha with rfl|ha
      ·exact⟨_,h.sl⟩
      rcases List.mem_cons.mp ha with rfl|ha
      ·obtain⟨vs,e,_⟩:=h.hd;exact⟨_,e⟩
      ·obtain⟨i,hi,rfl⟩:=List.mem_iff_getElem.mp ha
       obtain⟨vs,e,_⟩:=h.sr i _ (af hi);exact⟨_,e⟩
     obtain⟨ys,e⟩:=hl
     exact jJ e o.bk.dc (by kernel_rfl) z
 ·rcases List.mem_cons.mp z with rfl|z
  ·rw[o.ar.mem.ls]at e;cases e
  ·rcases List.mem_cons.mp z with rfl|z
   ·rw[o.hd.ls]at e;cases e
   ·rw[List.mem_singleton.mp z,o.bk.dc]at e;cases e
theorem Wh.lists(h:Wh cA cM cS cR cH cB cW cL H x M)(f:∀b v,H b=some v->(Oq v=false∨b=x.q∨b=x.g∨b=x.v∨b=x.d∨b=x.e)->H' b=some v):Wh cA cM cS cR cH cB cW cL H' x M where
 ar:={h.ar with ob:=let ⟨d,e⟩:=h.ar.ob;⟨d,f _ _ e (.inl rfl)⟩,mem:=⟨let ⟨d,e⟩:=h.ar.mem.ob;⟨d,f _ _ e (.inl rfl)⟩,f _ _ h.ar.mem.ls (.inr (.inl rfl))⟩,old:=let ⟨d,e⟩:=h.ar.old;⟨d,f _ _ e (.inl rfl)⟩,r9:=let ⟨d,e⟩:=h.ar.r9;⟨d,f _ _ e (.inl rfl)⟩,Ex:=let ⟨d,e⟩:=h.ar.Ex;⟨d,f _ _ e (.inl rfl)⟩}
 ro:=let ⟨d,e⟩:=h.ro;⟨d,f _ _ e (.inl rfl)⟩
 hd:=⟨let ⟨d,e⟩:=h.hd.ob;⟨d,f _ _ e (.inl rfl)⟩,f _ _ h.hd.ls (.inr (.inr (.inl rfl)))⟩
 bk:=⟨let ⟨d,e⟩:=h.bk.ob;⟨d,f _ _ e (.inl rfl)⟩,f _ _ h.bk.dc (.inr (.inr (.inr (.inr (.inl rfl)))))⟩
 wk:=⟨let ⟨d,e⟩:=h.wk.ob;⟨d,f _ _ e (.inl rfl)⟩,f _ _ h.wk.ls (.inr (.inr (.inr (.inl rfl))))⟩
 la:=⟨let ⟨d,q,e⟩:=h.la.ob;⟨d,q,f _ _ e (.inl rfl)⟩,f _ _ h.la.dc (.inr (.inr (.inr (.inr (.inr rfl)))))⟩
 tb:=let ⟨p,e,t⟩:=h.tb;⟨p,f _ _ e (.inl rfl),t⟩
 n1:=h.n1
 n2:=h.n2
 n3:=h.n3
 n4:=h.n4
end
theorem Ow.SO{u:Ow}(h:u.as.Nodup):u.lp≠u.la/\u.ls≠u.lp/\u.ls≠u.la/\u.lh≠u.lp/\u.lh≠u.la/\u.lh≠u.ls/\(∀a∈u.rs,a≠u.lp/\a≠u.la/\a≠u.ls/\a≠u.lh)/\u.rs.Nodup:=by
 unfold Ow.as at h
 simp only[List.nodup_cons,bI,not_or]at h
 obtain⟨⟨h1,h2,h3,h4⟩,⟨h5,h6,h7⟩,⟨h8,h9⟩,h10,h11⟩:=h
 exact⟨h1,aE h2,aE h5,aE h3,aE h6,aE h8,λa ha=>⟨λe=>h4 (e▸ha),λe=>h7 (e▸ha),λe=>h9 (e▸ha),λe=>h10 (e▸ha)⟩,h11⟩
section
variable{cA cM cS cR cH cB cW cL:Addr}{H H':Hp}{x:Ax}{M:Mem}{u:Ow}{w:Own}
theorem lW.Xz(o:lW H x u w){P:List (Option Int)}{G:List Int}(f:∀b v,H b=some v->b≠u.lp->b≠u.la->H' b=some v)(e1:H' u.lp=some (.lst (P.map tv)))(e2:H' u.la=some (.lst (G.map V.int))):lW H' x u ⟨P,G,w.S,w.D⟩:=by
 have n:=Ow.SO o.nd
 have tp:∀{ts:List Th} {vs:List V},Ct H ts vs->Ct H' ts vs:=λ{ts vs} h=>h.kx (L:=[u.lp,u.la]) (λb v e _ z=>by rw[bI,not_or,aU]at z;exact f b v e z.1 z.2) λa ha xs e=>by
  rcases List.mem_cons.mp ha with rfl|ha
  ·rw[o.pl]at e;cases e
  ·rw[List.mem_singleton.mp ha,o.ag]at e;cases e
 refine⟨f _ _ o.dc (jJ o.dc o.pl (by kernel_rfl)) (jJ o.dc o.ag (by kernel_rfl)),e1,e2,f _ _ o.sl n.2.1 n.2.2.1,o.rl,λk a e=> ?_,?_,o.nd,o.ne,o.n2⟩
 ·obtain⟨vs,z1,z2⟩:=o.sr k a e
  have m:=n.2.2.2.2.2.2.1 a (bW e)
  exact⟨vs,f _ _ z1 m.1 m.2.1,tp z2⟩
 ·obtain⟨vs,z1,z2⟩:=o.hd
  exact⟨vs,f _ _ z1 n.2.2.2.1 n.2.2.2.2.1,tp z2⟩
theorem Wh.Wb(h:Wh cA cM cS cR cH cB cW cL H x M)(o:lW H x u w)(f:∀b v,H b=some v->b≠u.lp->b≠u.la->H' b=some v):Wh cA cM cS cR cH cB cW cL H' x M:=by
 have n1:=o.ne u.lp (by simp[Ow.as])
 have n2:=o.ne u.la (by simp[Ow.as])
 refine h.lists λb v e z=>f b v e (λy=> ?_) λy=> ?_
 ·subst y
  rcases z with z|z|z|z|z|z
  ·rw[o.pl]at e;cases e;cases z
  ·exact n1.1 z
  ·exact n1.2.1 z
  ·exact n1.2.2 z
  ·exact jJ o.pl h.bk.dc (by kernel_rfl) z
  ·exact jJ o.pl h.la.dc (by kernel_rfl) z
 ·subst y
  rcases z with z|z|z|z|z|z
  ·rw[o.ag]at e;cases e;cases z
  ·exact n2.1 z
  ·exact n2.2.1 z
  ·exact n2.2.2 z
  ·exact jJ o.ag h.bk.dc (by kernel_rfl) z
  ·exact jJ o.ag h.la.dc (by kernel_rfl) z
end
section
variable{cA cM cS cR cH cB cW cL:Addr}{H H':Hp}{x:Ax}{M:Mem}{u:Ow}{w:Own}
theorem Wh.Xm(h:Wh cA cM cS cR cH cB cW cL H x M)(o:lW H x u w)(f:∀b v,H b=some v->b≠u.lp->b≠u.la->b≠u.ls->H' b=some v):Wh cA cM cS cR cH cB cW cL H' x M:=by
 have g:∀{a:Addr} {xs:List V},a∈u.as->H a=some (.lst xs)->∀{b:Addr} {v:HO},H b=some v->(Oq v=false∨b=x.q∨b=x.g∨b=x.v∨b=x.d∨b=x.e)->b≠a:=λ{a xs} ha e {b v} eb z y=>by
  subst y
  have n:=o.ne b ha
  rcases z with z|z|z|z|z|z
  ·rw[e]at eb;cases eb;cases z
  ·exact n.1 z
  ·exact n.2.1 z
  ·exact n.2.2 z
  ·exact jJ e h.bk.dc (by kernel_rfl) z
  ·exact jJ e h.la.dc (by kernel_rfl) z
 exact h.lists λb v e z=>f b v e (g (by simp[Ow.as]) o.pl e z) (g (by simp[Ow.as]) o.ag e z) (g (by simp[Ow.as]) o.sl e z)
theorem lW.lay(o:lW H x u w){a g:Int}{n:Nat}{nr:Addr}(hr:H nr=none)(wv:x.q≠nr/\x.g≠nr/\x.v≠nr)(f:∀b v,H b=some v->Oq v=true->b≠x.q->b≠u.lp->b≠u.la->b≠u.ls->H' b=some v)(wq:∃ys,H x.q=some (.lst ys))(e1:H' u.lp=some (.lst ((w.P++[some a]).map tv)))(e2:H' u.la=some (.lst ((w.G++[g]).map V.int)))(e3:H' u.ls=some (.lst ((u.rs++[nr]).map V.ref)))(e4:H' nr=some (.lst (ah n .kG)))(ls:w.S.length=w.G.length):lW H' x {u with rs:=u.rs++[nr]} (w.lay a g n):=by
 have n3:=Ow.SO o.nd
 have nq:∀b∈u.as,b≠x.q:=λb hb=>(o.ne b hb).1
 obtain⟨ys,eq⟩:=wq
 have tp:∀{ts:List Th} {vs:List V},Ct H ts vs->Ct H' ts vs:=λ{ts vs} h=>h.kx (L:=[x.q,u.lp,u.la,u.ls]) (λb v e k z=>by simp only[bI,bz,or_false,not_or]at z;exact f b v e k z.1 z.2.1 z.2.2.1 z.2.2.2) λa ha xs e=>by
  simp only[bI,bz,or_false]at ha
  rcases ha with rfl|rfl|rfl|rfl
  ·rw[eq]at e;cases e
  ·rw[o.pl]at e;cases e
  ·rw[o.ag]at e;cases e
  ·rw[o.sl]at e;cases e
 have nn:∀b∈u.as,b≠nr:=λb hb=>by
  have hl:∃v,H b=some v:=by
   rcases List.mem_cons.mp hb with rfl|hb
   ·exact⟨_,o.pl⟩
   rcases List.mem_cons.mp hb with rfl|hb
   ·exact⟨_,o.ag⟩
   rcases List.mem_cons.mp hb with rfl|hb
   ·exact⟨_,o.sl⟩
   rcases List.mem_cons.mp hb with rfl|hb
   ·obtain⟨vs,e,_⟩:=o.hd;exact⟨_,e⟩
   ·obtain⟨i,hi,rfl⟩:=List.mem_iff_getElem.mp hb
    obtain⟨vs,e,_⟩:=o.sr i _ (af hi);exact⟨_,e⟩
  obtain⟨v,e⟩:=hl
  exact i5 e hr
 refine⟨f _ _ o.dc rfl (jJ o.dc eq (by kernel_rfl)) (jJ o.dc o.pl (by kernel_rfl)) (jJ o.dc o.ag (by kernel_rfl)) (jJ o.dc o.sl (by kernel_rfl)),e1,e2,e3,?_,λk b e=> ?_,?_,?_,λb hb=> ?_,o.n2⟩
 ·show(u.rs++[nr]).length=(w.S++[_]).length
  rw[aY,aY,o.rl];rfl
 ·show∃vs,H' b=some (.lst vs)/\Ct H' ((w.S++[ah n Th.no]).getD k []) vs
  have e:(u.rs++[nr])[k]? =some b:=e
  rw[Ak]
  by_cases z:k<u.rs.length
  ·rw[cO z]at e
   rw[if_pos (by rw[←o.rl];exact z)]
   obtain⟨vs,z1,z2⟩:=o.sr k b e
   have m:=n3.2.2.2.2.2.2.1 b (bW e)
   exact⟨vs,f _ _ z1 rfl (nq b (by simp[Ow.as,bW e])) m.1 m.2.1 m.2.2.1,tp z2⟩
  ·rw[cz (by lia)]at e
   have hk:k-u.rs.length=0:=by
    refine Nat.eq_zero_of_not_pos λy=> ?_
    rw[cK (by show 1<=_;lia)]at e;cases e
   rw[hk]at e
   cases e
   rw[if_neg (by rw[←o.rl];exact z),if_pos (by rw[←o.rl];lia)]
   refine⟨_,e4,by rw[bA,bA],λj t v h1 h2=> ?_⟩
   rw[cV]at h1 h2
   by_cases y:j<n
   ·rw[if_pos y]at h1 h2;cases h1;cases h2;rfl
   ·rw[if_neg y]at h1;cases h1
 ·obtain⟨vs,z1,z2⟩:=o.hd
  exact⟨vs,f _ _ z1 rfl (nq _ (by simp[Ow.as])) n3.2.2.2.1 n3.2.2.2.2.1 n3.2.2.2.2.2.1,tp z2⟩
 ·show(u.lp::u.la::u.ls::u.lh::(u.rs++[nr])).Nodup
  have:u.lp::u.la::u.ls::u.lh::(u.rs++[nr])=u.as++[nr]:=rfl
  rw[this]
  exact List.nodup_append.mpr ⟨o.nd,List.nodup_cons.mpr ⟨bz,cD⟩,λa ha b hb e=>by rw[aU]at hb;subst hb;exact nn a ha e⟩
 ·have hb:b∈u.as++[nr]:=hb
  rcases List.mem_append.mp hb with hb|hb
  ·exact o.ne b hb
  ·rw[List.mem_singleton.mp hb];exact⟨aE wv.1,aE wv.2.1,aE wv.2.2⟩
end
theorem NO{H:Hp}{a:Addr}{o:HO}:Kx [a] H (upd H a o):=λb v e _ n=>by rw[i_ λz=>n (by rw[z];exact List.mem_singleton.mpr rfl)];exact e
theorem Ct.upd{H:Hp}{a:Addr}{xs ys:List V}{ts:List Th}{vs:List V}(h:Ct H ts vs)(e:H a=some (.lst xs)):Ct (upd H a (.lst ys)) ts vs:=h.kx NO λb hb zs z=>by rw[List.mem_singleton.mp hb,e]at z;cases z
theorem MQ.upd{H:Hp}{a:Addr}{xs ys:List V}{t:Th}{v:V}(h:MQ H t v)(e:H a=some (.lst xs)):MQ (upd H a (.lst ys)) t v:=h.kx NO λb hb zs z=>by rw[List.mem_singleton.mp hb,e]at z;cases z
theorem Ct.set{H:Hp}{ts:List Th}{vs:List V}{j:Nat}{t:Th}{v:V}(h:Ct H ts vs)(k:MQ H t v):Ct H (ts.set j t) (vs.set j v):=by
 refine⟨by rw[bf,bf,h.l],λi t' v' e1 e2=> ?_⟩
 rw[bC]at e1 e2
 by_cases z:j=i
 ·rw[if_pos z]at e1 e2
  by_cases y:j<ts.length
  ·rw[if_pos y]at e1
   rw[if_pos (by rw[h.l];exact y)]at e2
   cases e1;cases e2;exact k
  ·rw[if_neg y]at e1;cases e1
 ·rw[if_neg z]at e1 e2;exact h.g i t' v' e1 e2
section
variable{cA cM cS cR cH cB cW cL:Addr}{H H':Hp}{x:Ax}{M:Mem}{u:Ow}{w:Own}
theorem lW.W6(o:lW H x u w){vh:List V}(eh:H u.lh=some (.lst vh))(th:Ct H w.D vh){j:Nat}{t:Th}{v:V}(k:MQ H t v):lW (upd H u.lh (.lst (vh.set j v))) x u {w with D:=w.D.set j t}:=by
 have n:=Ow.SO o.nd
 have f:∀{b v'},H b=some v'->b≠u.lh->upd H u.lh (.lst (vh.set j v)) b=some v':=λ{b v'} e z=>by rw[i_ z];exact e
 refine⟨f o.dc (jJ o.dc eh (by kernel_rfl)),f o.pl (aE n.2.2.2.1),f o.ag (aE n.2.2.2.2.1),f o.sl (aE n.2.2.2.2.2.1),o.rl,λi a e=> ?_,⟨_,i8,(th.set k).upd eh⟩,o.nd,o.ne,o.n2⟩
 obtain⟨vs,z1,z2⟩:=o.sr i a e
 exact⟨vs,f z1 (n.2.2.2.2.2.2.1 a (bW e)).2.2.2,z2.upd eh⟩
theorem lW.sset(o:lW H x u w){k j:Nat}{ra:Addr}{rv:List V}(r1:u.rs[k]? =some ra)(r3:H ra=some (.lst rv))(r4:Ct H (w.s k) rv){t:Th}{v:V}(kv:MQ H t v):lW (upd H ra (.lst (rv.set j v))) x u (w.put k j t):=by
 have n:=Ow.SO o.nd
 have mr:=n.2.2.2.2.2.2.1 ra (bW r1)
 have hk:k<w.S.length:=by have:=(List.getElem?_eq_some_iff.mp r1).1;rw[o.rl]at this;exact this
 have f:∀{b v'},H b=some v'->b≠ra->upd H ra (.lst (rv.set j v)) b=some v':=λ{b v'} e z=>by rw[i_ z];exact e
 refine⟨f o.dc (jJ o.dc r3 (by kernel_rfl)),f o.pl (aE mr.1),f o.ag (aE mr.2.1),f o.sl (aE mr.2.2.1),by show _=(w.S.set _ _).length;rw[bf];exact o.rl,λi a e=> ?_,?_,o.nd,o.ne,o.n2⟩
 ·rw[Own.NA hk]
  by_cases z:i=k
  ·subst z
   rw[r1]at e;cases e
   rw[if_pos rfl]
   exact⟨_,i8,(r4.set kv).upd r3⟩
  ·rw[if_neg z]
   obtain⟨vs,z1,z2⟩:=o.sr i a e
   refine⟨vs,f z1 λy=>z ?_,z2.upd r3⟩
   obtain⟨hi,e⟩:=List.getElem?_eq_some_iff.mp e
   obtain⟨hk',e'⟩:=List.getElem?_eq_some_iff.mp r1
   rcases Nat.lt_trichotomy i k with l|l|l
   ·exact absurd (e.trans (y.trans e'.symm)) (List.pairwise_iff_getElem.mp n.2.2.2.2.2.2.2 i k hi hk' l)
   ·exact l
   ·exact absurd (e'.trans (y.symm.trans e.symm)) (List.pairwise_iff_getElem.mp n.2.2.2.2.2.2.2 k i hk' hi l)
 ·obtain⟨vs,z1,z2⟩:=o.hd
  exact⟨vs,f z1 (aE mr.2.2.2),z2.upd r3⟩
end
noncomputable def OO (H:Hp) (y:Addr):Int×Int:=match H y with
 |some (.tup [.int a,.int b])=>(a,b)
 |_=>(0,0)
structure OQ(H:Hp)(as:List Addr)(L:List (Int×Int)):Prop where
 e:as.map (OO H)=L
 t:∀y∈as,H y=some (.tup [.int (OO H y).1,.int (OO H y).2])
theorem Mv{H:Hp}{y:Addr}{a b:Int}(h:H y=some (.tup [.int a,.int b])):OO H y=(a,b):=by unfold OO;rw[h]
theorem OQ.same{H H':Hp}{as:List Addr}{L:List (Int×Int)}(h:OQ H as L)(s:jD H H'):OQ H' as L:=by
 have g:∀y∈as,OO H' y=OO H y:=λy hy=>Mv (s _ _ (h.t y hy))
 exact⟨by rw[←h.e];exact cZ g,λy hy=>by rw[g y hy];exact s _ _ (h.t y hy)⟩
theorem OQ.snoc{H:Hp}{as:List Addr}{L:List (Int×Int)}{y:Addr}{a b:Int}(h:OQ H as L)(e:H y=some (.tup [.int a,.int b])):OQ H (as++[y]) (L++[(a,b)]):=by
 refine⟨by rw[bo,h.e,ao,aB,Mv e],λz hz=> ?_⟩
 rcases List.mem_append.mp hz with hz|hz
 ·exact h.t z hz
 ·rw[List.mem_singleton.mp hz,Mv e];exact e
noncomputable def olds (x:Own) (n:Nat):List (Int×Int):=((bG n).filter λk=>decide (x.g k=2)).map λk:Nat=>((x.p k).getD 0,(k:Int))
theorem ID{x:Own}{n:Nat}:olds x (n+1)=if x.g n=2 then olds x n++[((x.p n).getD 0,(n:Int))] else olds x n:=by
 unfold olds
 rw[f9,df,bo]
 by_cases z:x.g n=2
 ·rw[if_pos z,bS (by simpa using z)];rfl
 ·rw[if_neg z,bR (by simpa using z),dj,aB,aD]
theorem P4{x:Own}{n:Nat}:(olds x n).length<=n:=by
 unfold olds;rw[aj];exact aW (cU ..) (by rw[cb];exact aN _)
section
variable{x:Own}{M:Mem}{O Y:List (Nat×Int)}
noncomputable def U9 (e:Nat×Int):Int×Int:=(e.2,(e.1:Int))
theorem In.Gu(I:In x M O Y){y:Int×Int}:y∈olds x x.G.length↔y∈O.map U9:=by
 unfold olds
 rw[hV,hV]
 constructor
 ·rintro⟨k,hk,rfl⟩
  obtain⟨h1,h2⟩:=List.mem_filter.mp hk
  have h1:=List.mem_range.mp h1
  have h2:=of_decide_eq_true h2
  obtain⟨a,ea⟩:=Option.isSome_iff_exists.mp (I.od k h1 h2)
  exact⟨(k,a),(I.oe k a).mpr ⟨h1,h2,ea⟩,by rw[ea];rfl⟩
 ·rintro⟨e,he,rfl⟩
  obtain⟨h1,h2,h3⟩:=(I.oe e.1 e.2).mp he
  exact⟨e.1,List.mem_filter.mpr ⟨List.mem_range.mpr h1,decide_eq_true h2⟩,by rw[h3];rfl⟩
theorem Nm{z:Nat->Int}(hz:∀k,1<=z k):∀{l:List (Nat×Int)} {a b:Int},tS z a l b->(l.map cj).Pairwise (·<·)
 | [],_,_,_=> .nil
 |e::r,a,b,h=>by
  rw[ao,eM]
  refine⟨λp hp=> ?_,Nm hz h.2⟩
  obtain⟨f,hf,rfl⟩:=List.mem_map.mp hp
  have:=uW hz h.2 (k:=f.1) (q:=f.2) hf
  have:=hz e.1
  have:=h.1
  lia
theorem Ms{n:Nat}:(olds x n).Nodup:=Jw (fb _ iH) λa _ b _ e=>by have:=congrArg cj e;dsimp only at this;lia
theorem In.Nv(I:In x M O Y):((olds x x.G.length).map aJ).Nodup:=Jw Ms λa ha b hb e=>by
 obtain⟨f,hf,rfl⟩:=List.mem_map.mp (I.Gu.mp ha)
 obtain⟨f',hf',rfl⟩:=List.mem_map.mp (I.Gu.mp hb)
 have e:f.2=f'.2:=e
 have:=x.z1 f.1
 have:=x.z1 f'.1
 have d:=uV x.z1 I.lo (k:=f.1) (q:=f.2) (k':=f'.1) (q':=f'.2) hf hf' (i:=f.2) (by lia) (by lia) (by lia) (by lia)
 show(f.2,(f.1:Int))=(f'.2,(f'.1:Int))
 rw[d.1,d.2]
theorem In.P8(I:In x M O Y){zs:List (Int×Int)}(pm:zs.Perm (olds x x.G.length))(so:(zs.map aJ).Pairwise (·<=·)):zs=O.map U9:=by
 refine MH (f:=aJ) (Av so ((pm.map aJ).nodup_iff.mpr I.Nv)) ?_ λy=>by rw[pm.mem_iff,I.Gu]
 rw[bU]
 exact Nm x.z1 I.lo
noncomputable def Gf (x:Own) (F:List Nat):Prop:=F.Nodup/\∀k∈F,k<x.G.length/\(x.p k).isSome=true
theorem Gf.Kq{F:List Nat}{t:Th}(h:Gf x F)(g:Gd x t):Gf x (Kq x F t):=by
 cases t with
 |no=>exact h
 |nu n=>exact h
 |ce i=>
  show Gf x (if _ then _ else _)
  by_cases z:x.g i<2/\i∉F
  ·rw[if_pos z]
   refine⟨List.nodup_append.mpr ⟨h.1,List.nodup_cons.mpr ⟨bz,cD⟩,λu hu v hv e=>by rw[aU]at hv;subst hv;exact z.2 (e▸hu)⟩,λk hk=> ?_⟩
   rcases List.mem_append.mp hk with hk|hk
   ·exact h.2 k hk
   ·rw[List.mem_singleton.mp hk];exact g
  ·rw[if_neg z];exact h
theorem Gf.len{F:List Nat}(h:Gf x F)(Fb:x.G.length<=10):F.length<=10:=by
 have:=len_sub h.1 (m:=bG 10) λk hk=>List.mem_range.mpr (by have:=(h.2 k hk).1;lia)
 rw[cb]at this
 exact this
end
theorem Own.R6{x:Own}{k:Nat}{a:Int}(h:x.p k=some a):x.P[k]? =some (some a):=by
 unfold Own.p at h
 rw[au]at h
 cases e:x.P[k]? with
 |none=>rw[e]at h;cases h
 |some o=>rw[e]at h;exact congrArg some h
theorem Own.E9{x:Own}{k:Nat}(h:k<x.G.length):(x.G.map V.int)[k]? =some (V.int (x.g k)):=by
 rw[aT,af h];unfold Own.g;rw[au,af h];rfl
theorem OQ.perm{H:Hp}{as zs:List Addr}{L:List (Int×Int)}(h:OQ H as L)(pm:zs.Perm as):OQ H zs (zs.map (OO H)):=⟨rfl,λy hy=>h.t y (pm.mem_iff.mp hy)⟩
theorem Ct.app{H:Hp}{ts us:List Th}{vs ws:List V}(h:Ct H ts vs)(k:Ct H us ws):Ct H (ts++us) (vs++ws):=by
 refine⟨by rw[aY,aY,h.l,k.l],λj t v e1 e2=> ?_⟩
 by_cases z:j<ts.length
 ·rw[cO z]at e1
  rw[cO (by rw[h.l];exact z)]at e2
  exact h.g j t v e1 e2
 ·rw[cz (by lia)]at e1
  rw[cz (by rw[h.l];lia),h.l]at e2
  exact k.g _ t v e1 e2
theorem Ct.same{H H':Hp}{ts:List Th}{vs:List V}(h:Ct H ts vs)(s:jD H H'):Ct H' ts vs:=h.kx (L:=[]) (Co s) λ_ z=>nomatch z
theorem lW.OH{H:Hp}{x:Ax}{u:Ow}{w:Own}(o:lW H x u w){k:Nat}(hk:k<w.S.length):∃a vs,u.rs[k]? =some a/\(u.rs.map V.ref)[k]? =some (V.ref a)/\H a=some (.lst vs)/\Ct H (w.s k) vs:=by
 have hk':k<u.rs.length:=by rw[o.rl];exact hk
 obtain⟨vs,e1,e2⟩:=o.sr k _ (af hk')
 exact⟨u.rs[k],vs,af hk',by rw[aT,af hk'];rfl,e1,e2⟩
noncomputable def nV (F:List Nat):List V:=F.map λk:Nat=>V.int k
theorem RP{F:List Nat}:nV F=(F.map λk:Nat=>(k:Int)).map V.int:=by unfold nV;rw[bU];rfl
theorem PC{F:List Nat}{k:Nat}:Ry (V.int k) (nV F)=decide (k∈F):=by
 rw[RP,PB]
 refine decide_eq_decide.mpr ⟨λh=> ?_,λh=>List.mem_map.mpr ⟨k,h,rfl⟩⟩
 obtain⟨y,hy,e⟩:=List.mem_map.mp h
 rw[←show y=k by lia];exact hy
theorem Na{F:List Nat}:(nV F).all sW=true:=List.all_eq_true.mpr λx hx=>by obtain⟨_,_,rfl⟩:=List.mem_map.mp hx;rfl
theorem Tw{x:Own}(s8:∀k,(x.s k).length<=8)(R:List (Nat×Int)):(R.flatMap λe=>x.s e.1).length<=8*R.length:=by
 induction R with
 |nil=>exact aN _
 |cons e r ih=>have:=s8 e.1;rw[dU,aY,ai];lia
theorem In.Xk{x:Own}{M:Mem}{O Y:List (Nat×Int)}(I:In x M O Y):O.length<=10:=by
 have:=len_sub I.XX (m:=bG 10) λk hk=>by
  obtain⟨e,he,rfl⟩:=List.mem_map.mp hk
  have:=((I.oe e.1 e.2).mp he).1
  have:=I.Fb
  exact List.mem_range.mpr (by lia)
 rw[aj,cb]at this
 exact this
theorem Gf.uu{x:Own}{F:List Nat}:∀{ts:List Th},Gf x F->(∀t∈ts,Gd x t)->Gf x (uu x F ts)
 | [],h,_=>h
 |t::r,h,g=>Gf.uu (F:=K12.Kq x F t) (ts:=r) (h.Kq (g t (aM ..))) λu hu=>g u (aP _ hu)
theorem In.WK{x:Own}{M:Mem}{O Y:List (Nat×Int)}(I:In x M O Y){t:Th}(g:Gd x t):(∀n,t= .nu n-> -1000000000000<=n/\n<=1000000000000)/\∀k,t= .ce k->∃a,x.P[k]? =some (some a)/\0<=a/\a<=9999:=by
 refine⟨λn e=>by subst e;exact g,λk e=> ?_⟩
 have p:=I.pb g k e
 subst e
 obtain⟨a,ea⟩:=Option.isSome_iff_exists.mp g.2
 rw[ea]at p
 exact⟨a,Own.R6 ea,p⟩
noncomputable def pg (x:Own) (a:Int):V->Bool
 | .int k=>decide (x.g k.toNat=a)
 |_=>false
theorem Fy{x:Own}{a:Int}{F:List (Nat×Int)}:(nV (F.map aJ)).filter (pg x a)=nV ((F.filter λe=>decide (x.g e.1=a)).map aJ):=by
 unfold nV;rw[bU,d_,bU];rfl
theorem yW{x:Own}{a:Int}{k:Nat}:∀{F:List (Nat×Int)},lk (F.filter λe=>decide (x.g e.1=a)) k=if x.g k=a then lk F k else none
 | []=>by rw[dj];show none=if _ then none else none;by_cases z:x.g k=a<;>simp[z]
 |e::r=>by
  by_cases z:x.g e.1=a
  ·rw[bS (by simpa using z)]
   show(if e.1=k then some e.2 else lk _ k)=if _ then(if e.1=k then some e.2 else lk r k) else none
   by_cases y:e.1=k
   ·rw[if_pos y,if_pos y,←y,if_pos z]
   ·rw[if_neg y,if_neg y];exact yW
  ·rw[bR (by simpa using z)]
   show lk _ k=if _ then(if e.1=k then some e.2 else lk r k) else none
   by_cases y:e.1=k
   ·rw[yW,←y,if_neg z,if_neg z]
   ·rw[if_neg y];exact yW
theorem Nn{l:List (Nat×Int)}{i:Nat}(h:i<l.length){k:Nat}:lk (l.take (i+1)) k=(lk (l.take i) k).or (if l[i].1=k then some l[i].2 else none):=by
 rw[cx,af h]
 exact PU (k:=l[i].1) (q:=l[i].2)
noncomputable def XW (x:Own) (F:List (Nat×Int)):Own:=⟨(bG x.G.length).map λk=>if x.g k=2 then x.p k else lk F k,(bG x.G.length).map λk=>if k∈F.map aJ then x.g k+1 else x.g k,x.S,x.D⟩
theorem T_{x:Own}{F:List (Nat×Int)}(h:x.P.length=x.G.length):Nx x F (XW x F) where
 S:=rfl
 D:=rfl
 P:=by show((bG _).map _).length=_;rw[aj,cb,h]
 G:=by show((bG _).map _).length=_;rw[aj,cb]
 p:=λk hk=>by show((bG _).map _).getD k none=_;rw[au,aT,fA hk];rfl
 g:=λk hk=>by show((bG _).map _).getD k 0=_;rw[au,aT,fA hk];rfl
theorem W5{α:Type}{l:List α}{i k:Nat}{v d:α}(h:i<l.length):(l.set i v).getD k d=if i=k then v else l.getD k d:=by
 rw[au,bC]
 by_cases z:i=k
 ·rw[if_pos z,if_pos z,if_pos h];rfl
 ·rw[if_neg z,if_neg z,←au]
theorem Gf.NY{x:Own}{M:Mem}{O Y:List (Nat×Int)}(I:In x M O Y):∀{n t:Nat} {F:List Nat},Gf x F->Gf x (NY x n F t)
 |0,_,_,h=>h
 |n+1,t,F,h=>by
  show Gf x (if _ then _ else _)
  by_cases z:t<F.length
  ·rw[if_pos z]
   refine Gf.NY I (h.uu λu hu=> ?_)
   have gk:=h.2 (F.getD t 0) (by rw[au,af z];exact bH z)
   obtain⟨a,ea⟩:=Option.isSome_iff_exists.mp gk.2
   exact I.gs _ a (I.at gk.1 ea) u hu
  ·rw[if_neg z];exact h
theorem In.gf{x:Own}{M:Mem}{O Y:List (Nat×Int)}(I:In x M O Y):Gf x (ord x O):=Gf.NY I (Gf.uu ⟨cD,λ_ z=>nomatch z⟩ λt ht=>by
 rcases List.mem_append.mp ht with ht|ht
 ·exact I.gd t ht
 ·obtain⟨e,he,ht⟩:=List.mem_flatMap.mp ht
  exact I.gs e.1 e.2 (.inl he) t ht)
theorem VO{H:Hp}{a b:Int}:FI (dD (E7 H 2) [V.int a,V.int b] [V.int a,V.int b])=some true:=by
 have:=D5 (H:=H) (d:=1) (l:=[a,b]) (r:=[a,b]) rfl
 rw[decide_eq_true rfl]at this
 exact this
theorem Iz{x:Own}:∀{F:List (Nat×Int)},(∀e∈F,x.g e.1=0∨x.g e.1=1)->(F.filter λe=>decide (x.g e.1=0)).length+(F.filter λe=>decide (x.g e.1=1)).length=F.length
 | [],_=>rfl
 |e::r,h=>by
  have ih:=Iz (F:=r) λf hf=>h f (aP _ hf)
  rcases h e (aM ..) with z|z
  ·rw[bS (by simp[z]),bR (by simp[z]),ai,ai];lia
  ·rw[bR (by simp[z]),bS (by simp[z]),ai,ai];lia
theorem Ng{ks:List Int}{p i:Int}:i∈N7 ks p↔i∈ks∨i=p:=by
 unfold N7
 by_cases z:p∈ks
 ·rw[if_pos z];exact⟨.inl,λh=>h.elim id λe=>e▸z⟩
 ·rw[if_neg z,dk,aU]
theorem Pz{ks:List Int}{p:Int}(h:ks.Nodup):(N7 ks p).Nodup:=by
 unfold N7
 by_cases z:p∈ks
 ·rw[if_pos z];exact h
 ·rw[if_neg z]
  exact List.nodup_append.mpr ⟨h,List.nodup_cons.mpr ⟨bz,cD⟩,λu hu v hv e=>by rw[aU]at hv;subst hv;exact z (e▸hu)⟩
theorem Rx{ks:List Int}{p:Int}:(N7 ks p).length<=ks.length+1:=by
 unfold N7
 by_cases z:p∈ks
 ·rw[if_pos z];lia
 ·rw[if_neg z,aY];exact aN _
theorem In.Xw{x:Own}{M:Mem}{O Y:List (Nat×Int)}(I:In x M O Y)(h:∀k b,(k,b)∈Y->x.g k=1):(((bG x.G.length).filter λk=>decide (x.g k=1/\(x.p k).isSome=true)).map x.z).sum=M.sy.t-M.sy.b:=by
 have nd:(Y.map aJ).Nodup:=Jv x.z1 I.ly λk q q' m m'=>by
  have e:=((I.ye k q).mp m).2.2
  rw[((I.ye k q').mp m').2.2]at e
  cases e;rfl
 have nd2:((bG x.G.length).filter λk=>decide (x.g k=1/\(x.p k).isSome=true)).Nodup:=fb _ iH
 have z0:∀k,0<=x.z k:=λk=>by have:=x.z1 k;lia
 have h1:=DJ (f:=x.z) z0 nd2 (m:=Y.map aJ) λk hk=>by
  obtain⟨a,b⟩:=List.mem_filter.mp hk
  obtain⟨b1,b2⟩:=of_decide_eq_true b
  obtain⟨p,ep⟩:=Option.isSome_iff_exists.mp b2
  exact bK (f:=aJ) ((I.ye k p).mpr ⟨List.mem_range.mp a,by omega,ep⟩)
 have h2:=DJ (f:=x.z) z0 nd (m:=(bG x.G.length).filter λk=>decide (x.g k=1/\(x.p k).isSome=true)) λk hk=>by
  obtain⟨e,he,rfl⟩:=List.mem_map.mp hk
  obtain⟨a1,a2,a3⟩:=(I.ye e.1 e.2).mp he
  exact List.mem_filter.mpr ⟨List.mem_range.mpr a1,decide_eq_true ⟨h _ _ he,by rw[a3];rfl⟩⟩
 have e:=tB I.ly
 have e2:((Y.map aJ).map x.z).sum=IL x.z Y:=by rw[bU];rfl
 lia
set_option genInjectivity false in
structure Ad where
 rR:Addr
 uc:FuncData
 nI:Addr
 qI:FuncData
 nJ:Addr
 qJ:FuncData
 nM:Addr
 qL:FuncData
 mH:Addr
 pw:FuncData
 nt:Addr
 qz:FuncData
 ou:Addr
 sd:FuncData
 mB:Addr
 pf:FuncData
 nA:Addr
 qC:FuncData
 oz:Addr
 sg:FuncData
 nE:Addr
 qF:FuncData
 lM:Addr
 m_:FuncData
 oF:Addr
 sk:FuncData
 nN:Addr
 qM:FuncData
 uf:Addr
 vK:FuncData
 oN:Addr
 qQ:FuncData
 oM:Addr
 qP:FuncData
 oK:Addr
 qO:FuncData
 qf:Addr
 sG:FuncData
 nK:Addr
 qK:FuncData
 qe:Addr
 sF:FuncData
 rQ:Addr
 ub:FuncData
 oU:Addr
 qV:FuncData
 ug:Addr
 vL:FuncData
 B2:Addr
 D1:FuncData
 mD:Addr
 pk:FuncData
 kA:Addr
 lI:FuncData
 j8:Addr
 kR:FuncData
 oC:Addr
 si:FuncData
 nD:Addr
 qE:FuncData
 kP:Addr
 me:FuncData
 oB:Addr
 sh:FuncData
 nZ:Addr
 pH:FuncData
 oS:Addr
 qU:FuncData
 B3:Addr
 D2:FuncData
 mE:Addr
 pq:FuncData
 mC:Addr
 pj:FuncData
 nX:Addr
 pE:FuncData
 oQ:Addr
 qS:FuncData
 yL:Addr
 A_:FuncData
 lY:Addr
 n_:FuncData
 nz:Addr
 qB:FuncData
 nB:Addr
 qD:FuncData
 pX:Addr
 tY:FuncData
 ox:Addr
 sf:FuncData
 nG:Addr
 qG:FuncData
 oG:Addr
 su:FuncData
 oE:Addr
 sj:FuncData
 nH:Addr
 qH:FuncData
 qd:Addr
 sE:FuncData
 nU:Addr
 pB:FuncData
 nW:Addr
 pC:FuncData
 pY:Addr
 tZ:FuncData
 qc:Addr
 sD:FuncData
 F2:Addr
 Ik:FuncData
 rS:Addr
 ud:FuncData
 vU:Addr
 xX:FuncData
 B5:Addr
 D4:FuncData
 uh:Addr
 vM:FuncData
 rO:Addr
 t_:FuncData
 pZ:Addr
 sv:FuncData
 rT:Addr
 ue:FuncData
 B1:Addr
 D0:FuncData
 nY:Addr
 pG:FuncData
 yK:Addr
 A9:FuncData
 nS:Addr
 pz:FuncData
 vV:Addr
 xY:FuncData
 oR:Addr
 qT:FuncData
 mG:Addr
 pv:FuncData
 k_:Addr
 mM:FuncData
 lZ:Addr
 oa:FuncData
 oP:Addr
 qR:FuncData
 kO:Addr
 ma:FuncData
 lL:Addr
 m9:FuncData
 qb:Addr
 sC:FuncData
 B4:Addr
 D3:FuncData
 p_:Addr
 sx:FuncData
 qg:Addr
 sH:FuncData
 oJ:Addr
 qN:FuncData
 rP:Addr
 ua:FuncData
 mn:Addr
 lK:FuncData
 lR:Addr
 mP:FuncData
 KY:Addr
 M0:FuncData
 nc:Addr
 jy:Addr
 oq:Addr
 pe:Addr
 kf:Addr
 jV:Addr
 pV:Addr
 lX:Addr
 uO:Addr
 jo:Addr
 ju:Addr
 jI:Addr
 kh:Addr
 kD:Addr
 kr:Addr
 kE:Addr
 j_:Addr
structure Txt(K:aC)(mg:Str->Option Value)(A:Ad):Prop where
 sJ:mZ K "is_whole" "is_whole" Cj A.rR A.uc
 vR:Binds K A.uc ["thing"] []
 rW:mg "is_whole"=some (.ref A.rR)
 BE:mZ K "__init__" "Space.__init__" zf A.nI A.qI
 vb:Binds K A.qI ["self","begin","end"] []
 BF:mZ K "room" "Space.room" zh A.nJ A.qJ
 vc:Binds K A.qJ ["self"] []
 vA:Meth K A.ju "room" A.nJ
 BH:mZ K "used" "Space.used" zj A.nM A.qL
 sU:Binds K A.qL ["self"] []
 tD:Meth K A.ju "used" A.nM
 Ag:mZ K "empty" "Space.empty" xH A.mH A.pw
 Bu:Binds K A.pw ["self"] []
 BL:Meth K A.ju "empty" A.mH
 Bx:mZ K "flip" "Areas.flip" y7 A.nt A.qz
 Cy:Binds K A.qz ["self"] []
 Dj:Meth K A.jI "flip" A.nt
 CP:mZ K "__init__" "Book.__init__" AH A.ou A.sd
 EA:Binds K A.sd ["self"] []
 Aa:mZ K "places" "Book.places" xC A.mB A.pf
 xg:Binds K A.pf ["self"] []
 xu:Meth K A.kh "places" A.mB
 Bz:mZ K "clear" "Book.clear" y9 A.nA A.qC
 CA:Binds K A.qC ["self"] []
 Dk:Meth K A.kh "clear" A.nA
 CT:mZ K "row" "Hands.row" AJ A.oz A.sg
 zV:Binds K A.sg ["self"] []
 Ay:Meth K A.kD "row" A.oz
 BC:mZ K "__init__" "Lasts.__init__" zd A.nE A.qF
 CC:Binds K A.qF ["self"] []
 x_:mZ K "pending" "Lasts.pending" rN A.lM A.m_
 zI:Binds K A.m_ ["self"] []
 zP:Meth K A.kr "pending" A.lM
 CV:mZ K "__init__" "Weak.__init__" AL A.oF A.sk
 ED:Binds K A.sk ["self"] []
 BI:mZ K "names" "Weak.names" vC A.nN A.qM
 CG:Binds K A.qM ["self"] []
 Dm:Meth K A.kE "names" A.nN
 rV:mZ K "_law_at" "_law_at" Ei A.uf A.vK
 vI:Binds K A.vK ["_law_script","_law_k"] []
 sM:mg "_law_at"=some (.ref A.uf)
 uy:mZ K "_law_whole" "_law_whole" zp A.oN A.qQ
 yF:Binds K A.qQ ["_law_found"] []
 tj:mg "_law_whole"=some (.ref A.oN)
 ux:mZ K "_law_thing" "_law_thing" zo A.oM A.qP
 yE:Binds K A.qP ["_law_cell","_law_many"] []
 tf:mg "_law_thing"=some (.ref A.oM)
 xm:mZ K "_law_order" "_law_order" vD A.oK A.qO
 CI:Binds K A.qO ["_law_own"] []
 vn:mg "_law_order"=some (.ref A.oK)
 j3:mZ K "is_within" "is_within" AS A.qf A.sG
 ky:Binds K A.sG ["thing","least","most"] []
 j9:mg "is_within"=some (.ref A.qf)
 BG:mZ K "take" "Space.take" zi A.nK A.qK
 yD:Binds K A.qK ["self","many"] []
 yZ:Meth K A.ju "take" A.nK
 vi:mZ K "is_number" "is_number" AR A.qe A.sF
 zZ:Binds K A.sF ["thing"] []
 uS:mg "is_number"=some (.ref A.qe)
 wI:mZ K "is_place" "is_place" Ci A.rQ A.ub
 BX:Binds K A.ub ["thing"] []
 v_:mg "is_place"=some (.ref A.rQ)
 uz:mZ K "want_slots" "want_slots" zw A.oU A.qV
 yG:Binds K A.qV ["slots"] []
 tq:mg "want_slots"=some (.ref A.oU)
 B6:mZ K "is_head" "is_head" Ej A.ug A.vL
 Ia:Binds K A.vL ["number"] []
 Bd:mg "is_head"=some (.ref A.ug)
 Fj:mZ K "fits" "fits" My A.B2 A.D1
 LZ:Binds K A.D1 ["memory","at","slots"] []
 F9:mg "fits"=some (.ref A.B2)
 Ac:mZ K "__init__" "Memory.__init__" xE A.mD A.pk
 Bt:Binds K A.pk ["self","size"] []
 uP:mZ K "want_place" "Memory.want_place" rn A.kA A.lI
 rf:Binds K A.lI ["self","at"] []
 rj:Meth K A.jo "want_place" A.kA
 sX:mZ K "want_stretch" "Memory.want_stretch" pQ A.j8 A.kR
 pN:Binds K A.kR ["self","begin","many"] []
 pO:Meth K A.jo "want_stretch" A.j8
 CU:mZ K "has" "Space.has" AK A.oC A.si
 zX:Binds K A.si ["self","at"] []
 AA:Meth K A.ju "has" A.oC
 BB:mZ K "__init__" "Hands.__init__" zc A.nD A.qE
 CB:Binds K A.qE ["self","many"] []
 vX:mZ K "want_hand" "Hands.want_hand" tK A.kP A.me
 wF:Binds K A.me ["self","hand"] []
 wY:Meth K A.kD "want_hand" A.kP
 I_:mZ K "say" "Lasts.say" EW A.oB A.sh
 EB:Binds K A.sh ["self","ticket"] []
 ER:Meth K A.kr "say" A.oB
 vZ:mZ K "want_number" "want_number" xN A.nZ A.pH
 Bw:Binds K A.pH ["thing"] []
 uB:mg "want_number"=some (.ref A.nZ)
 rB:mZ K "want_place" "want_place" zv A.oS A.qU
 ve:Binds K A.qU ["thing"] []
 qZ:mg "want_place"=some (.ref A.oS)
 vj:mZ K "kind" "kind" Mz A.B3 A.D2
 z3:Binds K A.D2 ["word"] []
 xp:mg "kind"=some (.ref A.B3)
 Ae:mZ K "read" "Memory.read" xF A.mE A.pq
 o_:Binds K A.pq ["self","at"] []
 pJ:Meth K A.jo "read" A.mE
 Ab:mZ K "copy" "Memory.copy" xD A.mC A.pj
 Bs:Binds K A.pj ["self","start","goal","many"] []
 BK:Meth K A.jo "copy" A.mC
 s9:mZ K "number_word" "number_word" xK A.nX A.pE
 xi:Binds K A.pE ["n"] []
 rD:mg "number_word"=some (.ref A.nX)
 rA:mZ K "place_word" "place_word" zt A.oQ A.qS
 vd:Binds K A.qS ["at"] []
 qY:mg "place_word"=some (.ref A.oQ)
 uQ:mZ K "worth" "worth" JV A.yL A.A_
 yH:Binds K A.A_ ["word"] []
 vq:mg "worth"=some (.ref A.yL)
 zM:mZ K "write" "Memory.write" wt A.lY A.n_
 mR:Binds K A.n_ ["self","at","word"] []
 mT:Meth K A.jo "write" A.lY
 By:mZ K "__init__" "Areas.__init__" y8 A.nz A.qB
 Cz:Binds K A.qB ["self","old_words","young_words"] []
 BA:mZ K "write" "Book.write" y_ A.nB A.qD
 yC:Binds K A.qD ["self","place"] []
 yY:Meth K A.kh "write" A.nB
 EJ:mZ K "has" "Book.has" Cd A.pX A.tY
 FL:Binds K A.tY ["self","place"] []
 Gp:Meth K A.kh "has" A.pX
 CQ:mZ K "put" "Hands.put" AI A.ox A.sf
 zU:Binds K A.sf ["self","hand","word"] []
 Aw:Meth K A.kD "put" A.ox
 He:mZ K "move" "Lasts.move" DC A.nG A.qG
 CD:Binds K A.qG ["self","ticket","at"] []
 Dl:Meth K A.kr "move" A.nG
 Jb:mZ K "move" "Weak.move" EY A.oG A.su
 EE:Binds K A.su ["self","name","at"] []
 ET:Meth K A.kE "move" A.oG
 Ja:mZ K "gone" "Weak.gone" EX A.oE A.sj
 EC:Binds K A.sj ["self","name"] []
 ES:Meth K A.kE "gone" A.oE
 BD:mZ K "__init__" "Roots.__init__" ze A.nH A.qH
 CF:Binds K A.qH ["self","many"] []
 vg:mZ K "head_word" "head_word" AQ A.qd A.sE
 zY:Binds K A.sE ["slots","age"] []
 uR:mg "head_word"=some (.ref A.qd)
 og:mZ K "head_number" "head_number" xI A.nU A.pB
 rp:Binds K A.pB ["memory","at"] []
 n6:mg "head_number"=some (.ref A.nU)
 sZ:mZ K "is_of_young" "is_of_young" xJ A.nW A.pC
 xh:Binds K A.pC ["areas","word"] []
 rC:mg "is_of_young"=some (.ref A.nW)
 EK:mZ K "rub" "Book.rub" Ce A.pY A.tZ
 FN:Binds K A.tZ ["self","place"] []
 Gr:Meth K A.kh "rub" A.pY
 qW:mZ K "_law_word" "_law_word" AO A.qc A.sD
 uN:Binds K A.sD ["_law_thing_here","_law_places"] []
 qh:mg "_law_word"=some (.ref A.qc)
 Mc:mZ K "lay" "lay" Qy A.F2 A.Ik
 SG:Binds K A.Ik ["memory","at","slots"] []
 Nb:mg "lay"=some (.ref A.F2)
 sL:mZ K "slots_of" "slots_of" Ck A.rS A.ud
 vS:Binds K A.ud ["memory","at"] []
 rX:mg "slots_of"=some (.ref A.rS)
 Ba:mZ K "age_of" "age_of" GN A.vU A.xX
 FP:Binds K A.xX ["memory","at"] []
 Am:mg "age_of"=some (.ref A.vU)
 Jc:mZ K "send" "send" MB A.B5 A.D4
 OX:Binds K A.D4 ["memory","at","goal"] []
 Jf:mg "send"=some (.ref A.B5)
 yP:mZ K "sent_to" "sent_to" Ek A.uh A.vM
 DV:Binds K A.vM ["memory","at"] []
 yb:mg "sent_to"=some (.ref A.uh)
 Ah:mZ K "_law_put" "_law_put" Cf A.rO A.t_
 FO:Binds K A.t_ ["_law_own","_law_k","_law_slot","_law_thing_here"] []
 yQ:mg "_law_put"=some (.ref A.rO)
 yM:mZ K "_law_held" "_law_held" AM A.pZ A.sv
 EF:Binds K A.sv ["_law_own","_law_hand","_law_thing_here"] []
 wM:mg "_law_held"=some (.ref A.pZ)
 wJ:mZ K "words_of" "words_of" Cn A.rT A.ue
 BY:Binds K A.ue ["memory","at"] []
 wb:mg "words_of"=some (.ref A.rT)
 CY:mZ K "aged" "aged" Mx A.B1 A.D0
 IV:Binds K A.D0 ["memory","at","age"] []
 D6:mg "aged"=some (.ref A.B1)
 s_:mZ K "slot_places" "slot_places" xM A.nY A.pG
 xj:Binds K A.pG ["memory","at"] []
 rE:mg "slot_places"=some (.ref A.nY)
 F3:mZ K "moved" "moved" JU A.yK A.A9
 MT:Binds K A.A9 ["memory","word"] []
 Fq:mg "moved"=some (.ref A.yK)
 vY:mZ K "_law_stands" "_law_stands" uI A.nS A.pz
 Bv:Binds K A.pz ["_law_own"] []
 uA:mg "_law_stands"=some (.ref A.nS)
 Bb:mZ K "copied" "copied" GO A.vV A.xY
 FQ:Binds K A.xY ["memory","at","space","age"] []
 An:mg "copied"=some (.ref A.vV)
 xo:mZ K "renew_book" "renew_book" zu A.oR A.qT
 CK:Binds K A.qT ["areas","book","grown"] []
 vp:mg "renew_book"=some (.ref A.oR)
 Af:mZ K "cells" "Space.cells" xG A.mG A.pv
 uw:Binds K A.pv ["self","memory"] []
 uG:Meth K A.ju "cells" A.mG
 wH:mZ K "lay_into" "Areas.lay_into" uq A.k_ A.mM
 tX:Binds K A.mM ["self","space","slots","age"] []
 uo:Meth K A.jI "lay_into" A.k_
 zN:mZ K "follow" "Roots.follow" wu A.lZ A.oa
 zW:Binds K A.oa ["self","goal_of"] []
 Az:Meth K A.j_ "follow" A.lZ
 xn:mZ K "copy_young" "copy_young" zr A.oP A.qR
 CJ:Binds K A.qR ["areas","at"] []
 vo:mg "copy_young"=some (.ref A.oP)
 vW:mZ K "lay_young" "Areas.lay_young" tJ A.kO A.ma
 wD:Binds K A.ma ["self","slots"] []
 wX:Meth K A.jI "lay_young" A.kO
 xZ:mZ K "lay_old" "Areas.lay_old" u_ A.lL A.m9
 zH:Binds K A.m9 ["self","slots"] []
 zO:Meth K A.jI "lay_old" A.lL
 yO:mZ K "_law_went" "_law_went" u4 A.qb A.sC
 EH:Binds K A.sC ["_law_own","_law_order_here","_law_stood"] []
 wO:mg "_law_went"=some (.ref A.qb)
 Fl:mZ K "meet" "meet" MA A.B4 A.D3
 L0:Binds K A.D3 ["areas","word","copies"] []
 F_:mg "meet"=some (.ref A.B4)
 yN:mZ K "_law_laid" "_law_laid" AN A.p_ A.sx
 EG:Binds K A.sx ["_law_own","_law_cell"] []
 wN:mg "_law_laid"=some (.ref A.p_)
 vk:mZ K "meet_slot" "meet_slot" AU A.qg A.sH
 z4:Binds K A.sH ["areas","place","copies"] []
 uT:mg "meet_slot"=some (.ref A.qg)
 xl:mZ K "_law_built" "_law_built" zm A.oJ A.qN
 CH:Binds K A.qN ["_law_script"] []
 vm:mg "_law_built"=some (.ref A.oJ)
 Ai:mZ K "copy_met" "copy_met" Cg A.rP A.ua
 FR:Binds K A.ua ["areas","roots"] []
 yR:mg "copy_met"=some (.ref A.rP)
 uj:mZ K "collect_young" "collect_young" o9 A.mn A.lK
 zJ:Binds K A.lK ["areas","roots"] []
 q9:A.lK.code= .ref A.nc
 q0:dO K A.nc A.jy=true
 rK:mg "collect_young"=some (.ref A.mn)
 sY:mZ K "_law_collected" "_law_collected" oj A.lR A.mP
 xT:Binds K A.mP ["_law_own"] []
 qX:mg "_law_collected"=some (.ref A.lR)
 Pp:mZ K "law" "law" EZ A.KY A.M0
 C2:mg "Memory"=some (.ref A.jo)
 jW:Hc K A.jo
 Bi:Mk K A.jo A.mD
 mV:mj K A.jo "size"
 lN:mj K A.jo "words"
 Bc:mg "Space"=some (.ref A.ju)
 ke:Hc K A.ju
 yj:Mk K A.ju A.nI
 kU:mj K A.ju "begin"
 tE:mj K A.ju "end"
 lU:mj K A.ju "top"
 Fm:mg "Areas"=some (.ref A.jI)
 jF:Hc K A.jI
 Dp:Mk K A.jI A.nz
 jC:mj K A.jI "memory"
 lD:mj K A.jI "old"
 jQ:mj K A.jI "young"
 kJ:mj K A.jI "spare"
 Jd:mg "Book"=some (.ref A.kh)
 pR:Hc K A.kh
 Fv:Mk K A.kh A.ou
 kY:mj K A.kh "written"
 Fn:mg "Hands"=some (.ref A.kD)
 rz:Hc K A.kD
 Dq:Mk K A.kD A.nD
 mU:mj K A.kD "words"
 Fo:mg "Lasts"=some (.ref A.kr)
 vT:Hc K A.kr
 Dr:Mk K A.kr A.nE
 oh:mj K A.kr "waiting"
 rM:mj K A.kr "spoken"
 Je:mg "Weak"=some (.ref A.kE)
 A8:Hc K A.kE
 Fw:Mk K A.kE A.oF
 tF:mj K A.kE "told"
 Fp:mg "Roots"=some (.ref A.j_)
 my:Hc K A.j_
 Ds:Mk K A.j_ A.nH
 l_:mj K A.j_ "hands"
 mK:mj K A.j_ "book"
 qq:mj K A.j_ "weaks"
 qp:mj K A.j_ "lasts"
 sQ:Gv mg "NOTHING" (.int (-1))
 rJ:Gv mg "MOST_NUMBER" (.int (1000000000000))
 vF:Gv mg "MOST_PLACE" (.int (9999))
 tQ:Gv mg "MOST_SLOTS" (.int (8))
 r6:Gv mg "MOST_AGE" (.int (2))
 vG:Gv mg "MOST_WORDS" (.int (4000))
 pS:Gv mg "LEAST_OLD_WORDS" (.int (4))
 rb:Gv mg "MOST_OLD_WORDS" (.int (2000))
 n9:Gv mg "LEAST_YOUNG_WORDS" (.int (2))
 oY:Gv mg "MOST_YOUNG_WORDS" (.int (500))
 vE:Gv mg "MOST_HANDS" (.int (6))
 wL:mg "BadNumber"=some (.ref A.oq)
 ya:mg "BadWord"=some (.ref A.pe)
 mv:mg "BadCount"=some (.ref A.kf)
 uk:mg "NoPlace"=some (.ref A.jV)
 Dc:mg "NoRoom"=some (.ref A.pV)
 Al:mg "NoCell"=some (.ref A.lX)
 C_:mg "NoHand"=some (.ref A.uO)
 mx:DT K A.kf
 xf:DT K A.oq
 yx:DT K A.pe
 A7:DT K A.lX
 DP:DT K A.uO
 uv:DT K A.jV
 DQ:DT K A.pV
 rL:a_ K (.type "NoneType") (.type "int")=some false
 q_:a_ K (.type "NoneType") (.type "bool")=some false
 wQ:a_ K (.type "bool") (.type "int")=some true
 vv:a_ K (.type "bool") (.type "bool")=some true
 yT:a_ K (.type "int") (.type "int")=some true
 wU:a_ K (.type "int") (.type "bool")=some false
 yU:a_ K (.type "str") (.type "int")=some false
 wW:a_ K (.type "str") (.type "bool")=some false
 wV:a_ K (.type "list") (.type "int")=some false
 vx:a_ K (.type "list") (.type "bool")=some false
 vy:a_ K (.type "tuple") (.type "int")=some false
 uF:a_ K (.type "tuple") (.type "bool")=some false
 tw:a_ K (.type "tuple") (.type "tuple")=some true
 wR:a_ K (.type "dict") (.type "int")=some false
 vw:a_ K (.type "dict") (.type "bool")=some false
 Gz:mg "bool"=none
 uY:mg "enumerate"=none
 IA:mg "int"=none
 nO:mg "isinstance"=none
 nP:mg "len"=none
 Ec:mg "list"=none
 oX:mg "range"=none
 ym:mg "sorted"=none
 Nr:mg "sum"=none
 Fx:mg "tuple"=none
 Lf:mg "zip"=none
section
variable{P:Program}{w:World}{K:aC}{mg:Str->Option Value}{base:Heap}{A:Ad}
theorem SM(T:Txt K mg A){H:Hp}{v:V}(h:Kn H v):∃t,SY H v=some t/\Kt K H v/\a_ K t (.type "int")=some (N9 v ||WE v)/\a_ K t (.type "bool")=some (WE v):=by
 cases v with
 |kG=>exact⟨_,rfl,aF,T.rL,T.q_⟩
 |bl b=>exact⟨_,rfl,aF,T.wQ,T.vv⟩
 |int i=>exact⟨_,rfl,aF,T.yT,T.wU⟩
 |str x=>exact⟨_,rfl,aF,T.yU,T.wW⟩
 |ref a=>
  rcases h with ⟨xs,e⟩|⟨xs,e⟩|⟨xs,e⟩
  ·exact⟨.type "list",by simp[SY,e],by simp[Kt,e],T.wV,T.vx⟩
  ·exact⟨.type "tuple",by simp[SY,e],by simp[Kt,e],T.vy,T.uF⟩
  ·exact⟨.type "dict",by simp[SY,e],by simp[Kt,e],T.wR,T.vw⟩
 |byt b=>exact h.elim
 |Po b=>exact h.elim
 |ty n=>exact h.elim
noncomputable def oI:Sp:=λvs H Q _=>∃v,vs=[v]/\Kn H v/\Q (.bl (N9 v)) H
theorem Lx:jf ["thing"] ["thing"] (ja Cj):=fsc
theorem xa{ca:Bool}(T:Txt K mg A):jO P w K mg base (lV P w) ca 1 A.rR A.uc ["thing"] oI:=by
 refine T.sJ.oZ Lx (λvs H Q E h=> ?_) (λcdv A' outer s H vs Q E hr hx h=> ?_)
 ·obtain⟨_,rfl,_⟩:=h
  rfl
 ·obtain⟨v,rfl,hk,q⟩:=h
  refine⟨_,nR.run (i6 (jh (yd (jz wc (by rfl) T.nO PyProof.Rows.Boot.«isinstance» (iY (i4 0) (iY (Df T.IA PyProof.Rows.Boot.«int») iZ))) (yh (K7 (jz wc (by rfl) T.nO PyProof.Rows.Boot.«isinstance» (iY (i4 0) (iY (Df T.Gz PyProof.Rows.Boot.«bool») iZ)))))))),?_⟩
  obtain⟨t,h1,h2,h3,h4⟩:=SM T hk
  simp only[kM,DL,NK,A6,jc,jv,tC,jd,OB,RI,jq,az,L2.start,ao,aB,ai,aq,ah,aD,aa,true_and,aA,aL,↓jS,h1,h2,h3,h4]
  cases v<;>simpa [N9,WE] using q
noncomputable def uL (A:Ad):Sp:=λvs H Q _=>∃p dx b e,vs=[.ref p,.int b,.int e]/\H p=some (.ins A.ju dx [])/\Q .kG (upd H p (.ins A.ju dx (wz b e b)))
theorem Hy:jf ["self","begin","end"] ["self","begin","end"] (ja zf):=fsc
theorem xw{ca:Bool}(T:Txt K mg A):jO P w K mg base (lV P w) ca 1 A.nI A.qI ["self","begin","end"] (uL A):=by
 refine T.BE.oZ Hy (λvs H Q E h=> ?_) (λcdv A' outer s H vs Q E hr hx h=> ?_)
 ·obtain⟨_,_,_,_,rfl,_⟩:=h
  rfl
 ·obtain⟨p,dx,b,e,rfl,hp,q⟩:=h
  refine⟨_,nR.run (i3 (kH (i4 0) (i4 1) rfl)
   (i3 (kH (i4 0) (i4 2) rfl)
   (i6 (kH (i4 0) (i4 1) rfl)))),?_⟩
  simp only[kN,jd,jq,bt,fT,bu,az,Bj,ft,↓reduceIte,i8,r_,L2.start,ao,aB,ai,aq,ah,aD,aa,ae,true_and,aA,aL,hp,T.ke,T.kU,T.tE,T.lU,lq,NP]
  exact q
noncomputable def HR (A:Ad):Sp:=λvs H Q _=>∃p dx b e t,vs=[.ref p]/\H p=some (.ins A.ju dx (wz b e t))/\Q (.int (e-t)) H
theorem Hz:jf ["self"] ["self"] (ja zh):=fsc
theorem xx{ca:Bool}(T:Txt K mg A):jO P w K mg base (lV P w) ca 1 A.nJ A.qJ ["self"] (HR A):=by
 refine T.BF.oZ Hz (λvs H Q E h=> ?_) (λcdv A' outer s H vs Q E hr hx h=> ?_)
 ·obtain⟨_,_,_,_,_,rfl,_⟩:=h
  rfl
 ·obtain⟨p,dx,b,e,t,rfl,hp,q⟩:=h
  refine⟨_,nR.run (i6 (jh (je uD (jg (i4 0) rfl) (jg (i4 0) rfl)))),?_⟩
  simp only[kM,lu,jd,E6,jq,az,↓jE,L2.start,ao,aB,ai,aq,ah,aD,aa,and_true,true_and,aA,aL,kK,qw,hp,T.ke,T.tE,T.lU,Wo,LF]
  exact q
noncomputable def HS (A:Ad):Sp:=λvs H Q _=>∃p dx b e t,vs=[.ref p]/\H p=some (.ins A.ju dx (wz b e t))/\Q (.int (t-b)) H
theorem HA:jf ["self"] ["self"] (ja zj):=fsc
theorem uH{ca:Bool}(T:Txt K mg A):jO P w K mg base (lV P w) ca 1 A.nM A.qL ["self"] (HS A):=by
 refine T.BH.oZ HA (λvs H Q E h=> ?_) (λcdv A' outer s H vs Q E hr hx h=> ?_)
 ·obtain⟨_,_,_,_,_,rfl,_⟩:=h
  rfl
 ·obtain⟨p,dx,b,e,t,rfl,hp,q⟩:=h
  refine⟨_,nR.run (i6 (jh (je uD (jg (i4 0) rfl) (jg (i4 0) rfl)))),?_⟩
  simp only[kM,lu,jd,E6,jq,az,↓jE,L2.start,ao,aB,ai,aq,ah,aD,aa,and_true,true_and,aA,aL,kK,qw,hp,T.ke,T.kU,T.lU,II,LF]
  exact q
noncomputable def G1 (A:Ad):Sp:=λvs H Q _=>∃p dx b e t,vs=[.ref p]/\H p=some (.ins A.ju dx (wz b e t))/\Q .kG (upd H p (.ins A.ju dx (wz b e b)))
theorem GS:jf ["self"] ["self"] (ja xH):=fsc
theorem GD{ca:Bool}(T:Txt K mg A):jO P w K mg base (lV P w) ca 1 A.mH A.pw ["self"] (G1 A):=by
 refine T.Ag.oZ GS (λvs H Q E h=> ?_) (λcdv A' outer s H vs Q E hr hx h=> ?_)
 ·obtain⟨_,_,_,_,_,rfl,_⟩:=h
  rfl
 ·obtain⟨p,dx,b,e,t,rfl,hp,q⟩:=h
  refine⟨_,nR.run (i6 (kH (i4 0) (jg (i4 0) rfl) rfl)),?_⟩
  simp only[jd,jq,bt,bu,az,↓jE,r_,L2.start,ao,aB,ai,aq,ah,aD,aa,and_true,true_and,aA,aL,kK,qw,hp,T.ke,T.kU,T.lU,II,NH,NG]
  exact q
noncomputable def HK (A:Ad):Sp:=λvs H Q _=>∃p dx m o y s,vs=[.ref p]/\H p=some (.ins A.jI dx (zR m o y s))/\Q .kG (upd H p (.ins A.jI dx (zR m o s y)))
theorem BS:jf ["self","young"] ["self"] (ja y7):=fsc
theorem Hf{ca:Bool}(T:Txt K mg A):jO P w K mg base (lV P w) ca 1 A.nt A.qz ["self"] (HK A):=by
 refine T.Bx.oZ BS (λvs H Q E h=> ?_) (λcdv A' outer s H vs Q E hr hx h=> ?_)
 ·obtain⟨_,_,_,_,_,_,rfl,_⟩:=h
  rfl
 ·obtain⟨p,dx,m,o,y,s',rfl,hp,q⟩:=h
  refine⟨_,nR.run (i3 (jA (i:=1) BS.nd rfl lo (jg (i4 0) rfl))
   (i3 (kH (i4 0) (jg (i4 0) rfl) rfl)
   (i6 (kH (i4 0) (i4 1) rfl)))),?_⟩
  simp only[kN,jd,kB,jG,jq,bt,bu,az,bE,i8,↓jE,r_,L2.start,ao,aB,ai,aq,ah,bq,bw,aa,ae,ay,ax,and_true,true_and,bF,aA,kK,qw,hp,T.jF,T.jQ,T.kJ,zG,FH,OU,OT,Q0,NP]
  exact q
noncomputable def DE (A:Ad):Sp:=λvs H Q _=>∃p dx,vs=[.ref p]/\H p=some (.ins A.kh dx [])/\∀d H',H d=none->va A.kh H' p d []->(∀y o,y≠p->H y=some o->H' y=some o)->Q .kG H'
theorem JX:jf ["self"] ["self"] (ja AH):=fsc
theorem Jy{ca:Bool}(T:Txt K mg A):jO P w K mg base (lV P w) ca 1 A.ou A.sd ["self"] (DE A):=by
 refine T.CP.oZ JX (λvs H Q E h=> ?_) (λcdv A' outer s H vs Q E hr hx h=> ?_)
 ·obtain⟨_,_,rfl,_⟩:=h
  rfl
 ·obtain⟨p,dx,rfl,hp,h⟩:=h
  refine⟨_,nR.run (i6 (kH (i4 0) B7 rfl)),?_⟩
  simp only[jd,G9,jq,az,r_,L2.start,ao,aB,ai,aq,ah,aD,aa,aA,aL]
  intro d hd
  have npd:=i5 hp hd
  have e:upd H d (.dK []) p=some (.ins A.kh dx []):=by rw[i_ npd];exact hp
  simp only[bt,bu,aq,true_and,e,T.pR,T.kY,Tc]
  exact h d _ hd ⟨⟨dx,i8⟩,by rw[i_ (aE npd),i8];rfl⟩ λy o hy e=>by rw[i_ hy,i_ (i5 e hd)];exact e
theorem Kz:∀{ks:List Int},Ip (Hd ks)=some ks
 | []=>rfl
 |k::r=>by show(Ip (Hd r)).map _=_;rw[Kz];rfl
noncomputable def GZ (A:Ad):Sp:=λvs H Q _=>∃p d ks,vs=[.ref p]/\va A.kh H p d ks/\ks.length<64/\∀l,H l=none->Q (.ref l) (upd H l (.lst ((mY ks).map V.int)))
theorem GP:jf ["self"] ["self"] (ja xC):=fsc
theorem AB(T:Txt K mg A):jO P w K mg base (lV P w) true 1 A.mB A.pf ["self"] (GZ A):=by
 refine T.Aa.oZ GP (λvs H Q E h=> ?_) (λcdv A' outer s H vs Q E hr hx h=> ?_)
 ·obtain⟨_,_,_,rfl,_⟩:=h
  rfl
 ·obtain⟨p,d,ks,rfl,h⟩:=h
  obtain⟨h,m,hl⟩:=MR h
  refine⟨_,nR.run (i6 (jh (jz (EL (by rfl)) (by rfl) T.ym PyProof.Rows.Boot.«sorted» (iY (jg (i4 0) rfl) iZ)))),?_⟩
  obtain⟨dx,e⟩:=m.ob
  simp only[kM,A6,jc,jv,jd,jq,az,↓jE,L2.start,z6,ao,aB,ai,aq,ah,aD,aa,and_true,true_and,aA,aL,kK,qw,e,T.pR,T.kY,MV,m.dc,Kz]
  exact⟨hl,h⟩
noncomputable def HM (A:Ad):Sp:=λvs H Q _=>∃p d ks,vs=[.ref p]/\va A.kh H p d ks/\∀d' H',H d'=none->va A.kh H' p d' []->(∀b o,H b=some o->b≠p->H' b=some o)->Q .kG H'
theorem Ht:jf ["self"] ["self"] (ja y9):=fsc
theorem Hh{ca:Bool}(T:Txt K mg A):jO P w K mg base (lV P w) ca 1 A.nA A.qC ["self"] (HM A):=by
 refine T.Bz.oZ Ht (λvs H Q E h=> ?_) (λcdv A' outer s H vs Q E hr hx h=> ?_)
 ·obtain⟨_,_,_,rfl,_⟩:=h
  rfl
 ·obtain⟨p,d,ks,rfl,m,h⟩:=h
  refine⟨_,nR.run (i6 (kH (i4 0) B7 rfl)),?_⟩
  simp only[jd,G9,jq,az,r_,L2.start,ao,aB,ai,aq,ah,aD,aa,aA,aL]
  intro d' hd'
  obtain⟨dx,e⟩:=(m.same (jD.upd (o:= .dK []) hd')).ob
  simp only[bt,bu,true_and,e,T.pR,T.kY,Q5,Q4]
  obtain⟨dy,ey⟩:=m.ob
  refine h d' _ hd' ⟨⟨dx,i8⟩,?_⟩ λb o eb nb=> ?_
  ·rw[i_ (aE (i5 ey hd')),i8];rfl
  ·rw[i_ nb];exact jD.upd hd' _ _ eb
noncomputable def Kc (A:Ad):Sp:=λvs H Q _=>∃p q ws,vs=[.ref p]/\yz A.kD H p q ws/\∀l,H l=none->Q (.ref l) (upd H l (.lst (ws.map V.int)))
theorem JZ:jf ["self"] ["self"] (ja AJ):=fsc
theorem Du{ca:Bool}(T:Txt K mg A):jO P w K mg base (lV P w) ca 1 A.oz A.sg ["self"] (Kc A):=by
 refine T.CT.oZ JZ (λvs H Q E h=> ?_) (λcdv A' outer s H vs Q E hr hx h=> ?_)
 ·obtain⟨_,_,_,rfl,_⟩:=h
  rfl
 ·obtain⟨p,q,ws,rfl,m,h⟩:=h
  refine⟨_,nR.run (i6 (jh (yS K5 (by rfl) T.Ec PyProof.Rows.Boot.«list» (iY (jg (i4 0) rfl) iZ)))),?_⟩
  obtain⟨dx,e⟩:=m.ob
  simp only[kM,A6,jc,jv,jd,jq,az,KD,↓jE,L2.start,ao,aB,ai,aq,ah,aD,aa,and_true,true_and,aA,aL,kK,qw,e,T.rz,T.mU,Pu,m.ls]
  exact h
noncomputable def BW (A:Ad):Sp:=λvs H Q _=>∃p dx,vs=[.ref p]/\H p=some (.ins A.kr dx [])/\∀d H',H d=none->(∀y o,y≠p->H y=some o->H' y=some o)->Wz A.kr H' p d->Q .kG H'
theorem Hw:jf ["self"] ["self"] (ja zd):=fsc
theorem Hj{ca:Bool}(T:Txt K mg A):jO P w K mg base (lV P w) ca 1 A.nE A.qF ["self"] (BW A):=by
 refine T.BC.oZ Hw (λvs H Q E h=> ?_) (λcdv A' outer s H vs Q E hr hx h=> ?_)
 ·obtain⟨_,_,rfl,_⟩:=h
  rfl
 ·obtain⟨p,dx,rfl,hp,h⟩:=h
  refine⟨_,nR.run (i3 (kH (i4 0) B7 rfl)
   (i6 (kH (i4 0) (mS iZ) rfl))),?_⟩
  simp only[kN,jv,jd,zD,G9,jq,az,r_,L2.start,ao,aB,ai,aq,ah,aD,aa,true_and,aA,aL,U_]
  intro d hd
  have npd:=i5 hp hd
  have e:upd H d (.dK []) p=some (.ins A.kr dx []):=by rw[i_ npd];exact hp
  simp only[bt,bu,aq,true_and,e,T.vT,T.oh]
  intro q hq
  have nqp:q≠p:=λz=>by rw[z,i8]at hq;cases hq
  have nqd:q≠d:=λz=>by rw[z,i_ (aE npd),i8]at hq;cases hq
  have hq0:H q=none:=by rw[i_ nqp,i_ nqd]at hq;exact hq
  rw[i_ (aE nqp),i8]
  simp only[true_and,T.vT,T.rM,TV]
  refine⟨RN,h d _ hd (λy o hy e=> ?_) ⟨⟨dx,q,i8⟩,?_⟩⟩
  ·rw[i_ hy,i_ (i5 e hq0),i_ hy,i_ (i5 e hd)];exact e
  ·rw[i_ (aE npd),i_ (aE nqd),i_ (aE npd),i8]
noncomputable def Et (A:Ad):Sp:=λvs H Q _=>∃p d,vs=[.ref p]/\Wz A.kr H p d/\∀l H',jD H H'->H l=none->H' l=some (.lst [])->Q (.ref l) H'
theorem Em:jf ["self"] ["self"] (ja rN):=fsc
theorem Ef(T:Txt K mg A):jO P w K mg base (lV P w) true 1 A.lM A.m_ ["self"] (Et A):=by
 refine T.x_.oZ Em (λvs H Q E h=> ?_) (λcdv A' outer s H vs Q E hr hx h=> ?_)
 ·obtain⟨_,_,rfl,_⟩:=h
  rfl
 ·obtain⟨p,d,rfl,m,h⟩:=h
  refine⟨_,nR.run (i6 (jh (yf (fsc:=ja rN) (N2:=["self"]) (js:=[0]) ⟨rfl,rfl,by decide+kernel,by decide+kernel,by decide+kernel,by decide+kernel,by decide+kernel,by decide+kernel,by decide+kernel⟩ rfl rfl (by rfl) (lj (jz (EL (by rfl)) (by rfl) T.ym PyProof.Rows.Boot.«sorted» (iY (jg (i4 0) rfl) iZ))) (λ_ _ _ _=>B9) (λ_ _ _ _=>(je PF (we (iY (i4 0) iZ)) (jr (by exact jT hr) (K4 (K:=K) rfl (i4 1) rfl) (i4 0) (λ_ _=>rfl))))))),?_⟩
  obtain⟨dx,q,e⟩:=m.ob
  simp only[kM,A6,jc,jv,jd,jq,bt,bu,az,yu,xW,tU,↓jE,L2.start,z6,ao,aB,ai,aq,ah,aD,aa,V.int.injEq,V.bl.injEq,V.str.injEq,V.ref.injEq,V.ty.injEq,av,ak,and_true,true_and,exists_eq_left',aA,aL,kK,qw,e,T.vT,T.oh,VU,m.dc,show Ip []=some [] from rfl]
  intro l0 hl0
  have s0:jD H (upd H l0 (.lst [])):=jD.upd hl0
  rw[show gL V.int (mY [])=[] by simp[mY]]
  refine⟨⟨_,lT.of i8⟩,EI (xs:=[]) (λ_ ys H'=>H'=upd H l0 (.lst [])/\ys=[]) ⟨rfl,rfl⟩ (λi ys H' hP=>by rw[hP.1];exact lT.of i8) (b7 _) (λi ys H' hP=>by rw[hP.2];exact b7 _) (λi x ys H' hx'=>by cases hx') λys H' hP l hl=> ?_⟩
  obtain⟨rfl,rfl⟩:=hP
  exact h l _ (s0.trans (jD.upd hl)) (s0.free hl) i8
noncomputable def DG (A:Ad):Sp:=λvs H Q _=>∃p dx,vs=[.ref p]/\H p=some (.ins A.kE dx [])/\∀d,H d=none->Q .kG (upd (upd H d (.lst [])) p (.ins A.kE dx (QK d)))
theorem J3:jf ["self"] ["self"] (ja AL):=fsc
theorem JC{ca:Bool}(T:Txt K mg A):jO P w K mg base (lV P w) ca 1 A.oF A.sk ["self"] (DG A):=by
 refine T.CV.oZ J3 (λvs H Q E h=> ?_) (λcdv A' outer s H vs Q E hr hx h=> ?_)
 ·obtain⟨_,_,rfl,_⟩:=h
  rfl
 ·obtain⟨p,dx,rfl,hp,q⟩:=h
  refine⟨_,nR.run (i6 (kH (i4 0) (mS iZ) rfl)),?_⟩
  simp only[jv,jd,zD,jq,az,r_,L2.start,ao,aB,ai,aq,ah,aD,aa,true_and,aA,aL,U_]
  intro d hd
  have e:upd H d (.lst []) p=some (.ins A.kE dx []):=by rw[i_ (i5 hp hd)];exact hp
  simp only[bt,bu,aq,true_and,e,T.A8,T.tF,UX]
  exact q d hd
noncomputable def HU (A:Ad):Sp:=λvs H Q _=>∃p q,vs=[.ref p]/\Vk A.kE H p q/\∀l H',jD H H'->H l=none->H' l=some (.lst [])->Q (.ref l) H'
theorem HB:jf ["self"] ["self"] (ja vC):=fsc
theorem Hm(T:Txt K mg A):jO P w K mg base (lV P w) true 1 A.nN A.qM ["self"] (HU A):=by
 refine T.BI.oZ HB (λvs H Q E h=> ?_) (λcdv A' outer s H vs Q E hr hx h=> ?_)
 ·obtain⟨_,_,rfl,_⟩:=h
  rfl
 ·obtain⟨p,q,rfl,m,h⟩:=h
  refine⟨_,nR.run (i6 (jh (Mj (fsc:=ja vC) (N2:=[]) (js:=[]) ⟨rfl,rfl,by decide+kernel,by decide+kernel,by decide+kernel,by decide+kernel,by decide+kernel,by decide+kernel,by decide+kernel⟩ rfl rfl (by rfl) (Iu rfl T.uY (iY (jg (i4 0) rfl) iZ)) (λ_ _ _ _=>(qk (jj yc (i4 1) l9 (jK _)))) (λ_ _ _ _=>(we (iY (i4 0) (iY (i4 1) iZ))))))),?_⟩
  obtain⟨dx,e⟩:=m.ob
  simp only[kM,jc,jv,jd,jq,az,xW,↓jE,L2.start,Nf,MK,ao,aB,ai,aq,ah,aD,aa,and_true,true_and,aA,aL,kK,qw,e,T.A8,T.tF,Ws]
  refine⟨⟨_,lT.of m.ls⟩,IZ (λi ys H'=>jD H H'/\ys=[]) ⟨jD.refl _,rfl⟩ (λi ys H' hP=>lT.of (hP.1 _ _ m.ls)) (by decide) (λi ys H' hP=>by rw[hP.2];exact b7 _) (λi x ys H' hx' hP K' p1 hp1 hK=> ?_) λys H' hP l hl'=> ?_⟩
  ·cases hx'
  ·rw[hP.2]
   exact h l _ (hP.1.trans (jD.upd hl')) (hP.1.free hl') i8
noncomputable def MG (K:aC):Sp:=λvs H Q _=>∃a ns k,vs=[.ref a,.int k]/\lT K H a (ns.map V.int)/\0<=k/\Q (.int (cat ns k)) H
theorem MC:jf ["_law_script","_law_k"] ["_law_script","_law_k"] (ja Ei):=fsc
theorem wm{ca:Bool}(T:Txt K mg A):jO P w K mg base (lV P w) ca 1 A.uf A.vK ["_law_script","_law_k"] (MG K):=by
 refine T.rV.oZ MC (λvs H Q E h=> ?_) (λcdv A' outer s H vs Q E hr hx h=> ?_)
 ·obtain⟨_,_,_,rfl,_⟩:=h
  rfl
 ·obtain⟨a,ns,k,rfl,h⟩:=h
  obtain⟨q,hS,h0⟩:=MR h
  refine⟨_,nR.run (i3 (jH (jj xr (i4 1) (jz PK (by rfl) T.nP PyProof.Rows.Boot.«len» (iY (i4 0) iZ)) (jK _)) (i6 (jh (jN RF (i4 0) (i4 1) (λ_ _=>rfl)))) jx)
   (i6 (jh i9))),?_⟩
  simp only[kM,j5,kN,kZ,jY,lu,A6,jc,jv,tC,jd,LS,tR,Rg,MX,jq,az,L2.start,ao,aB,ai,aq,ah,aD,aa,ae,decide_eq_true_eq,aA,aL,↓jS]
  refine⟨_,hS,?_⟩
  split<;>rename_i h
  ·refine⟨_,hS,?_⟩
   rw[OW h0 h];exact q
  ·rw[Ro h0 h]at q;exact q
noncomputable def HY:Sp:=λvs H Q _=>∃v,vs=[v]/\Kn H v/\Q (.bl (N9 v)) H
theorem HD:jf ["_law_found"] ["_law_found"] (ja zp):=fsc
theorem BP{ca:Bool}(T:Txt K mg A):jO P w K mg base (lV P w) ca 1 A.oN A.qQ ["_law_found"] HY:=by
 refine T.uy.oZ HD (λvs H Q E h=> ?_) (λcdv A' outer s H vs Q E hr hx h=> ?_)
 ·obtain⟨_,rfl,_⟩:=h
  rfl
 ·obtain⟨v,rfl,hk,q⟩:=h
  refine⟨_,nR.run (i6 (jh (yd (jz wc (by rfl) T.nO PyProof.Rows.Boot.«isinstance» (iY (i4 0) (iY (Df T.IA PyProof.Rows.Boot.«int») iZ))) (yh (K7 (jz wc (by rfl) T.nO PyProof.Rows.Boot.«isinstance» (iY (i4 0) (iY (Df T.Gz PyProof.Rows.Boot.«bool») iZ)))))))),?_⟩
  obtain⟨t,h1,h2,h3,h4⟩:=SM T hk
  simp only[kM,DL,NK,A6,jc,jv,tC,jd,OB,RI,jq,az,L2.start,ao,aB,ai,aq,ah,aD,aa,true_and,aA,aL,↓jS,h1,h2,h3,h4]
  cases v<;>simpa [N9,WE] using q
noncomputable def H_ (c n:Int):Th:=if c%4=0 then .nu (c/4%2000000000001-1000000000000) else if c%4=1∨n=0 then .no else .ce (c/4%n).toNat
noncomputable def HX:Sp:=λvs H Q _=>Y2 λc n=>C3 (vs=[.int c,.int n]) (0<=n) (∀v H',jD H H'->MQ H' (H_ c n) v->Q v H')
theorem HC:jf ["_law_cell","_law_many"] ["_law_cell","_law_many"] (ja zo):=fsc
theorem BO(T:Txt K mg A):jO P w K mg base (lV P w) true 1 A.oM A.qP ["_law_cell","_law_many"] HX:=by
 refine T.ux.oZ HC (λvs H Q E h=> ?_) (λcdv A' outer s H vs Q E hr hx h=> ?_)
 ·obtain⟨_,_,rfl,_⟩:=h
  rfl
 ·obtain⟨c,n,rfl,n0,q⟩:=h
  refine⟨_,nR.run (i3 (jH (jj mz (je mW (i4 0) i9) i9 (jK _)) (i6 (jh (we (iY jb (iY (je uD (je mW (je qj (i4 0) i9) (je j4 (je Bf i9 (je Nj i9 i9)) i9)) (je Nj i9 i9)) iZ))))) jx)
   (i3 (jH (oV (uE (jj mz (je mW (i4 0) i9) i9 (jK _)) (uU (jj mz (i4 1) i9 (jK _))))) (i6 (jh l9)) jx)
   (i6 (jh (we (iY jb (iY (je mW (je qj (i4 0) i9) (i4 1)) iZ))))))),?_⟩
  by_cases c0:c%4=0
  ·simp only[kM,kN,kZ,jY,lu,jc,jv,tC,jd,LN,qx,E6,KG,wG,xU,Rj,zK,eqv,DS,IQ,S1,or_true,bt,Nat.reduceMul,bu,e_,bc,bD,iL,Int.reduceMul,az,↓reduceIte,decide_true,L2.start,ao,aB,ai,aq,ah,aD,aa,and_true,true_and,aA,aL,QV,↓jS,c0]
   refine⟨by decide,by decide,λa ha=>q _ _ (jD.upd ha) ?_⟩
   unfold H_
   rw[if_pos c0]
   exact⟨a,rfl,i8⟩
  ·by_cases c1:c%4=1∨n=0
   ·have e:H_ c n= .no:=by unfold H_;rw[if_neg c0,if_pos c1]
    rw[e]at q
    simp only[kM,j5,kN,kZ,jY,lu,NL,jc,jv,tC,jd,LN,wG,xU,zK,eqv,DS,bt,bu,az,↓reduceIte,decide_false,L2.start,ao,aB,ai,aq,ah,aD,aa,ae,and_true,true_and,aK,decide_eq_true_eq,aA,aL,QV,↓jS,c0]
    by_cases z:c%4=1
    ·rw[if_pos z];exact q _ _ (jD.refl _) rfl
    ·rw[if_neg z,if_pos (c1.resolve_left z)];exact q _ _ (jD.refl _) rfl
   ·have e:H_ c n= .ce (c/4%n).toNat:=by unfold H_;rw[if_neg c0,if_neg c1]
    rw[e]at q
    simp only[kM,j5,kN,kZ,jY,lu,NL,jc,jv,tC,jd,LN,wG,xU,zK,eqv,DS,bt,bu,az,↓reduceIte,decide_false,L2.start,ao,aB,ai,aq,ah,aD,aa,ae,and_true,true_and,aK,decide_eq_true_eq,aA,aL,QV,↓jS,c0]
    rw[not_or]at c1
    have p:=e8 (c/4) c1.2
    rw[if_neg c1.1,if_neg c1.2]
    exact⟨by lia,λa ha=>q _ _ (jD.upd ha) ⟨a,rfl,by rw[i8,dB p]⟩⟩
noncomputable def HW:Sp:=λvs H Q _=>Y6 λ(x:Ax) (u:Ow) (ow:Own) (M:Mem) (O Y:List (Nat×Int))=>C4 (vs=[.ref u.d]) (lW H x u ow) (In ow M O Y) (∀l H',jD H H'->H' l=some (.lst ((ord ow O).map λk:Nat=>V.int k))->H l=none->Q (.ref l) H')
theorem kW:jf ["_law_own","_law_starts","_law_old","_law_at_here","_law_k","_law_found","_law_turn","_law_thing_here"] ["_law_own"] (ja vD):=fsc
theorem Ho(T:Txt K mg A):jO P w K mg base (lV P w) true 1 A.oK A.qO ["_law_own"] HW:=by
 refine T.xm.oZ kW (λvs H Q E h=> ?_) (λcdv A' outer s H vs Q E hr hx h=> ?_)
 ·obtain⟨_,_,_,_,_,_,rfl,_⟩:=h
  rfl
 ·obtain⟨x,u,ow,M,O,Y,rfl,o,I,q⟩:=h
  refine⟨_,nR.run (i3 (jA (i:=1) kW.nd rfl lo (yS K5 (by rfl) T.Ec PyProof.Rows.Boot.«list» (iY (jr (by exact jT hr) (i4 0) jb (λ_ _=>rfl)) iZ)))
   (i3 (jA (i:=2) kW.nd rfl lo (jz K6 (by rfl) T.ym PyProof.Rows.Boot.«sorted» (iY (yf (fsc:=ja vD) (N2:=["_law_own"]) (js:=[0]) ⟨rfl,rfl,by decide+kernel,by decide+kernel,by decide+kernel,by decide+kernel,by decide+kernel,by decide+kernel,by decide+kernel⟩ rfl rfl (by rfl) (mI rfl T.oX (iY (jz kX (by rfl) T.nP PyProof.Rows.Boot.«len» (iY (jr (by exact jT hr) (i4 0) jb (λ_ _=>rfl)) iZ)) iZ)) (λ_ _ _ _=>(qk (jj mz (jN j7 (jr (by exact jT hr) (i4 1) jb (λ_ _=>rfl)) (i4 0) (λ_ _=>rfl)) i9 (jK _)))) (λ_ _ _ _=>(we (iY (jN j7 (jr (by exact jT hr) (i4 1) jb (λ_ _=>rfl)) (i4 0) (λ_ _=>rfl)) (iY (i4 0) iZ))))) iZ)))
   (i3 (kT hx.own rfl (lj (i4 2)) (yi (n:=2) (by rfl) (lS (jR (i:=3) kW.nd rfl lo) (lS (jR (i:=4) kW.nd rfl lo) vO)))
    (i6 (jA (i:=1) kW.nd rfl lo (je RB (i4 1) (jN j7 (jr (by exact jT hr) (i4 0) jb (λ_ _=>rfl)) (i4 4) (λ_ _=>rfl))))))
   (i3 (jA (i:=5) kW.nd rfl lo (mS iZ))
   (i3 (jA (i:=6) kW.nd rfl lo i9)
   (i3 (B_ hx.own (jj Jo (i4 6) (jz kX (by rfl) T.nP PyProof.Rows.Boot.«len» (iY (i4 5) iZ)) (jK _))
    (i3 (kT hx.own rfl (lj (i4 1)) (jR (i:=7) kW.nd rfl lo)
    (i6 (jH (oV (qm (jj yc (i4 7) l9 (jK _)) (qm (jj mz (jN j7 (i4 7) i9 (λ_ _=>rfl)) jb (jK _)) (qm (jj xr (jN j7 (jr (by exact jT hr) (i4 0) jb (λ_ _=>rfl)) (jN j7 (i4 7) i9 (λ_ _=>rfl)) (λ_ _=>rfl)) i9 (jK _)) (um (jj Gi (jN j7 (i4 7) i9 (λ_ _=>rfl)) (i4 5) (by with_unfolding_all rfl))))))) (i6 (ji (xq bX bY oW (i4 5) (iY (jN j7 (i4 7) i9 (λ_ _=>rfl)) iZ)))) jx)))
   (i3 (jH (jj xr (i4 6) (jz kX (by rfl) T.nP PyProof.Rows.Boot.«len» (iY (i4 5) iZ)) (jK _)) (i6 (jA (i:=1) kW.nd rfl lo (jN j7 (jr (by exact jT hr) (i4 0) jb (λ_ _=>rfl)) (jN j7 (i4 5) (i4 6) (λ_ _=>rfl)) (λ_ _=>rfl)))) jx)
   (i6 (jA (i:=6) kW.nd rfl lo (je j4 (i4 6) i9))))))
   (i6 (jh (i4 5))))))))),?_⟩
  show kN _ _ _ [some (V.ref u.d),none,none,none,none,none,none,none] H
  obtain⟨vh,eh,th⟩:=o.hd
  refine jw (λσ' H'=>∃l,C3 (σ'=[some (V.ref u.d),some (V.ref l),none,none,none,none,none,none]) (H l=none) (H'=upd H l (.lst vh))) (λR hR=> ?_) ?_
  ·simp only[A6,jc,jv,tC,jd,kB,jG,KD,jZ,kL,aa,ay,ax,o.dc,P2,eh]
   exact λl hl=>hR _ _ ⟨l,rfl,hl,rfl⟩
  rintro Gq hGq _ _ ⟨l,rfl,hl,rfl⟩
  subst hGq
  have s1:jD H (upd H l (.lst vh)):=jD.upd hl
  have e1:upd H l (.lst vh) l=some (.lst vh):=i8
  generalize upd H l (.lst vh)=H1 at*
  have o1:=o.same s1
  have Fb:=I.Fb
  refine jw (λσ' H'=>Y2 λl2 as=>C4 (σ'=[some (V.ref u.d),some (V.ref l),some (V.ref l2),none,none,none,none,none]) (jD H1 H') (H' l2=some (.lst (as.map V.ref))) (OQ H' as (O.map U9))) (λR hR=> ?_) ?_
  ·simp only[A6,jc,jv,tC,jd,kB,jG,xk,bc,bD,yu,xW,Ao,jZ,kL,ao,aB,aa,ay,ax,V.int.injEq,V.bl.injEq,V.str.injEq,V.ref.injEq,V.ty.injEq,av,ak,and_true,exists_eq_left',exists_and_left,FW,o1.dc,qt,o1.ag]
   refine⟨by rw[aj];lia,by rw[aj];lia,CN (λi ys H'=>jD H1 H'/\ys.length<=i/\∃as:List Addr,ys=as.map V.ref/\OQ H' as (olds ow i)) ⟨jD.refl _,aN _,[],rfl,rfl,λ_ z=>nomatch z⟩ (by rw[aj,bB];exact aW Fb (by decide)) (λi ys H' h=>h.2.1) (λi ys H2 hi ⟨s2,l2,as,ey,pr⟩ K1 hK=> ?_) λys H2 ⟨s2,l2,as,ey,pr⟩ l3 hl3=> ?_⟩
   ·rw[aj,bB]at hi
    have o2:=o1.same s2
    have ag:yy (ow.G.map V.int) (0+(i:Int))=some (.int (ow.g i)):=by rw[bM];exact ko (by rw[aT,af hi];unfold Own.g;rw[au,af hi];rfl)
    simp only[jY,lu,jc,jv,tC,jd,LN,zK,eqv,zL,az,jZ,kL,ai,aq,aa,ae,true_and,decide_eq_true_eq,aA,QV,↓jS,o2.dc,qt,tI,o2.ag,o2.pl,ag,bN]
    by_cases z:ow.g i=2
    ·rw[if_pos z]
     obtain⟨a,ea⟩:=Option.isSome_iff_exists.mp (I.od i hi z)
     have at2:yy (ow.P.map tv) (0+(i:Int))=some (.int a):=by rw[bM];exact ko (by rw[aT,Own.R6 ea];rfl)
     rw[at2]
     intro p hp
     refine hK _ _ ⟨s2.trans (jD.upd hp),by rw[aY];exact fW l2,as++[p],by rw[ey,bo];rfl,?_⟩
     rw[ID,if_pos z,ea]
     exact(pr.same (jD.upd hp)).snoc (by rw[i8,bM];rfl)
    ·rw[if_neg z]
     exact hK _ _ ⟨s2,by lia,as,ey,by rw[ID,if_neg z];exact pr⟩
   ·rw[aj,bB]at pr
    have s3:jD H2 (upd H2 l3 (.lst ys)):=jD.upd hl3
    have pr3:=pr.same s3
    have al:as.length<=10:=by have:=congrArg eR pr.e;rw[aj]at this;rw[this];exact aW P4 Fb
    have e3:upd H2 l3 (.lst ys) l3=some (.lst (as.map V.ref)):=by rw[i8,ey]
    generalize upd H2 l3 (.lst ys)=H3 at*
    refine⟨l3,rfl,as,e3,by lia,OO H3,pr3.t,?_,λzs l4 hl4 pm so=> ?_⟩
    ·have:=I.Nv;rw[←pr3.e,bU]at this;exact this
    ·have p4:=pr3.perm pm
     have ez:=I.P8 (zs:=zs.map (OO H3)) (by rw[←pr3.e];exact pm.map _) (by rw[bU];exact so)
     rw[ez]at p4
     exact hR _ _ ⟨l4,zs,rfl,(s2.trans s3).trans (jD.upd hl4),i8,p4.same (jD.upd hl4)⟩
  rintro Gq hGq _ H2 ⟨l2,as,rfl,s2,e2,pr2⟩
  subst hGq
  have al:as.length=O.length:=by have:=congrArg eR pr2.e;rw[aj,aj]at this;exact this
  refine jw (λσ' H'=>Y4 λv3 v4 l5 vs=>C4 (σ'=[some (V.ref u.d),some (V.ref l5),some (V.ref l2),v3,v4,none,none,none]) (jD H H') (H' l5=some (.lst vs)) (Ct H' (U5 ow O) vs)) (λR hR=> ?_) ?_
  ·simp only[jd,jq,mh,tU,aa,ae,V.int.injEq,V.bl.injEq,V.str.injEq,V.ref.injEq,V.ty.injEq,av,ak,exists_eq_left']
   refine⟨⟨_,lT.of e2⟩,lA.Gn (xs:=as.map V.ref) (λi σ H'=>Y4 λv3 v4 l5 vs=>C4 (σ=[some (V.ref u.d),some (V.ref l5),some (V.ref l2),v3,v4,none,none,none]) (jD H2 H') (H' l5=some (.lst vs)) (Ct H' (ow.D++(O.take i).flatMap λe=>ow.s e.1) vs))
    ⟨_,_,l,vh,rfl,jD.refl _,s2 _ _ e1,by rw[iT,iF,aD];exact(th.same s1).same s2⟩ (λi σ H' _ hz=>by obtain⟨_,_,_,_,_,s,_⟩:=hz;exact lT.of (s _ _ e2)) ?_ ?_⟩
   ·rintro i v σ H3 hv ⟨v3,v4,l5,vs,rfl,s3,e3,t3⟩ R2 hR2
    rw[aT]at hv
    obtain⟨y,hy,rfl⟩:=Option.map_eq_some_iff.mp hv
    have hi:i<O.length:=by have:=(List.getElem?_eq_some_iff.mp hy).1;lia
    have ey:OO H2 y=U9 O[i]:=by
     have:(as.map (OO H2))[i]? =(O.map U9)[i]? :=by rw[pr2.e]
     rw[aT,hy,aT,af hi]at this
     exact bp this
    have ty:=pr2.t y (bW hy)
    rw[ey]at ty
    have ty3:=s3 _ _ ty
    have o3:=o1.same (s2.trans s3)
    have mO:O[i]∈O:=bH hi
    obtain⟨k1,_,_⟩:=(I.oe O[i].1 O[i].2).mp mO
    obtain⟨ra,rv,r1,r2,r3,r4⟩:=o3.OH (k:=O[i].1) (by rw[I.ls];exact k1)
    refine⟨y,_,rfl,.inl (.inl ty3),rfl,?_⟩
    simp only[lu,tC,jd,kB,jG,zL,and_assoc,Aj,Md,jZ,kL,Ra,aa,ae,ay,ax,V.int.injEq,V.bl.injEq,V.str.injEq,V.ref.injEq,V.ty.injEq,av,ak,true_and,exists_eq_left',exists_and_left,U9,e3,o3.dc,BR,o3.sl,ko r2,r3]
    have b1:=Tw I.s8 (O.take i)
    have b2:(O.take i).length<=10:=by rw[c_];have:=I.Xk;lia
    have b3:=I.s8 O[i].1
    have b4:=I.d4
    have b5:=t3.l
    have b6:=r4.l
    rw[aY]at b5
    refine⟨aW (show _<=4000 by lia) (by decide),λp hp=>hR2 _ _ ⟨_,_,p,vs++rv,rfl,s3.trans (jD.upd hp),i8,?_⟩⟩
    rw[show O.take (i+1)=O.take i++[O[i]] by rw[cx,af hi];rfl,gS,gm,←eN]
    exact(t3.app r4).same (jD.upd hp)
   ·rintro σ H3 ⟨v3,v4,l5,vs,rfl,s3,e3,t3⟩
    rw[aj,al,cF]at t3
    exact hR _ _ ⟨v3,v4,l5,vs,rfl,s1.trans (s2.trans s3),e3,t3⟩
  rintro Gq hGq _ H3 ⟨v3,v4,l5,vs,rfl,s3,e3,t3⟩
  subst hGq
  refine jw (λσ' H'=>∃lf,C3 (σ'=[some (V.ref u.d),some (V.ref l5),some (V.ref l2),v3,v4,some (V.ref lf),none,none]) (H3 lf=none) (H'=upd H3 lf (.lst []))) (λR hR=> ?_) ?_
  ·simp only[jv,zD,kB,jG,aq,ay,ax,true_and,U_]
   exact λlf hlf=>hR _ _ ⟨lf,rfl,hlf,rfl⟩
  rintro Gq hGq _ _ ⟨lf,rfl,hlf,rfl⟩
  subst hGq
  have hlf0:H lf=none:=s3.free hlf
  refine jw (λσ' H'=>σ'=[some (V.ref u.d),some (V.ref l5),some (V.ref l2),v3,v4,some (V.ref lf),some (V.int 0),none]/\upd H3 lf (.lst [])=H') (λR hR=> ?_) ?_
  ·simp only[tC,kB,jG,ay,ax]
   exact hR _ _ ⟨rfl,rfl⟩
  rintro Gq hGq _ _ ⟨rfl,rfl⟩
  subst hGq
  have s4:jD H3 (upd H3 lf (.lst [])):=jD.upd hlf
  have e4:upd H3 lf (.lst []) lf=some (.lst (nV [])):=i8
  generalize upd H3 lf (.lst [])=H4 at*
  have nf:l5≠lf:=i5 e3 hlf
  refine jw (λσ' H'=>Y3 λs5 v7 n=>C3 (σ'=[some (V.ref u.d),s5,some (V.ref l2),v3,v4,some (V.ref lf),some (V.int n),v7]) (jD H H') (H' lf=some (.lst (nV (ord ow O))))) (λR hR=> ?_) ?_
  ·simp only[jd,LS,Vp,jq,mh,tU]
   refine⟨λm σ H'=>∃(sl:Addr) (v7:Option V) (n:Nat) (F:List Nat) (ts:List Th) (vs:List V),σ=[some (V.ref u.d),some (V.ref sl),some (V.ref l2),v3,v4,some (V.ref lf),some (V.int n),v7]/\m=12-n/\jD H H'/\H' lf=some (.lst (nV F))/\sl≠lf/\H' sl=some (.lst vs)/\Ct H' ts vs/\Gf ow F/\(∀t∈ts,Gd ow t)/\(n<=F.length->ord ow O=NY ow (11-n) (uu ow F ts) n)/\(F.length<n->F=ord ow O),
    ⟨_,l5,none,0,[],U5 ow O,vs,rfl,rfl,s3.trans s4,e4,nf,s4 _ _ e3,t3.same s4,⟨cD,λ_ z=>nomatch z⟩,λt ht=> ?_,λ_=>rfl,λz=>absurd z (cP _)⟩,?_⟩
   ·rcases List.mem_append.mp ht with ht|ht
    ·exact I.gd t ht
    ·obtain⟨e,he,ht⟩:=List.mem_flatMap.mp ht
     exact I.gs e.1 e.2 (.inl he) t ht
   rintro m σ H5 ⟨sl,v7,n,F,ts,vs,rfl,rfl,s5,f5,n5,e5,t5,g5,d5,c5,c6⟩
   simp only[kN,jY,lu,A6,jc,jv,jd,tR,xk,aa,ae,V.int.injEq,V.bl.injEq,V.str.injEq,V.ref.injEq,V.ty.injEq,av,ak,exists_eq_left',exists_and_left,decide_eq_true_eq,↓jS,f5]
   have fl:=g5.len Fb
   have nl:(nV F).length=F.length:=by unfold nV;rw[aj]
   rw[nl]
   by_cases z:n<=F.length
   ·rw[if_pos (by lia)]
    refine⟨λσ' H'=>∃(sl:Addr) (v7:Option V) (F:List Nat) (ts:List Th) (vs:List V),σ'=[some (V.ref u.d),some (V.ref sl),some (V.ref l2),v3,v4,some (V.ref lf),some (V.int ((n+1:Nat):Int)),v7]/\jD H H'/\H' lf=some (.lst (nV F))/\sl≠lf/\H' sl=some (.lst vs)/\Ct H' ts vs/\Gf ow F/\(∀t∈ts,Gd ow t)/\(n+1<=F.length->ord ow O=NY ow (11-(n+1)) (uu ow F ts) (n+1))/\(F.length<n+1->F=ord ow O),
     λσ' H' ⟨sl,v7,F,ts,vs,h1,h2,h3,h4,h5⟩=>⟨12-(n+1),by omega,sl,v7,n+1,h1,rfl,h2,F,h3,h4,ts,vs,h5⟩,⟨_,lT.of e5⟩,?_⟩
    refine lA.Gn (xs:=vs) (λi σ H'=>Y2 λv7 F'=>C5 (σ=[some (V.ref u.d),some (V.ref sl),some (V.ref l2),v3,v4,some (V.ref lf),some (V.int n),v7]) ((∀b v,H5 b=some v->b≠lf->H' b=some v)) (H' lf=some (.lst (nV F'))) (F'=uu ow F (ts.take i)) (Gf ow F'))
     ⟨_,F,rfl,λ_ _ h _=>h,f5,rfl,g5⟩ (λi σ H' _ hz=>by obtain⟨_,_,_,k,_⟩:=hz;exact lT.of (k _ _ e5 n5)) ?_ ?_
    ·rintro i v σ H6 hv ⟨v7,F6,rfl,k6,f6,eF,g6⟩ R2 hR2
     have hi:i<ts.length:=by have:=(List.getElem?_eq_some_iff.mp hv).1;rw[t5.l]at this;exact this
     have et:ts[i]? =some ts[i]:=af hi
     have tV:=t5.g i _ _ et hv
     have gd:=d5 _ (bH hi)
     have l6:=g6.len Fb
     have nl6:(nV F6).length=F6.length:=by unfold nV;rw[aj]
     have o6:lW H6 x u ow:=o.kx (L:=[]) (λb v e _ _=>k6 b v (s5 _ _ e) (i5 e hlf0)) (λ_ _ z=>nomatch z) λ_ z=>nomatch z
     have fin:∀{H7:Hp} {F7:List Nat},F7=Kq ow F6 ts[i]->(∀b v,H6 b=some v->b≠lf->H7 b=some v)->H7 lf=some (.lst (nV F7))->R2 [some (V.ref u.d),some (V.ref sl),some (V.ref l2),v3,v4,some (V.ref lf),some (V.int n),some v] H7:=λ{H7 F7} e7 k7 f7=>by
      refine hR2 _ _ ⟨_,F7,rfl,λb v e n=>k7 b v (k6 b v e n) n,f7,?_,by rw[e7];exact g6.Kq gd⟩
      rw[e7,eF,cx,et];exact Bk.symm
     generalize hti:ts[i]=t at*
     cases t with
     |no=>
      cases tV
      simp only[j5,kZ,jY,lu,A5,tC,jd,jG,sV,rd,↓reduceIte,dG,aa,ae,ay,ax,aK,↓jS]
      exact fin rfl (λ_ _ h _=>h) f6
     |nu j=>
      obtain⟨a,rfl,ea⟩:=tV
      have ea6:=k6 _ _ ea (jJ ea f5 (by kernel_rfl))
      simp only[j5,kZ,jY,lu,A5,tC,jd,jG,zK,eqv,sV,rd,zL,fT,Bj,ft,↓reduceIte,dM,decide_false,Cw,aa,ae,ay,ax,aK,↓jS,ea6]
      exact fin rfl (λ_ _ h _=>h) f6
     |ce k=>
      obtain⟨a,rfl,ea⟩:=tV
      have ea6:=k6 _ _ ea (jJ ea f5 (by kernel_rfl))
      simp only[j5,kc,kZ,jY,lu,A5,jc,jv,tC,jd,jG,tR,zK,eqv,sV,rd,zL,↓reduceIte,aS,dM,decide_true,qy,NS,jZ,kL,Cw,FJ,decide_eq_false_iff_not,aa,ae,ay,ax,aK,decide_eq_true_eq,NT,↓jS,ea6,o6.dc,qt,o6.ag,ko (Own.E9 gd.1),f6,PC]
      by_cases z1:ow.g k<2
      ·rw[if_pos z1]
       refine⟨rfl,Na,?_⟩
       by_cases z2:k∈F6
       ·rw[if_neg λy=>y z2]
        exact fin (by show _=if _ then _ else _;rw[if_neg λy=>y.2 z2]) (λ_ _ h _=>h) f6
       ·rw[if_pos z2]
        refine⟨bQ (by rw[nl6];exact l6) (by decide),fin (F7:=F6++[k]) (by show _=if _ then _ else _;rw[if_pos ⟨z1,z2⟩]) (λb v e n=>by rw[i_ n];exact e) ?_⟩
        rw[i8];unfold nV;rw[bo];rfl
      ·rw[if_neg z1]
       exact fin (by show _=if _ then _ else _;rw[if_neg λy=>z1 y.1]) (λ_ _ h _=>h) f6
    ·rintro σ H6 ⟨v7,F6,rfl,k6,f6,eF,g6⟩
     rw[t5.l,cF]at eF
     have o6:lW H6 x u ow:=o.kx (L:=[]) (λb v e _ _=>k6 b v (s5 _ _ e) (i5 e hlf0)) (λ_ _ z=>nomatch z) λ_ z=>nomatch z
     have l6:=g6.len Fb
     have nl6:(nV F6).length=F6.length:=by unfold nV;rw[aj]
     have c7:=c5 z
     rw[←eF]at c7
     have ss6:jD H H6:=λb v e=>k6 b v (s5 _ _ e) (i5 e hlf0)
     by_cases y:n<F6.length
     ·have ef:(nV F6)[n]? =some (V.int (F6[n]:Nat)):=by unfold nV;rw[aT,af y];rfl
      have gk:=g6.2 F6[n] (bH y)
      obtain⟨ra,rv,r1,r2,r3,r4⟩:=o6.OH (k:=F6[n]) (by rw[I.ls];exact gk.1)
      simp only[j5,kN,kZ,jY,lu,A6,jc,jv,tC,jd,kB,jG,qx,tR,zL,xk,and_assoc,jZ,kL,aa,ae,ay,ax,V.int.injEq,V.bl.injEq,V.str.injEq,V.ref.injEq,V.ty.injEq,av,ak,and_true,true_and,exists_eq_left',exists_and_left,decide_eq_true_eq,↓jS,f6,o6.dc,BR,o6.sl,ko ef,ko r2,nl6]
      rw[if_pos (by lia)]
      obtain⟨a,ea⟩:=Option.isSome_iff_exists.mp gk.2
      obtain⟨vr,er,_⟩:=o.sr _ _ r1
      refine⟨by lia,ss6,F6,rfl,i5 er hlf0,ow.s F6[n],rv,r3,r4,g6,λt ht=>I.gs _ a (I.at gk.1 ea) t ht,λ_=> ?_,λy'=>by lia⟩
      rw[c7,show 11-n=(11-(n+1))+1 by lia,O_ y,au,af y];rfl
     ·simp only[j5,kN,kZ,jY,lu,A6,jc,jv,tC,jd,kB,jG,qx,tR,zL,xk,and_assoc,jZ,kL,aa,ae,ay,ax,V.int.injEq,V.bl.injEq,V.str.injEq,V.ref.injEq,V.ty.injEq,av,ak,and_true,true_and,exists_eq_left',exists_and_left,decide_eq_true_eq,↓jS,f6,nl6]
      rw[if_neg (by lia)]
      refine⟨by lia,ss6,F6,rfl,n5,ts,vs,k6 _ _ e5 n5,t5.kx (L:=[lf]) (λb v e _ n=>k6 b v e (by simpa using n)) (λa ha xs e=>by rw[List.mem_singleton.mp ha,f5]at e;cases e),g6,d5,λy'=>by lia,λ_=> ?_⟩
      rw[c7,MY (by lia)]
   ·rw[if_neg (by lia)]
    exact hR _ _ ⟨_,v7,n,rfl,s5,by rw[←c6 (by lia)];exact f5⟩
  rintro Gq hGq _ H5 ⟨s5,v7,n,rfl,s5',e5⟩
  subst hGq
  simp only[kM,jd,aa,ae]
  exact q lf H5 s5' e5 hlf0
noncomputable def jU:Sp:=λvs H Q _=>∃v a b,vs=[v,.int a,.int b]/\Kn H v/\Q (.bl (wi v a b)) H
theorem J8:jf ["thing","least","most"] ["thing","least","most"] (ja AS):=fsc
theorem kj{ca:Bool}(T:Txt K mg A):jO P w K mg base (lV P w) ca 2 A.qf A.sG ["thing","least","most"] jU:=by
 refine T.j3.oZ J8 (λvs H Q E h=> ?_) (λcdv A' outer s H vs Q E hr hx h=> ?_)
 ·obtain⟨_,_,_,rfl,_⟩:=h
  rfl
 ·obtain⟨v,a,b,rfl,hk,q⟩:=h
  refine⟨_,nR.run (i6 (jh (yd (i7 ((xa T).mono (by decide)) hr rfl T.rW T.sJ.kp T.vR hx (iY (i4 0) iZ)) (yh (Mi Jo Jo (i4 1) (i4 0) (i4 2)))))),?_⟩
  simp only[kM,DL,jc,jv,jd,jm,Vp,tR,MJ,az,L2.start,ao,aB,ai,aq,ah,aD,aa,ae,V.int.injEq,V.bl.injEq,V.str.injEq,V.ref.injEq,V.ty.injEq,av,ak,and_true,exists_eq_left',decide_eq_true_eq,aA,aL,↓jS,oI]
  refine⟨hk,?_⟩
  cases v<;>simp only[N9,wi]at q⊢<;>simp only[↓reduceIte,aK]<;>try exact q
  split<;>rename_i h<;>simpa [h] using q
noncomputable def xP (A:Ad):Sp:=λvs H Q E=>∃p dx b e t v,vs=[.ref p,v]/\H p=some (.ins A.ju dx (wz b e t))/\Kn H v/\
 if N9 v=true/\1<=iv v then(if iv v<=e-t then Q (.int t) (upd H p (.ins A.ju dx (wz b e (t+iv v)))) else E (.ref A.pV) none H) else E (.ref A.kf) none H
theorem BU:jf ["self","many","at"] ["self","many"] (ja zi):=fsc
theorem BN(T:Txt K mg A):jO P w K mg base (lV P w) true 2 A.nK A.qK ["self","many"] (xP A):=by
 refine T.BG.oZ BU (λvs H Q E h=> ?_) (λcdv A' outer s H vs Q E hr hx h=> ?_)
 ·obtain⟨_,_,_,_,_,_,rfl,_⟩:=h
  rfl
 ·obtain⟨p,dx,b,e,t,v,rfl,h⟩:=h
  obtain⟨q,hp,hk⟩:=MR h
  refine⟨_,nR.run (i3 (jH (oV (uE (kI (jM (i7 ((xa T).mono (by decide)) hr rfl T.rW T.sJ.kp T.vR hx (iY (i4 1) iZ)) (λ_=>rfl))) (uU (jj xr (i4 1) i9 (jK _))))) (i6 (jX hx rfl T.mv T.mx rfl (iY jb iZ))) jx)
   (i3 (jH (jj PJ (i4 1) (lJ (i4 0) T.ke T.vA ((xx T).mono (by decide)) hr T.vc hx) (jK _)) (i6 (jX hx rfl T.Dc T.DQ rfl (iY jb iZ))) jx)
   (i3 (jA (i:=2) BU.nd rfl lo (jg (i4 0) rfl))
   (i3 (kH (i4 0) (je j4 (i4 2) (i4 1)) rfl)
   (i6 (jh (i4 2))))))),?_⟩
  cases hi:N9 v with
  |false=>
   refine uK (λ_ _=>False) (λR _=> ?_) (λ_ _ z=>z.elim)
   simp only[j5,kZ,jY,lu,NL,sR,jc,jv,tC,jd,jm,lH,LS,tR,pT,az,bE,↓reduceIte,aS,L2.start,ao,aB,ai,aq,ah,bq,bw,aa,ae,V.int.injEq,V.bl.injEq,V.str.injEq,V.ref.injEq,V.ty.injEq,av,ak,and_true,true_and,exists_eq_left',exists_eq_left,decide_eq_true_eq,bF,aA,DK,↓jS,oI,hi]
   rw[if_neg (by rw[hi];rintro⟨z,_⟩;cases z)]at q
   exact⟨hk,q⟩
  |true=>
   obtain⟨n,rfl⟩:=Rz hi
   have st:start ["self","many","at"] [V.ref p,V.int n]=[some (V.ref p),some (V.int n),none]:=rfl
   rw[st]
   by_cases h1:n<1
   ·rw[if_neg (by rintro⟨_,z⟩;have:(1:Int)<=n:=z;lia)]at q
    refine uK (λ_ _=>False) (λR _=> ?_) (λ_ _ z=>z.elim)
    simp only[kZ,jY,lu,NL,sR,jc,jv,tC,jd,jm,lH,LS,tR,pT,az,↓reduceIte,aS,decide_true,bJ,ai,aq,aa,ae,V.int.injEq,V.bl.injEq,V.str.injEq,V.ref.injEq,V.ty.injEq,av,ak,and_true,true_and,exists_eq_left',exists_eq_left,aA,DK,↓jS,oI,TJ,XT,h1]
    exact q
   ·rw[if_pos ⟨hi,(by show(1:Int)<=n;lia)⟩]at q
    refine jw (λσ' H'=>H=H'/\σ'=[some (V.ref p),some (V.int n),none]) (λR hR=> ?_) ?_
    ·simp only[j5,kZ,jY,lu,NL,sR,jc,jv,tC,jd,jm,lH,LS,tR,pT,az,↓reduceIte,aS,decide_false,bJ,ai,aq,aa,ae,V.int.injEq,V.bl.injEq,V.str.injEq,V.ref.injEq,V.ty.injEq,av,ak,and_true,true_and,exists_eq_left',exists_eq_left,aK,aA,DK,↓jS,oI,TJ,XT,h1]
     exact hR _ _ ⟨rfl,rfl⟩
    rintro Gq hGq _ _ ⟨rfl,rfl⟩
    subst hGq
    by_cases h2:e-t<n
    ·rw[if_neg (by show¬(n<=e-t);lia)]at q
     refine uK (λ_ _=>False) (λR _=> ?_) (λ_ _ z=>z.elim)
     simp only[j5,kZ,jY,lu,jc,jv,tC,jd,lH,U0,tR,az,↓jB,ai,aq,aa,ae,and_true,true_and,decide_eq_true_eq,aA,DK,↓jS,uX,hp,yp]
     refine⟨p,dx,b,e,t,rfl,hp,?_⟩
     simp only[↓reduceIte,h2]
     exact q
    ·rw[if_pos (by show n<=e-t;lia)]at q
     refine jw (λσ' H'=>H=H'/\σ'=[some (V.ref p),some (V.int n),none]) (λR hR=> ?_) ?_
     ·simp only[j5,kZ,jY,lu,jc,jv,tC,jd,lH,U0,tR,az,↓jB,ai,aq,aa,ae,and_true,true_and,decide_eq_true_eq,aA,DK,↓jS,uX,hp,yp]
      refine⟨p,dx,b,e,t,rfl,hp,?_⟩
      simp only[↓reduceIte,h2]
      exact hR _ _ ⟨rfl,rfl⟩
     rintro Gq hGq _ _ ⟨rfl,rfl⟩
     subst hGq
     simp only[kM,kN,lu,jd,kB,jG,qx,jq,bt,bu,↓jE,r_,aa,ae,ay,ax,and_true,true_and,kK,qw,hp,T.ke,T.lU,LF,NH,NG]
     exact q
noncomputable def zB:Sp:=λvs H Q _=>∃v,vs=[v]/\Kn H v/\Q (.bl (wi v (-1000000000000) 1000000000000)) H
theorem J7:jf ["thing"] ["thing"] (ja AR):=fsc
theorem Dy{ca:Bool}(T:Txt K mg A):jO P w K mg base (lV P w) ca 3 A.qe A.sF ["thing"] zB:=by
 refine T.vi.oZ J7 (λvs H Q E h=> ?_) (λcdv A' outer s H vs Q E hr hx h=> ?_)
 ·obtain⟨_,rfl,_⟩:=h
  rfl
 ·obtain⟨v,rfl,hk,q⟩:=h
  refine⟨_,nR.run (i6 (jh (i7 ((kj T).mono (by decide)) hr rfl T.j9 T.j3.kp T.ky hx (iY (i4 0) (iY (Js Jr (mf T.rJ)) (iY (mf T.rJ) iZ)))))),?_⟩
  simp only[kM,WI,jc,jv,tC,jd,jm,O2,and_assoc,bc,az,L2.start,ao,aB,ai,aq,ah,aD,aa,V.int.injEq,V.bl.injEq,V.str.injEq,V.ref.injEq,V.ty.injEq,av,ak,and_true,exists_eq_left',exists_and_left,aA,aL,jU]
  exact⟨hk,q⟩
noncomputable def A1:Sp:=λvs H Q _=>∃v,vs=[v]/\Kn H v/\Q (.bl (wi v 0 9999)) H
theorem Lw:jf ["thing"] ["thing"] (ja Ci):=fsc
theorem EU{ca:Bool}(T:Txt K mg A):jO P w K mg base (lV P w) ca 3 A.rQ A.ub ["thing"] A1:=by
 refine T.wI.oZ Lw (λvs H Q E h=> ?_) (λcdv A' outer s H vs Q E hr hx h=> ?_)
 ·obtain⟨_,rfl,_⟩:=h
  rfl
 ·obtain⟨v,rfl,hk,q⟩:=h
  refine⟨_,nR.run (i6 (jh (i7 ((kj T).mono (by decide)) hr rfl T.j9 T.j3.kp T.ky hx (iY (i4 0) (iY i9 (iY (mf T.vF) iZ)))))),?_⟩
  simp only[kM,jc,jv,tC,jd,jm,and_assoc,az,L2.start,ao,aB,ai,aq,ah,aD,aa,V.int.injEq,V.bl.injEq,V.str.injEq,V.ref.injEq,V.ty.injEq,av,ak,and_true,exists_eq_left',exists_and_left,aA,aL,jU]
  exact⟨hk,q⟩
noncomputable def rH (A:Ad):Sp:=λvs H Q E=>∃v,vs=[v]/\Kn H v/\if wi v 0 8=true then Q .kG H else E (.ref A.kf) none H
theorem HH:jf ["slots"] ["slots"] (ja zw):=fsc
theorem BQ(T:Txt K mg A):jO P w K mg base (lV P w) true 3 A.oU A.qV ["slots"] (rH A):=by
 refine T.uz.oZ HH (λvs H Q E h=> ?_) (λcdv A' outer s H vs Q E hr hx h=> ?_)
 ·obtain⟨_,rfl,_⟩:=h
  rfl
 ·obtain⟨v,rfl,hk,q⟩:=h
  refine⟨_,nR.run (i6 (jH (kI (jM (i7 ((kj T).mono (by decide)) hr rfl T.j9 T.j3.kp T.ky hx (iY (i4 0) (iY i9 (iY (mf T.tQ) iZ)))) (λ_=>rfl))) (i6 (jX hx rfl T.mv T.mx rfl (iY jb iZ))) jx)),?_⟩
  simp only[j5,kZ,sR,jc,jv,tC,jd,jm,lH,pT,and_assoc,az,aS,L2.start,ao,aB,ai,aq,ah,aD,aa,V.int.injEq,V.bl.injEq,V.str.injEq,V.ref.injEq,V.ty.injEq,av,ak,and_true,true_and,exists_eq_left',exists_and_left,exists_eq_left,aA,aL,DK,jU]
  refine⟨hk,?_⟩
  cases hw:wi v 0 8<;>simp[hw]at q⊢<;>exact q
noncomputable def G3:Sp:=λvs H Q _=>∃n,vs=[.int n]/\Q (.bl (decide (0<=n/\n<=34/\n%4<=2))) H
theorem MD:jf ["number"] ["number"] (ja Ej):=fsc
theorem Mr{ca:Bool}(T:Txt K mg A):jO P w K mg base (lV P w) ca 3 A.ug A.vL ["number"] G3:=by
 refine T.B6.oZ MD (λvs H Q E h=> ?_) (λcdv A' outer s H vs Q E hr hx h=> ?_)
 ·obtain⟨_,rfl,_⟩:=h
  rfl
 ·obtain⟨n,rfl,q⟩:=h
  refine⟨_,nR.run (i6 (jh (yd (i7 ((kj T).mono (by decide)) hr rfl T.j9 T.j3.kp T.ky hx (iY (je qj (i4 0) i9) (iY i9 (iY (mf T.tQ) iZ)))) (yh (vN Jo (je mW (i4 0) i9) (mf T.r6) (jK _)))))),?_⟩
  simp only[kM,lu,DL,jc,jv,tC,jd,jm,wG,xU,Vp,tR,and_assoc,DS,bt,bu,az,L2.start,ao,aB,ai,aq,ah,aD,aa,V.int.injEq,V.bl.injEq,V.str.injEq,V.ref.injEq,V.ty.injEq,av,ak,and_true,true_and,exists_eq_left',exists_and_left,aA,aL,↓jS,jU,Kn]
  by_cases c:wi (.int (n/4)) 0 8=true
  ·have c':=c
   simp only[wi,aQ,decide_eq_true_eq]at c'
   by_cases d:n%4<=2
   ·rw[decide_eq_true (by lia)]at q
    simp[c,d];exact q
   ·rw[decide_eq_false (by lia)]at q
    simp[c,d];exact q
  ·have c':=c
   simp only[wi,aQ,decide_eq_true_eq]at c'
   rw[decide_eq_false (by lia)]at q
   simp[c];exact q
noncomputable def FD (A:Ad):Sp:=λvs H Q _=>∃p q ws v k,vs=[.ref p,v,.int k]/\kC A.jo H p q ws/\Kn H v/\Q (.bl (wi v 0 (ws.length-1-k))) H
theorem So:jf ["memory","at","slots"] ["memory","at","slots"] (ja My):=fsc
theorem Nt{ca:Bool}(T:Txt K mg A):jO P w K mg base (lV P w) ca 3 A.B2 A.D1 ["memory","at","slots"] (FD A):=by
 refine T.Fj.oZ So (λvs H Q E h=> ?_) (λcdv A' outer s H vs Q E hr hx h=> ?_)
 ·obtain⟨_,_,_,_,_,rfl,_⟩:=h
  rfl
 ·obtain⟨p,q,ws,v,k,rfl,h⟩:=h
  obtain⟨h,m,hk⟩:=MR h
  refine⟨_,nR.run (i6 (jh (i7 ((kj T).mono (by decide)) hr rfl T.j9 T.j3.kp T.ky hx (iY (i4 1) (iY i9 (iY (je uD (je uD (jg (i4 0) rfl) i9) (i4 2)) iZ)))))),?_⟩
  obtain⟨dx,e⟩:=m.ob
  simp only[kM,lu,jc,jv,tC,jd,jm,E6,jq,and_assoc,az,↓jE,L2.start,ao,aB,ai,aq,ah,aD,aa,ae,V.int.injEq,V.bl.injEq,V.str.injEq,V.ref.injEq,V.ty.injEq,av,ak,and_true,true_and,exists_eq_left',exists_and_left,aA,aL,kK,qw,jU,e,T.jW,T.mV,Gy]
  exact⟨hk,h⟩
noncomputable def A0 (A:Ad):Sp:=λvs H Q E=>∃p dx v,vs=[.ref p,v]/\H p=some (.ins A.jo dx [])/\Kn H v/\
 if wi v 1 4000=true then(∀q H',H q=none->kC A.jo H' p q (ah (iv v).toNat (-1))->(∀b o,H b=some o->b≠p->H' b=some o)->Q .kG H') else E (.ref A.kf) none H
theorem GQ:jf ["self","size"] ["self","size"] (ja xE):=fsc
theorem GC(T:Txt K mg A):jO P w K mg base (lV P w) true 3 A.mD A.pk ["self","size"] (A0 A):=by
 refine T.Ac.oZ GQ (λvs H Q E h=> ?_) (λcdv A' outer s H vs Q E hr hx h=> ?_)
 ·obtain⟨_,_,_,rfl,_⟩:=h
  rfl
 ·obtain⟨p,dx,v,rfl,h⟩:=h
  obtain⟨h,e,hk⟩:=MR h
  refine⟨_,nR.run (i3 (jH (kI (jM (i7 ((kj T).mono (by decide)) hr rfl T.j9 T.j3.kp T.ky hx (iY (i4 1) (iY i9 (iY (mf T.vG) iZ)))) (λ_=>rfl))) (i6 (jX hx rfl T.mv T.mx rfl (iY jb iZ))) jx)
   (i3 (kH (i4 0) (i4 1) rfl)
   (i6 (kH (i4 0) (je De (mS (iY (mf T.sQ) iZ)) (i4 1)) rfl)))),?_⟩
  simp only[j5,kN,kZ,lu,sR,jc,jv,tC,jd,zD,jm,lH,jq,pT,and_assoc,bt,bu,bc,bD,az,aS,r_,KI,L2.start,ao,aB,ai,aq,ah,aD,aa,ae,V.int.injEq,V.bl.injEq,V.str.injEq,V.ref.injEq,V.ty.injEq,av,ak,and_true,true_and,exists_eq_left',exists_and_left,exists_eq_left,aA,aL,DK,jU,e,T.jW,T.mV]
  refine⟨hk,?_⟩
  cases hw:wi v 1 4000
  ·simp[hw]at h⊢;exact h
  ·obtain⟨n,rfl,h0,h1⟩:=oo hw
   simp only[hw,if_true]at h⊢
   rw[if_neg (λz=>by cases z)]
   intro l hl
   obtain⟨nl,hl0⟩:=j6 hl
   simp only[i8]
   refine⟨by lia,by lia,aW (show [V.int (-1)].length*n.toNat<=4000 by simp;omega) (by decide),λl2 hl2=> ?_⟩
   obtain⟨nl2,hl2'⟩:=j6 hl2
   obtain⟨nl2p,hl20⟩:=j6 hl2'
   rw[i_ (aE nl2p),i_ (aE nl),i8]
   refine⟨T.jW,T.lN,by simp[lq],?_⟩
   refine h l2 _ hl20 ⟨⟨dx,?_⟩,?_⟩ λb o eb nb=> ?_
   ·rw[i8,T2,bA,show((iv (V.int n)).toNat:Int)=n from dB (by show 0<=n;lia)]
   ·rw[i_ nl2p,i8,CO,hU];rfl
   ·rw[i_ nb,i_ (i5 eb hl20),i_ (i5 eb hl0),i_ nb];exact eb
noncomputable def qu (A:Ad):Sp:=λvs H Q E=>∃p q ws v,vs=[.ref p,v]/\kC A.jo H p q ws/\Kn H v/\if wi v 0 (ws.length-1)=true then Q .kG H else E (.ref A.jV) none H
theorem AV:jf ["self","at"] ["self","at"] (ja rn):=fsc
theorem uZ(T:Txt K mg A):jO P w K mg base (lV P w) true 3 A.kA A.lI ["self","at"] (qu A):=by
 refine T.uP.oZ AV (λvs H Q E h=> ?_) (λcdv A' outer s H vs Q E hr hx h=> ?_)
 ·obtain⟨_,_,_,_,rfl,_⟩:=h
  rfl
 ·obtain⟨p,q,ws,v,rfl,h⟩:=h
  obtain⟨h,m,hk⟩:=MR h
  refine⟨_,nR.run (i6 (jH (kI (jM (i7 ((kj T).mono (by decide)) hr rfl T.j9 T.j3.kp T.ky hx (iY (i4 1) (iY i9 (iY (je uD (jg (i4 0) rfl) i9) iZ)))) (λ_=>rfl))) (i6 (jX hx rfl T.uk T.uv rfl (iY jb iZ))) jx)),?_⟩
  obtain⟨dx,e⟩:=m.ob
  simp only[j5,kZ,lu,sR,jc,jv,tC,jd,jm,lH,E6,jq,pT,and_assoc,az,aS,↓jE,L2.start,ao,aB,ai,aq,ah,aD,aa,ae,V.int.injEq,V.bl.injEq,V.str.injEq,V.ref.injEq,V.ty.injEq,av,ak,and_true,true_and,exists_eq_left',exists_and_left,exists_eq_left,aA,aL,DK,kK,qw,jU,e,T.jW,T.mV,Gy]
  refine⟨hk,?_⟩
  cases hw:wi v 0 (ws.length-1)<;>simp[hw]at h⊢<;>exact h
noncomputable def tN (A:Ad):Sp:=λvs H Q E=>∃p q ws v m,vs=[.ref p,v,.int m]/\kC A.jo H p q ws/\Kn H v/\if wi v 0 (ws.length-m)=true then Q .kG H else E (.ref A.jV) none H
theorem zx:jf ["self","begin","many"] ["self","begin","many"] (ja pQ):=fsc
theorem tG(T:Txt K mg A):jO P w K mg base (lV P w) true 3 A.j8 A.kR ["self","begin","many"] (tN A):=by
 refine T.sX.oZ zx (λvs H Q E h=> ?_) (λcdv A' outer s H vs Q E hr hx h=> ?_)
 ·obtain⟨_,_,_,_,_,rfl,_⟩:=h
  rfl
 ·obtain⟨p,q,ws,v,mm,rfl,h⟩:=h
  obtain⟨h,m,hk⟩:=MR h
  refine⟨_,nR.run (i6 (jH (kI (jM (i7 ((kj T).mono (by decide)) hr rfl T.j9 T.j3.kp T.ky hx (iY (i4 1) (iY i9 (iY (je uD (jg (i4 0) rfl) (i4 2)) iZ)))) (λ_=>rfl))) (i6 (jX hx rfl T.uk T.uv rfl (iY jb iZ))) jx)),?_⟩
  obtain⟨dx,e⟩:=m.ob
  simp only[j5,kZ,lu,sR,jc,jv,tC,jd,jm,lH,E6,jq,pT,and_assoc,az,aS,↓jE,L2.start,ao,aB,ai,aq,ah,aD,aa,ae,V.int.injEq,V.bl.injEq,V.str.injEq,V.ref.injEq,V.ty.injEq,av,ak,and_true,true_and,exists_eq_left',exists_and_left,exists_eq_left,aA,aL,DK,kK,qw,jU,e,T.jW,T.mV,Gy]
  refine⟨hk,?_⟩
  cases hw:wi v 0 (ws.length-mm)<;>simp[hw]at h⊢<;>exact h
noncomputable def DF (A:Ad):Sp:=λvs H Q _=>∃p dx b e t v,vs=[.ref p,v]/\H p=some (.ins A.ju dx (wz b e t))/\Kn H v/\Q (.bl (wi v b (t-1))) H
theorem J0:jf ["self","at"] ["self","at"] (ja AK):=fsc
theorem Dv{ca:Bool}(T:Txt K mg A):jO P w K mg base (lV P w) ca 3 A.oC A.si ["self","at"] (DF A):=by
 refine T.CU.oZ J0 (λvs H Q E h=> ?_) (λcdv A' outer s H vs Q E hr hx h=> ?_)
 ·obtain⟨_,_,_,_,_,_,rfl,_⟩:=h
  rfl
 ·obtain⟨p,dx,b,e,t,v,rfl,h⟩:=h
  obtain⟨q,hp,hk⟩:=MR h
  refine⟨_,nR.run (i6 (jh (i7 ((kj T).mono (by decide)) hr rfl T.j9 T.j3.kp T.ky hx (iY (i4 1) (iY (jg (i4 0) rfl) (iY (je uD (jg (i4 0) rfl) i9) iZ)))))),?_⟩
  simp only[kM,lu,jc,jv,tC,jd,jm,E6,jq,and_assoc,az,↓jE,L2.start,ao,aB,ai,aq,ah,aD,aa,ae,V.int.injEq,V.bl.injEq,V.str.injEq,V.ref.injEq,V.ty.injEq,av,ak,and_true,true_and,exists_eq_left',exists_and_left,aA,aL,kK,qw,jU,hp,T.ke,T.kU,T.lU,II,LF]
  exact⟨hk,q⟩
noncomputable def BV (A:Ad):Sp:=λvs H Q E=>∃p dx v,vs=[.ref p,v]/\H p=some (.ins A.kD dx [])/\Kn H v/\
 if wi v 1 6=true then(∀q H',H q=none->yz A.kD H' p q (ah (iv v).toNat (-1))->(∀b o,H b=some o->b≠p->H' b=some o)->Q .kG H') else E (.ref A.kf) none H
theorem Hv:jf ["self","many"] ["self","many"] (ja zc):=fsc
theorem Hi(T:Txt K mg A):jO P w K mg base (lV P w) true 3 A.nD A.qE ["self","many"] (BV A):=by
 refine T.BB.oZ Hv (λvs H Q E h=> ?_) (λcdv A' outer s H vs Q E hr hx h=> ?_)
 ·obtain⟨_,_,_,rfl,_⟩:=h
  rfl
 ·obtain⟨p,dx,v,rfl,h⟩:=h
  obtain⟨h,e,hk⟩:=MR h
  refine⟨_,nR.run (i3 (jH (kI (jM (i7 ((kj T).mono (by decide)) hr rfl T.j9 T.j3.kp T.ky hx (iY (i4 1) (iY i9 (iY (mf T.vE) iZ)))) (λ_=>rfl))) (i6 (jX hx rfl T.mv T.mx rfl (iY jb iZ))) jx)
   (i6 (kH (i4 0) (je De (mS (iY (mf T.sQ) iZ)) (i4 1)) rfl))),?_⟩
  simp only[j5,kN,kZ,lu,sR,jc,jv,tC,jd,zD,jm,lH,jq,pT,and_assoc,bc,bD,az,aS,r_,KI,L2.start,ao,aB,ai,aq,ah,aD,aa,ae,V.int.injEq,V.bl.injEq,V.str.injEq,V.ref.injEq,V.ty.injEq,av,ak,and_true,true_and,exists_eq_left',exists_and_left,exists_eq_left,aA,aL,DK,jU]
  refine⟨hk,?_⟩
  cases hw:wi v 1 6
  ·simp[hw]at h⊢;exact h
  ·obtain⟨n,rfl,h0,h1⟩:=oo hw
   simp only[hw,if_true]at h⊢
   rw[if_neg (λz=>by cases z)]
   intro l hl
   rw[i8]
   dsimp only
   refine⟨by lia,by lia,aW (show [V.int (-1)].length*n.toNat<=6 by show 1*n.toNat<=6;lia) (by decide),λp1 hp1=> ?_⟩
   obtain⟨n1,hq⟩:=j6 hp1
   have npl:=i5 e hl
   have np1:=i5 e hq
   rw[i_ np1,i_ npl,e]
   dsimp only
   refine⟨T.rz,T.mU,by decide,h p1 _ hq ⟨⟨dx,i8⟩,?_⟩ λb o eb nb=> ?_⟩
   ·rw[i_ (aE np1),i8]
    have z:∀j:Nat,(ah j [V.int (-1)]).flatten=(ah j (-1)).map V.int:=λj=>by
     induction j with
     |zero=>rfl
     |succ j ih=>rw[cG,cG,dJ,ih];rfl
    rw[z];rfl
   ·rw[i_ nb,i_ (i5 eb hq),i_ (i5 eb hl)];exact eb
noncomputable def wA (A:Ad):Sp:=λvs H Q E=>∃p q ws v,vs=[.ref p,v]/\yz A.kD H p q ws/\Kn H v/\if wi v 0 (ws.length-1)=true then Q .kG H else E (.ref A.uO) none H
theorem Cq:jf ["self","hand"] ["self","hand"] (ja tK):=fsc
theorem Cb(T:Txt K mg A):jO P w K mg base (lV P w) true 3 A.kP A.me ["self","hand"] (wA A):=by
 refine T.vX.oZ Cq (λvs H Q E h=> ?_) (λcdv A' outer s H vs Q E hr hx h=> ?_)
 ·obtain⟨_,_,_,_,rfl,_⟩:=h
  rfl
 ·obtain⟨p,q,ws,v,rfl,h⟩:=h
  obtain⟨h,m,hk⟩:=MR h
  refine⟨_,nR.run (i6 (jH (kI (jM (i7 ((kj T).mono (by decide)) hr rfl T.j9 T.j3.kp T.ky hx (iY (i4 1) (iY i9 (iY (je uD (jz kX (by rfl) T.nP PyProof.Rows.Boot.«len» (iY (jg (i4 0) rfl) iZ)) i9) iZ)))) (λ_=>rfl))) (i6 (jX hx rfl T.C_ T.DP rfl (iY jb iZ))) jx)),?_⟩
  obtain⟨dx,e⟩:=m.ob
  simp only[j5,kZ,lu,sR,A6,jc,jv,tC,jd,jm,lH,E6,xk,jq,pT,and_assoc,az,aS,↓jE,L2.start,ao,aB,ai,aq,ah,aD,aa,ae,V.int.injEq,V.bl.injEq,V.str.injEq,V.ref.injEq,V.ty.injEq,av,ak,and_true,true_and,exists_eq_left',exists_and_left,exists_eq_left,aA,aL,DK,kK,qw,jU,e,T.rz,T.mU,Pu,m.ls,aj]
  refine⟨hk,?_⟩
  cases hw:wi v 0 (ws.length-1)<;>simp[hw]at h⊢<;>exact h
noncomputable def Kd:Sp:=λ_ _ _ _=>False
theorem Jz{ca:Bool}(T:Txt K mg A):jO P w K mg base (lV P w) ca 3 A.oB A.sh ["self","ticket"] Kd:=⟨λ_ _ _ _ h=>h.elim,λ_ _ _ _ _ _ _ _ _ _ _ _ _ h=>h.elim⟩
noncomputable def A3 (A:Ad):Sp:=λvs H Q E=>∃v,vs=[v]/\Kn H v/\if wi v (-1000000000000) 1000000000000=true then Q .kG H else E (.ref A.oq) none H
theorem GX:jf ["thing"] ["thing"] (ja xN):=fsc
theorem GH(T:Txt K mg A):jO P w K mg base (lV P w) true 4 A.nZ A.pH ["thing"] (A3 A):=by
 refine T.vZ.oZ GX (λvs H Q E h=> ?_) (λcdv A' outer s H vs Q E hr hx h=> ?_)
 ·obtain⟨_,rfl,_⟩:=h
  rfl
 ·obtain⟨v,rfl,hk,q⟩:=h
  refine⟨_,nR.run (i6 (jH (kI (jM (i7 ((Dy T).mono (by decide)) hr rfl T.uS T.vi.kp T.zZ hx (iY (i4 0) iZ)) (λ_=>rfl))) (i6 (jX hx rfl T.wL T.xf rfl (iY jb iZ))) jx)),?_⟩
  simp only[j5,kZ,sR,jc,jv,tC,jd,jm,lH,pT,bc,az,aS,L2.start,ao,aB,ai,aq,ah,aD,aa,V.int.injEq,V.bl.injEq,V.str.injEq,V.ref.injEq,V.ty.injEq,av,ak,and_true,true_and,exists_eq_left',exists_eq_left,aA,aL,DK,zB]
  refine⟨hk,?_⟩
  cases hw:wi v (-1000000000000) 1000000000000<;>simp[hw]at q⊢<;>exact q
noncomputable def pK (A:Ad):Sp:=λvs H Q E=>∃v,vs=[v]/\Kn H v/\if wi v 0 9999=true then Q .kG H else E (.ref A.jV) none H
theorem HG:jf ["thing"] ["thing"] (ja zv):=fsc
theorem xB(T:Txt K mg A):jO P w K mg base (lV P w) true 4 A.oS A.qU ["thing"] (pK A):=by
 refine T.rB.oZ HG (λvs H Q E h=> ?_) (λcdv A' outer s H vs Q E hr hx h=> ?_)
 ·obtain⟨_,rfl,_⟩:=h
  rfl
 ·obtain⟨v,rfl,hk,q⟩:=h
  refine⟨_,nR.run (i6 (jH (kI (jM (i7 ((EU T).mono (by decide)) hr rfl T.v_ T.wI.kp T.BX hx (iY (i4 0) iZ)) (λ_=>rfl))) (i6 (jX hx rfl T.uk T.uv rfl (iY jb iZ))) jx)),?_⟩
  simp only[j5,kZ,sR,jc,jv,tC,jd,jm,lH,pT,az,aS,L2.start,ao,aB,ai,aq,ah,aD,aa,V.int.injEq,V.bl.injEq,V.str.injEq,V.ref.injEq,V.ty.injEq,av,ak,and_true,true_and,exists_eq_left',exists_eq_left,aA,aL,DK,A1]
  refine⟨hk,?_⟩
  cases hw:wi v 0 9999<;>simp[hw]at q⊢<;>exact q
noncomputable def uM (A:Ad):Sp:=λvs H Q E=>∃v,vs=[v]/\Kn H v/\match kd v with
 |some x=>Q (.str x) H
 |none=>E (.ref A.pe) none H
theorem Sq:jf ["word"] ["word"] (ja Mz):=fsc
theorem y6(T:Txt K mg A):jO P w K mg base (lV P w) true 4 A.B3 A.D2 ["word"] (uM A):=by
 refine T.vj.oZ Sq (λvs H Q E h=> ?_) (λcdv A' outer s H vs Q E hr hx h=> ?_)
 ·obtain⟨_,rfl,_⟩:=h
  rfl
 ·obtain⟨v,rfl,hk,q⟩:=h
  refine⟨_,nR.run (i3 (jH (kI (jM (i7 ((xa T).mono (by decide)) hr rfl T.rW T.sJ.kp T.vR hx (iY (i4 0) iZ)) (λ_=>rfl))) (i6 (jX hx rfl T.ya T.yx rfl (iY jb iZ))) jx)
   (i3 (jH (jj mz (i4 0) (mf T.sQ) (jK _)) (i6 (jh jb)) jx)
   (i3 (jH (oV (qm (jj mz (je mW (i4 0) i9) i9 (jK _)) (um (jM (i7 ((Dy T).mono (by decide)) hr rfl T.uS T.vi.kp T.zZ hx (iY (je qj (i4 0) i9) iZ)) (λ_=>rfl))))) (i6 (jh jb)) jx)
   (i3 (jH (oV (qm (jj mz (je mW (i4 0) i9) i9 (jK _)) (um (jM (i7 ((EU T).mono (by decide)) hr rfl T.v_ T.wI.kp T.BX hx (iY (je qj (i4 0) i9) iZ)) (λ_=>rfl))))) (i6 (jh jb)) jx)
   (i6 (jX hx rfl T.ya T.yx rfl (iY jb iZ))))))),?_⟩
  simp only[kM,j5,kN,kZ,jY,lu,A5,sR,jc,jv,tC,jd,jm,lH,wG,xU,zK,eqv,pT,and_assoc,DS,bc,az,↓reduceIte,aS,L2.start,ao,aB,ai,aq,ah,aD,aa,V.int.injEq,V.bl.injEq,V.str.injEq,V.ref.injEq,V.ty.injEq,av,ak,and_true,true_and,exists_eq_left',exists_eq_left,aK,decide_eq_true_eq,aA,aL,DK,↓jS,oI,zB,A1]
  refine⟨hk,?_⟩
  cases v<;>simp only[kd,N9]at q⊢<;>simp only[bt,bu,bc,↓reduceIte,bJ,true_and,decide_eq_true_eq,Kn]at q⊢<;>try exact q
  rename_i w
  by_cases h1:w= -1
  ·simp[h1]at q⊢;exact q
  ·by_cases h2:w%2=0
   ·by_cases h3:wi (.int (w/2)) (-1000000000000) 1000000000000=true
    ·simp[h1,h2,h3]at q⊢;exact q
    ·simp[h1,h2,h3]at q⊢;exact q
   ·by_cases h4:w%2=1
    ·by_cases h5:wi (.int (w/2)) 0 9999=true
     ·simp[h1,h2,h4,h5]at q⊢;exact q
     ·simp[h1,h2,h4,h5]at q⊢;exact q
    ·lia
noncomputable def wB (A:Ad):Sp:=λvs H Q E=>∃p q ws v,vs=[.ref p,v]/\kC A.jo H p q ws/\Kn H v/\if wi v 0 (ws.length-1)=true then Q (.int (ws.getD (iv v).toNat 0)) H else E (.ref A.jV) none H
theorem GR:jf ["self","at"] ["self","at"] (ja xF):=fsc
theorem qr(T:Txt K mg A):jO P w K mg base (lV P w) true 4 A.mE A.pq ["self","at"] (wB A):=by
 refine T.Ae.oZ GR (λvs H Q E h=> ?_) (λcdv A' outer s H vs Q E hr hx h=> ?_)
 ·obtain⟨_,_,_,_,rfl,_⟩:=h
  rfl
 ·obtain⟨p,q,ws,v,rfl,h⟩:=h
  obtain⟨h,m,hk⟩:=MR h
  refine⟨_,nR.run (i3 (ji (jL (i4 0) T.jW T.rj ((uZ T).mono (by decide)) hr T.rf hx (iY (i4 1) iZ)))
   (i6 (jh (jN j7 (jg (i4 0) rfl) (i4 1) (λ_ _=>rfl))))),?_⟩
  obtain⟨dx,e⟩:=m.ob
  simp only[kM,kc,kN,lu,jc,jv,jd,zL,jq,and_assoc,az,↓jE,↓jB,L2.start,ao,aB,ai,aq,ah,aD,aa,ae,V.int.injEq,V.bl.injEq,V.str.injEq,V.ref.injEq,V.ty.injEq,av,ak,and_true,true_and,exists_eq_left',exists_and_left,aA,aL,kK,qw,uX,qu,e,T.jW,T.lN,Bh,PY]
  refine⟨q,ws,m,hk,?_⟩
  cases hw:wi v 0 (ws.length-1)
  ·simp[hw]at h⊢;exact h
  ·obtain⟨i,rfl,h0,h1⟩:=oo hw
   simp only[hw,if_true,m.ls,Q2 h0 h1,iv]at h⊢
   exact h
noncomputable def AZ (A:Ad):Sp:=λvs H Q E=>∃p q ws a g m,vs=[.ref p,a,g,m]/\kC A.jo H p q ws/\Kn H a/\Kn H g/\Kn H m/\ws.length<=4000/\
 if N9 m=true/\0<=iv m then(if U8 a ws.length (iv m)=true/\U8 g ws.length (iv m)=true then
   (∀H',kC A.jo H' p q (cp ws ((ws.drop (iv a).toNat).take (iv m).toNat) (iv g).toNat (iv m).toNat)->(∀b o,H b=some o->b≠q->H' b=some o)->Q .kG H')
  else E (.ref A.jV) none H) else E (.ref A.kf) none H
theorem wx:jf ["self","start","goal","many","stretch","step"] ["self","start","goal","many"] (ja xD):=fsc
theorem GB(T:Txt K mg A):jO P w K mg base (lV P w) true 4 A.mC A.pj ["self","start","goal","many"] (AZ A):=by
 refine T.Ab.oZ wx (λvs H Q E h=> ?_) (λcdv A' outer s H vs Q E hr hx h=> ?_)
 ·obtain⟨_,_,_,_,_,_,rfl,_⟩:=h
  rfl
 ·obtain⟨p,q,ws,a,g,m,rfl,h⟩:=h
  obtain⟨h,mm,ka,kg,km,hl⟩:=XN h
  refine⟨_,nR.run (i3 (jH (oV (uE (kI (jM (i7 ((xa T).mono (by decide)) hr rfl T.rW T.sJ.kp T.vR hx (iY (i4 3) iZ)) (λ_=>rfl))) (uU (jj xr (i4 3) i9 (jK _))))) (i6 (jX hx rfl T.mv T.mx rfl (iY jb iZ))) jx)
   (i3 (ji (jL (i4 0) T.jW T.pO ((tG T).mono (by decide)) hr T.pN hx (iY (i4 1) (iY (i4 3) iZ))))
   (i3 (ji (jL (i4 0) T.jW T.pO ((tG T).mono (by decide)) hr T.pN hx (iY (i4 2) (iY (i4 3) iZ))))
   (i3 (jA (i:=4) wx.nd rfl lo (B8 PL (jg (i4 0) rfl) (Ar (i4 1)) (Ar (je j4 (i4 1) (i4 3)))))
   (i6 (kT hx.own rfl (mI rfl T.oX (iY (i4 3) iZ)) (jR (i:=5) wx.nd rfl lo)
    (i6 (rG (jN j7 (i4 4) (i4 5) (λ_ _=>rfl)) (rF (jg (i4 0) rfl) (je j4 (i4 2) (i4 5)) uC))))))))),?_⟩
  obtain⟨dx,e⟩:=mm.ob
  cases hm:N9 m with
  |false=>
   simp only[j5,kc,kN,kZ,jY,lu,NL,sR,jc,jv,tC,jd,kB,jG,jm,lH,qx,LS,tR,jq,pT,bc,bD,az,bE,↓reduceIte,aS,mh,Ao,↓jE,↓jB,U1,Ii,Va,L2.start,ao,aB,ai,aq,ah,bq,bw,aa,ae,ay,ax,V.int.injEq,V.bl.injEq,V.str.injEq,V.ref.injEq,V.ty.injEq,av,ak,and_true,true_and,exists_eq_left',exists_eq_left,and_false,decide_eq_true_eq,bF,aA,DK,↓jS,kK,qw,uX,oI,hm]
   rw[if_neg (by rw[hm];intro z;cases z.1)]at h
   exact⟨km,h⟩
  |true=>
   obtain⟨k,rfl⟩:∃i,m= .int i:=by cases m<;>first|exact⟨_,rfl⟩|cases hm
   simp only[j5,kc,kN,kZ,jY,lu,NL,sR,jc,jv,tC,jd,kB,jG,jm,lH,qx,LS,tR,jq,pT,and_assoc,bc,bD,az,bE,↓reduceIte,aS,bJ,mh,Ao,↓jE,↓jB,U1,Ii,Va,L2.start,ao,aB,ai,aq,ah,bq,bw,aa,ae,ay,ax,V.int.injEq,V.bl.injEq,V.str.injEq,V.ref.injEq,V.ty.injEq,av,ak,and_true,true_and,exists_eq_left',exists_and_left,exists_eq_left,and_false,decide_eq_true_eq,bF,aA,DK,↓jS,kK,qw,uX,oI,hm,tN,e,T3,T.jW,T.lN,Bh,mm.ls]
   refine⟨aF,?_⟩
   by_cases z:k<0
   ·rw[if_pos z]
    rw[if_neg (by show¬(_/\0<=k);lia)]at h
    exact h
   ·rw[if_neg z]
    rw[if_pos ⟨hm,by show 0<=k;lia⟩]at h
    refine⟨q,ws,mm,ka,?_⟩
    cases h1:wi a 0 (ws.length-k) with
    |false=>
     rw[if_neg (by intro z;cases z)]
     rw[if_neg (by intro z;have:=z.1;unfold U8 iv at this;rw[h1]at this;cases this)]at h
     exact h
    |true=>
     rw[if_pos rfl]
     refine⟨q,ws,mm,kg,?_⟩
     cases h2:wi g 0 (ws.length-k) with
     |false=>
      rw[if_neg (by intro z;cases z)]
      rw[if_neg (by intro z;have:=z.2;unfold U8 iv at this;rw[h2]at this;cases this)]at h
      exact h
     |true=>
      rw[if_pos rfl]
      rw[if_pos ⟨h1,h2⟩]at h
      obtain⟨i,rfl,i0,i1⟩:=oo h1
      obtain⟨j,rfl,j0,j1⟩:=oo h2
      intro l hl'
      refine⟨by lia,by lia,?_⟩
      rw[Pf i0 (by lia) (by lia)]
      have hks:((ws.drop i.toNat).take k.toNat).length=k.toNat:=by rw[c_,eV];omega
      simp only[iv]at h
      generalize hK:(ws.drop i.toNat).take k.toNat=ks at*
      refine lA.range (λt σ H'=>∃v5,σ=[some (.ref p),some (.int i),some (.int j),some (.int k),some (.ref l),v5]/\kC A.jo H' p q (cp ws ks j.toNat t)/\H' l=some (.lst (ks.map V.int))/\(∀b o,H b=some o->b≠q->H' b=some o))
       ⟨_,rfl,mm.same (jD.upd hl'),i8,λb o eb _=>jD.upd hl' b o eb⟩ ?_ ?_
      ·rintro t σ H1 ht ⟨v5,rfl,m1,l1,b1⟩
       obtain⟨dy,e1⟩:=m1.ob
       have nlq:l≠q:=λz=>by rw[z]at hl';rw[mm.ls]at hl';cases hl'
       simp only[lu,jd,kB,jG,qx,zL,↓jE,xV,E8,aa,ae,ay,ax,V.int.injEq,V.bl.injEq,V.str.injEq,V.ref.injEq,V.ty.injEq,av,ak,and_true,true_and,exists_eq_left',kK,qw,e1,l1,m1.ls,T.jW,T.lN,Bh,bM,Tb (show t<ks.length by lia)]
       rw[Aq (by lia) (by rw[aj,z9];lia),show(j+(t:Int)).toNat=j.toNat+t by lia]
       dsimp only
       rw[GY]
       refine⟨m1.put (j.toNat+t) (ks.getD t 0),?_,λb o eb nb=> ?_⟩
       ·rw[i_ nlq];exact l1
       ·rw[i_ nb];exact b1 b o eb nb
      ·rintro σ H1 ⟨v5,rfl,m1,l1,b1⟩
       exact h _ m1 b1
noncomputable def A2 (A:Ad):Sp:=λvs H Q E=>∃v,vs=[v]/\Kn H v/\if wi v (-1000000000000) 1000000000000=true then Q (.int (2*iv v)) H else E (.ref A.oq) none H
theorem GV:jf ["n"] ["n"] (ja xK):=fsc
theorem AE(T:Txt K mg A):jO P w K mg base (lV P w) true 5 A.nX A.pE ["n"] (A2 A):=by
 refine T.s9.oZ GV (λvs H Q E h=> ?_) (λcdv A' outer s H vs Q E hr hx h=> ?_)
 ·obtain⟨_,rfl,_⟩:=h
  rfl
 ·obtain⟨v,rfl,hk,q⟩:=h
  refine⟨_,nR.run (i3 (ji (i7 ((GH T).mono (by decide)) hr rfl T.uB T.vZ.kp T.Bw hx (iY (i4 0) iZ)))
   (i6 (jh (je Bf i9 (i4 0))))),?_⟩
  simp only[kM,kc,kN,lu,jc,jv,tC,jd,jm,KG,IQ,bc,bD,az,Rt,L2.start,ao,aB,ai,aq,ah,aD,aa,V.int.injEq,V.bl.injEq,V.str.injEq,V.ref.injEq,V.ty.injEq,av,ak,and_true,exists_eq_left',aA,aL,A3]
  refine⟨hk,?_⟩
  cases v<;>simp only[wi,iv]at q⊢<;>simp only[true_or,bt,bu,bc,↓reduceIte,and_true,true_and,aK]at q⊢<;>try exact q
  all_goals (split<;>rename_i h<;>simp[h]at q⊢<;>exact q)
noncomputable def xQ (A:Ad):Sp:=λvs H Q E=>∃v,vs=[v]/\Kn H v/\if wi v 0 9999=true then Q (.int (2*iv v+1)) H else E (.ref A.jV) none H
theorem HF:jf ["at"] ["at"] (ja zt):=fsc
theorem xA(T:Txt K mg A):jO P w K mg base (lV P w) true 5 A.oQ A.qS ["at"] (xQ A):=by
 refine T.rA.oZ HF (λvs H Q E h=> ?_) (λcdv A' outer s H vs Q E hr hx h=> ?_)
 ·obtain⟨_,rfl,_⟩:=h
  rfl
 ·obtain⟨v,rfl,hk,q⟩:=h
  refine⟨_,nR.run (i3 (ji (i7 ((xB T).mono (by decide)) hr rfl T.qZ T.rB.kp T.ve hx (iY (i4 0) iZ)))
   (i6 (jh (je j4 (je Bf i9 (i4 0)) i9)))),?_⟩
  simp only[kM,kc,kN,lu,jc,jv,tC,jd,jm,qx,KG,IQ,bc,bD,az,L2.start,ao,aB,ai,aq,ah,aD,aa,V.int.injEq,V.bl.injEq,V.str.injEq,V.ref.injEq,V.ty.injEq,av,ak,and_true,exists_eq_left',and_false,aA,aL,pK]
  refine⟨hk,?_⟩
  cases v<;>simp only[wi,iv]at q⊢<;>simp only[true_or,bt,bu,bc,↓reduceIte,and_true,true_and,aK]at q⊢<;>try exact q
  all_goals (split<;>rename_i h<;>simp[h]at q⊢<;>exact q)
noncomputable def yq (A:Ad):Sp:=λvs H Q E=>∃v,vs=[v]/\Kn H v/\match kd v with
 |some _=>Q (wo v) H
 |none=>E (.ref A.pe) none H
theorem Mm{v:V}{x:Str}(h:kd v=some x):∃w,v= .int w/\(x=bg "nothing"↔w= -1):=by
 cases v with
 |int w=>
  refine⟨w,rfl,?_⟩
  simp only[kd]at h
  split at h
  ·rename_i e;cases h;exact⟨λ_=>e,λ_=>rfl⟩
  ·rename_i e
   refine⟨λz=> ?_,λz=>absurd z e⟩
   subst z
   split at h
   ·cases bp h|>(Bj▸·)|>(by decide:¬("number"="nothing"))
   ·split at h
    ·cases bp h|>(Bj▸·)|>(by decide:¬("place"="nothing"))
    ·cases h
 |_=>cases h
theorem QA:jf ["word"] ["word"] (ja JV):=fsc
theorem yn(T:Txt K mg A):jO P w K mg base (lV P w) true 5 A.yL A.A_ ["word"] (yq A):=by
 refine T.uQ.oZ QA (λvs H Q E h=> ?_) (λcdv A' outer s H vs Q E hr hx h=> ?_)
 ·obtain⟨_,rfl,_⟩:=h
  rfl
 ·obtain⟨v,rfl,hk,q⟩:=h
  refine⟨_,nR.run (i3 (jH (jj mz (i7 ((y6 T).mono (by decide)) hr rfl T.xp T.vj.kp T.z3 hx (iY (i4 0) iZ)) jb (jK _)) (i6 (jh l9)) jx)
   (i6 (jh (je qj (i4 0) i9)))),?_⟩
  simp only[kM,j5,kN,kZ,jY,lu,jc,jv,tC,jd,jm,wG,zK,eqv,and_assoc,DS,az,L2.start,ao,aB,ai,aq,ah,aD,aa,V.int.injEq,V.bl.injEq,V.str.injEq,V.ref.injEq,V.ty.injEq,av,ak,and_true,exists_eq_left',decide_eq_true_eq,aA,aL,↓jS,uM]
  refine⟨hk,?_⟩
  cases e:kd v with
  |none=>rw[e]at q;exact q
  |some x=>
   rw[e]at q
   obtain⟨w,rfl,hw⟩:=Mm e
   simp only[bt,bu,bc,true_and,wo]at q⊢
   by_cases h1:w= -1
   ·simp only[hw.mpr h1,h1,if_true]at q⊢;exact q
   ·rw[if_neg λz=>h1 (hw.mp z)];rw[if_neg h1]at q;exact q
noncomputable def Fe (A:Ad):Sp:=λvs H Q E=>∃p q ws v x,vs=[.ref p,v,x]/\kC A.jo H p q ws/\Kn H v/\Kn H x/\
 if wi v 0 (ws.length-1)=true then(match kd x with
  |some _=>Q .kG (upd H q (.lst ((ws.set (iv v).toNat (iv x)).map V.int)))
  |none=>E (.ref A.pe) none H) else E (.ref A.jV) none H
theorem Fd:jf ["self","at","word"] ["self","at","word"] (ja wt):=fsc
theorem nj(T:Txt K mg A):jO P w K mg base (lV P w) true 5 A.lY A.n_ ["self","at","word"] (Fe A):=by
 refine T.zM.oZ Fd (λvs H Q E h=> ?_) (λcdv A' outer s H vs Q E hr hx h=> ?_)
 ·obtain⟨_,_,_,_,_,rfl,_⟩:=h
  rfl
 ·obtain⟨p,q,ws,v,x,rfl,h⟩:=h
  obtain⟨h,m,hk,hx'⟩:=QQ h
  refine⟨_,nR.run (i3 (ji (jL (i4 0) T.jW T.rj ((uZ T).mono (by decide)) hr T.rf hx (iY (i4 1) iZ)))
   (i3 (ji (i7 ((y6 T).mono (by decide)) hr rfl T.xp T.vj.kp T.z3 hx (iY (i4 2) iZ)))
   (i6 (rG (i4 2) (rF (jg (i4 0) rfl) (i4 1) uC))))),?_⟩
  obtain⟨dx,e⟩:=m.ob
  simp only[kc,kN,jc,jv,jd,kB,jm,jq,and_assoc,az,↓jE,↓jB,xV,E8,L2.start,ao,aB,ai,aq,ah,aD,aa,ae,V.int.injEq,V.bl.injEq,V.str.injEq,V.ref.injEq,V.ty.injEq,av,ak,and_true,true_and,exists_eq_left',exists_and_left,aA,aL,kK,qw,uX,qu,uM,e,T.jW,T.lN,Bh,PY]
  refine⟨q,ws,m,hk,?_⟩
  cases hw:wi v 0 (ws.length-1)
  ·simp[hw]at h⊢;exact h
  ·obtain⟨i,rfl,h0,h1⟩:=oo hw
   simp only[hw,if_true]at h⊢
   refine⟨hx',?_⟩
   cases hd:kd x with
   |none=>rw[hd]at h;exact h
   |some y=>
    obtain⟨j,rfl⟩:=PQ hd
    rw[hd]at h
    simp only[m.ls,Ni h0 h1,GY,iv]at h⊢
    exact h
noncomputable def HL (A:Ad):Sp:=λvs H Q E=>∃p dx v u,vs=[.ref p,v,u]/\H p=some (.ins A.jI dx [])/\Kn H v/\Kn H u/\
 if wi v 4 2000=true/\wi u 2 500=true then(∀m q o y s H',sS A.jI A.jo A.ju H' p m q o y s (ah (iv v+2*iv u).toNat (-1)) ⟨0,iv v,0⟩ ⟨iv v,iv v+iv u,iv v⟩ ⟨iv v+iv u,iv v+2*iv u,iv v+iv u⟩->(∀b x,H b=some x->b≠p->H' b=some x)->(H m=none/\H q=none/\H o=none/\H y=none/\H s=none)->Q .kG H') else E (.ref A.kf) none H
theorem xO:jf ["self","old_words","young_words","middle","size"] ["self","old_words","young_words"] (ja y8):=fsc
theorem Hg(T:Txt K mg A):jO P w K mg base (lV P w) true 5 A.nz A.qB ["self","old_words","young_words"] (HL A):=by
 refine T.By.oZ xO (λvs H Q E h=> ?_) (λcdv A' outer s H vs Q E hr hx h=> ?_)
 ·obtain⟨_,_,_,_,rfl,_⟩:=h
  rfl
 ·obtain⟨p,dx,v,u,rfl,h⟩:=h
  obtain⟨h,hp,kv,ku⟩:=QQ h
  refine⟨_,nR.run (i3 (jH (kI (jM (i7 ((kj T).mono (by decide)) hr rfl T.j9 T.j3.kp T.ky hx (iY (i4 1) (iY (mf T.pS) (iY (mf T.rb) iZ)))) (λ_=>rfl))) (i6 (jX hx rfl T.mv T.mx rfl (iY jb iZ))) jx)
   (i3 (jH (kI (jM (i7 ((kj T).mono (by decide)) hr rfl T.j9 T.j3.kp T.ky hx (iY (i4 2) (iY (mf T.n9) (iY (mf T.oY) iZ)))) (λ_=>rfl))) (i6 (jX hx rfl T.mv T.mx rfl (iY jb iZ))) jx)
   (i3 (jA (i:=3) xO.nd rfl lo (je j4 (i4 1) (i4 2)))
   (i3 (jA (i:=4) xO.nd rfl lo (je j4 (i4 3) (i4 2)))
   (i3 (kH (i4 0) (rY T.Bi ((GC T).mono (by decide)) hr rfl T.C2 T.Bt hx (iY (i4 4) iZ)) rfl)
   (i3 (kH (i4 0) (rY T.yj ((xw T).mono (by decide)) hr rfl T.Bc T.vb hx (iY i9 (iY (i4 1) iZ))) rfl)
   (i3 (kH (i4 0) (rY T.yj ((xw T).mono (by decide)) hr rfl T.Bc T.vb hx (iY (i4 1) (iY (i4 3) iZ))) rfl)
   (i6 (kH (i4 0) (rY T.yj ((xw T).mono (by decide)) hr rfl T.Bc T.vb hx (iY (i4 3) (iY (i4 4) iZ))) rfl))))))))),?_⟩
  cases hv:wi v 4 2000 with
  |false=>
   rw[if_neg (by rw[hv];rintro⟨z,_⟩;cases z)]at h
   refine uK (λ_ _=>False) (λR _=> ?_) (λ_ _ z=>z.elim)
   simp only[j5,kZ,sR,jc,jv,tC,jd,jm,lH,pT,and_assoc,az,bE,↓reduceIte,aS,L2.start,ao,aB,ai,aq,ah,bq,bw,aa,ae,V.int.injEq,V.bl.injEq,V.str.injEq,V.ref.injEq,V.ty.injEq,av,ak,and_true,true_and,exists_eq_left',exists_and_left,exists_eq_left,bF,aA,DK,jU,hv]
   exact⟨kv,h⟩
  |true=>
   cases hu:wi u 2 500 with
   |false=>
    rw[if_neg (by rw[hu];rintro⟨_,z⟩;cases z)]at h
    refine jw (λσ' H'=>σ'=start ["self","old_words","young_words","middle","size"] [V.ref p,v,u]/\H=H') (λR hR=> ?_) ?_
    ·simp only[j5,kZ,sR,jc,jv,tC,jd,jm,lH,pT,and_assoc,az,bE,↓reduceIte,aS,bJ,L2.start,ao,aB,ai,aq,ah,bq,bw,aa,ae,V.int.injEq,V.bl.injEq,V.str.injEq,V.ref.injEq,V.ty.injEq,av,ak,and_true,true_and,exists_eq_left',exists_and_left,exists_eq_left,bF,aA,DK,jU,hv]
     exact⟨kv,hR _ _ ⟨rfl,rfl⟩⟩
    rintro Gq hGq _ _ ⟨rfl,rfl⟩
    subst hGq
    refine uK (λ_ _=>False) (λR _=> ?_) (λ_ _ z=>z.elim)
    simp only[j5,kZ,sR,jc,jv,tC,jd,jm,lH,pT,and_assoc,az,bE,↓reduceIte,aS,L2.start,ao,aB,ai,aq,ah,bq,bw,aa,ae,V.int.injEq,V.bl.injEq,V.str.injEq,V.ref.injEq,V.ty.injEq,av,ak,and_true,true_and,exists_eq_left',exists_and_left,exists_eq_left,bF,aA,DK,jU,hu]
    exact⟨ku,h⟩
   |true=>
    rw[if_pos ⟨hv,hu⟩]at h
    obtain⟨i,rfl,i0,i1⟩:=oo hv
    obtain⟨j,rfl,j0,j1⟩:=oo hu
    have Hs:∀{G:Hp} {x dx:Addr} {o:HO},G x=none->G dx=none->jD G (upd (upd G dx (HO.own x)) x o):=λ{G x dx o} hx hdx b u eb=>by rw[i_ (i5 eb hx),i_ (i5 eb hdx)];exact eb
    show kN _ _ _ [some (V.ref p),some (V.int i),some (V.int j),none,none] H
    refine jw (λσ' H'=>σ'=[some (V.ref p),some (V.int i),some (V.int j),none,none]/\H=H') (λR hR=> ?_) ?_
    ·simp only[j5,kZ,sR,jc,jv,tC,jd,jm,lH,pT,and_assoc,az,↓reduceIte,aS,bJ,ai,aq,aa,ae,V.int.injEq,V.bl.injEq,V.str.injEq,V.ref.injEq,V.ty.injEq,av,ak,and_true,true_and,exists_eq_left',exists_and_left,exists_eq_left,aA,DK,jU,hv]
     exact⟨aF,hR _ _ ⟨rfl,rfl⟩⟩
    rintro Gq hGq _ _ ⟨rfl,rfl⟩
    subst hGq
    refine jw (λσ' H'=>σ'=[some (V.ref p),some (V.int i),some (V.int j),none,none]/\H=H') (λR hR=> ?_) ?_
    ·simp only[j5,kZ,sR,jc,jv,tC,jd,jm,lH,pT,and_assoc,az,↓reduceIte,aS,bJ,ai,aq,aa,ae,V.int.injEq,V.bl.injEq,V.str.injEq,V.ref.injEq,V.ty.injEq,av,ak,and_true,true_and,exists_eq_left',exists_and_left,exists_eq_left,aA,DK,jU,hu]
     exact⟨aF,hR _ _ ⟨rfl,rfl⟩⟩
    rintro Gq hGq _ _ ⟨rfl,rfl⟩
    subst hGq
    refine jw (λσ' H'=>σ'=[some (V.ref p),some (V.int i),some (V.int j),some (V.int (i+j)),none]/\H=H') (λR hR=> ?_) ?_
    ·simp only[lu,jd,kB,jG,qx,aa,ae,ay,ax]
     exact hR _ _ ⟨rfl,rfl⟩
    rintro Gq hGq _ _ ⟨rfl,rfl⟩
    subst hGq
    refine jw (λσ' H'=>σ'=[some (V.ref p),some (V.int i),some (V.int j),some (V.int (i+j)),some (V.int (i+j+j))]/\H=H') (λR hR=> ?_) ?_
    ·simp only[lu,jd,kB,jG,qx,aa,ae,ay,ax]
     exact hR _ _ ⟨rfl,rfl⟩
    rintro Gq hGq _ _ ⟨rfl,rfl⟩
    subst hGq
    refine jw (λσ' H'=>∃m q,H m=none/\H q=none/\kC A.jo H' m q (ah (i+j+j).toNat (-1))/\H' p=some (.ins A.jI dx (lq "memory" (.ref m) []))/\(∀b o,H b=some o->b≠p->H' b=some o)/\σ'=[some (V.ref p),some (V.int i),some (V.int j),some (V.int (i+j)),some (V.int (i+j+j))]) (λR hR=> ?_) ?_
    ·simp only[jc,jv,jd,jq,and_assoc,bc,i8,r_,rZ,aa,ae,V.int.injEq,V.bl.injEq,V.str.injEq,V.ref.injEq,V.ty.injEq,av,ak,and_true,true_and,exists_eq_left',exists_and_left,A0]
     intro x d1 hx hd1 _
     refine⟨d1,rfl,aF,?_⟩
     rw[if_pos (by simp[wi];lia)]
     intro q H1 hq m1 f1
     obtain⟨_,hq1⟩:=j6 hq
     obtain⟨_,hq2⟩:=j6 hq1
     have npx:=i5 hp hx
     have npq:=i5 hp hq2
     rw[f1 _ _ (Hs hx hd1 _ _ hp) npx]
     refine⟨T.jF,T.jC,by decide,hR _ _ ⟨x,q,hx,hq2,m1.keep λb o eb hb=> ?_,i8,λb o eb nb=> ?_,rfl⟩⟩
     ·rw[i_ (by rcases hb with rfl|rfl;exact aE npx;exact aE npq)];exact eb
     ·rw[i_ nb];exact f1 _ _ (Hs hx hd1 _ _ eb) (i5 eb hx)
    rintro Gq hGq _ H1 ⟨m,q,hm,hq,m1,e1,f1,rfl⟩
    subst hGq
    have npm:=i5 hp hm
    have npq:=i5 hp hq
    refine jw (λσ' H'=>∃o,H1 o=none/\vQ A.ju H' o ⟨0,i,0⟩/\H' p=some (.ins A.jI dx (lq "old" (.ref o) (lq "memory" (.ref m) [])))/\(∀b o,H1 b=some o->b≠p->H' b=some o)/\σ'=[some (V.ref p),some (V.int i),some (V.int j),some (V.int (i+j)),some (V.int (i+j+j))]) (λR hR=> ?_) ?_
    ·simp only[jc,jv,tC,jd,jq,and_assoc,i8,r_,rZ,aa,ae,V.int.injEq,V.bl.injEq,V.str.injEq,V.ref.injEq,V.ty.injEq,av,ak,and_true,true_and,exists_eq_left',exists_and_left,uL]
     intro x d1 hx hd1 _
     have npx:=i5 e1 hx
     refine⟨d1,rfl,?_⟩
     rw[i_ npx,Hs hx hd1 _ _ e1]
     refine⟨T.jF,T.lD,(show(1:Nat)<1000 by decide),hR _ _ ⟨x,hx,⟨d1,?_⟩,i8,λb o eb nb=> ?_,rfl⟩⟩
     ·rw[i_ (aE npx),i8]
     ·rw[i_ nb,i_ (i5 eb hx)];exact Hs hx hd1 _ _ eb
    rintro Gq hGq _ H2 ⟨o,ho,so1,e2,f2,rfl⟩
    subst hGq
    have npo:=i5 e1 ho
    refine jw (λσ' H'=>∃y,H2 y=none/\vQ A.ju H' y ⟨i,i+j,i⟩/\H' p=some (.ins A.jI dx (lq "young" (.ref y) (lq "old" (.ref o) (lq "memory" (.ref m) []))))/\(∀b o,H2 b=some o->b≠p->H' b=some o)/\σ'=[some (V.ref p),some (V.int i),some (V.int j),some (V.int (i+j)),some (V.int (i+j+j))]) (λR hR=> ?_) ?_
    ·simp only[jc,jv,jd,jq,and_assoc,i8,r_,rZ,aa,ae,V.int.injEq,V.bl.injEq,V.str.injEq,V.ref.injEq,V.ty.injEq,av,ak,and_true,true_and,exists_eq_left',exists_and_left,uL]
     intro x d1 hx hd1 _
     have npx:=i5 e2 hx
     refine⟨d1,rfl,?_⟩
     rw[i_ npx,Hs hx hd1 _ _ e2]
     refine⟨T.jF,T.jQ,by simp[lq,T5],hR _ _ ⟨x,hx,⟨d1,?_⟩,i8,λb o eb nb=> ?_,rfl⟩⟩
     ·rw[i_ (aE npx),i8]
     ·rw[i_ nb,i_ (i5 eb hx)];exact Hs hx hd1 _ _ eb
    rintro Gq hGq _ H3 ⟨y,hy,sy1,e3,f3,rfl⟩
    subst hGq
    have npy:=i5 e2 hy
    simp only[jc,jv,jd,jq,and_assoc,i8,r_,rZ,aa,ae,V.int.injEq,V.bl.injEq,V.str.injEq,V.ref.injEq,V.ty.injEq,av,ak,and_true,true_and,exists_eq_left',exists_and_left,uL]
    intro x d1 hx hd1 _
    have npx:=i5 e3 hx
    refine⟨d1,rfl,?_⟩
    rw[i_ npx,Hs hx hd1 _ _ e3]
    refine⟨T.jF,T.kJ,by simp[lq,T5,T6,T7],?_⟩
    rw[S_]
    have sz:i+j+j=i+2*j:=by lia
    rw[sz]at m1⊢
    have f4:∀b u,H3 b=some u->b≠p->upd (upd (upd (upd H3 d1 (HO.own x)) x (HO.ins A.ju d1 [])) x (HO.ins A.ju d1 (wz (i+j) (i+2*j) (i+j)))) p (HO.ins A.jI dx (zR m o y x)) b=some u:=λb u eb nb=>by
     rw[i_ nb,i_ (i5 eb hx)];exact Hs hx hd1 _ _ eb
    have e4:upd (upd (upd (upd H3 d1 (HO.own x)) x (HO.ins A.ju d1 [])) x (HO.ins A.ju d1 (wz (i+j) (i+2*j) (i+j)))) p (HO.ins A.jI dx (zR m o y x)) p=some (HO.ins A.jI dx (zR m o y x)):=i8
    have e5:upd (upd (upd (upd H3 d1 (HO.own x)) x (HO.ins A.ju d1 [])) x (HO.ins A.ju d1 (wz (i+j) (i+2*j) (i+j)))) p (HO.ins A.jI dx (zR m o y x)) x=some (HO.ins A.ju d1 (wz (i+j) (i+2*j) (i+j))):=by rw[i_ (aE npx),i8]
    generalize upd (upd (upd (upd H3 d1 (HO.own x)) x (HO.ins A.ju d1 [])) x (HO.ins A.ju d1 (wz (i+j) (i+2*j) (i+j)))) p (HO.ins A.jI dx (zR m o y x))=H4 at*
    obtain⟨dm,em⟩:=m1.ob
    obtain⟨do1,eo⟩:=so1
    obtain⟨dy1,ey⟩:=sy1
    have fresh:∀{G:Hp} {z:Addr},(∀b u,H b=some u->b≠p->G b=some u)->G z=none->p≠z->H z=none:=λ{G z} hG hz np=>by
     cases e:H z with
     |none=>rfl
     |some u=>rw[hG _ _ e (aE np)]at hz;cases hz
    have nmo:=i5 em ho
    have em2:=f2 _ _ em (aE npm)
    have nmy:=i5 em2 hy
    have em3:=f3 _ _ em2 (aE npm)
    have nmx:=i5 em3 hx
    have noy:=i5 eo hy
    have eo3:=f3 _ _ eo (aE npo)
    have nox:=i5 eo3 hx
    have nyx:=i5 ey hx
    refine h m q o y x H4 ⟨⟨dx,e4⟩,m1.keep λb u eb hb=> ?_,⟨do1,f4 _ _ eo3 (aE npo)⟩,⟨dy1,f4 _ _ ey (aE npy)⟩,⟨d1,e5⟩,noy,nox,nyx,⟨npm,npo,npy,npx⟩,⟨nmo,nmy,nmx⟩⟩ (λb u eb nb=>f4 _ _ (f3 _ _ (f2 _ _ (f1 _ _ eb nb) nb) nb) nb) ⟨hm,hq,fresh (λb u eb nb=>f1 _ _ eb nb) ho npo,fresh (λb u eb nb=>f2 _ _ (f1 _ _ eb nb) nb) hy npy,fresh (λb u eb nb=>f3 _ _ (f2 _ _ (f1 _ _ eb nb) nb) nb) hx npx⟩
    have nb:b≠p:=by rcases hb with rfl|rfl;exact aE npm;exact aE npq
    exact f4 _ _ (f3 _ _ (f2 _ _ eb nb) nb) nb
noncomputable def HN (A:Ad):Sp:=λvs H Q E=>∃p d ks v,vs=[.ref p,v]/\va A.kh H p d ks/\Kn H v/\ks.length<1000/\
 if wi v 0 9999=true then Q .kG (upd H d (.dK (Hd (N7 ks (iv v))))) else E (.ref A.jV) none H
theorem Hu:jf ["self","place"] ["self","place"] (ja y_):=fsc
theorem BM(T:Txt K mg A):jO P w K mg base (lV P w) true 5 A.nB A.qD ["self","place"] (HN A):=by
 refine T.BA.oZ Hu (λvs H Q E h=> ?_) (λcdv A' outer s H vs Q E hr hx h=> ?_)
 ·obtain⟨_,_,_,_,rfl,_⟩:=h
  rfl
 ·obtain⟨p,d,ks,v,rfl,h⟩:=h
  obtain⟨h,m,hk,hl⟩:=QQ h
  refine⟨_,nR.run (i3 (ji (i7 ((xB T).mono (by decide)) hr rfl T.qZ T.rB.kp T.ve hx (iY (i4 1) iZ)))
   (i6 (K3 (jT hr) (jg (i4 0) rfl) (i4 1) vt rfl))),?_⟩
  obtain⟨dx,e⟩:=m.ob
  cases hw:wi v 0 9999 with
  |false=>
   rw[hw]at h
   simp only[kc,kN,jc,jv,tC,jd,jm,jq,az,↓reduceIte,↓jE,KA,kL,L2.start,ao,aB,ai,aq,ah,aD,aa,ae,V.int.injEq,V.bl.injEq,V.str.injEq,V.ref.injEq,V.ty.injEq,av,ak,and_true,exists_eq_left',aK,aA,aL,kK,qw,pK,hw]
   exact⟨hk,h⟩
  |true=>
   obtain⟨i,rfl,i0,i1⟩:=oo hw
   rw[if_pos hw]at h
   simp only[kc,kN,jc,jv,tC,jd,jm,jq,az,↓reduceIte,↓jE,KA,kL,L2.start,ao,aB,ai,aq,ah,aD,aa,ae,V.int.injEq,V.bl.injEq,V.str.injEq,V.ref.injEq,V.ty.injEq,av,ak,and_true,true_and,exists_eq_left',aA,aL,kK,qw,pK,hw,e,T.pR,T.kY,MV,m.dc,Q7,Q8]
   exact⟨aF,aR hl (by decide),h⟩
noncomputable def AY (A:Ad):Sp:=λvs H Q E=>∃p d ks v,vs=[.ref p,v]/\va A.kh H p d ks/\Kn H v/\
 if wi v 0 9999=true then Q (.bl (decide (iv v∈ks))) H else E (.ref A.jV) none H
theorem Lu:jf ["self","place"] ["self","place"] (ja Cd):=fsc
theorem Li(T:Txt K mg A):jO P w K mg base (lV P w) true 5 A.pX A.tY ["self","place"] (AY A):=by
 refine T.EJ.oZ Lu (λvs H Q E h=> ?_) (λcdv A' outer s H vs Q E hr hx h=> ?_)
 ·obtain⟨_,_,_,_,rfl,_⟩:=h
  rfl
 ·obtain⟨p,d,ks,v,rfl,h⟩:=h
  obtain⟨h,m,hk⟩:=MR h
  refine⟨_,nR.run (i3 (ji (i7 ((xB T).mono (by decide)) hr rfl T.qZ T.rB.kp T.ve hx (iY (i4 1) iZ)))
   (i6 (jh (vN (RD (jT hr)) (i4 1) (jg (i4 0) rfl) (by with_unfolding_all rfl))))),?_⟩
  obtain⟨dx,e⟩:=m.ob
  cases hw:wi v 0 9999 with
  |false=>
   rw[hw]at h
   simp only[kM,kc,kN,lu,jc,jv,jd,jm,jq,az,↓reduceIte,↓jE,kL,L2.start,O0,ao,aB,ai,aq,ah,aD,aa,ae,V.int.injEq,V.bl.injEq,V.str.injEq,V.ref.injEq,V.ty.injEq,av,ak,and_true,exists_eq_left',aK,aA,aL,kK,qw,pK,hw]
   exact⟨hk,h⟩
  |true=>
   obtain⟨i,rfl,i0,i1⟩:=oo hw
   rw[if_pos hw]at h
   simp only[kM,kc,kN,lu,jc,jv,jd,jm,jq,az,↓reduceIte,↓jE,kL,L2.start,O0,ao,aB,ai,aq,ah,aD,aa,ae,V.int.injEq,V.bl.injEq,V.str.injEq,V.ref.injEq,V.ty.injEq,av,ak,and_true,true_and,exists_eq_left',aA,aL,kK,qw,pK,hw,e,T.pR,T.kY,MV,m.dc,IW]
   refine⟨aF,?_⟩
   have e2:(if i∈ks then some (V.bl true) else none).isSome=decide (iv (V.int i)∈ks):=by
    show _=decide (i∈ks)
    by_cases z:i∈ks
    ·rw[if_pos z,decide_eq_true z];rfl
    ·rw[if_neg z,decide_eq_false z];rfl
   rw[e2]
   exact h
noncomputable def Kb (A:Ad):Sp:=λvs H Q E=>∃p q ws v x,vs=[.ref p,v,x]/\yz A.kD H p q ws/\Kn H v/\Kn H x/\
 if wi v 0 (ws.length-1)=true then(match kd x with
  |some _=>Q .kG (upd H q (.lst ((ws.set (iv v).toNat (iv x)).map V.int)))
  |none=>E (.ref A.pe) none H) else E (.ref A.uO) none H
theorem JY:jf ["self","hand","word"] ["self","hand","word"] (ja AI):=fsc
theorem Dt(T:Txt K mg A):jO P w K mg base (lV P w) true 5 A.ox A.sf ["self","hand","word"] (Kb A):=by
 refine T.CQ.oZ JY (λvs H Q E h=> ?_) (λcdv A' outer s H vs Q E hr hx h=> ?_)
 ·obtain⟨_,_,_,_,_,rfl,_⟩:=h
  rfl
 ·obtain⟨p,q,ws,v,x,rfl,h⟩:=h
  obtain⟨h,m,hk,hx'⟩:=QQ h
  refine⟨_,nR.run (i3 (ji (jL (i4 0) T.rz T.wY ((Cb T).mono (by decide)) hr T.wF hx (iY (i4 1) iZ)))
   (i3 (ji (i7 ((y6 T).mono (by decide)) hr rfl T.xp T.vj.kp T.z3 hx (iY (i4 2) iZ)))
   (i6 (rG (i4 2) (rF (jg (i4 0) rfl) (i4 1) uC))))),?_⟩
  obtain⟨dx,e⟩:=m.ob
  simp only[kc,kN,jc,jv,jd,kB,jm,jq,and_assoc,az,↓jE,↓jB,xV,E8,L2.start,ao,aB,ai,aq,ah,aD,aa,ae,V.int.injEq,V.bl.injEq,V.str.injEq,V.ref.injEq,V.ty.injEq,av,ak,and_true,true_and,exists_eq_left',exists_and_left,aA,aL,kK,qw,uX,wA,uM,e,T.rz,T.mU,Pu,Pw]
  refine⟨q,ws,m,hk,?_⟩
  cases hw:wi v 0 (ws.length-1)
  ·simp[hw]at h⊢;exact h
  ·obtain⟨i,rfl,h0,h1⟩:=oo hw
   simp only[hw,if_true]at h⊢
   refine⟨hx',?_⟩
   cases hd:kd x with
   |none=>rw[hd]at h;exact h
   |some y=>
    obtain⟨j,rfl⟩:=PQ hd
    rw[hd]at h
    simp only[m.ls,Ni h0 h1,GY,iv]at h⊢
    exact h
noncomputable def HP:Sp:=λ_ _ _ _=>False
theorem Hk{ca:Bool}(T:Txt K mg A):jO P w K mg base (lV P w) ca 5 A.nG A.qG ["self","ticket","at"] HP:=⟨λ_ _ _ _ h=>h.elim,λ_ _ _ _ _ _ _ _ _ _ _ _ _ h=>h.elim⟩
noncomputable def Kf:Sp:=λ_ _ _ _=>False
theorem JD{ca:Bool}(T:Txt K mg A):jO P w K mg base (lV P w) ca 5 A.oG A.su ["self","name","at"] Kf:=⟨λ_ _ _ _ h=>h.elim,λ_ _ _ _ _ _ _ _ _ _ _ _ _ h=>h.elim⟩
noncomputable def Ke:Sp:=λ_ _ _ _=>False
theorem JB{ca:Bool}(T:Txt K mg A):jO P w K mg base (lV P w) ca 5 A.oE A.sj ["self","name"] Ke:=⟨λ_ _ _ _ h=>h.elim,λ_ _ _ _ _ _ _ _ _ _ _ _ _ h=>h.elim⟩
noncomputable def HQ (A:Ad):Sp:=λvs H Q E=>∃r dx v,vs=[.ref r,v]/\H r=some (.ins A.j_ dx [])/\Kn H v/\
 if wi v 1 6=true then(∀h q b d w wq l ld H',H q=none->H d=none->H wq=none->H ld=none->H' r=some (.ins A.j_ dx (Bo h b w l))->yz A.kD H' h q (ah (iv v).toNat (-1))->va A.kh H' b d []->Vk A.kE H' w wq->Wz A.kr H' l ld->q≠wq->d≠ld->(∀y o,H y=some o->y≠r->H' y=some o)->Q .kG H')
 else∀H',jD H H'->E (.ref A.kf) none H'
theorem Hx:jf ["self","many"] ["self","many"] (ja ze):=fsc
theorem Hl(T:Txt K mg A):jO P w K mg base (lV P w) true 5 A.nH A.qH ["self","many"] (HQ A):=by
 refine T.BD.oZ Hx (λvs H Q E h=> ?_) (λcdv A' outer s H vs Q E hr hx h=> ?_)
 ·obtain⟨_,_,_,rfl,_⟩:=h
  rfl
 ·obtain⟨r,dx,v,rfl,h⟩:=h
  obtain⟨k,e,hk⟩:=MR h
  refine⟨_,nR.run (i3 (kH (i4 0) (rY T.Dq ((Hi T).mono (by decide)) hr rfl T.Fn T.CB hx (iY (i4 1) iZ)) rfl)
   (i3 (kH (i4 0) (As T.Fv ((Jy T).mono (by decide)) hr rfl T.Jd T.EA hx) rfl)
   (i3 (kH (i4 0) (As T.Fw ((JC T).mono (by decide)) hr rfl T.Je T.ED hx) rfl)
   (i6 (kH (i4 0) (As T.Dr ((Hj T).mono (by decide)) hr rfl T.Fo T.CC hx) rfl))))),?_⟩
  have Hs:∀{G:Hp} {x dx:Addr} {o:HO},G x=none->G dx=none->jD G (upd (upd G dx (HO.own x)) x o):=λ{G x dx o} hx hdx b u eb=>by rw[i_ (i5 eb hx),i_ (i5 eb hdx)];exact eb
  show kN _ _ _ [some (V.ref r),some v] H
  refine jw (λσ' H'=>wi v 1 6=true/\∃h q,H h=none/\H q=none/\yz A.kD H' h q (ah (iv v).toNat (-1))/\H' r=some (.ins A.j_ dx (lq "hands" (.ref h) []))/\(∀b o,H b=some o->b≠r->H' b=some o)/\σ'=[some (V.ref r),some v]) (λR hR=> ?_) ?_
  ·simp only[jc,jv,jd,jq,and_assoc,bc,i8,r_,rZ,aa,ae,V.int.injEq,V.bl.injEq,V.str.injEq,V.ref.injEq,V.ty.injEq,av,ak,and_true,true_and,exists_eq_left',exists_and_left,BV]
   intro x d1 hx hd1 _
   refine⟨d1,rfl,hk.same (Hs hx hd1),?_⟩
   cases hv:wi v 1 6 with
   |false=>
    rw[hv]at k
    exact k _ (Hs hx hd1)
   |true=>
    rw[if_pos rfl]
    intro q H1 hq m1 f1
    obtain⟨_,hq1⟩:=j6 hq
    obtain⟨_,hq2⟩:=j6 hq1
    have npx:=i5 e hx
    have npq:=i5 e hq2
    rw[f1 _ _ (Hs hx hd1 _ _ e) npx]
    refine⟨T.my,T.l_,by decide,hR _ _ ⟨hv,x,q,hx,hq2,m1.keep λb o eb hb=> ?_,i8,λb o eb nb=> ?_,rfl⟩⟩
    ·rw[i_ (by rcases hb with rfl|rfl;exact aE npx;exact aE npq)];exact eb
    ·rw[i_ nb];exact f1 _ _ (Hs hx hd1 _ _ eb) (i5 eb hx)
  rintro Gq hGq _ H1 ⟨hv,h,q,hh,hq,m1,e1,f1,rfl⟩
  subst hGq
  rw[if_pos hv]at k
  have nrh:=i5 e hh
  have nrq:=i5 e hq
  have fresh:∀{G:Hp} {z:Addr},(∀b u,H b=some u->b≠r->G b=some u)->G z=none->r≠z->H z=none:=λ{G z} hG hz np=>by
   cases ez:H z with
   |none=>rfl
   |some u=>rw[hG _ _ ez (aE np)]at hz;cases hz
  refine jw (λσ' H'=>∃b d,H1 b=none/\H1 d=none/\va A.kh H' b d []/\H' r=some (.ins A.j_ dx (lq "book" (.ref b) (lq "hands" (.ref h) [])))/\(∀b o,H1 b=some o->b≠r->H' b=some o)/\σ'=[some (V.ref r),some v]) (λR hR=> ?_) ?_
  ·simp only[jv,jd,jq,i8,r_,rZ,aa,V.int.injEq,V.bl.injEq,V.str.injEq,V.ref.injEq,V.ty.injEq,av,ak,and_true,true_and,exists_eq_left',exists_and_left,DE]
   intro x d1 hx hd1 _
   refine⟨d1,rfl,λd H2 hd m2 f2=> ?_⟩
   obtain⟨_,hq1⟩:=j6 hd
   obtain⟨_,hq2⟩:=j6 hq1
   have npx:=i5 e1 hx
   have npq:=i5 e1 hq2
   rw[f2 _ _ npx (Hs hx hd1 _ _ e1)]
   refine⟨T.my,T.mK,(show(1:Nat)<1000 by decide),hR _ _ ⟨x,d,hx,hq2,m2.keep λb o eb hb=> ?_,i8,λb o eb nb=> ?_,rfl⟩⟩
   ·rw[i_ (by rcases hb with rfl|rfl;exact aE npx;exact aE npq)];exact eb
   ·rw[i_ nb];exact f2 _ _ (i5 eb hx) (Hs hx hd1 _ _ eb)
  rintro Gq hGq _ H2 ⟨b,d,hb,hd,m2,e2,f2,rfl⟩
  subst hGq
  have nrb:=i5 e1 hb
  have nrd:=i5 e1 hd
  refine jw (λσ' H'=>∃w wq,H2 w=none/\H2 wq=none/\Vk A.kE H' w wq/\H' r=some (.ins A.j_ dx (lq "weaks" (.ref w) (lq "book" (.ref b) (lq "hands" (.ref h) []))))/\(∀b o,H2 b=some o->b≠r->H' b=some o)/\σ'=[some (V.ref r),some v]) (λR hR=> ?_) ?_
  ·simp only[jv,jd,jq,i8,r_,rZ,aa,V.int.injEq,V.bl.injEq,V.str.injEq,V.ref.injEq,V.ty.injEq,av,ak,and_true,true_and,exists_eq_left',exists_and_left,DG]
   intro x d1 hx hd1 _
   refine⟨d1,rfl,λe5 he5=> ?_⟩
   obtain⟨n5,h5⟩:=j6 he5
   obtain⟨_,h52⟩:=j6 h5
   have npx:=i5 e2 hx
   have np5:=i5 e2 h52
   have f3:∀y o,y≠x->upd (upd H2 d1 (HO.own x)) x (HO.ins A.kE d1 []) y=some o->upd (upd (upd (upd H2 d1 (HO.own x)) x (HO.ins A.kE d1 [])) e5 (.lst [])) x (.ins A.kE d1 (QK e5)) y=some o:=λy o hy ey=>by rw[i_ hy,i_ (i5 ey he5)];exact ey
   have m3:Vk A.kE (upd (upd (upd (upd H2 d1 (HO.own x)) x (HO.ins A.kE d1 [])) e5 (.lst [])) x (.ins A.kE d1 (QK e5))) x e5:=⟨⟨d1,i8⟩,by rw[i_ n5,i8]⟩
   generalize upd (upd (upd (upd H2 d1 (HO.own x)) x (HO.ins A.kE d1 [])) e5 (.lst [])) x (.ins A.kE d1 (QK e5))=H3 at*
   rw[f3 _ _ npx (Hs hx hd1 _ _ e2)]
   refine⟨T.my,T.qq,by simp[lq,T4],hR _ _ ⟨x,e5,hx,h52,⟨let ⟨dd,ee⟩:=m3.ob;⟨dd,by rw[i_ (aE npx)];exact ee⟩,by rw[i_ (aE np5)];exact m3.ls⟩,i8,λb o eb nb=> ?_,rfl⟩⟩
   ·rw[i_ nb];exact f3 _ _ (i5 eb hx) (Hs hx hd1 _ _ eb)
  rintro Gq hGq _ H3 ⟨w,wq,hw2,hwq2,m3,e3,f3,rfl⟩
  subst hGq
  have nrw:=i5 e2 hw2
  have nrwq:=i5 e2 hwq2
  simp only[jv,jd,jq,i8,r_,rZ,aa,V.int.injEq,V.bl.injEq,V.str.injEq,V.ref.injEq,V.ty.injEq,av,ak,and_true,true_and,exists_eq_left',exists_and_left,BW]
  intro x d1 hx hd1 _
  refine⟨d1,rfl,λld H4 hld f4 m4=> ?_⟩
  have un:∀{z:Addr},upd (upd H3 d1 (HO.own x)) x (HO.ins A.kr d1 []) z=none->H3 z=none:=λhz=>(j6 (j6 hz).2).2
  have npx:=i5 e3 hx
  have npd:=i5 e3 (un hld)
  rw[f4 _ _ npx (Hs hx hd1 _ _ e3)]
  refine⟨T.my,T.qp,by simp[lq,T4,V0,VZ],?_⟩
  rw[Sk]
  have g:∀y o,H3 y=some o->y≠r->upd H4 r (.ins A.j_ dx (Bo h b w x)) y=some o:=λy o ey ny=>by
   rw[i_ ny];exact f4 _ _ (i5 ey hx) (Hs hx hd1 _ _ ey)
  have bk:∀{z:Addr},H3 z=none->r≠z->H z=none:=λ{z} hz np=>by
   cases ez:H z with
   |none=>rfl
   |some u=>rw[f3 _ _ (f2 _ _ (f1 _ _ ez (aE np)) (aE np)) (aE np)]at hz;cases hz
  have bk2:∀{z:Addr},H2 z=none->r≠z->H z=none:=λ{z} hz np=>by
   cases ez:H z with
   |none=>rfl
   |some u=>rw[f2 _ _ (f1 _ _ ez (aE np)) (aE np)]at hz;cases hz
  have hd3:=f3 _ _ m2.dc (aE nrd)
  have hq2:=f2 _ _ m1.ls (aE nrq)
  refine k h q b d w wq x ld _ hq (fresh f1 hd nrd) (bk2 hwq2 nrwq) (bk (un hld) npd) i8 (m1.keep λy o ey hy=> ?_) (m2.keep λy o ey hy=> ?_) ⟨?_,?_⟩ ⟨?_,?_⟩ (i5 hq2 hwq2) (i5 hd3 (un hld)) λy o ey ny=>g _ _ (f3 _ _ (f2 _ _ (f1 _ _ ey ny) ny) ny) ny
  ·have ny:y≠r:=by rcases hy with rfl|rfl;exact aE nrh;exact aE nrq
   exact g _ _ (f3 _ _ (f2 _ _ ey ny) ny) ny
  ·have ny:y≠r:=by rcases hy with rfl|rfl;exact aE nrb;exact aE nrd
   exact g _ _ (f3 _ _ ey ny) ny
  ·obtain⟨dw,ew⟩:=m3.ob;exact⟨dw,g _ _ ew (aE nrw)⟩
  ·exact g _ _ m3.ls (aE nrwq)
  ·obtain⟨dl,ql,el⟩:=m4.ob;exact⟨dl,ql,by rw[i_ (aE npx)];exact el⟩
  ·rw[i_ (aE npd)];exact m4.dc
noncomputable def zA:Sp:=λvs H Q _=>∃s a,vs=[.int s,.int a]/\0<=s/\s<=8/\0<=a/\a<=2/\Q (.int (2*(4*s+a))) H
theorem J6:jf ["slots","age"] ["slots","age"] (ja AQ):=fsc
theorem Dx(T:Txt K mg A):jO P w K mg base (lV P w) true 6 A.qd A.sE ["slots","age"] zA:=by
 refine T.vg.oZ J6 (λvs H Q E h=> ?_) (λcdv A' outer s H vs Q E hr hx h=> ?_)
 ·obtain⟨_,_,rfl,_⟩:=h
  rfl
 ·obtain⟨s',a,rfl,h⟩:=h
  obtain⟨q,s0,s1,a0,a1⟩:=Vo h
  refine⟨_,nR.run (i6 (jh (i7 ((AE T).mono (by decide)) hr rfl T.rD T.s9.kp T.xi hx (iY (je j4 (je Bf i9 (i4 0)) (i4 1)) iZ)))),?_⟩
  simp only[kM,lu,jc,jv,tC,jd,jm,qx,KG,IQ,true_or,bt,bu,bc,bD,az,L2.start,ao,aB,ai,aq,ah,aD,aa,ae,V.int.injEq,V.bl.injEq,V.str.injEq,V.ref.injEq,V.ty.injEq,av,ak,and_true,true_and,exists_eq_left',aA,aL,A2,Kn]
  rw[if_pos (E3 (by lia) (by lia))]
  exact q
noncomputable def qv (A:Ad):Sp:=λvs H Q E=>∃p q ws v,vs=[.ref p,v]/\kC A.jo H p q ws/\Kn H v/\jP ws/\
 if wi v 0 (ws.length-1)=true then(match lx ws (iv v).toNat with
  |some n=>Q (.int n) H
  |none=>E (.ref A.lX) none H) else E (.ref A.jV) none H
theorem wy:jf ["memory","at","word","number"] ["memory","at"] (ja xI):=fsc
theorem tH(T:Txt K mg A):jO P w K mg base (lV P w) true 6 A.nU A.pB ["memory","at"] (qv A):=by
 refine T.og.oZ wy (λvs H Q E h=> ?_) (λcdv A' outer s H vs Q E hr hx h=> ?_)
 ·obtain⟨_,_,_,_,rfl,_⟩:=h
  rfl
 ·obtain⟨p,q,ws,v,rfl,h⟩:=h
  obtain⟨h,m,hk,wo'⟩:=QQ h
  refine⟨_,nR.run (i3 (jA (i:=2) wy.nd rfl lo (jL (i4 0) T.jW T.pJ ((qr T).mono (by decide)) hr T.o_ hx (iY (i4 1) iZ)))
   (i3 (jH (oV (uE (jj Gh (i7 ((y6 T).mono (by decide)) hr rfl T.xp T.vj.kp T.z3 hx (iY (i4 2) iZ)) jb (jK _)) (uU (kI (jM (i7 ((Mr T).mono (by decide)) hr rfl T.Bd T.B6.kp T.Ia hx (iY (i7 ((yn T).mono (by decide)) hr rfl T.vq T.uQ.kp T.yH hx (iY (i4 2) iZ)) iZ)) (λ_=>rfl)))))) (i6 (jX hx rfl T.Al T.A7 rfl (iY jb iZ))) jx)
   (i3 (jA (i:=3) wy.nd rfl lo (i7 ((yn T).mono (by decide)) hr rfl T.vq T.uQ.kp T.yH hx (iY (i4 2) iZ)))
   (i3 (jH (kI (jM (i7 ((Nt T).mono (by decide)) hr rfl T.F9 T.Fj.kp T.LZ hx (iY (i4 0) (iY (i4 1) (iY (je qj (i4 3) i9) iZ)))) (λ_=>rfl))) (i6 (jX hx rfl T.Al T.A7 rfl (iY jb iZ))) jx)
   (i6 (jh (i4 3))))))),?_⟩
  obtain⟨dx,e⟩:=m.ob
  simp only[kM,j5,kN,kZ,jY,lu,NL,sR,jc,jv,tC,jd,kB,jG,jm,lH,wG,Rh,eqv,pT,and_assoc,DS,az,bE,↓reduceIte,aS,↓jB,decide_eq_false_iff_not,L2.start,ao,aB,ai,aq,ah,bq,bw,aa,ae,ay,ax,V.int.injEq,V.bl.injEq,V.str.injEq,V.ref.injEq,V.ty.injEq,av,ak,and_true,true_and,exists_eq_left',exists_and_left,exists_eq_left,bF,aA,DK,↓jS,uX,wB,uM,yq,G3,FD,e,Gx]
  refine⟨q,ws,m,hk,?_⟩
  cases hw:wi v 0 (ws.length-1)<;>simp only[hw,if_true,if_false,aK]at h⊢
  ·exact h
  ·obtain⟨i,rfl,h0,h1⟩:=oo hw
   obtain⟨x,hx'⟩:=Jt wo' (show(iv (.int i)).toNat<ws.length by show i.toNat<_;omega)
   have ei:(((iv (V.int i)).toNat:Nat):Int)=i:=dB h0
   rw[pW,ei]at h
   generalize ws.getD (iv (V.int i)).toNat 0=W at*
   refine⟨aF,?_⟩
   rw[hx']
   dsimp only
   rcases K_ hx' with ⟨rfl,c⟩|⟨rfl,c⟩|⟨rfl,c⟩
   ·rw[if_neg (by omega)]at h
    rw[if_pos Xc];exact h
   ·rw[if_neg (λz=>z rfl),QL (by omega)]
    refine⟨aF,_,rfl,?_⟩
    by_cases d:0<=W/2/\W/2<=34/\W/2%4<=2
    ·rw[if_neg (λz=>z d)]
     refine⟨aF,by decide,by decide,q,ws,m,aF,?_⟩
     by_cases f:i+W/2/4<=ws.length-1
     ·rw[if_pos ⟨c.1,by lia,by omega,by lia,f⟩]at h
      rw[if_neg (by simp only[wi];simp;lia)];exact h
     ·rw[if_neg (by omega)]at h
      rw[if_pos (by simp only[wi];simp;lia)];exact h
    ·rw[if_pos d]
     rw[if_neg (by omega)]at h
     exact h
   ·rw[if_neg (by omega)]at h
    rw[if_pos Xf];exact h
noncomputable abbrev Wx (A:Ad) (H:Hp) (x:Ax) (M:Mem):Prop:=Wh A.jI A.jo A.ju A.j_ A.kD A.kh A.kE A.kr H x M
noncomputable def G4 (A:Ad):Sp:=λvs H Q _=>Y3 λ(x:Ax) (M:Mem) (u:Int)=>C4 (vs=[.ref x.p,.int u]) (Wx A H x M) ((kd (.int u)).isSome=true) (Q (.bl (r9 M.sy u)) H)
theorem GU:jf ["areas","word"] ["areas","word"] (ja xJ):=fsc
theorem AD(T:Txt K mg A):jO P w K mg base (lV P w) true 6 A.nW A.pC ["areas","word"] (G4 A):=by
 refine T.sZ.oZ GU (λvs H Q E h=> ?_) (λcdv A' outer s H vs Q E hr hx h=> ?_)
 ·obtain⟨_,_,_,rfl,_⟩:=h
  rfl
 ·obtain⟨x,M,u,rfl,h,ku,q⟩:=h
  refine⟨_,nR.run (i6 (jh (yd (vN mz (i7 ((y6 T).mono (by decide)) hr rfl T.xp T.vj.kp T.z3 hx (iY (i4 1) iZ)) jb (jK _)) (yh (jL (jg (i4 0) rfl) T.ke T.AA ((Dv T).mono (by decide)) hr T.zX hx (iY (i7 ((yn T).mono (by decide)) hr rfl T.vq T.uQ.kp T.yH hx (iY (i4 1) iZ)) iZ)))))),?_⟩
  obtain⟨dp,ep⟩:=h.ar.ob
  obtain⟨dy,ey⟩:=h.ar.r9
  cases hp:rh u with
  |false=>
   obtain⟨v,ev,nv⟩:=PZ hp ku
   simp only[kM,lu,DL,jc,jv,tC,jd,jm,zK,eqv,jq,az,↓reduceIte,↓jE,↓jB,L2.start,ao,aB,ai,aq,ah,aD,aa,ae,V.int.injEq,V.bl.injEq,V.str.injEq,V.ref.injEq,V.ty.injEq,av,ak,and_true,exists_eq_left',decide_eq_true_eq,aA,aL,↓jS,kK,qw,uX,uM,ev,nv]
   rw[show r9 M.sy u=false by unfold r9;rw[hp];rfl]at q
   exact⟨aF,q⟩
  |true=>
   obtain⟨ev,u9,u0,eu⟩:=Ft hp ku
   simp only[kM,lu,DL,jc,jv,tC,jd,jm,zK,eqv,jq,and_assoc,az,↓reduceIte,↓jE,↓jB,L2.start,ao,aB,ai,aq,ah,aD,aa,ae,V.int.injEq,V.bl.injEq,V.str.injEq,V.ref.injEq,V.ty.injEq,av,ak,and_true,true_and,exists_eq_left',exists_and_left,decide_eq_true_eq,aA,aL,↓jS,kK,qw,uX,uM,ev,yq,eu,ep,T.jF,T.jQ,zG,ey,NF,DF]
   refine⟨aF,aF,dy,_,_,_,rfl,aF,?_⟩
   rw[show wi (V.int (u/2)) M.sy.b (M.sy.t-1)=r9 M.sy u by unfold r9 wi;rw[hp];simp only[eS,Bool.decide_and]]
   exact q
noncomputable def LH (A:Ad):Sp:=λvs H Q E=>∃p d ks v,vs=[.ref p,v]/\va A.kh H p d ks/\Kn H v/\
 if wi v 0 9999=true then(∀H',va A.kh H' p d (Qw ks (iv v))->(∀b o,H b=some o->b≠d->H' b=some o)->Q .kG H') else E (.ref A.jV) none H
theorem Sm{ks:List Int}{k:Int}(h:¬k∈ks):Qw ks k=ks:=List.filter_eq_self.mpr λx hx=>decide_eq_true λz=>h (z▸hx)
theorem Lv:jf ["self","place"] ["self","place"] (ja Ce):=fsc
theorem Lj(T:Txt K mg A):jO P w K mg base (lV P w) true 6 A.pY A.tZ ["self","place"] (LH A):=by
 refine T.EK.oZ Lv (λvs H Q E h=> ?_) (λcdv A' outer s H vs Q E hr hx h=> ?_)
 ·obtain⟨_,_,_,_,rfl,_⟩:=h
  rfl
 ·obtain⟨p,d,ks,v,rfl,h⟩:=h
  obtain⟨h,m,hk⟩:=MR h
  refine⟨_,nR.run (i6 (jH (jM (jL (i4 0) T.pR T.Gp ((Li T).mono (by decide)) hr T.FL hx (iY (i4 1) iZ)) (λ_=>rfl)) (i6 (ji (PH (jg (i4 0) rfl) (i4 1) ⟨rfl,rfl,rfl,rfl⟩))) jx)),?_⟩
  obtain⟨dx,e⟩:=m.ob
  cases hw:wi v 0 9999 with
  |false=>
   rw[hw]at h
   simp only[j5,kc,kZ,jc,jv,jd,jq,pT,and_assoc,az,↓jE,↓jB,kL,L2.start,MW,ao,aB,ai,aq,ah,aD,aa,ae,V.int.injEq,V.bl.injEq,V.str.injEq,V.ref.injEq,V.ty.injEq,av,ak,and_true,true_and,exists_eq_left',exists_and_left,exists_eq_left,decide_eq_true_eq,aA,aL,kK,qw,uX,AY,e,MU]
   exact⟨d,ks,m,hk,by rw[hw];exact h⟩
  |true=>
   obtain⟨i,rfl,i0,i1⟩:=oo hw
   rw[if_pos hw]at h
   simp only[j5,kc,kZ,jc,jv,jd,jq,pT,and_assoc,az,↓jE,↓jB,kL,L2.start,MW,ao,aB,ai,aq,ah,aD,aa,ae,V.int.injEq,V.bl.injEq,V.str.injEq,V.ref.injEq,V.ty.injEq,av,ak,and_true,true_and,exists_eq_left',exists_and_left,exists_eq_left,decide_eq_true_eq,aA,aL,kK,qw,uX,AY,e,MU,T.pR,T.kY,MV]
   refine⟨d,ks,m,aF,?_⟩
   rw[if_pos hw]
   by_cases z:i∈ks
   ·rw[if_pos (show iv (V.int i)∈ks from z)]
    have e2:vH (Hd ks) (bZ i)=some (.bl true):=by rw[IW,if_pos z]
    simp only[m.dc,e2,OY]
    exact h _ m.put λb o eb nb=>by rw[i_ nb];exact eb
   ·rw[if_neg (show¬iv (V.int i)∈ks from z)]
    refine h H ?_ λb o eb _=>eb
    rw[show Qw ks (iv (V.int i))=ks from Sm z]
    exact m
noncomputable def Kj:Sp:=λvs H Q _=>Y4 λ(v:V) (lp:Addr) (P:List (Option Int)) (t:Th)=>C6 (vs=[v,.ref lp]) (H lp=some (.lst (P.map tv))) (MQ H t v) ((∀n,t= .nu n-> -1000000000000<=n/\n<=1000000000000)) ((∀k,t= .ce k->∃a,P[k]? =some (some a)/\0<=a/\a<=9999)) (Q (.int (wd (λk=>P.getD k none) t)) H)
theorem J5:jf ["_law_thing_here","_law_places"] ["_law_thing_here","_law_places"] (ja AO):=fsc
theorem vB(T:Txt K mg A):jO P w K mg base (lV P w) true 6 A.qc A.sD ["_law_thing_here","_law_places"] Kj:=by
 refine T.qW.oZ J5 (λvs H Q E h=> ?_) (λcdv A' outer s H vs Q E hr hx h=> ?_)
 ·obtain⟨_,_,_,_,rfl,_⟩:=h
  rfl
 ·obtain⟨v,lp,Pl,t,rfl,ep,ht,h1,h2,q⟩:=h
  refine⟨_,nR.run (i3 (jH (jj Gg (i4 0) l9 (jK _)) (i6 (jh (mf T.sQ))) jx)
   (i3 (jH (jj mz (jN j7 (i4 0) i9 (λ_ _=>rfl)) jb (jK _)) (i6 (jh (i7 ((AE T).mono (by decide)) hr rfl T.rD T.s9.kp T.xi hx (iY (jN j7 (i4 0) i9 (λ_ _=>rfl)) iZ)))) jx)
   (i6 (jh (i7 ((xA T).mono (by decide)) hr rfl T.qY T.rA.kp T.vd hx (iY (jN j7 (i4 1) (jN j7 (i4 0) i9 (λ_ _=>rfl)) (λ_ _=>rfl)) iZ)))))),?_⟩
  cases t with
  |no=>
   cases ht
   simp only[kM,kN,kZ,jY,lu,tC,jd,QS,rd,bc,az,↓reduceIte,L2.start,ao,aB,ai,aq,ah,aD,aa,aA,aL,↓jS]
   exact q
  |nu n=>
   obtain⟨a,rfl,ea⟩:=ht
   simp only[kM,j5,kN,kZ,jY,lu,jc,jv,tC,jd,jm,zK,eqv,QS,rd,zL,az,↓reduceIte,decide_true,Cw,FJ,L2.start,ao,aB,ai,aq,ah,aD,aa,ae,aK,aA,aL,↓jS,ea]
   refine⟨_,rfl,aF,?_⟩
   have:=h1 n rfl
   rw[if_pos (E3 this.1 this.2)]
   exact q
  |ce k=>
   obtain⟨a,rfl,ea⟩:=ht
   obtain⟨b,eb,b0,b9⟩:=h2 k rfl
   have at1:yy (Pl.map tv) (k:Int)=some (.int b):=ko (by rw[aT,eb];rfl)
   simp only[kM,j5,kN,kZ,jY,lu,jc,jv,tC,jd,jm,zK,eqv,QS,rd,zL,fT,az,Bj,ft,↓reduceIte,decide_false,Cw,FJ,L2.start,ao,aB,ai,aq,ah,aD,aa,ae,aK,aA,aL,↓jS,ea,ep,at1]
   refine⟨_,rfl,aF,?_⟩
   rw[if_pos (E3 b0 b9)]
   have e:wd (λk=>Pl.getD k none) (.ce k)=2*b+1:=by show 2*(Pl.getD k none).getD 0+1=_;rw[au,eb];rfl
   rw[e]at q
   exact q
noncomputable def QD (A:Ad):Sp:=λvs H Q E=>∃p q ws v g,vs=[.ref p,v,g]/\kC A.jo H p q ws/\Kn H v/\Kn H g/\ws.length<=4000/\
 if wi g 0 8=true then(if wi v 0 (ws.length-1-iv g)=true then
   (∀H',kC A.jo H' p q (laid ws (iv v).toNat (iv g).toNat)->(∀b o,H b=some o->b≠q->H' b=some o)->Q .kG H')
  else E (.ref A.jV) none H) else E (.ref A.kf) none H
theorem Qz:jf ["memory","at","slots","place"] ["memory","at","slots"] (ja Qy):=fsc
theorem Ub(T:Txt K mg A):jO P w K mg base (lV P w) true 7 A.F2 A.Ik ["memory","at","slots"] (QD A):=by
 refine T.Mc.oZ Qz (λvs H Q E h=> ?_) (λcdv A' outer s H vs Q E hr hx h=> ?_)
 ·obtain⟨_,_,_,_,_,rfl,_⟩:=h
  rfl
 ·obtain⟨p,q,ws,v,g,rfl,h⟩:=h
  obtain⟨h,m,hk,hg,hl⟩:=Vo h
  refine⟨_,nR.run (i3 (ji (i7 ((BQ T).mono (by decide)) hr rfl T.tq T.uz.kp T.yG hx (iY (i4 2) iZ)))
   (i3 (jH (kI (jM (i7 ((Nt T).mono (by decide)) hr rfl T.F9 T.Fj.kp T.LZ hx (iY (i4 0) (iY (i4 1) (iY (i4 2) iZ)))) (λ_=>rfl))) (i6 (jX hx rfl T.uk T.uv rfl (iY jb iZ))) jx)
   (i3 (ji (jL (i4 0) T.jW T.mT ((nj T).mono (by decide)) hr T.mR hx (iY (i4 1) (iY (i7 ((Dx T).mono (by decide)) hr rfl T.uR T.vg.kp T.zY hx (iY (i4 2) (iY i9 iZ))) iZ))))
   (i6 (kT hx.own rfl (K8 rfl T.oX (iY (je j4 (i4 1) i9) (iY (je j4 (je j4 (i4 1) i9) (i4 2)) iZ))) (jR (i:=3) Qz.nd rfl lo)
    (i6 (ji (jL (i4 0) T.jW T.mT ((nj T).mono (by decide)) hr T.mR hx (iY (i4 3) (iY (mf T.sQ) iZ)))))))))),?_⟩
  obtain⟨dx,e⟩:=m.ob
  cases hg2:wi g 0 8 with
  |false=>
   refine uK (λ_ _=>False) (λR _=> ?_) (λ_ _ z=>z.elim)
   simp only[kc,jc,jv,jd,jm,az,bE,↓reduceIte,L2.start,ao,aB,ai,aq,ah,bq,bw,aa,ae,V.int.injEq,V.bl.injEq,V.str.injEq,V.ref.injEq,V.ty.injEq,av,ak,and_true,exists_eq_left',aK,bF,aA,rH,hg2]
   rw[hg2]at h
   exact⟨hg,h⟩
  |true=>
   obtain⟨j,rfl,j0,j1⟩:=oo hg2
   rw[if_pos hg2]at h
   refine jw (λσ' H'=>H=H'/\σ'=[some (V.ref p),some v,some (V.int j),none]) (λR hR=> ?_) ?_
   ·simp only[kc,jc,jv,jd,jm,az,bE,↓reduceIte,L2.start,ao,aB,ai,aq,ah,bq,bw,aa,ae,V.int.injEq,V.bl.injEq,V.str.injEq,V.ref.injEq,V.ty.injEq,av,ak,and_true,exists_eq_left',bF,aA,rH,hg2]
    exact⟨aF,hR _ _ ⟨rfl,rfl⟩⟩
   rintro Gq hGq _ _ ⟨rfl,rfl⟩
   subst hGq
   cases hw:wi v 0 (ws.length-1-j) with
   |false=>
    refine uK (λ_ _=>False) (λR _=> ?_) (λ_ _ z=>z.elim)
    simp only[j5,kZ,sR,jc,jv,tC,jd,jm,lH,pT,and_assoc,az,aS,ai,aq,aa,ae,V.int.injEq,V.bl.injEq,V.str.injEq,V.ref.injEq,V.ty.injEq,av,ak,and_true,true_and,exists_eq_left',exists_and_left,exists_eq_left,aA,DK,FD]
    rw[if_neg (by show¬(wi v 0 (ws.length-1-j)=true);rw[hw];intro z;cases z)]at h
    refine⟨q,ws,m,hk,?_⟩
    rw[hw];exact h
   |true=>
    obtain⟨i,rfl,i0,i1⟩:=oo hw
    rw[if_pos (show wi (V.int i) 0 (ws.length-1-iv (V.int j))=true from hw)]at h
    refine jw (λσ' H'=>H=H'/\σ'=[some (V.ref p),some (V.int i),some (V.int j),none]) (λR hR=> ?_) ?_
    ·simp only[j5,kZ,sR,jc,jv,tC,jd,jm,lH,pT,and_assoc,az,aS,ai,aq,aa,ae,V.int.injEq,V.bl.injEq,V.str.injEq,V.ref.injEq,V.ty.injEq,av,ak,and_true,true_and,exists_eq_left',exists_and_left,exists_eq_left,aA,DK,FD]
     refine⟨q,ws,m,aF,?_⟩
     rw[if_neg (by rw[hw];intro z;cases z)]
     exact hR _ _ ⟨rfl,rfl⟩
    rintro Gq hGq _ _ ⟨rfl,rfl⟩
    subst hGq
    simp only[kc,kN,lu,jc,jv,tC,jd,jm,qx,and_assoc,e_,bc,bD,mh,Py,↓jB,aa,ae,V.int.injEq,V.bl.injEq,V.str.injEq,V.ref.injEq,V.ty.injEq,av,ak,and_true,true_and,exists_eq_left',exists_and_left,uX,zA,e,Eb]
    refine⟨j0,j1,p,q,ws,_,_,rfl,m,aF,aF,?_⟩
    rw[if_pos (by simp[wi];lia),sN,if_neg (by lia),if_pos (by lia)]
    dsimp only
    refine⟨by lia,by lia,by lia,by lia,?_⟩
    rw[show(i+1+j-(i+1)).toNat=j.toNat by lia,show(iv (V.int i)).toNat=i.toNat from rfl,show iv (V.int (2*(4*j+0)))=8*(j.toNat:Int) by show 2*(4*j+0)=_;lia]
    refine lA.range (λt σ H'=>∃v3,σ=[some (.ref p),some (.int i),some (.int j),v3]/\kC A.jo H' p q (blank (ws.set i.toNat (8*(j.toNat:Int))) (i.toNat+1) t)/\(∀b o,H b=some o->b≠q->H' b=some o))
     ⟨_,rfl,m.put _ _,λb o eb nb=>by rw[i_ nb];exact eb⟩ ?_ ?_
    ·rintro t σ H1 ht ⟨v3,rfl,m1,b1⟩
     obtain⟨dy,e1⟩:=m1.ob
     simp only[kc,jc,jv,tC,jd,jG,bc,↓jB,aa,ae,ay,ax,V.int.injEq,V.bl.injEq,V.str.injEq,V.ref.injEq,V.ty.injEq,av,ak,and_true,true_and,exists_eq_left',uX,e1,Eb]
     refine⟨p,q,_,_,_,rfl,m1,aF,aF,?_⟩
     rw[if_pos (by rw[vJ,bf];simp[wi];lia),sN,if_pos rfl]
     dsimp only
     rw[show(iv (V.int (i+1+(t:Int)))).toNat=i.toNat+1+t by show(i+1+(t:Int)).toNat=_;lia]
     exact⟨m1.put _ _,λb o eb nb=>by rw[i_ nb];exact b1 b o eb nb⟩
    ·rintro σ H1 ⟨v3,rfl,m1,b1⟩
     rw[RK]at m1
     exact h _ m1 b1
noncomputable def sP (A:Ad):Sp:=λvs H Q E=>∃p q ws v,vs=[.ref p,v]/\kC A.jo H p q ws/\Kn H v/\jP ws/\
 if wi v 0 (ws.length-1)=true then(match lx ws (iv v).toNat with
  |some n=>Q (.int (n/4)) H
  |none=>E (.ref A.lX) none H) else E (.ref A.jV) none H
theorem Lz:jf ["memory","at"] ["memory","at"] (ja Ck):=fsc
theorem xb(T:Txt K mg A):jO P w K mg base (lV P w) true 7 A.rS A.ud ["memory","at"] (sP A):=by
 refine T.sL.oZ Lz (λvs H Q E h=> ?_) (λcdv A' outer s H vs Q E hr hx h=> ?_)
 ·obtain⟨_,_,_,_,rfl,_⟩:=h
  rfl
 ·obtain⟨p,q,ws,v,rfl,h⟩:=h
  obtain⟨h,m,hk,wo'⟩:=QQ h
  refine⟨_,nR.run (i6 (jh (je qj (i7 ((tH T).mono (by decide)) hr rfl T.n6 T.og.kp T.rp hx (iY (i4 0) (iY (i4 1) iZ))) i9))),?_⟩
  simp only[kM,lu,jc,jv,tC,jd,jm,wG,and_assoc,DS,bt,bu,az,L2.start,ao,aB,ai,aq,ah,aD,aa,ae,V.int.injEq,V.bl.injEq,V.str.injEq,V.ref.injEq,V.ty.injEq,av,ak,and_true,true_and,exists_eq_left',exists_and_left,aA,aL,qv]
  refine⟨q,ws,m,hk,wo',?_⟩
  cases hw:wi v 0 (ws.length-1)<;>simp only[hw,if_true,if_false,aK]at h⊢
  ·exact h
  ·cases hc:lx ws (iv v).toNat<;>rw[hc]at h<;>exact h
noncomputable def Eu (A:Ad):Sp:=λvs H Q E=>∃p q ws v,vs=[.ref p,v]/\kC A.jo H p q ws/\Kn H v/\jP ws/\
 if wi v 0 (ws.length-1)=true then(match lx ws (iv v).toNat with
  |some n=>Q (.int (n%4)) H
  |none=>E (.ref A.lX) none H) else E (.ref A.jV) none H
theorem OD:jf ["memory","at"] ["memory","at"] (ja GN):=fsc
theorem IB(T:Txt K mg A):jO P w K mg base (lV P w) true 7 A.vU A.xX ["memory","at"] (Eu A):=by
 refine T.Ba.oZ OD (λvs H Q E h=> ?_) (λcdv A' outer s H vs Q E hr hx h=> ?_)
 ·obtain⟨_,_,_,_,rfl,_⟩:=h
  rfl
 ·obtain⟨p,q,ws,v,rfl,h⟩:=h
  obtain⟨h,m,hk,wo'⟩:=QQ h
  refine⟨_,nR.run (i6 (jh (je mW (i7 ((tH T).mono (by decide)) hr rfl T.n6 T.og.kp T.rp hx (iY (i4 0) (iY (i4 1) iZ))) i9))),?_⟩
  simp only[kM,lu,jc,jv,tC,jd,jm,xU,and_assoc,bt,bu,az,L2.start,ao,aB,ai,aq,ah,aD,aa,ae,V.int.injEq,V.bl.injEq,V.str.injEq,V.ref.injEq,V.ty.injEq,av,ak,and_true,true_and,exists_eq_left',exists_and_left,aA,aL,qv]
  refine⟨q,ws,m,hk,wo',?_⟩
  cases hw:wi v 0 (ws.length-1)<;>simp only[hw,if_true,if_false,aK]at h⊢
  ·exact h
  ·cases hc:lx ws (iv v).toNat<;>rw[hc]at h<;>exact h
noncomputable def NJ (A:Ad):Sp:=λvs H Q E=>∃p q ws v g,vs=[.ref p,v,g]/\kC A.jo H p q ws/\Kn H v/\Kn H g/\jP ws/\
 if wi v 0 (ws.length-1)=true then(match lx ws (iv v).toNat with
  |some _=>if wi g 0 9999=true then Q .kG (upd H q (.lst ((ws.set (iv v).toNat (2*iv g+1)).map V.int))) else E (.ref A.jV) none H
  |none=>E (.ref A.lX) none H) else E (.ref A.jV) none H
theorem Sr:jf ["memory","at","goal"] ["memory","at","goal"] (ja MB):=fsc
theorem RR(T:Txt K mg A):jO P w K mg base (lV P w) true 7 A.B5 A.D4 ["memory","at","goal"] (NJ A):=by
 refine T.Jc.oZ Sr (λvs H Q E h=> ?_) (λcdv A' outer s H vs Q E hr hx h=> ?_)
 ·obtain⟨_,_,_,_,_,rfl,_⟩:=h
  rfl
 ·obtain⟨p,q,ws,v,g,rfl,h⟩:=h
  obtain⟨h,m,hk,hg,wo'⟩:=Vo h
  refine⟨_,nR.run (i3 (ji (i7 ((tH T).mono (by decide)) hr rfl T.n6 T.og.kp T.rp hx (iY (i4 0) (iY (i4 1) iZ))))
   (i6 (ji (jL (i4 0) T.jW T.mT ((nj T).mono (by decide)) hr T.mR hx (iY (i4 1) (iY (i7 ((xA T).mono (by decide)) hr rfl T.qY T.rA.kp T.vd hx (iY (i4 2) iZ)) iZ)))))),?_⟩
  obtain⟨dx,e⟩:=m.ob
  simp only[kc,kN,jc,jv,jd,jm,and_assoc,az,↓jB,L2.start,ao,aB,ai,aq,ah,aD,aa,ae,V.int.injEq,V.bl.injEq,V.str.injEq,V.ref.injEq,V.ty.injEq,av,ak,and_true,true_and,exists_eq_left',exists_and_left,aA,aL,uX,qv,xQ,e,Eb]
  refine⟨q,ws,m,hk,wo',?_⟩
  cases hw:wi v 0 (ws.length-1)<;>simp only[hw,if_true,if_false,aK]at h⊢
  ·exact h
  ·cases hc:lx ws (iv v).toNat<;>rw[hc]at h<;>simp only at h⊢
   ·exact h
   ·refine⟨hg,?_⟩
    cases hg2:wi g 0 9999<;>simp only[hg2,if_true,if_false,aK,bJ]at h⊢
    ·exact h
    ·obtain⟨j,rfl,j0,j1⟩:=oo hg2
     refine⟨p,q,ws,v,_,rfl,m,hk,aF,?_⟩
     rw[if_pos hw,sN,if_neg (by show¬(2*j+1= -1);lia),if_neg (by show¬((2*j+1)%2=0/\_);omega),if_pos (by show(2*j+1)%2=1/\1<=2*j+1/\2*j+1<=19999;lia)]
     exact h
noncomputable def zC (A:Ad):Sp:=λvs H Q E=>∃p q ws v,vs=[.ref p,v]/\kC A.jo H p q ws/\Kn H v/\jP ws/\
 if wi v 0 (ws.length-1)=true then(if rh (ws.getD (iv v).toNat 0)=true then Q (.int (ws.getD (iv v).toNat 0/2)) H else match lx ws (iv v).toNat with
  |some _=>Q .kG H
  |none=>E (.ref A.lX) none H) else E (.ref A.jV) none H
theorem GW:jf ["memory","at","word"] ["memory","at"] (ja Ek):=fsc
theorem GG(T:Txt K mg A):jO P w K mg base (lV P w) true 7 A.uh A.vM ["memory","at"] (zC A):=by
 refine T.yP.oZ GW (λvs H Q E h=> ?_) (λcdv A' outer s H vs Q E hr hx h=> ?_)
 ·obtain⟨_,_,_,_,rfl,_⟩:=h
  rfl
 ·obtain⟨p,q,ws,v,rfl,h⟩:=h
  obtain⟨h,m,hk,wo'⟩:=QQ h
  refine⟨_,nR.run (i3 (jA (i:=2) GW.nd rfl lo (jL (i4 0) T.jW T.pJ ((qr T).mono (by decide)) hr T.o_ hx (iY (i4 1) iZ)))
   (i3 (jH (jj mz (i7 ((y6 T).mono (by decide)) hr rfl T.xp T.vj.kp T.z3 hx (iY (i4 2) iZ)) jb (jK _)) (i6 (jh (i7 ((yn T).mono (by decide)) hr rfl T.vq T.uQ.kp T.yH hx (iY (i4 2) iZ)))) jx)
   (i3 (ji (i7 ((tH T).mono (by decide)) hr rfl T.n6 T.og.kp T.rp hx (iY (i4 0) (iY (i4 1) iZ))))
   (i6 (jh l9))))),?_⟩
  obtain⟨dx,e⟩:=m.ob
  simp only[kM,j5,kc,kN,kZ,jY,lu,jc,jv,tC,jd,kB,jG,jm,zK,eqv,and_assoc,az,bE,↓jB,L2.start,ao,aB,ai,aq,ah,bq,bw,aa,ae,ay,ax,V.int.injEq,V.bl.injEq,V.str.injEq,V.ref.injEq,V.ty.injEq,av,ak,and_true,true_and,exists_eq_left',exists_and_left,decide_eq_true_eq,bF,aA,↓jS,uX,wB,uM,yq,qv,e,Gx]
  refine⟨q,ws,m,hk,?_⟩
  cases hw:wi v 0 (ws.length-1)<;>simp only[hw,if_true,if_false,aK]at h⊢
  ·exact h
  ·obtain⟨i,rfl,h0,h1⟩:=oo hw
   obtain⟨x,hx'⟩:=Jt wo' (show(iv (.int i)).toNat<ws.length by show i.toNat<_;omega)
   have hc:∀z,(match lx ws (iv (V.int i)).toNat with|some _=>Q .kG H|none=>E (.ref A.lX) none H)=z->(match lx ws (iv (V.int i)).toNat with|some _=>Q .kG H|none=>E (.ref A.lX) none H)=z:=λ_ e=>e
   generalize hW:ws.getD (iv (V.int i)).toNat 0=W at*
   refine⟨aF,?_⟩
   rw[hx']
   dsimp only
   rcases K_ hx' with ⟨rfl,c⟩|⟨rfl,c⟩|⟨rfl,c⟩
   ·rw[if_neg (by simp only[rh,decide_eq_true_eq];lia)]at h
    rw[if_neg Xe]
    refine⟨q,ws,m,hk,wo',?_⟩
    rw[if_pos hw]
    exact h
   ·rw[if_neg (by simp only[rh,decide_eq_true_eq];lia)]at h
    rw[if_neg Xd]
    refine⟨q,ws,m,hk,wo',?_⟩
    rw[if_pos hw]
    exact h
   ·rw[if_pos (by simp only[rh,decide_eq_true_eq];lia)]at h
    rw[if_pos rfl,QL (by lia)]
    exact⟨aF,h⟩
noncomputable def LI (A:Ad):Sp:=λvs H Q _=>XM λ(x:Ax) (u:Ow) (ow:Own) (M:Mem) (O Y:List (Nat×Int)) (k j:Nat) (a:Int) (t:Th) (v:V)=>C9 (vs=[.ref u.d,.int k,.int j,v]) (Wx A H x M) (lW H x u ow) (In ow M O Y) (((k,a)∈O∨(k,a)∈Y)) (j<(ow.s k).length) (MQ H t v) (Gd ow t) (∀(H':Hp) (ks:List Int),Wx A H' x {M with ws:=M.ws.set (a+1+(j:Int)).toNat (wd ow.p t),ks:=ks}->lW H' x u (ow.put k j t)->ks.Nodup->(∀q,q∈ks↔(q∈M.ks/\q≠a+1+(j:Int))∨(q=a+1+(j:Int)/\ow.g k=2/\QT ow t=true))->(∀b v,H b=some v->Oq v=true->b≠x.q->b≠x.d->b∉u.rs->H' b=some v)->Q .kG H')
theorem E1:jf ["_law_own","_law_k","_law_slot","_law_thing_here","_law_at_here"] ["_law_own","_law_k","_law_slot","_law_thing_here"] (ja Cf):=fsc
theorem Lk(T:Txt K mg A):jO P w K mg base (lV P w) true 7 A.rO A.t_ ["_law_own","_law_k","_law_slot","_law_thing_here"] (LI A):=by
 refine T.Ah.oZ E1 (λvs H Q E h=> ?_) (λcdv A' outer s H vs Q E hr hx h=> ?_)
 ·obtain⟨_,_,_,_,_,_,_,_,_,_,_,rfl,_⟩:=h
  rfl
 ·obtain⟨x,u,ow,M,O,Y,k,j,a,t,v,rfl,h,o,I,m,hj,tV,gd,q⟩:=h
  refine⟨_,nR.run (i3 (jA (i:=4) E1.nd rfl lo (je j4 (je j4 (jN j7 (jr (by exact jT hr) (i4 0) jb (λ_ _=>rfl)) (i4 1) (λ_ _=>rfl)) i9) (i4 2)))
   (i3 (rG (i4 3) (rF (jN j7 (jr (by exact jT hr) (i4 0) jb (λ_ _=>rfl)) (i4 1) (λ_ _=>rfl)) (i4 2) uC))
   (i3 (ji (jL (jg (jr (by exact jT hr) (i4 0) jb (λ_ _=>rfl)) rfl) T.jW T.mT ((nj T).mono (by decide)) hr T.mR hx (iY (i4 4) (iY (i7 ((vB T).mono (by decide)) hr rfl T.qh T.qW.kp T.uN hx (iY (i4 3) (iY (jr (by exact jT hr) (i4 0) jb (λ_ _=>rfl)) iZ))) iZ))))
   (i6 (jH (oV (qm (jj mz (jN j7 (jr (by exact jT hr) (i4 0) jb (λ_ _=>rfl)) (i4 1) (λ_ _=>rfl)) i9 (jK _)) (qm (jj yc (i4 3) l9 (jK _)) (qm (jj mz (jN j7 (i4 3) i9 (λ_ _=>rfl)) jb (jK _)) (um (jj xr (jN j7 (jr (by exact jT hr) (i4 0) jb (λ_ _=>rfl)) (jN j7 (i4 3) i9 (λ_ _=>rfl)) (λ_ _=>rfl)) i9 (jK _))))))) (i6 (ji (jL (jg (jr (by exact jT hr) (i4 0) jb (λ_ _=>rfl)) rfl) T.pR T.yY ((BM T).mono (by decide)) hr T.yC hx (iY (i4 4) iZ)))) (i6 (ji (jL (jg (jr (by exact jT hr) (i4 0) jb (λ_ _=>rfl)) rfl) T.pR T.Gr ((Lj T).mono (by decide)) hr T.FN hx (iY (i4 4) iZ))))))))),?_⟩
  show kN _ _ _ [some (V.ref u.d),some (V.int k),some (V.int j),some v,none] H
  obtain⟨p1,p2,p3,p4⟩:=I.pl m
  have ez:ow.z k=(ow.s k).length+1:=rfl
  have at1:yy (ow.P.map tv) (k:Int)=some (.int a):=ko (by rw[aT,Own.R6 p2];rfl)
  obtain⟨ra,rv,r1,r2,r3,r4⟩:=o.OH (k:=k) (by rw[I.ls];exact p1)
  refine jw (λσ' H'=>σ'=[some (V.ref u.d),some (V.int k),some (V.int j),some v,some (V.int (a+1+j))]/\H=H') (λR hR=> ?_) ?_
  ·simp only[lu,tC,jd,kB,jG,qx,zL,jZ,kL,aa,ae,ay,ax,o.dc,tI,o.pl,at1]
   exact hR _ _ ⟨rfl,rfl⟩
  rintro Gq hGq _ _ ⟨rfl,rfl⟩
  subst hGq
  have ix:Jm rv.length (j:Int)=some j:=Aq (by lia) (by rw[r4.l];lia)
  refine jw (λσ' H'=>σ'=[some (V.ref u.d),some (V.int k),some (V.int j),some v,some (V.int (a+1+j))]/\H'=upd H ra (.lst (rv.set j v))) (λR hR=> ?_) ?_
  ·simp only[lu,tC,jd,kB,zL,xV,jZ,kL,E8,aa,ae,o.dc,BR,o.sl,ko r2,r3,ix]
   exact hR _ _ ⟨rfl,rfl⟩
  rintro Gq hGq _ _ ⟨rfl,rfl⟩
  subst hGq
  have o1:=o.sset r1 r3 r4 (j:=j) tV
  have mra:ra∈u.rs:=bW r1
  have nr:=o.ne ra (by simp[Ow.as,mra])
  have w1:Wx A (upd H ra (.lst (rv.set j v))) x M:=h.row r3 nr.1 nr.2.1 nr.2.2
  have t1:=tV.upd (ys:=rv.set j v) r3
  have k1:Kx [ra] H (upd H ra (.lst (rv.set j v))):=NO
  generalize upd H ra (.lst (rv.set j v))=H1 at*
  obtain⟨da,ea⟩:=w1.ar.ob
  obtain⟨dm,em⟩:=w1.ar.mem.ob
  have gw:=I.WK gd
  have l2:=I.fr.l2
  obtain⟨y,eyk⟩:=Option.isSome_iff_exists.mp (Nk I gd ow.p (I.pb gd))
  refine jw (λσ' H'=>σ'=[some (V.ref u.d),some (V.int k),some (V.int j),some v,some (V.int (a+1+j))]/\H'=upd H1 x.q (.lst ((M.ws.set (a+1+(j:Int)).toNat (wd ow.p t)).map V.int))) (λR hR=> ?_) ?_
  ·simp only[kc,jc,jv,tC,jd,jm,jq,↓jE,↓jB,jZ,kL,aa,ae,and_true,true_and,kK,qw,uX,o1.dc,GI,tI,ea,T.jF,T.jC,tT,em,Eb]
   refine⟨v,u.lp,ow.P,t,rfl,o1.pl,t1,gw.1,gw.2,⟨x.m,x.q,M.ws,V.int (a+1+j),_,rfl,w1.ar.mem,aF,aF,?_⟩⟩
   rw[if_pos (E3 (by lia) (by lia)),show wd (λk=>ow.P.getD k none) t=wd ow.p t from rfl,eyk]
   exact hR _ _ ⟨rfl,rfl⟩
  rintro Gq hGq _ _ ⟨rfl,rfl⟩
  subst hGq
  have m2:=w1.ar.mem.put (a+1+(j:Int)).toNat (wd ow.p t)
  have f2:∀b v,H1 b=some v->b≠x.q->upd H1 x.q (.lst ((M.ws.set (a+1+(j:Int)).toNat (wd ow.p t)).map V.int)) b=some v:=λb v e n=>by rw[i_ n];exact e
  have w2:Wx A (upd H1 x.q (.lst ((M.ws.set (a+1+(j:Int)).toNat (wd ow.p t)).map V.int))) x {M with ws:=M.ws.set (a+1+(j:Int)).toNat (wd ow.p t)}:=w1.IU (w1.ar.wr m2 f2) λb v e n _ _=>f2 b v e n
  have o2:=o1.go w1 (H':=upd H1 x.q (.lst ((M.ws.set (a+1+(j:Int)).toNat (wd ow.p t)).map V.int))) λb v e k n=>f2 b v e λz=>n (by rw[z];simp)
  have t2:=t1.upd (ys:=(M.ws.set (a+1+(j:Int)).toNat (wd ow.p t)).map V.int) w1.ar.mem.ls
  generalize upd H1 x.q (.lst ((M.ws.set (a+1+(j:Int)).toNat (wd ow.p t)).map V.int))=H2 at*
  obtain⟨dr,er⟩:=w2.ro
  obtain⟨db,eb⟩:=w2.bk.ob
  have pb:wi (V.int (a+1+j)) 0 9999=true:=E3 (by lia) (by lia)
  have yes:ow.g k=2/\QT ow t=true->Q .kG (upd H2 x.d (.dK (Hd (N7 M.ks (a+1+j))))):=λc=>by
   have b3:=w2.bk.put (ks':=N7 M.ks (a+1+j))
   have f3:∀b v,H2 b=some v->b≠x.d->upd H2 x.d (.dK (Hd (N7 M.ks (a+1+j)))) b=some v:=λb v e n=>by rw[i_ n];exact e
   refine q _ _ (w2.book b3 w2.n4 λb v e _ n=>f3 b v e n) (o2.go w2 λb v e k n=>f3 b v e λz=>n (by rw[z];simp)) (Pz I.kn) (λq=> ?_) λb v e k b1 b2 b3=>f3 b v (f2 b v (k1 b v e k λz=>b3 (by rw[List.mem_singleton.mp z];exact mra)) b1) b2
   rw[Ng]
   by_cases z:q=a+1+j
   ·exact⟨λ_=> .inr ⟨z,c⟩,λ_=> .inr z⟩
   ·exact⟨λy=> .inl ⟨y.resolve_right z,z⟩,λy=>y.elim (λy=> .inl y.1) λy=> .inr y.1⟩
  have no:¬(ow.g k=2/\QT ow t=true)->∀H',va A.kh H' x.b x.d (Qw M.ks (a+1+j))->(∀b o,H2 b=some o->b≠x.d->H' b=some o)->Q .kG H':=λc H' b3 f3=>by
   refine q _ _ (w2.book b3 w2.n4 λb v e _ n=>f3 b v e n) (o2.go w2 λb v e k n=>f3 b v e λz=>n (by rw[z];simp)) (fb _ I.kn) (λq=> ?_) λb v e k b1 b2 b3=>f3 b v (f2 b v (k1 b v e k λz=>b3 (by rw[List.mem_singleton.mp z];exact mra)) b1) b2
   unfold Qw
   rw[iO,decide_eq_true_eq]
   exact⟨.inl,λy=>y.elim id λy=>absurd y.2 c⟩
  have at2:yy (ow.G.map V.int) (k:Int)=some (.int (ow.g k)):=ko (Own.E9 p1)
  have U6:=I.U6
  have ag2:H2 u.la=some (.lst (ow.G.map V.int)):=o2.ag
  by_cases c:ow.g k=2/\QT ow t=true
  ·refine Jj (λK1 hK=> ?_) ?_
   ·cases t with
    |no=>cases c.2
    |nu n=>cases c.2
    |ce i=>
     obtain⟨b,rfl,e⟩:=t2
     have gi:ow.g i<2:=of_decide_eq_true c.2
     simp only[jY,lu,A5,tC,jd,LS,tR,zK,eqv,sV,rd,zL,↓reduceIte,dM,decide_true,jZ,kL,Cw,FJ,aa,ae,↓jS,o2.dc,qt,ag2,at2,c.1,e,show yy (ow.G.map V.int) (i:Int)=some (.int (ow.g i)) from ko (Own.E9 gd.1),gi]
     exact hK
   ·simp only[kc,jc,jv,tC,jd,jq,↓jE,↓jB,jZ,kL,aa,ae,and_true,true_and,kK,qw,uX,o2.dc,Ln,er,T.my,T.mK,JN,eb,Ib]
    refine⟨x.b,x.d,M.ks,_,rfl,w2.bk,aF,by lia,?_⟩
    rw[if_pos pb]
    exact yes c
  ·refine Io (λK1 hK=> ?_) ?_
   ·by_cases ck:ow.g k=2
    ·cases t with
     |no=>
      cases t2
      simp only[jY,lu,A5,tC,jd,zK,eqv,sV,rd,zL,↓reduceIte,dG,decide_true,jZ,kL,aa,ae,aK,↓jS,o2.dc,qt,ag2,at2,ck]
      exact hK
     |nu n=>
      obtain⟨b,rfl,e⟩:=t2
      simp only[jY,lu,A5,tC,jd,zK,eqv,sV,rd,zL,fT,Bj,ft,↓reduceIte,dM,decide_true,decide_false,jZ,kL,Cw,aa,ae,aK,↓jS,o2.dc,qt,ag2,at2,ck,e]
      exact hK
     |ce i=>
      obtain⟨b,rfl,e⟩:=t2
      have gi:¬ow.g i<2:=λz=>c ⟨ck,decide_eq_true z⟩
      simp only[jY,lu,A5,tC,jd,LS,tR,zK,eqv,sV,rd,zL,↓reduceIte,dM,decide_true,decide_false,jZ,kL,Cw,FJ,aa,ae,↓jS,o2.dc,qt,ag2,at2,ck,e,show yy (ow.G.map V.int) (i:Int)=some (.int (ow.g i)) from ko (Own.E9 gd.1),gi]
      exact hK
    ·simp only[jY,lu,A5,tC,jd,zK,eqv,zL,↓reduceIte,decide_false,jZ,kL,aa,ae,aK,↓jS,o2.dc,qt,ag2,at2,ck]
     exact hK
   ·simp only[kc,jc,jv,tC,jd,jq,↓jE,↓jB,jZ,kL,aa,ae,and_true,true_and,kK,qw,uX,o2.dc,Ln,er,T.my,T.mK,JN,eb,Q6]
    refine⟨x.b,x.d,M.ks,_,rfl,w2.bk,aF,?_⟩
    rw[if_pos pb]
    exact λH' b3 f3=>no c H' b3 f3
noncomputable def Kg (A:Ad):Sp:=λvs H Q _=>Y9 λ(x:Ax) (u:Ow) (ow:Own) (M:Mem) (O Y:List (Nat×Int)) (j:Nat) (t:Th) (v:V)=>C8 (vs=[.ref u.d,.int j,v]) (Wx A H x M) (lW H x u ow) (In ow M O Y) (j<ow.D.length) (MQ H t v) (Gd ow t) (∀(H':Hp),Wx A H' x {M with hw:=M.hw.set j (wd ow.p t)}->lW H' x u {ow with D:=ow.D.set j t}->Kx [x.g,u.lh] H H'->Q .kG H')
theorem J4:jf ["_law_own","_law_hand","_law_thing_here"] ["_law_own","_law_hand","_law_thing_here"] (ja AM):=fsc
theorem JF(T:Txt K mg A):jO P w K mg base (lV P w) true 7 A.pZ A.sv ["_law_own","_law_hand","_law_thing_here"] (Kg A):=by
 refine T.yM.oZ J4 (λvs H Q E h=> ?_) (λcdv A' outer s H vs Q E hr hx h=> ?_)
 ·obtain⟨_,_,_,_,_,_,_,_,_,rfl,_⟩:=h
  rfl
 ·obtain⟨x,u,ow,M,O,Y,j,t,v,rfl,h,o,I,hj,tV,gd,q⟩:=h
  refine⟨_,nR.run (i3 (rG (i4 2) (rF (jr (by exact jT hr) (i4 0) jb (λ_ _=>rfl)) (i4 1) uC))
   (i6 (ji (jL (jg (jr (by exact jT hr) (i4 0) jb (λ_ _=>rfl)) rfl) T.rz T.Aw ((Dt T).mono (by decide)) hr T.zU hx (iY (i4 1) (iY (i7 ((vB T).mono (by decide)) hr rfl T.qh T.qW.kp T.uN hx (iY (i4 2) (iY (jr (by exact jT hr) (i4 0) jb (λ_ _=>rfl)) iZ))) iZ)))))),?_⟩
  show kN _ _ _ [some (V.ref u.d),some (V.int j),some v] H
  obtain⟨vh,eh,th⟩:=o.hd
  have ix:Jm vh.length (j:Int)=some j:=Aq (by lia) (by rw[th.l];lia)
  refine jw (λσ' H'=>σ'=[some (V.ref u.d),some (V.int j),some v]/\H'=upd H u.lh (.lst (vh.set j v))) (λR hR=> ?_) ?_
  ·simp only[tC,jd,kB,xV,jZ,kL,E8,aa,ae,o.dc,P2,eh,ix]
   exact hR _ _ ⟨rfl,rfl⟩
  rintro Gq hGq _ _ ⟨rfl,rfl⟩
  subst hGq
  have o1:=o.W6 eh th (j:=j) tV
  have nh:=o.ne u.lh (by simp[Ow.as])
  have w1:Wx A (upd H u.lh (.lst (vh.set j v))) x M:=h.row eh nh.1 nh.2.1 nh.2.2
  have t1:=tV.upd (ys:=vh.set j v) eh
  have k1:Kx [x.g,u.lh] H (upd H u.lh (.lst (vh.set j v))):=NO.mono λb hb=>aP _ hb
  generalize upd H u.lh (.lst (vh.set j v))=H1 at*
  obtain⟨dr,er⟩:=w1.ro
  obtain⟨dh,eh1⟩:=w1.hd.ob
  have gw:=I.WK gd
  have hl:M.hw.length=ow.D.length:=by rw[I.hd,aj]
  simp only[kc,jc,jv,tC,jd,jm,jq,↓jE,↓jB,jZ,kL,aa,ae,and_true,true_and,kK,qw,uX,o1.dc,Ln,tI,er,T.my,T.l_,JP,eh1,Nc]
  refine⟨v,u.lp,ow.P,t,rfl,o1.pl,t1,gw.1,gw.2,⟨x.h,x.g,M.hw,V.int j,_,rfl,w1.hd,aF,aF,?_⟩⟩
  rw[if_pos (E3 (by lia) (by rw[hl];lia))]
  obtain⟨y,ey⟩:=Option.isSome_iff_exists.mp (Nk I gd ow.p (I.pb gd))
  rw[show wd (λk=>ow.P.getD k none) t=wd ow.p t from rfl,ey]
  dsimp only
  have hd6:=w1.hd.put j (wd ow.p t)
  have f6:∀b v,H1 b=some v->b≠x.g->upd H1 x.g (.lst ((M.hw.set j (wd ow.p t)).map V.int)) b=some v:=λb v e n=>by rw[i_ n];exact e
  exact q _ (w1.hand hd6 f6) (o1.go w1 λb v e k n=>f6 b v e λz=>n (by rw[z];simp)) λb v e k n=>f6 b v (k1 b v e k n) λz=>n (by rw[z];simp)
noncomputable def E2 (A:Ad):Sp:=λvs H Q E=>∃p q ws v,vs=[.ref p,v]/\kC A.jo H p q ws/\Kn H v/\jP ws/\
 if wi v 0 (ws.length-1)=true then(match lx ws (iv v).toNat with
  |some n=>Q (.int (n/4+1)) H
  |none=>E (.ref A.lX) none H) else E (.ref A.jV) none H
theorem LD:jf ["memory","at"] ["memory","at"] (ja Cn):=fsc
theorem EV(T:Txt K mg A):jO P w K mg base (lV P w) true 8 A.rT A.ue ["memory","at"] (E2 A):=by
 refine T.wJ.oZ LD (λvs H Q E h=> ?_) (λcdv A' outer s H vs Q E hr hx h=> ?_)
 ·obtain⟨_,_,_,_,rfl,_⟩:=h
  rfl
 ·obtain⟨p,q,ws,v,rfl,h⟩:=h
  obtain⟨h,m,hk,wo'⟩:=QQ h
  refine⟨_,nR.run (i6 (jh (je j4 (i7 ((xb T).mono (by decide)) hr rfl T.rX T.sL.kp T.vS hx (iY (i4 0) (iY (i4 1) iZ))) i9))),?_⟩
  simp only[kM,lu,jc,jv,tC,jd,jm,qx,and_assoc,az,L2.start,ao,aB,ai,aq,ah,aD,aa,ae,V.int.injEq,V.bl.injEq,V.str.injEq,V.ref.injEq,V.ty.injEq,av,ak,and_true,exists_eq_left',exists_and_left,aA,aL,sP]
  refine⟨q,ws,m,hk,wo',?_⟩
  cases hw:wi v 0 (ws.length-1)<;>simp only[hw,if_true,if_false,aK]at h⊢
  ·exact h
  ·cases hc:lx ws (iv v).toNat<;>rw[hc]at h<;>exact h
noncomputable def Kk (A:Ad):Sp:=λvs H Q E=>∃p q ws v g,vs=[.ref p,v,g]/\kC A.jo H p q ws/\Kn H v/\Kn H g/\jP ws/\
 if wi v 0 (ws.length-1)=true then(match lx ws (iv v).toNat with
  |some n=>if wi g 0 2=true then Q .kG (upd H q (.lst ((ws.set (iv v).toNat (2*(4*(n/4)+iv g))).map V.int))) else E (.ref A.kf) none H
  |none=>E (.ref A.lX) none H) else E (.ref A.jV) none H
theorem NC:jf ["memory","at","age","slots"] ["memory","at","age"] (ja Mx):=fsc
theorem JK(T:Txt K mg A):jO P w K mg base (lV P w) true 8 A.B1 A.D0 ["memory","at","age"] (Kk A):=by
 refine T.CY.oZ NC (λvs H Q E h=> ?_) (λcdv A' outer s H vs Q E hr hx h=> ?_)
 ·obtain⟨_,_,_,_,_,rfl,_⟩:=h
  rfl
 ·obtain⟨p,q,ws,v,g,rfl,h⟩:=h
  obtain⟨h,m,hk,hg,wo'⟩:=Vo h
  refine⟨_,nR.run (i3 (jA (i:=3) NC.nd rfl lo (i7 ((xb T).mono (by decide)) hr rfl T.rX T.sL.kp T.vS hx (iY (i4 0) (iY (i4 1) iZ))))
   (i3 (jH (kI (jM (i7 ((kj T).mono (by decide)) hr rfl T.j9 T.j3.kp T.ky hx (iY (i4 2) (iY i9 (iY (mf T.r6) iZ)))) (λ_=>rfl))) (i6 (jX hx rfl T.mv T.mx rfl (iY jb iZ))) jx)
   (i6 (ji (jL (i4 0) T.jW T.mT ((nj T).mono (by decide)) hr T.mR hx (iY (i4 1) (iY (i7 ((Dx T).mono (by decide)) hr rfl T.uR T.vg.kp T.zY hx (iY (i4 3) (iY (i4 2) iZ))) iZ))))))),?_⟩
  obtain⟨dx,e⟩:=m.ob
  simp only[j5,kc,kN,kZ,sR,jc,jv,tC,jd,kB,jG,jm,lH,pT,and_assoc,az,bE,aS,↓jB,L2.start,ao,aB,ai,aq,ah,bq,bw,aa,ae,ay,ax,V.int.injEq,V.bl.injEq,V.str.injEq,V.ref.injEq,V.ty.injEq,av,ak,and_true,true_and,exists_eq_left',exists_and_left,exists_eq_left,bF,aA,DK,uX,sP,jU,zA,e,Eb]
  refine⟨q,ws,m,hk,wo',?_⟩
  cases hw:wi v 0 (ws.length-1)<;>simp only[hw,if_true,if_false,aK]at h⊢
  ·exact h
  ·cases hc:lx ws (iv v).toNat<;>rw[hc]at h<;>simp only at h⊢
   ·exact h
   ·refine⟨hg,?_⟩
    cases hg2:wi g 0 2<;>simp only[hg2,if_true,if_false,aK,bJ]at h⊢
    ·exact h
    ·obtain⟨j,rfl,j0,j1⟩:=oo hg2
     obtain⟨c1,c2,c3,c4,c5⟩:=CM hc
     refine⟨j,rfl,by lia,by lia,j0,j1,p,q,ws,v,_,rfl,m,hk,aF,?_⟩
     rw[if_pos hw,sN,if_neg (by lia),if_pos (by lia)]
     exact h
noncomputable def Er (i n:Int):List Int:=(bG (n/4).toNat).map λt:Nat=>i+1+(t:Int)
noncomputable def G8 (A:Ad):Sp:=λvs H Q E=>∃p q ws v,vs=[.ref p,v]/\kC A.jo H p q ws/\Kn H v/\jP ws/\ws.length<=4000/\
 if wi v 0 (ws.length-1)=true then(match lx ws (iv v).toNat with
  |some n=>∀l,H l=none->Q (.ref l) (upd H l (.lst ((Er (iv v) n).map V.int)))
  |none=>E (.ref A.lX) none H) else E (.ref A.jV) none H
theorem AW:jf ["memory","at","slots"] ["memory","at"] (ja xM):=fsc
theorem AF(T:Txt K mg A):jO P w K mg base (lV P w) true 8 A.nY A.pG ["memory","at"] (G8 A):=by
 refine T.s_.oZ AW (λvs H Q E h=> ?_) (λcdv A' outer s H vs Q E hr hx h=> ?_)
 ·obtain⟨_,_,_,_,rfl,_⟩:=h
  rfl
 ·obtain⟨p,q,ws,v,rfl,h⟩:=h
  obtain⟨h,m,hk,wo',hl⟩:=Vo h
  refine⟨_,nR.run (i3 (jA (i:=2) AW.nd rfl lo (i7 ((xb T).mono (by decide)) hr rfl T.rX T.sL.kp T.vS hx (iY (i4 0) (iY (i4 1) iZ))))
   (i6 (jh (Ml (by rfl) rfl T.Ec rfl T.oX (iY (je j4 (i4 1) i9) (iY (je j4 (je j4 (i4 1) i9) (i4 2)) iZ)))))),?_⟩
  cases hw:wi v 0 (ws.length-1) with
  |false=>
   simp only[kM,kN,lu,jc,jv,tC,jd,kB,jG,jm,qx,and_assoc,bc,bD,az,bE,L2.start,FV,ao,aB,ai,aq,ah,bq,bw,aa,ae,ay,ax,V.int.injEq,V.bl.injEq,V.str.injEq,V.ref.injEq,V.ty.injEq,av,ak,and_true,exists_eq_left',exists_and_left,and_false,bF,aA,sP]
   rw[hw]at h
   exact⟨q,ws,m,hk,wo',by rw[hw];exact h⟩
  |true=>
   obtain⟨i,rfl,i0,i1⟩:=oo hw
   rw[if_pos hw]at h
   cases hc:lx ws (iv (V.int i)).toNat with
   |none=>
    rw[hc]at h
    simp only[kM,kN,lu,jc,jv,tC,jd,kB,jG,jm,qx,and_assoc,bc,bD,az,bE,L2.start,FV,ao,aB,ai,aq,ah,bq,bw,aa,ae,ay,ax,V.int.injEq,V.bl.injEq,V.str.injEq,V.ref.injEq,V.ty.injEq,av,ak,and_true,exists_eq_left',exists_and_left,bF,aA,sP]
    exact⟨q,ws,m,aF,wo',by rw[if_pos hw,hc];exact h⟩
   |some n=>
    rw[hc]at h
    dsimp only at h
    simp only[kM,kN,lu,jc,jv,tC,jd,kB,jG,jm,qx,and_assoc,bc,bD,az,bE,L2.start,FV,ao,aB,ai,aq,ah,bq,bw,aa,ae,ay,ax,V.int.injEq,V.bl.injEq,V.str.injEq,V.ref.injEq,V.ty.injEq,av,ak,and_true,exists_eq_left',exists_and_left,bF,aA,sP]
    refine⟨q,ws,m,aF,wo',?_⟩
    rw[if_pos hw,hc]
    dsimp only
    obtain⟨c1,c2,c3,c4,c5⟩:=CM hc
    rw[show(((iv (V.int i)).toNat:Nat):Int)=i from dB i0]at c5
    refine⟨by lia,by lia,by lia,by omega,?_,λl hl0=> ?_⟩
    ·exact aW (show(i+1+n/4-(i+1)).toNat<=4000 by lia) (by decide)
    ·rw[show(i+1+n/4-(i+1)).toNat=(n/4).toNat by lia]
     have:=h l hl0
     simp only[Er,bU]at this
     exact this
noncomputable def LK (A:Ad):Sp:=λvs H Q _=>∃m q ws w,vs=[.ref m,.int w]/\kC A.jo H m q ws/\jP ws/\(kd (.int w)).isSome=true/\
 if rh w=true then(w/2<ws.length/\if rh (ws.getD (w/2).toNat 0)=true then Q (.int (ws.getD (w/2).toNat 0)) H else((lx ws (w/2).toNat).isSome=true/\Q (.int w) H)) else Q (.int w) H
theorem Ly:jf ["memory","word","goal"] ["memory","word"] (ja JU):=fsc
theorem P1(T:Txt K mg A):jO P w K mg base (lV P w) true 8 A.yK A.A9 ["memory","word"] (LK A):=by
 refine T.F3.oZ Ly (λvs H Q E h=> ?_) (λcdv A' outer s H vs Q E hr hx h=> ?_)
 ·obtain⟨_,_,_,_,rfl,_⟩:=h
  rfl
 ·obtain⟨m,q,ws,w,rfl,h⟩:=h
  obtain⟨h,mm,wo',kw⟩:=QQ h
  refine⟨_,nR.run (i3 (jH (jj Gh (i7 ((y6 T).mono (by decide)) hr rfl T.xp T.vj.kp T.z3 hx (iY (i4 1) iZ)) jb (jK _)) (i6 (jh (i4 1))) jx)
   (i3 (jA (i:=2) Ly.nd rfl lo (i7 ((GG T).mono (by decide)) hr rfl T.yb T.yP.kp T.DV hx (iY (i4 0) (iY (i7 ((yn T).mono (by decide)) hr rfl T.vq T.uQ.kp T.yH hx (iY (i4 1) iZ)) iZ))))
   (i3 (jH (jj Gg (i4 2) l9 (jK _)) (i6 (jh (i4 1))) jx)
   (i6 (jh (i7 ((xA T).mono (by decide)) hr rfl T.qY T.rA.kp T.vd hx (iY (i4 2) iZ))))))),?_⟩
  cases hp:rh w with
  |false=>
   obtain⟨x,ex,nx⟩:=PZ hp kw
   simp only[kM,j5,kN,kZ,jY,lu,jc,jv,tC,jd,kB,jG,jm,Rh,eqv,QS,rd,az,bE,↓reduceIte,aS,not_false_eq_true,decide_eq_false_iff_not,L2.start,ao,aB,ai,aq,ah,bq,bw,aa,ae,ay,ax,V.int.injEq,V.bl.injEq,V.str.injEq,V.ref.injEq,V.ty.injEq,av,ak,and_true,exists_eq_left',bF,aA,↓jS,uM,ex,nx]
   rw[if_neg (by rw[hp];decide)]at h
   exact⟨aF,h⟩
  |true=>
   obtain⟨ex,w9,w0,ew⟩:=Ft hp kw
   rw[if_pos hp]at h
   simp only[kM,j5,kN,kZ,jY,lu,jc,jv,tC,jd,kB,jG,jm,Rh,eqv,QS,rd,and_assoc,az,bE,↓reduceIte,aS,not_true_eq_false,decide_eq_false_iff_not,L2.start,ao,aB,ai,aq,ah,bq,bw,aa,ae,ay,ax,V.int.injEq,V.bl.injEq,V.str.injEq,V.ref.injEq,V.ty.injEq,av,ak,and_true,exists_eq_left',exists_and_left,aK,bF,aA,↓jS,uM,ex,yq,ew,zC]
   refine⟨aF,aF,q,ws,mm,aF,wo',?_⟩
   rw[if_pos (by simp only[wi,aQ,decide_eq_true_eq];lia),show(iv (V.int (w/2))).toNat=(w/2).toNat from rfl]
   obtain⟨wl,h⟩:=h
   cases hp2:rh (ws.getD (w/2).toNat 0) with
   |true=>
    rw[if_pos hp2]at h
    rw[if_pos rfl]
    have il:(w/2).toNat<ws.length:=by omega
    have hm:ws.getD (w/2).toNat 0∈ws:=by rw[au,af il];exact bH il
    generalize ws.getD (w/2).toNat 0=x at*
    obtain⟨_,x9,x0,_⟩:=Ft hp2 (wo' x hm)
    unfold xQ
    refine⟨_,rfl,aF,?_⟩
    rw[if_pos (by simp only[wi,aQ,decide_eq_true_eq];lia)]
    simp only[rh,decide_eq_true_eq]at hp2
    rw[show 2*iv (V.int (x/2))+1=x by show 2*(x/2)+1=x;lia]
    exact h
   |false=>
    rw[if_neg (by rw[hp2];decide)]at h
    rw[if_neg (by decide)]
    obtain⟨n,en⟩:=Option.isSome_iff_exists.mp h.1
    rw[en]
    simp only[]
    exact h.2
noncomputable def G2 (A:Ad):Sp:=λvs H Q _=>Y6 λ(x:Ax) (u:Ow) (ow:Own) (M:Mem) (O Y:List (Nat×Int))=>C5 (vs=[.ref u.d]) (Wx A H x M) (lW H x u ow) (In ow M O Y) (∀H',jD H H'->Q (.bl true) H')
theorem om:jf ["_law_own","_law_memory","_law_k","_law_at_here","_law_slot","_law_words"] ["_law_own"] (ja uI):=fsc
theorem GF(T:Txt K mg A):jO P w K mg base (lV P w) true 8 A.nS A.pz ["_law_own"] (G2 A):=by
 refine T.vY.oZ om (λvs H Q E h=> ?_) (λcdv A' outer s H vs Q E hr hx h=> ?_)
 ·obtain⟨_,_,_,_,_,_,rfl,_⟩:=h
  rfl
 ·obtain⟨x,u,ow,M,O,Y,rfl,h,o,I,q⟩:=h
  refine⟨_,nR.run (i3 (jA (i:=1) om.nd rfl lo (jg (jr (by exact jT hr) (i4 0) jb (λ_ _=>rfl)) rfl))
   (i3 (kT hx.own rfl (mI rfl T.oX (iY (jz kX (by rfl) T.nP PyProof.Rows.Boot.«len» (iY (jr (by exact jT hr) (i4 0) jb (λ_ _=>rfl)) iZ)) iZ)) (jR (i:=2) om.nd rfl lo)
    (i3 (jA (i:=3) om.nd rfl lo (jN j7 (jr (by exact jT hr) (i4 0) jb (λ_ _=>rfl)) (i4 2) (λ_ _=>rfl)))
   (i6 (jH (jj yc (i4 3) l9 (jK _)) (i3 (jH (oV (uE (jj (Jp (Tz hr)) (i7 ((IB T).mono (by decide)) hr rfl T.Am T.Ba.kp T.FP hx (iY (i4 1) (iY (i4 3) iZ))) (jN j7 (jr (by exact jT hr) (i4 0) jb (λ_ _=>rfl)) (i4 2) (λ_ _=>rfl)) (jK _)) (uU (jj (Jp (Tz hr)) (i7 ((xb T).mono (by decide)) hr rfl T.rX T.sL.kp T.vS hx (iY (i4 1) (iY (i4 3) iZ))) (jz kX (by rfl) T.nP PyProof.Rows.Boot.«len» (iY (jN j7 (jr (by exact jT hr) (i4 0) jb (λ_ _=>rfl)) (i4 2) (λ_ _=>rfl)) iZ)) (jK _))))) (i6 (jh vt)) jx)
   (i6 (kT hx.own rfl (mI rfl T.oX (iY (jz kX (by rfl) T.nP PyProof.Rows.Boot.«len» (iY (jN j7 (jr (by exact jT hr) (i4 0) jb (λ_ _=>rfl)) (i4 2) (λ_ _=>rfl)) iZ)) iZ)) (jR (i:=4) om.nd rfl lo)
    (i6 (jH (jj (Jp (Tz hr)) (jL (i4 1) T.jW T.pJ ((qr T).mono (by decide)) hr T.o_ hx (iY (je j4 (je j4 (i4 3) i9) (i4 4)) iZ)) (i7 ((vB T).mono (by decide)) hr rfl T.qh T.qW.kp T.uN hx (iY (jN j7 (jN j7 (jr (by exact jT hr) (i4 0) jb (λ_ _=>rfl)) (i4 2) (λ_ _=>rfl)) (i4 4) (λ_ _=>rfl)) (iY (jr (by exact jT hr) (i4 0) jb (λ_ _=>rfl)) iZ))) (jK _)) (i6 (jh vt)) jx))))) jx))))
   (i3 (tu (i:=5) (fsc:=ja uI) (N2:=["_law_own"]) (js:=[0]) om.nd rfl lo ⟨rfl,rfl,by decide+kernel,by decide+kernel,by decide+kernel,by decide+kernel,by decide+kernel,by decide+kernel,by decide+kernel⟩ rfl rfl (by rfl) (lj (jr (by exact jT hr) (i4 0) jb (λ_ _=>rfl))) (λ_ _ _ _=>B9) (λ_ _ _ _=>(i7 ((vB T).mono (by decide)) hr rfl T.qh T.qW.kp T.uN M9 (iY (i4 0) (iY (jr (by exact jT hr) (i4 1) jb (λ_ _=>rfl)) iZ)))))
   (i6 (jh (vN (RC (Tz hr)) (lJ (jg (jr (by exact jT hr) (i4 0) jb (λ_ _=>rfl)) rfl) T.rz T.Ay ((Du T).mono (by decide)) hr T.zV hx) (i4 5) (jK _))))))),?_⟩
  show kN _ _ _ [some (V.ref u.d),none,none,none,none,none] H
  obtain⟨da,ea⟩:=h.ar.ob
  obtain⟨dm,em⟩:=h.ar.mem.ob
  have Fb:=I.Fb
  refine jw (λσ' H'=>σ'=[some (V.ref u.d),some (V.ref x.m),none,none,none,none]/\H=H') (λR hR=> ?_) ?_
  ·simp only[tC,jd,kB,jG,jq,↓jE,jZ,kL,aa,ay,ax,and_true,true_and,kK,qw,o.dc,GI,ea,T.jF,T.jC,tT]
   exact hR _ _ ⟨rfl,rfl⟩
  rintro Gq hGq _ _ ⟨rfl,rfl⟩
  subst hGq
  refine jw (λσ' H'=>Y3 λv2 v3 v4=>σ'=[some (V.ref u.d),some (V.ref x.m),v2,v3,v4,none]/\H=H') (λR hR=> ?_) ?_
  ·simp only[lu,A6,jc,jv,tC,jd,zL,xk,bc,bD,mh,Ao,jZ,kL,aa,V.int.injEq,V.bl.injEq,V.str.injEq,V.ref.injEq,V.ty.injEq,av,ak,and_true,exists_eq_left',o.dc,tI,o.pl]
   refine⟨by rw[aj];lia,by rw[aj,I.lp];lia,?_⟩
   refine lA.Cc (λi σ H'=>Y3 λv2 v3 v4=>σ=[some (V.ref u.d),some (V.ref x.m),v2,v3,v4,none]/\H=H') ⟨_,_,_,rfl,rfl⟩ ?_ ?_
   ·rintro i σ H2 hi ⟨v2,v3,v4,rfl,rfl⟩ R2 hR2
    rw[aj,bB,I.lp]at hi
    have fin:∀v3 v4,R2 [some (V.ref u.d),some (V.ref x.m),some (V.int (0+(i:Int))),v3,v4,none] H:=λv3 v4=>hR2 _ _ ⟨_,_,_,rfl,rfl⟩
    cases ep:ow.p i with
    |none=>
     have at1:yy (ow.P.map tv) (0+(i:Int))=some .kG:=by
      rw[bM]
      refine ko ?_
      have e:=ep
      unfold Own.p at e
      rw[au,af (by rw[I.lp];exact hi)]at e
      rw[aT,af (by rw[I.lp];exact hi)]
      exact congrArg (λo=>some (tv o)) e
     simp only[j5,kN,kZ,jY,lu,tC,jd,kB,jG,sV,rd,zL,↓reduceIte,dG,jZ,kL,aa,ae,ay,ax,aK,↓jS,o.dc,tI,o.pl,at1]
     exact fin _ _
    |some a=>
     have at1:yy (ow.P.map tv) (0+(i:Int))=some (.int a):=by rw[bM];exact ko (by rw[aT,Own.R6 ep];rfl)
     have m:=I.at hi ep
     obtain⟨p1,p2,p3,p4⟩:=I.pl m
     obtain⟨c1,c2⟩:=I.ce i a m
     have s8:=I.s8 i
     have ag:=I.ag i hi
     have ez:ow.z i=(ow.s i).length+1:=rfl
     have wa:wi (V.int a) 0 (M.ws.length-1)=true:=E3 p3 (by lia)
     have cn:lx M.ws a.toNat=some (4*(ow.s i).length+ow.g i):=by
      rw[pW,show M.ws.getD a.toNat 0=pM M.ws a from rfl,c1,if_pos (by lia)]
      congr 1;lia
     obtain⟨ra,rv,r1,r2,r3,r4⟩:=o.OH (k:=i) (by rw[I.ls];exact hi)
     refine jw (λσ' H'=>σ'=[some (V.ref u.d),some (V.ref x.m),some (V.int (0+(i:Int))),some (V.int a),v4,none]/\H=H') (λR3 hR3=> ?_) ?_
     ·simp only[lu,tC,jd,kB,jG,zL,jZ,kL,aa,ae,ay,ax,o.dc,tI,o.pl,at1]
      exact hR3 _ _ ⟨rfl,rfl⟩
     rintro Gq hGq _ _ ⟨rfl,rfl⟩
     subst hGq
     refine Jj (λK1 hK=>by simp only[jY,lu,tC,jd,sV,rd,dM,aa,ae,↓jS];exact hK) ?_
     have at2:yy (ow.G.map V.int) (0+(i:Int))=some (.int (ow.g i)):=by rw[bM];exact ko (Own.E9 hi)
     have at3:yy (u.rs.map V.ref) (0+(i:Int))=some (.ref ra):=by rw[bM];exact ko r2
     have e4:(4*((ow.s i).length:Int)+ow.g i)%4=ow.g i:=by lia
     have e5:(4*((ow.s i).length:Int)+ow.g i)/4=(ow.s i).length:=by lia
     refine jw (λσ' H'=>σ'=[some (V.ref u.d),some (V.ref x.m),some (V.int (0+(i:Int))),some (V.int a),v4,none]/\H=H') (λR3 hR3=> ?_) ?_
     ·refine Io (λK1 hK=> ?_) (hR3 _ _ ⟨rfl,rfl⟩)
      simp only[jY,lu,NL,A6,jc,jv,tC,jd,jm,eqv,zL,xk,↓reduceIte,aS,KH,NU,jZ,kL,aa,ae,↓jS]
      refine⟨x.m,x.q,M.ws,_,rfl,h.ar.mem,aF,I.wo,?_⟩
      rw[if_pos wa,show(iv (V.int a)).toNat=a.toNat from rfl,cn]
      simp only[↓reduceIte,decide_true,bJ,o.dc,qt,o.ag,at2,e4]
      refine⟨x.m,x.q,M.ws,_,rfl,h.ar.mem,aF,I.wo,?_⟩
      rw[if_pos wa,show(iv (V.int a)).toNat=a.toNat from rfl,cn]
      simp only[dG,decide_true,o.dc,BR,o.sl,at3,r3,e5,r4.l]
      exact hK
     rintro Gq hGq _ _ ⟨rfl,rfl⟩
     subst hGq
     simp only[bc,aa,ae,o.dc,BR,o.sl,at3,r3,r4.l]
     refine⟨by lia,by lia,lA.Cc (λj σ H'=>∃v4,σ=[some (V.ref u.d),some (V.ref x.m),some (V.int (0+(i:Int))),some (V.int a),v4,none]/\H=H') ⟨_,rfl,rfl⟩ ?_ ?_⟩
     ·rintro j σ H3 hj ⟨v4,rfl,rfl⟩ R4 hR4
      rw[bB]at hj
      have hv:rv[j]? =some (rv[j]'(by rw[r4.l];exact hj)):=af _
      have ht:(ow.s i)[j]? =some (ow.t i j):=by unfold Own.t;rw[au,af hj];rfl
      have tV:=r4.g j _ _ ht hv
      generalize rv[j]'(by rw[r4.l];exact hj)=v at*
      have at4:yy rv (0+(j:Int))=some v:=by rw[bM];exact ko hv
      have e6:M.ws.getD (iv (V.int (a+1+(0+(j:Int))))).toNat 0=wd (λk=>ow.P.getD k none) (ow.t i j):=by rw[bM];exact c2 j hj
      have gw:=I.WK (I.gs i a m _ (ow.tm hj))
      simp only[kM,j5,kZ,jY,lu,jc,jv,tC,jd,jG,jm,qx,eqv,zL,↓reduceIte,aS,KH,NU,↓jB,jZ,kL,aa,ae,ay,ax,and_true,true_and,↓jS,uX,em,Gx]
      refine⟨x.m,x.q,M.ws,_,rfl,h.ar.mem,aF,?_⟩
      rw[if_pos (E3 (by lia) (by lia)),e6]
      simp only[o.dc,BR,o.sl,at3,r3,at4,tI]
      refine⟨v,u.lp,ow.P,ow.t i j,rfl,o.pl,tV,gw.1,gw.2,?_⟩
      simp only[↓reduceIte,decide_true,bJ]
      exact hR4 _ _ ⟨_,rfl,rfl⟩
     ·rintro σ H3 ⟨v4,rfl,rfl⟩
      exact fin _ _
   ·rintro σ H2 ⟨v2,v3,v4,rfl,rfl⟩
    exact hR _ _ ⟨v2,v3,v4,rfl,rfl⟩
  rintro Gq hGq _ _ ⟨v2,v3,v4,rfl,rfl⟩
  subst hGq
  refine jw (λσ' H'=>∃lw,C3 (σ'=[some (V.ref u.d),some (V.ref x.m),v2,v3,v4,some (V.ref lw)]) (H lw=none) (H'=upd H lw (.lst (M.hw.map V.int)))) (λR hR=> ?_) ?_
  ·obtain⟨vh,eh,th⟩:=o.hd
   have hl:M.hw.length=ow.D.length:=by rw[I.hd,aj]
   simp only[tC,jd,kB,jG,jq,yu,xW,tU,jZ,kL,ao,aB,aa,ay,ax,V.int.injEq,V.bl.injEq,V.str.injEq,V.ref.injEq,V.ty.injEq,av,ak,exists_eq_left',o.dc,P2]
   refine⟨⟨_,lT.of eh⟩,EI (xs:=vh) (λi ys H'=>H=H'/\ys=(M.hw.take i).map V.int/\ys.length<=i) ⟨rfl,rfl,aN _⟩ (λi ys H' hP=>by rw[←hP.1];exact lT.of eh) (by rw[th.l];exact aW I.d4.2 (by decide)) (λi ys H' hP=>hP.2.2) (λi v ys H' hv hP K1 hK=> ?_) λys H' hP lw hlw=> ?_⟩
   ·obtain⟨rfl,rfl,yl⟩:=hP
    have hi:i<ow.D.length:=by have:=(List.getElem?_eq_some_iff.mp hv).1;rw[th.l]at this;exact this
    have et:ow.D[i]? =some ow.D[i]:=af hi
    have gw:=I.WK (I.gd _ (bH hi))
    simp only[jc,jv,tC,jd,jm,↓reduceIte,Sx,jZ,kL,aa,ae,bN,o.dc,tI]
    refine⟨v,u.lp,ow.P,ow.D[i],rfl,o.pl,th.g i _ _ et hv,gw.1,gw.2,hK _ _ ⟨rfl,?_,by rw[aY];exact fW yl⟩⟩
    have e:M.hw[i]? =some (wd ow.p ow.D[i]):=by rw[I.hd,aT,et];rfl
    rw[cx,e,bo];rfl
   ·obtain⟨rfl,rfl,_⟩:=hP
    rw[th.l,←hl,cF]
    exact hR _ _ ⟨lw,rfl,hlw,rfl⟩
  rintro Gq hGq _ _ ⟨lw,rfl,hlw,rfl⟩
  subst hGq
  have s1:jD H (upd H lw (.lst (M.hw.map V.int))):=jD.upd hlw
  have e1:upd H lw (.lst (M.hw.map V.int)) lw=some (.lst (M.hw.map V.int)):=i8
  generalize upd H lw (.lst (M.hw.map V.int))=H1 at*
  have h1:=h.same s1
  have o1:=o.same s1
  obtain⟨dr,er⟩:=h1.ro
  obtain⟨dh,eh⟩:=h1.hd.ob
  simp only[kM,lu,jv,tC,jd,eqv,jq,Rb,Rc,↓jE,↓jB,jZ,kL,aa,ae,and_true,true_and,kK,qw,uX,o1.dc,Ln,er,T.my,T.l_,JP,eh,Nd]
  refine⟨x.h,x.g,M.hw,rfl,h1.hd,λl2 hl2=> ?_⟩
  have s2:jD H1 (upd H1 l2 (.lst (M.hw.map V.int))):=jD.upd hl2
  have e2:upd H1 l2 (.lst (M.hw.map V.int)) l2=some (.lst (M.hw.map V.int)):=i8
  generalize upd H1 l2 (.lst (M.hw.map V.int))=H2 at*
  simp only[↓reduceIte,decide_true,e2,s2 _ _ e1,D5 (H:=H2) (d:=1) (l:=M.hw) (r:=M.hw) rfl]
  exact q _ (s1.trans s2)
noncomputable def OG (A:Ad):Sp:=λvs H Q E=>∃m q ws v sp z g,vs=[.ref m,v,.ref sp,g]/\kC A.jo H m q ws/\vQ A.ju H sp z/\jP ws/\ws.length<=4000/\Kn H v/\Kn H g/\0<=z.t/\z.e<=ws.length/\m≠sp/\
 if wi v 0 (ws.length-1)=true then(match lx ws (iv v).toNat with
  |some n=>if wi g 0 2=true then(if n/4+1<=z.e-z.t then
    ((iv v<z.t∨z.t+(n/4+1)<=iv v)/\∀H',kC A.jo H' m q (Cu ws (iv v).toNat z.t.toNat (n/4+1) n (iv g))->vQ A.ju H' sp ⟨z.b,z.e,z.t+(n/4+1)⟩->(∀b u,H b=some u->b≠q->b≠sp->H' b=some u)->Q (.int z.t) H')
    else E (.ref A.pV) none H) else E (.ref A.kf) none H
  |none=>E (.ref A.lX) none H) else E (.ref A.jV) none H
theorem En:jf ["memory","at","space","age","words","goal"] ["memory","at","space","age"] (ja GO):=fsc
theorem IC(T:Txt K mg A):jO P w K mg base (lV P w) true 9 A.vV A.xY ["memory","at","space","age"] (OG A):=by
 refine T.Bb.oZ En (λvs H Q E h=> ?_) (λcdv A' outer s H vs Q E hr hx h=> ?_)
 ·obtain⟨_,_,_,_,_,_,_,rfl,_⟩:=h
  rfl
 ·obtain⟨m,q,ws,v,sp',z,g,rfl,h⟩:=h
  obtain⟨h,mm,hsp,wo',w4,kv,kg,t0,e0,nms⟩:=WS h
  refine⟨_,nR.run (i3 (jA (i:=4) En.nd rfl lo (i7 ((EV T).mono (by decide)) hr rfl T.wb T.wJ.kp T.BY hx (iY (i4 0) (iY (i4 1) iZ))))
   (i3 (jH (kI (jM (i7 ((kj T).mono (by decide)) hr rfl T.j9 T.j3.kp T.ky hx (iY (i4 3) (iY i9 (iY (mf T.r6) iZ)))) (λ_=>rfl))) (i6 (jX hx rfl T.mv T.mx rfl (iY jb iZ))) jx)
   (i3 (jA (i:=5) En.nd rfl lo (jL (i4 2) T.ke T.yZ ((BN T).mono (by decide)) hr T.yD hx (iY (i4 4) iZ)))
   (i3 (ji (jL (i4 0) T.jW T.BK ((GB T).mono (by decide)) hr T.Bs hx (iY (i4 1) (iY (i4 5) (iY (i4 4) iZ)))))
   (i3 (ji (i7 ((JK T).mono (by decide)) hr rfl T.D6 T.CY.kp T.IV hx (iY (i4 0) (iY (i4 5) (iY (i4 3) iZ)))))
   (i3 (ji (i7 ((RR T).mono (by decide)) hr rfl T.Jf T.Jc.kp T.OX hx (iY (i4 0) (iY (i4 1) (iY (i4 5) iZ)))))
   (i6 (jh (i4 5))))))))),?_⟩
  simp only[kM,j5,kc,kN,kZ,sR,jc,jv,tC,jd,kB,jG,jm,lH,jq,pT,and_assoc,az,bE,aS,yI,L2.start,ao,aB,ai,aq,ah,bq,bw,aa,ae,ay,ax,V.int.injEq,V.bl.injEq,V.str.injEq,V.ref.injEq,V.ty.injEq,av,ak,and_true,true_and,exists_eq_left',exists_and_left,bF,aA,DK,E2]
  refine⟨q,ws,mm,kv,wo',?_⟩
  by_cases hv:wi v 0 (ws.length-1)=true
  ·rw[if_pos hv]at h⊢
   cases cn:lx ws (iv v).toNat with
   |none=>rw[cn]at h;exact h
   |some n=>
    rw[cn]at h
    dsimp only at h⊢
    unfold jU
    refine⟨g,0,2,rfl,kg,wi g 0 2,rfl,?_⟩
    by_cases hg:wi g 0 2=true
    ·rw[if_pos hg]at h
     rw[if_neg (by rw[hg];decide)]
     obtain⟨i,rfl⟩:∃i,v= .int i:=by cases v<;>first|exact⟨_,rfl⟩|cases hv
     obtain⟨a,rfl⟩:∃a,g= .int a:=by cases g<;>first|exact⟨_,rfl⟩|cases hg
     have hv':0<=i/\i<=ws.length-1:=by simpa only[wi,aQ,decide_eq_true_eq] using hv
     have hg':0<=a/\a<=2:=by simpa only[wi,aQ,decide_eq_true_eq] using hg
     have ei:iv (V.int i)=i:=rfl
     have ea:iv (V.int a)=a:=rfl
     rw[ei]at cn h
     rw[ea]at h
     obtain⟨dz,ez⟩:=hsp
     obtain⟨dm,em⟩:=mm.ob
     rw[ez]
     dsimp only
     refine⟨rfl,LG,?_⟩
     have hn:=cn
     rw[pW]at hn
     by_cases hc:ws.getD i.toNat 0%2=0/\0<=ws.getD i.toNat 0/\ws.getD i.toNat 0<=68/\ws.getD i.toNat 0/2%4<=2/\(i.toNat:Int)+ws.getD i.toNat 0/2/4<=ws.length-1
     case neg=>rw[if_neg hc]at hn;cases hn
     rw[if_pos hc]at hn
     have en:n=ws.getD i.toNat 0/2:=(bp hn).symm
     clear hn
     unfold xP
     refine⟨sp',dz,z.b,z.e,z.t,_,rfl,ez,aF,?_⟩
     rw[if_pos ⟨rfl,show 1<=n/4+1 by lia⟩,show iv (V.int (n/4+1))=n/4+1 from rfl]
     by_cases hr':n/4+1<=z.e-z.t
     ·rw[if_pos hr']at h⊢
      obtain⟨hd,h⟩:=h
      have nqs:q≠sp':=λy=>by have:=mm.ls;rw[y,ez]at this;cases this
      have e1:upd H sp' (HO.ins A.ju dz (wz z.b z.e (z.t+(n/4+1)))) sp'=some (HO.ins A.ju dz (wz z.b z.e (z.t+(n/4+1)))):=i8
      have f1:∀b u,H b=some u->b≠sp'->upd H sp' (HO.ins A.ju dz (wz z.b z.e (z.t+(n/4+1)))) b=some u:=λb u eb nb=>by rw[i_ nb];exact eb
      generalize upd H sp' (HO.ins A.ju dz (wz z.b z.e (z.t+(n/4+1))))=H1 at*
      have mm1:kC A.jo H1 m q ws:=⟨⟨dm,f1 _ _ em nms⟩,f1 _ _ mm.ls nqs⟩
      rw[f1 _ _ em nms]
      dsimp only
      refine⟨rfl,T1,?_⟩
      unfold AZ
      refine⟨m,q,ws,_,_,_,rfl,mm1,aF,aF,aF,w4,?_⟩
      rw[ei,show iv (V.int z.t)=z.t from rfl,show iv (V.int (n/4+1))=n/4+1 from rfl,if_pos ⟨rfl,by lia⟩,if_pos ⟨by unfold U8;simp only[wi,aQ,decide_eq_true_eq];lia,by unfold U8;simp only[wi,aQ,decide_eq_true_eq];omega⟩]
      intro H2 mm2 f2
      have wl2:(cp ws ((ws.drop i.toNat).take (n/4+1).toNat) z.t.toNat (n/4+1).toNat).length=ws.length:=z9 _
      have g2:(cp ws ((ws.drop i.toNat).take (n/4+1).toNat) z.t.toNat (n/4+1).toNat).getD z.t.toNat 0=ws.getD i.toNat 0:=by
       rw[Pb _ (by lia) (by lia) (by lia),aL,au,fU (by lia),hJ,←au];rfl
      have g3:(cp ws ((ws.drop i.toNat).take (n/4+1).toNat) z.t.toNat (n/4+1).toNat).getD i.toNat 0=ws.getD i.toNat 0:=L9 _ (by omega)
      have ok2:jP (cp ws ((ws.drop i.toNat).take (n/4+1).toNat) z.t.toNat (n/4+1).toNat):=Pc wo' (λx hx=>wo' x (gM (gN hx))) _
      unfold Cu at h
      generalize cp ws ((ws.drop i.toNat).take (n/4+1).toNat) z.t.toNat (n/4+1).toNat=W at*
      unfold Kk
      refine⟨m,q,W,_,_,rfl,mm2,aF,aF,ok2,?_⟩
      have cn2:lx W z.t.toNat=some n:=by rw[pW,g2,wl2,if_pos ⟨hc.1,hc.2.1,hc.2.2.1,hc.2.2.2.1,by lia⟩,en]
      rw[if_pos (by simp only[wi,aQ,decide_eq_true_eq];lia),show iv (V.int z.t)=z.t from rfl,cn2]
      dsimp only
      rw[if_pos hg,ea]
      have mm3:kC A.jo (upd H2 q (HO.lst ((W.set z.t.toNat (2*(4*(n/4)+a))).map V.int))) m q (W.set z.t.toNat (2*(4*(n/4)+a))):=by
       obtain⟨d2,e2⟩:=mm2.ob
       refine⟨⟨d2,?_⟩,i8⟩
       rw[i_ (kC.ne mm2),bf];exact e2
      have f3:∀b u,H2 b=some u->b≠q->upd H2 q (HO.lst ((W.set z.t.toNat (2*(4*(n/4)+a))).map V.int)) b=some u:=λb u eb nb=>by rw[i_ nb];exact eb
      generalize upd H2 q (HO.lst ((W.set z.t.toNat (2*(4*(n/4)+a))).map V.int))=H3 at*
      have ok3:jP (W.set z.t.toNat (2*(4*(n/4)+a))):=ok2.set (by rw[sN,if_neg (by lia),if_pos (by omega)];rfl)
      unfold NJ
      refine⟨m,q,_,_,_,rfl,mm3,aF,aF,ok3,?_⟩
      have g4:(W.set z.t.toNat (2*(4*(n/4)+a))).getD i.toNat 0=ws.getD i.toNat 0:=by
       rw[au,bC,if_neg (by omega),←au,g3]
      have cn3:lx (W.set z.t.toNat (2*(4*(n/4)+a))) i.toNat=some n:=by
       rw[pW,bf,g4,wl2,if_pos hc,en]
      rw[if_pos (by rw[bf];simp only[wi,aQ,decide_eq_true_eq];lia),ei,cn3]
      dsimp only
      rw[if_pos (by simp only[wi,aQ,decide_eq_true_eq];lia),show iv (V.int z.t)=z.t from rfl,show 2*z.t+1=2*(z.t.toNat:Int)+1 by lia]
      refine h _ ?_ ⟨dz,?_⟩ λb u eb n1 n2=> ?_
      ·obtain⟨d3,e3⟩:=mm3.ob
       refine⟨⟨d3,?_⟩,i8⟩
       rw[i_ (kC.ne mm3),bf];exact e3
      ·rw[i_ (aE nqs)];exact f3 _ _ (f2 _ _ e1 (aE nqs)) (aE nqs)
      ·rw[i_ n1];exact f3 _ _ (f2 _ _ (f1 _ _ eb n2) n1) n1
     ·rw[if_neg hr']at h⊢
      exact h
    ·rw[if_neg hg]at h
     rw[if_pos (by cases y:wi g 0 2<;>simp_all)]
     exact h
  ·rw[if_neg hv]at h⊢
   exact h
noncomputable def H9 (A:Ad):Sp:=λvs H Q _=>Y5 λ(x:Ax) (M:Mem) (ow:Own) (G:List (Nat×Int)) (lg:Addr)=>WL (vs=[.ref x.p,.ref x.b,.ref lg]) (Wx A H x M) (jP M.ws) (M.ws.length<=200) (H lg=some (.lst ((G.map cj).map V.int))) (M.ks.length<64) (G.length<=10) ((∀k,(ow.s k).length<=8)) ((∀e∈G,0<=e.2/\e.2+ow.z e.1<=M.ws.length/\∃n,lx M.ws e.2.toNat=some n/\n/4=(ow.s e.1).length)) ((∀p∈M.ks,0<=p/\p<M.ws.length)) (∀(H':Hp) (d:Addr) (ks:List Int),(∀b u,H b=some u->Oq u=true->b≠d)->Wx A H' {x with d:=d} {M with ks:=ks}->Kx [] H H'->ks.Nodup->(∀p,p∈ks↔(p∈M.ks∨∃e∈G,p∈wC ow e)/\r9 M.sy (pM M.ws p)=true)->Q .kG H')
theorem uJ:jf ["areas","book","grown","looked","at","place"] ["areas","book","grown"] (ja zu):=fsc
theorem Hr(T:Txt K mg A):jO P w K mg base (lV P w) true 9 A.oR A.qT ["areas","book","grown"] (H9 A):=by
 refine T.xo.oZ uJ (λvs H Q E h=> ?_) (λcdv A' outer s H vs Q E hr hx h=> ?_)
 ·obtain⟨_,_,_,_,_,rfl,_⟩:=h
  rfl
 ·obtain⟨x,M,ow,G,lg,rfl,h,wo',l2,eg,U6,g10,s8,cells,kb,q⟩:=h
  refine⟨_,nR.run (i3 (jA (i:=3) uJ.nd rfl lo (lJ (i4 1) T.pR T.xu ((AB T).mono (by decide)) hr T.xg hx))
   (i3 (kT hx.own rfl (lj (i4 2)) (jR (i:=4) uJ.nd rfl lo)
    (i6 (ji (xq PySem.F.slot_list_extend PySem.F.type_list_extend Mh (i4 3) (iY (i7 ((AF T).mono (by decide)) hr rfl T.rE T.s_.kp T.xj hx (iY (jg (i4 0) rfl) (iY (i4 4) iZ))) iZ)))))
   (i3 (ji (lJ (i4 1) T.pR T.Dk ((Hh T).mono (by decide)) hr T.CA hx))
   (i6 (kT hx.own rfl (lj (i4 3)) (jR (i:=5) uJ.nd rfl lo)
    (i6 (jH (jM (i7 ((AD T).mono (by decide)) hr rfl T.rC T.sZ.kp T.xh hx (iY (i4 0) (iY (jL (jg (i4 0) rfl) T.jW T.pJ ((qr T).mono (by decide)) hr T.o_ hx (iY (i4 5) iZ)) iZ))) (λ_=>rfl)) (i6 (ji (jL (i4 1) T.pR T.yY ((BM T).mono (by decide)) hr T.yC hx (iY (i4 5) iZ)))) jx))))))),?_⟩
  obtain⟨db,eb⟩:=h.bk.ob
  obtain⟨da,ea⟩:=h.ar.ob
  show kN _ _ _ [some (V.ref x.p),some (V.ref x.b),some (V.ref lg),none,none,none] H
  refine jw (λσ' H'=>∃ll,C3 (σ'=[some (V.ref x.p),some (V.ref x.b),some (V.ref lg),some (V.ref ll),none,none]) (H ll=none) (H'=upd H ll (.lst ((mY M.ks).map V.int)))) (λR hR=> ?_) ?_
  ·simp only[jv,jd,kB,jG,↓jB,aa,ae,ay,ax,and_true,true_and,uX,eb,FU]
   exact⟨x.b,x.d,M.ks,rfl,h.bk,U6,λll hl=>hR _ _ ⟨ll,rfl,hl,rfl⟩⟩
  rintro Gq hGq _ _ ⟨ll,rfl,hl,rfl⟩
  subst hGq
  have s1:jD H (upd H ll (.lst ((mY M.ks).map V.int))):=jD.upd hl
  have e1:upd H ll (.lst ((mY M.ks).map V.int)) ll=some (.lst ((mY M.ks).map V.int)):=i8
  generalize upd H ll (.lst ((mY M.ks).map V.int))=H1 at*
  have h1:=h.same s1
  have nlg:lg≠ll:=i5 eg hl
  refine jw (λσ' H'=>∃v4,C4 (σ'=[some (V.ref x.p),some (V.ref x.b),some (V.ref lg),some (V.ref ll),v4,none]) (Wx A H' x M) (Kx [] H H') (H' ll=some (.lst ((mY M.ks++G.flatMap (wC ow)).map V.int)))) (λR hR=> ?_) ?_
  ·simp only[jd,jq,mh,tU,aa,ae,V.int.injEq,V.bl.injEq,V.str.injEq,V.ref.injEq,V.ty.injEq,av,ak,exists_eq_left']
   refine⟨⟨_,lT.of (s1 _ _ eg)⟩,?_⟩
   refine lA.Gn (xs:=(G.map cj).map V.int) (λi σ H'=>∃v4,C4 (σ=[some (V.ref x.p),some (V.ref x.b),some (V.ref lg),some (V.ref ll),v4,none]) (Wx A H' x M) (Kx [] H H') (H' ll=some (.lst ((mY M.ks++(G.take i).flatMap (wC ow)).map V.int))))
    ⟨_,rfl,h1,Co s1,by rw[e1,iT,iF,aD]⟩ (λi σ H' _ hz=>by obtain⟨_,_,_,k,_⟩:=hz;exact lT.of (k _ _ eg rfl bz)) ?_ ?_
   ·rintro i v σ H2 hv ⟨v4,rfl,w2,k2,e2⟩ R2 hR2
    obtain⟨hi,rfl,tk⟩:=ints_get hv
    have hi':i<G.length:=by rw[aj]at hi;exact hi
    have ee:(G.map cj)[i]=G[i].2:=dY ..
    rw[ee]
    obtain⟨a0,a1,n,cn,n4⟩:=cells G[i] (bH hi')
    obtain⟨da2,ea2⟩:=w2.ar.ob
    have ez:ow.z G[i].1=(ow.s G[i].1).length+1:=rfl
    simp only[kc,jc,jv,jd,jG,jm,↓jE,NS,Fh,aa,ae,ay,ax,and_true,true_and,kK,qw,e2,ea2,T.jF,T.jC,tT]
    refine⟨x.m,x.q,M.ws,_,rfl,w2.ar.mem,aF,wo',by lia,?_⟩
    rw[if_pos (E3 a0 (by lia)),show(iv (V.int G[i].2)).toNat=G[i].2.toNat from rfl,cn]
    intro l3 hl3
    have sp:Er (iv (V.int G[i].2)) n=wC ow G[i]:=by unfold Er wC;rw[n4];rfl
    rw[sp]
    have s3:jD H2 (upd H2 l3 (.lst ((wC ow G[i]).map V.int))):=jD.upd hl3
    have e3:upd H2 l3 (.lst ((wC ow G[i]).map V.int)) l3=some (.lst ((wC ow G[i]).map V.int)):=i8
    have n3:ll≠l3:=i5 e2 hl3
    generalize upd H2 l3 (.lst ((wC ow G[i]).map V.int))=H3 at*
    have e4:=s3 _ _ e2
    dsimp only
    rw[e4,e3]
    dsimp only
    have L1:=(FC s8 (G.take i)).2.1
    have L2:(wC ow G[i]).length=(ow.s G[i].1).length:=by unfold wC;rw[aj,cb]
    have L3:=s8 G[i].1
    have L4:(G.take i).length<=10:=by rw[c_];lia
    have L5:(mY M.ks).length=M.ks.length:=(qi M.ks).length_eq
    refine⟨n3,aW (show _<=4000 by rw[aj,aj,aY];lia) (by decide),hR2 _ _ ⟨_,rfl,(w2.same s3).row e4 (aE (i5 h.ar.mem.ls hl)) (aE (i5 h.hd.ls hl)) (aE (i5 h.wk.ls hl)),λb u eb kb nb=> ?_,?_⟩⟩
    ·rw[i_ (i5 eb hl)];exact s3 _ _ (k2 b u eb kb nb)
    ·rw[i8,←bo,eN,show G.take (i+1)=G.take i++[G[i]] by rw[cx,af hi'];rfl,gS,gm]
   ·rintro σ H2 ⟨v4,rfl,w2,k2,e2⟩
    rw[aj,aj,cF]at e2
    exact hR _ _ ⟨v4,rfl,w2,k2,e2⟩
  rintro Gq hGq _ H2 ⟨v4,rfl,w2,k2,e2⟩
  subst hGq
  obtain⟨db2,eb2⟩:=w2.bk.ob
  refine jw (λσ' H'=>∃d,C6 (σ'=[some (V.ref x.p),some (V.ref x.b),some (V.ref lg),some (V.ref ll),v4,none]) ((∀b u,H b=some u->Oq u=true->b≠d)) (ll≠d) (Wx A H' {x with d:=d} {M with ks:=[]}) (Kx [] H H') (H' ll=some (.lst ((mY M.ks++G.flatMap (wC ow)).map V.int)))) (λR hR=> ?_) ?_
  ·simp only[kc,jv,jd,↓jB,aa,ae,and_true,true_and,uX,eb2,NR]
   refine⟨x.b,x.d,M.ks,rfl,w2.bk,λd H3 hd b3 f3=>hR _ _ ⟨d,rfl,λb u e k=>i5 (k2 b u e k bz) hd,i5 e2 hd,w2.book b3 (aE (i5 w2.la.dc hd)) λb u e n1 _=>f3 b u e n1,λb u e k n=>f3 b u (k2 b u e k n) λz=> ?_,f3 _ _ e2 (jJ e2 eb2 (by kernel_rfl))⟩⟩
   rw[z,eb]at e;cases e;cases k
  rintro Gq hGq _ H3 ⟨d,rfl,fd,nd,w3,k3,e3⟩
  subst hGq
  simp only[jc,jv,jd,jm,jq,pT,mh,tU,↓jE,↓jB,aa,ae,V.int.injEq,V.bl.injEq,V.str.injEq,V.ref.injEq,V.ty.injEq,av,ak,exists_eq_left',kK,qw,uX]
  refine⟨⟨_,lT.of e3⟩,?_⟩
  generalize hL:mY M.ks++G.flatMap (wC ow)=L at*
  have L1:=(FC s8 G).2.1
  have L5:(mY M.ks).length=M.ks.length:=(qi M.ks).length_eq
  have Ll:L.length<=200:=by rw[←hL,aY];lia
  have mL:∀p,p∈L↔p∈M.ks∨∃e∈G,p∈wC ow e:=λp=>by rw[←hL,dk,iG,(qi M.ks).mem_iff]
  have bL:∀p∈L,0<=p/\p<M.ws.length:=λp hp=>by
   rcases (mL p).mp hp with z|⟨e,he,z⟩
   ·exact kb p z
   ·obtain⟨j,hj,rfl⟩:=y3.mp z
    obtain⟨a0,a1,_⟩:=cells e he
    have ez:ow.z e.1=(ow.s e.1).length+1:=rfl
    lia
  refine lA.Gn (xs:=L.map V.int) (λi σ H'=>Y2 λv5 ks=>C7 (σ=[some (V.ref x.p),some (V.ref x.b),some (V.ref lg),some (V.ref ll),v4,v5]) (Wx A H' {x with d:=d} {M with ks:=ks}) (Kx [] H H') (H' ll=some (.lst (L.map V.int))) (ks.Nodup) (ks.length<=i) (∀p,p∈ks↔p∈L.take i/\r9 M.sy (pM M.ws p)=true))
   ⟨_,[],rfl,w3,k3,e3,cD,aN _,λp=>by simp⟩ (λi σ H' _ hz=>by obtain⟨_,_,_,_,_,e,_⟩:=hz;exact lT.of e) ?_ ?_
  ·rintro i v σ H4 hv ⟨v5,ks,rfl,w4,k4,e4,nd4,l4,m4⟩ R2 hR2
   obtain⟨hi,rfl,tk⟩:=ints_get hv
   obtain⟨p0,p1⟩:=bL _ (bH hi)
   generalize hp:L[i]=p at*
   obtain⟨da4,ea4⟩:=w4.ar.ob
   obtain⟨dm4,em4⟩:=w4.ar.mem.ob
   obtain⟨db4,eb4⟩:=w4.bk.ob
   have kw:(kd (.int (pM M.ws p))).isSome=true:=by obtain⟨y,ey⟩:=Jt wo' (show p.toNat<M.ws.length by lia);unfold pM;rw[ey];rfl
   simp only[j5,kc,kZ,jc,jv,jd,jG,↓jB,aa,ae,ay,ax,and_true,true_and,uX,ea4,T.jF,T.jC,tT,em4,Gx]
   refine⟨x.m,x.q,M.ws,V.int p,rfl,w4.ar.mem,aF,?_⟩
   rw[if_pos (E3 p0 (by lia))]
   refine⟨{x with d:=d},{M with ks:=ks},pM M.ws p,rfl,w4,kw,?_⟩
   refine⟨_,rfl,?_⟩
   cases hy:r9 M.sy (pM M.ws p) with
   |false=>
    rw[if_neg aZ]
    refine hR2 _ _ ⟨_,ks,rfl,w4,k4,e4,nd4,by lia,λp'=> ?_⟩
    rw[m4 p',tk,dk,aU]
    exact⟨λz=>⟨.inl z.1,z.2⟩,λz=>⟨z.1.resolve_right (λe=>by rw[e,hy]at z;cases z.2),z.2⟩⟩
   |true=>
    rw[if_pos rfl,eb4]
    dsimp only
    refine⟨⟨rfl,Ib⟩,x.b,d,ks,V.int p,rfl,w4.bk,aF,by lia,?_⟩
    rw[if_pos (E3 p0 (by lia))]
    have b5:=w4.bk.put (ks':=N7 ks p)
    have f5:∀b u,H4 b=some u->b≠d->upd H4 d (.dK (Hd (N7 ks p))) b=some u:=λb u e n=>by rw[i_ n];exact e
    refine hR2 _ _ ⟨_,N7 ks p,rfl,w4.book b5 w4.n4 λb u e _ n=>f5 b u e n,λb u e k n=>f5 b u (k4 b u e k n) (fd b u e k),f5 _ _ e4 nd,Pz nd4,by have:=Rx (ks:=ks) (p:=p);lia,λp'=> ?_⟩
    rw[Ng,m4 p',tk,dk,aU]
    constructor
    ·rintro(z|rfl)
     ·exact⟨.inl z.1,z.2⟩
     ·exact⟨.inr rfl,hy⟩
    ·rintro⟨z|z,y⟩
     ·exact .inl ⟨z,y⟩
     ·exact .inr z
  ·rintro σ H4 ⟨v5,ks,rfl,w4,k4,e4,nd4,l4,m4⟩
   rw[aj,cF]at m4
   exact q H4 d ks fd w4 k4 nd4 λp=>by rw[m4 p,mL p]
noncomputable def G0 (A:Ad):Sp:=λvs H Q _=>∃p dx b e t m q ws sz,vs=[.ref p,.ref m]/\H p=some (.ins A.ju dx (wz b e t))/\kC A.jo H m q ws/\jP ws/\walks ws b sz t/\sz.length<=5000/\
 ∀l H',jD H H'->H l=none->H' l=some (.lst ((Eh b sz).map V.int))->Q (.ref l) H'
theorem tL:jf ["self","memory","found","at"] ["self","memory"] (ja xG):=fsc
theorem wj(T:Txt K mg A):jO P w K mg base (lV P w) true 9 A.mG A.pv ["self","memory"] (G0 A):=by
 refine T.Af.oZ tL (λvs H Q E h=> ?_) (λcdv A' outer s H vs Q E hr hx h=> ?_)
 ·obtain⟨_,_,_,_,_,_,_,_,_,rfl,_⟩:=h
  rfl
 ·obtain⟨p,dx,b,e,t,m,q,ws,sz,rfl,h⟩:=h
  obtain⟨h,hp,hm,wo',hw,hz⟩:=XN h
  refine⟨_,nR.run (i3 (jA (i:=2) tL.nd rfl lo (mS iZ))
   (i3 (jA (i:=3) tL.nd rfl lo (jg (i4 0) rfl))
   (i3 (B_ hx.own (jj xr (i4 3) (jg (i4 0) rfl) (jK _))
    (i3 (ji (xq bX bY oW (i4 2) (iY (i4 3) iZ)))
   (i6 (jA (i:=3) tL.nd rfl lo (je j4 (i4 3) (i7 ((EV T).mono (by decide)) hr rfl T.wb T.wJ.kp T.BY hx (iY (i4 1) (iY (i4 3) iZ))))))))
   (i6 (jh (i4 2)))))),?_⟩
  simp only[kN,jv,jd,zD,kB,jG,LS,jq,az,bE,↓jE,L2.start,ao,aB,ai,aq,ah,bq,bw,aa,ay,ax,true_and,bF,aA,U_,kK,qw]
  intro l0 hl0
  have hp0:=jD.upd (o:= .lst []) hl0 _ _ hp
  simp only[and_true,true_and,hp0,T.ke,T.kU,II]
  refine⟨λk σ H'=>∃dn rs,sz=dn++rs/\k=rs.length/\walks ws (b+dn.sum) rs t/\σ=[some (.ref p),some (.ref m),some (.ref l0),some (.int (b+dn.sum))]/\jD H H'/\H' l0=some (.lst ((Eh b dn).map V.int)),
   ⟨_,[],sz,rfl,rfl,by simpa using hw,by simp,jD.upd hl0,i8⟩,?_⟩
  rintro k σ H1 ⟨dn,rs,es,ek,hw1,rfl,s1,e1⟩
  have hp1:=s1 _ _ hp
  have m1:=hm.same s1
  simp only[kM,kc,kN,jY,lu,jc,jv,jd,kB,jG,jm,qx,tR,↓jE,qy,NS,aa,ae,ay,ax,and_true,true_and,decide_eq_true_eq,↓jS,kK,qw,hp1,T.ke,T.lU,LF]
  cases rs with
  |nil=>
   have z:b+dn.sum=t:=hw1
   rw[if_neg (by lia)]
   rw[aD]at es
   subst es
   exact h l0 H1 s1 hl0 e1
  |cons s' rr=>
   obtain⟨⟨a0,a1,n,hc,hn⟩,hw2⟩:=hw1
   have z:=IP hw2
   have z2:=Ij hc hn
   rw[if_pos (by lia)]
   refine⟨λσ' H'=>∃dn rs,sz=dn++rs/\rr.length=rs.length/\walks ws (b+dn.sum) rs t/\σ'=[some (.ref p),some (.ref m),some (.ref l0),some (.int (b+dn.sum))]/\jD H H'/\H' l0=some (.lst ((Eh b dn).map V.int)),
    λσ' H' hh=>⟨rr.length,by rw[ek,ai];lia,hh⟩,?_⟩
   simp only[V.int.injEq,V.bl.injEq,V.str.injEq,V.ref.injEq,V.ty.injEq,av,ak,and_true,true_and,exists_const,reduceCtorEq,false_and,and_false,e1]
   have hdl:dn.length<=5000:=by rw[es,aY]at hz;lia
   refine⟨by rw[aj,Lo];exact bQ hdl (by decide),?_⟩
   have m2:kC A.jo (upd H1 l0 (.lst ((Eh b dn).map V.int++[V.int (b+dn.sum)]))) m q ws:=m1.keep λx o ex hx=>by
    rw[i_ (λy=>by subst y;rcases hx with rfl|rfl;exact absurd hm.ob (by rintro⟨_,y⟩;rw[hl0]at y;cases y);exact absurd hm.ls (by rw[hl0];intro y;cases y))];exact ex
   refine⟨m,q,ws,.int (b+dn.sum),rfl,m2,aF,wo',?_⟩
   rw[if_pos (E3 (by omega) (by lia)),show(iv (V.int (b+dn.sum))).toNat=(b+dn.sum).toNat from rfl,hc]
   refine⟨dn++[s'],rr,by rw[es];simp,rfl,?_,?_,?_,?_⟩
   ·rw[eB,show b+(dn.sum+[s'].sum)=b+dn.sum+s' by simp;lia];exact hw2
   ·rw[eB,show b+(dn.sum+[s'].sum)=b+dn.sum+(n/4+1) by simp;lia]
   ·exact s1.put hl0
   ·rw[i8,IE,bo];rfl
noncomputable def tM (A:Ad):Sp:=λvs H Q E=>∃(p dx m q o y s:Addr) (ws:List Int) (x dz:Addr) (z:S3) (v:V) (g:Int),vs=[.ref p,.ref x,v,.int g]/\H p=some (.ins A.jI dx (zR m o y s))/\kC A.jo H m q ws/\jP ws/\ws.length<=4000/\H x=some (.ins A.ju dz (wz z.b z.e z.t))/\p≠x/\m≠x/\0<=z.t/\z.e<=ws.length/\0<=g/\g<=2/\Kn H v/\
 if wi v 0 8=true then(if iv v+1<=z.e-z.t then
   (∀H',kC A.jo H' m q (kF ws z.t.toNat (iv v).toNat g)->H' x=some (.ins A.ju dz (wz z.b z.e (z.t+(iv v+1))))->(∀b u,H b=some u->b≠q->b≠x->H' b=some u)->Q (.int z.t) H')
  else E (.ref A.pV) none H) else E (.ref A.kf) none H
theorem xc:jf ["self","space","slots","age","at"] ["self","space","slots","age"] (ja uq):=fsc
theorem w_(T:Txt K mg A):jO P w K mg base (lV P w) true 9 A.k_ A.mM ["self","space","slots","age"] (tM A):=by
 refine T.wH.oZ xc (λvs H Q E h=> ?_) (λcdv A' outer s H vs Q E hr hx h=> ?_)
 ·obtain⟨_,_,_,_,_,_,_,_,_,_,_,_,_,rfl,_⟩:=h
  rfl
 ·obtain⟨p,dx,m,q,o,y,s',ws,x,dz,z,v,g,rfl,h⟩:=h
  obtain⟨h,hp,hm,wo',hl,hx',npx,nmx,t0,el,g0,g2,hk⟩:=WT h
  refine⟨_,nR.run (i3 (ji (i7 ((BQ T).mono (by decide)) hr rfl T.tq T.uz.kp T.yG hx (iY (i4 2) iZ)))
   (i3 (jA (i:=4) xc.nd rfl lo (jL (i4 1) T.ke T.yZ ((BN T).mono (by decide)) hr T.yD hx (iY (je j4 (i4 2) i9) iZ)))
   (i3 (ji (i7 ((Ub T).mono (by decide)) hr rfl T.Nb T.Mc.kp T.SG hx (iY (jg (i4 0) rfl) (iY (i4 4) (iY (i4 2) iZ)))))
   (i3 (ji (i7 ((JK T).mono (by decide)) hr rfl T.D6 T.CY.kp T.IV hx (iY (jg (i4 0) rfl) (iY (i4 4) (iY (i4 3) iZ)))))
   (i6 (jh (i4 4))))))),?_⟩
  cases hv:wi v 0 8 with
  |false=>
   rw[hv]at h
   simp only[kM,kc,kN,lu,jc,jv,tC,jd,kB,jG,jm,qx,jq,az,bE,↓reduceIte,KC,yI,L2.start,ao,aB,ai,aq,ah,bq,bw,aa,ae,ay,ax,V.int.injEq,V.bl.injEq,V.str.injEq,V.ref.injEq,V.ty.injEq,av,ak,and_true,exists_eq_left',aK,bF,aA,rH,hv]
   exact⟨hk,h⟩
  |true=>
   obtain⟨n,rfl,n0,n8⟩:=oo hv
   rw[if_pos hv]at h
   simp only[kM,kc,kN,lu,jc,jv,tC,jd,kB,jG,jm,qx,jq,and_assoc,az,bE,↓reduceIte,KC,yI,L2.start,ao,aB,ai,aq,ah,bq,bw,aa,ae,ay,ax,V.int.injEq,V.bl.injEq,V.str.injEq,V.ref.injEq,V.ty.injEq,av,ak,and_true,true_and,exists_eq_left',exists_and_left,bF,aA,rH,hv,hx',LG,xP,TJ]
   refine⟨aF,dz,z.b,z.e,z.t,rfl,aF,?_⟩
   rw[if_pos (show(1:Int)<=iv (V.int (n+1)) by show(1:Int)<=n+1;lia)]
   by_cases hr':n+1<=z.e-z.t
   ·rw[if_pos (show iv (V.int (n+1))<=z.e-z.t from hr')]
    rw[if_pos (show iv (V.int n)+1<=z.e-z.t from hr')]at h
    have nqx:q≠x:=λw=>by have:=hm.ls;rw[w,hx']at this;cases this
    have npq:p≠q:=λw=>by have:=hm.ls;rw[←w,hp]at this;cases this
    have hp1:upd H x (HO.ins A.ju dz (wz z.b z.e (z.t+iv (V.int (n+1))))) p=some (.ins A.jI dx (zR m o y s')):=by rw[i_ npx];exact hp
    have hx1:upd H x (HO.ins A.ju dz (wz z.b z.e (z.t+iv (V.int (n+1))))) x=some (.ins A.ju dz (wz z.b z.e (z.t+(iv (V.int n)+1)))):=i8
    have f1:∀b u,H b=some u->b≠x->upd H x (HO.ins A.ju dz (wz z.b z.e (z.t+iv (V.int (n+1))))) b=some u:=λb u eb nb=>by rw[i_ nb];exact eb
    generalize upd H x (HO.ins A.ju dz (wz z.b z.e (z.t+iv (V.int (n+1)))))=H1 at*
    have m1:kC A.jo H1 m q ws:=hm.keep λb u eb hb=>f1 b u eb (by rcases hb with rfl|rfl;exact nmx;exact nqx)
    rw[hp1]
    dsimp only
    refine⟨T.jF,T.jC,?_⟩
    rw[tT]
    dsimp only
    unfold QD
    refine⟨m,q,ws,V.int z.t,V.int n,rfl,m1,aF,aF,hl,?_⟩
    rw[if_pos hv,if_pos (show wi (V.int z.t) 0 (ws.length-1-iv (V.int n))=true by show wi (V.int z.t) 0 (ws.length-1-n)=true;simp only[wi,aQ,decide_eq_true_eq];lia)]
    intro H2 m2 f2
    rw[f2 _ _ hp1 npq]
    dsimp only
    refine⟨T.jF,T.jC,?_⟩
    rw[tT]
    dsimp only
    have et:(iv (V.int z.t)).toNat=z.t.toNat:=rfl
    have en:(iv (V.int n)).toNat=n.toNat:=rfl
    rw[et,en]at m2
    have hn8:n.toNat<=8:=by lia
    have hc:lx (laid ws z.t.toNat n.toNat) z.t.toNat=some (4*(n.toNat:Int)):=L7 hn8 (by lia)
    unfold Kk
    refine⟨m,q,_,V.int z.t,V.int g,rfl,m2,aF,aF,wo'.laid hn8,?_⟩
    rw[if_pos (by rw[Dg];simp only[wi,aQ,decide_eq_true_eq];lia),et,hc]
    dsimp only
    rw[if_pos (show wi (V.int g) 0 2=true by simp only[wi,aQ,decide_eq_true_eq];lia)]
    have eg:2*(4*(4*(n.toNat:Int)/4)+iv (V.int g))=2*(4*(n.toNat:Int)+g):=by show 2*(4*(4*(n.toNat:Int)/4)+g)=_;lia
    rw[eg]
    refine h _ (m2.put _ _) ?_ λb u eb nb nx=> ?_
    ·rw[i_ (aE nqx)];exact f2 _ _ hx1 (aE nqx)
    ·rw[i_ nb];exact f2 _ _ (f1 _ _ eb nx) nb
   ·rw[if_neg (show¬iv (V.int (n+1))<=z.e-z.t from hr')]
    rw[if_neg (show¬iv (V.int n)+1<=z.e-z.t from hr')]at h
    exact h
noncomputable def Ff (A:Ad):Sp:=λvs H Q _=>Y3 λ(x:Ax) (M:Mem) (v:V)=>C3 (vs=[.ref x.r,v]) (Wx A H x M) (∀H',jD H H'->Q .kG H')
theorem lQ:jf ["self","goal_of","name","at","goal","ticket","number"] ["self","goal_of"] (ja wu):=fsc
theorem Fc(T:Txt K mg A):jO P w K mg base (lV P w) true 9 A.lZ A.oa ["self","goal_of"] (Ff A):=by
 refine T.zN.oZ lQ (λvs H Q E h=> ?_) (λcdv A' outer s H vs Q E hr hx h=> ?_)
 ·obtain⟨_,_,_,rfl,_⟩:=h
  rfl
 ·obtain⟨x,M,v,rfl,h,q⟩:=h
  refine⟨_,nR.run (i3 (kT hx.own rfl (lj (lJ (jg (i4 0) rfl) T.A8 T.Dm ((Hm T).mono (by decide)) hr T.CG hx)) (yi (n:=2) (by rfl) (lS (jR (i:=2) lQ.nd rfl lo) (lS (jR (i:=3) lQ.nd rfl lo) vO)))
    (i3 (jA (i:=4) lQ.nd rfl lo Gj)
   (i6 (jH (jj Gg (i4 4) l9 (jK _)) (i6 (ji (jL (jg (i4 0) rfl) T.A8 T.ES ((JB T).mono (by decide)) hr T.EC hx (iY (i4 2) iZ)))) (i6 (ji (jL (jg (i4 0) rfl) T.A8 T.ET ((JD T).mono (by decide)) hr T.EE hx (iY (i4 2) (iY (i4 4) iZ)))))))))
   (i6 (kT hx.own rfl (lj (lJ (jg (i4 0) rfl) T.vT T.zP ((Ef T).mono (by decide)) hr T.zI hx)) (yi (n:=3) (by rfl) (lS (jR (i:=5) lQ.nd rfl lo) (lS (jR (i:=3) lQ.nd rfl lo) (lS (jR (i:=6) lQ.nd rfl lo) vO))))
    (i3 (jA (i:=4) lQ.nd rfl lo Gj)
   (i6 (jH (jj Gg (i4 4) l9 (jK _)) (i6 (ji (jL (jg (i4 0) rfl) T.vT T.ER ((Jz T).mono (by decide)) hr T.EB hx (iY (i4 5) iZ)))) (i6 (ji (jL (jg (i4 0) rfl) T.vT T.Dl ((Hk T).mono (by decide)) hr T.CD hx (iY (i4 5) (iY (i4 4) iZ))))))))))),?_⟩
  obtain⟨dr,er⟩:=h.ro
  obtain⟨dw,ew⟩:=h.wk.ob
  obtain⟨dl,ql,el⟩:=h.la.ob
  show kN _ _ _ [some (V.ref x.r),some v,none,none,none,none,none] H
  refine jw (λσ' H'=>σ'=[some (V.ref x.r),some v,none,none,none,none,none]/\jD H H') (λR hR=> ?_) ?_
  ·simp only[jv,jd,jq,mh,tU,↓jE,↓jB,aa,and_true,true_and,kK,qw,uX,er,T.my,T.qq,UL,ew,OL]
   refine⟨x.w,x.v,rfl,h.wk,λl H' s1 _ e1=>⟨l,rfl,⟨_,lT.of e1⟩,?_⟩⟩
   refine lA.list (xs:=[]) (λ_ σ H2=>σ=[some (V.ref x.r),some v,none,none,none,none,none]/\H'=H2) ⟨rfl,rfl⟩ (λi σ H2 _ ⟨_,e⟩=>by rw[←e];exact lT.of e1) (λi y σ H2 z=>nomatch z) ?_
   rintro _ _ ⟨rfl,rfl⟩
   exact hR _ _ ⟨rfl,s1⟩
  rintro Gq hGq _ H1 ⟨rfl,s1⟩
  subst hGq
  have er1:=s1 _ _ er
  have Bm:=s1 _ _ el
  simp only[jv,jd,jq,mh,tU,↓jE,↓jB,aa,and_true,true_and,kK,qw,uX,er1,T.my,T.qp,UK,Bm,Lc]
  refine⟨x.l,x.e,rfl,(h.same s1).la,λl H' s2 _ e1=>⟨l,rfl,⟨_,lT.of e1⟩,?_⟩⟩
  refine lA.list (xs:=[]) (λ_ σ H2=>H'=H2) rfl (λi σ H2 _ e=>by rw[←e];exact lT.of e1) (λi y σ H2 z=>nomatch z) ?_
  rintro _ _ rfl
  exact q _ (s1.trans s2)
noncomputable def HZ (A:Ad):Sp:=λvs H Q _=>Y5 λ(x:Ax) (M:Mem) (c:CS) (a n:Int)=>XE (vs=[.ref x.p,.int a]) (Wx A H x (cM M c)) (jP c.ws) (c.ws.length<=200) (M.so.e<=c.ws.length) (M.ss.e<=c.ws.length) (0<=a) (a<c.ws.length) (0<=c.ot) (0<=c.st) (lx c.ws a.toNat=some n) ((n%4=0->n/4+1<=M.ss.e-c.st/\(a<c.st∨c.st+(n/4+1)<=a))) ((n%4≠0->n/4+1<=M.so.e-c.ot/\(a<c.ot∨c.ot+(n/4+1)<=a))) (∀H',Kx [x.q] H H'->Wx A H' x (cM M (if n%4=0 then⟨Cu c.ws a.toNat c.st.toNat (n/4+1) n 1,c.ot,c.st+(n/4+1),c.cs⟩ else⟨Cu c.ws a.toNat c.ot.toNat (n/4+1) n 2,c.ot+(n/4+1),c.st,c.cs⟩))->Q (.int (if n%4=0 then c.st else c.ot)) H')
theorem HE:jf ["areas","at"] ["areas","at"] (ja zr):=fsc
theorem Hq(T:Txt K mg A):jO P w K mg base (lV P w) true 10 A.oP A.qR ["areas","at"] (HZ A):=by
 refine T.xn.oZ HE (λvs H Q E h=> ?_) (λcdv A' outer s H vs Q E hr hx h=> ?_)
 ·obtain⟨_,_,_,_,_,rfl,_⟩:=h
  rfl
 ·obtain⟨x,M,c,a,n,rfl,h,wo',l2,oe,se,a0,a1,o0,s0,cn,h1,h2,q⟩:=h
  refine⟨_,nR.run (i3 (jH (jj mz (i7 ((IB T).mono (by decide)) hr rfl T.Am T.Ba.kp T.FP hx (iY (jg (i4 0) rfl) (iY (i4 1) iZ))) i9 (jK _)) (i6 (jh (i7 ((IC T).mono (by decide)) hr rfl T.An T.Bb.kp T.FQ hx (iY (jg (i4 0) rfl) (iY (i4 1) (iY (jg (i4 0) rfl) (iY i9 iZ))))))) jx)
   (i6 (jh (i7 ((IC T).mono (by decide)) hr rfl T.An T.Bb.kp T.FQ hx (iY (jg (i4 0) rfl) (iY (i4 1) (iY (jg (i4 0) rfl) (iY i9 iZ)))))))),?_⟩
  obtain⟨dp,ep⟩:=h.ar.ob
  obtain⟨ds,es⟩:=h.ar.Ex
  obtain⟨d0,eo⟩:=h.ar.old
  have wa:wi (V.int a) 0 (c.ws.length-1)=true:=E3 a0 (by lia)
  by_cases z:n%4=0
  ·rw[if_pos z,if_pos z]at q
   obtain⟨r1,r2⟩:=h1 z
   refine uK (λ_ _=>False) (λR _=> ?_) (λ_ _ z=>z.elim)
   simp only[kM,j5,kZ,jY,lu,jc,jv,tC,jd,jm,zK,eqv,jq,and_assoc,az,↓jE,L2.start,ao,aB,ai,aq,ah,aD,aa,ae,V.int.injEq,V.bl.injEq,V.str.injEq,V.ref.injEq,V.ty.injEq,av,ak,and_true,true_and,exists_eq_left',exists_and_left,decide_eq_true_eq,aA,aL,↓jS,kK,qw,ep,T.jF,T.jC,T.kJ,tT,FH,Eu]
   refine⟨x.q,c.ws,h.ar.mem,aF,wo',?_⟩
   rw[if_pos wa,show(iv (V.int a)).toNat=a.toNat from rfl,cn]
   dsimp only
   rw[if_pos z]
   refine⟨x.m,x.q,c.ws,_,x.s,⟨M.ss.b,M.ss.e,c.st⟩,_,rfl,h.ar.mem,h.ar.Ex,wo',by lia,aF,aF,s0,se,h.ar.md.2.2,?_⟩
   rw[if_pos wa,show(iv (V.int a)).toNat=a.toNat from rfl,cn]
   dsimp only
   rw[if_pos (show wi (V.int 1) 0 2=true by decide),if_pos r1]
   refine⟨r2,λH' m' s' f'=>q H' (λb u eb k nb=>f' b u eb (by simpa using nb) (λz=>by rw[z,es]at eb;cases eb;cases k)) ?_⟩
   exact h.IU (h.ar.XZ m' s' f') λb u eb nb n1 _=>f' b u eb nb (Ed eb es n1 (by kernel_rfl))
  ·rw[if_neg z,if_neg z]at q
   obtain⟨r1,r2⟩:=h2 z
   refine jw (λσ' H'=>σ'=[some (V.ref x.p),some (V.int a)]/\H=H') (λR hR=> ?_) ?_
   ·simp only[kM,j5,kZ,jY,lu,jc,jv,tC,jd,jm,zK,eqv,jq,and_assoc,az,↓jE,L2.start,ao,aB,ai,aq,ah,aD,aa,ae,V.int.injEq,V.bl.injEq,V.str.injEq,V.ref.injEq,V.ty.injEq,av,ak,and_true,true_and,exists_eq_left',exists_and_left,decide_eq_true_eq,aA,aL,↓jS,kK,qw,ep,T.jF,T.jC,T.kJ,tT,FH,Eu]
    refine⟨x.q,c.ws,h.ar.mem,aF,wo',?_⟩
    rw[if_pos wa,show(iv (V.int a)).toNat=a.toNat from rfl,cn]
    dsimp only
    rw[if_neg z]
    exact hR _ _ ⟨rfl,rfl⟩
   rintro Gq hGq _ _ ⟨rfl,rfl⟩
   subst hGq
   simp only[kM,jc,jv,tC,jd,jm,jq,↓jE,aa,ae,and_true,true_and,kK,qw,ep,T.jF,T.jC,T.lD,tT,FG]
   refine⟨x.m,x.q,c.ws,_,x.o,⟨M.so.b,M.so.e,c.ot⟩,_,rfl,h.ar.mem,h.ar.old,wo',by lia,aF,aF,o0,oe,h.ar.md.1,?_⟩
   rw[if_pos wa,show(iv (V.int a)).toNat=a.toNat from rfl,cn]
   dsimp only
   rw[if_pos (show wi (V.int 2) 0 2=true by decide),if_pos r1]
   refine⟨r2,λH' m' s' f'=>q H' (λb u eb k nb=>f' b u eb (by simpa using nb) (λz=>by rw[z,eo]at eb;cases eb;cases k)) ?_⟩
   exact h.IU (h.ar.V5 m' s' f') λb u eb nb n1 _=>f' b u eb nb (Ed eb eo n1 (by kernel_rfl))
noncomputable def Cr (A:Ad):Sp:=λvs H Q E=>∃p m q o y s ws so sy ss v,vs=[.ref p,v]/\sS A.jI A.jo A.ju H p m q o y s ws so sy ss/\jP ws/\ws.length<=4000/\0<=sy.t/\sy.e<=ws.length/\Kn H v/\
 if wi v 0 8=true then(if iv v+1<=sy.e-sy.t then
   (∀H',sS A.jI A.jo A.ju H' p m q o y s (kF ws sy.t.toNat (iv v).toNat 0) so ⟨sy.b,sy.e,sy.t+(iv v+1)⟩ ss->(∀b u,H b=some u->b≠q->b≠y->H' b=some u)->Q (.int sy.t) H')
  else E (.ref A.pV) none H) else E (.ref A.kf) none H
theorem Cp:jf ["self","slots"] ["self","slots"] (ja tJ):=fsc
theorem Ca(T:Txt K mg A):jO P w K mg base (lV P w) true 10 A.kO A.ma ["self","slots"] (Cr A):=by
 refine T.vW.oZ Cp (λvs H Q E h=> ?_) (λcdv A' outer s H vs Q E hr hx h=> ?_)
 ·obtain⟨_,_,_,_,_,_,_,_,_,_,_,rfl,_⟩:=h
  rfl
 ·obtain⟨p,m,q,o,y,s',ws,so,sy,ss,v,rfl,h⟩:=h
  obtain⟨h,a,wo',hl,t0,el,hk⟩:=XO h
  refine⟨_,nR.run (i6 (jh (jL (i4 0) T.jF T.uo ((w_ T).mono (by decide)) hr T.tX hx (iY (jg (i4 0) rfl) (iY (i4 1) (iY i9 iZ)))))),?_⟩
  obtain⟨dx,hp⟩:=a.ob
  obtain⟨dy,hy⟩:=a.r9
  simp only[kM,jc,jv,tC,jd,jq,and_assoc,e_,az,↓jE,↓jB,L2.start,ao,aB,ai,aq,ah,aD,aa,ae,V.int.injEq,V.bl.injEq,V.str.injEq,V.ref.injEq,V.ty.injEq,av,ak,and_true,true_and,exists_eq_left',exists_and_left,aA,aL,kK,qw,uX,hp,T.jF,T.jQ,zG,OS,tM]
  refine⟨dx,m,q,o,y,s',rfl,ws,a.mem,wo',hl,dy,sy,hy,a.pd.2.2.1,a.md.2.1,t0,el,hk,?_⟩
  cases hv:wi v 0 8 with
  |false=>simp only[hv,aK,if_false]at h⊢;exact h
  |true=>
   simp only[hv,if_true]at h⊢
   by_cases z:iv v+1<=sy.e-sy.t
   ·rw[if_pos z]at h⊢
    exact λH' m' e' f'=>h H' (a.XB m' ⟨dy,e'⟩ f') f'
   ·rw[if_neg z]at h⊢;exact h
noncomputable def Es (A:Ad):Sp:=λvs H Q E=>∃p m q o y s ws so sy ss v,vs=[.ref p,v]/\sS A.jI A.jo A.ju H p m q o y s ws so sy ss/\jP ws/\ws.length<=4000/\0<=so.t/\so.e<=ws.length/\Kn H v/\
 if wi v 0 8=true then(if iv v+1<=so.e-so.t then
   (∀H',sS A.jI A.jo A.ju H' p m q o y s (kF ws so.t.toNat (iv v).toNat 2) ⟨so.b,so.e,so.t+(iv v+1)⟩ sy ss->(∀b u,H b=some u->b≠q->b≠o->H' b=some u)->Q (.int so.t) H')
  else E (.ref A.pV) none H) else E (.ref A.kf) none H
theorem El:jf ["self","slots"] ["self","slots"] (ja u_):=fsc
theorem Ee(T:Txt K mg A):jO P w K mg base (lV P w) true 10 A.lL A.m9 ["self","slots"] (Es A):=by
 refine T.xZ.oZ El (λvs H Q E h=> ?_) (λcdv A' outer s H vs Q E hr hx h=> ?_)
 ·obtain⟨_,_,_,_,_,_,_,_,_,_,_,rfl,_⟩:=h
  rfl
 ·obtain⟨p,m,q,o,y,s',ws,so,sy,ss,v,rfl,h⟩:=h
  obtain⟨h,a,wo',hl,t0,el,hk⟩:=XO h
  refine⟨_,nR.run (i6 (jh (jL (i4 0) T.jF T.uo ((w_ T).mono (by decide)) hr T.tX hx (iY (jg (i4 0) rfl) (iY (i4 1) (iY (mf T.r6) iZ)))))),?_⟩
  obtain⟨dx,hp⟩:=a.ob
  obtain⟨dy,hy⟩:=a.old
  simp only[kM,jc,jv,tC,jd,jq,and_assoc,e_,az,↓jE,↓jB,L2.start,ao,aB,ai,aq,ah,aD,aa,ae,V.int.injEq,V.bl.injEq,V.str.injEq,V.ref.injEq,V.ty.injEq,av,ak,and_true,true_and,exists_eq_left',exists_and_left,aA,aL,kK,qw,uX,hp,T.jF,T.lD,FG,OS,tM]
  refine⟨dx,m,q,o,y,s',rfl,ws,a.mem,wo',hl,dy,so,hy,a.pd.2.1,a.md.1,t0,el,hk,?_⟩
  cases hv:wi v 0 8 with
  |false=>simp only[hv,aK,if_false]at h⊢;exact h
  |true=>
   simp only[hv,if_true]at h⊢
   by_cases z:iv v+1<=so.e-so.t
   ·rw[if_pos z]at h⊢
    exact λH' m' e' f'=>h H' (a.V5 m' ⟨dy,e'⟩ f') f'
   ·rw[if_neg z]at h⊢;exact h
theorem DO{ws:List Int}{z:Nat->Int}:∀{l:List (Nat×Int)} {a t:Int},tS z a l t->(∀e∈l,0<=e.2/\e.2<ws.length/\∃n,lx ws e.2.toNat=some n/\n/4+1=z e.1)->walks ws a (l.map λe=>z e.1) t
 | [],_,_,h,_=>h
 |e::r,a,t,h,c=>by
  have c1:=c e (aM ..)
  rw[h.1]at c1
  exact⟨c1,DO h.2 λf hf=>c f (aP _ hf)⟩
theorem In.XA{x:Own}{M:Mem}{O Y:List (Nat×Int)}(I:In x M O Y){l:List (Nat×Int)}(h:∀e∈l,e∈O∨e∈Y):∀e∈l,0<=e.2/\e.2<M.ws.length/\∃n,lx M.ws e.2.toNat=some n/\n/4+1=x.z e.1:=λe he=>by
 have m:=h e he
 obtain⟨p1,p2,p3,p4⟩:=I.pl (k:=e.1) (a:=e.2) m
 obtain⟨c1,_⟩:=I.ce e.1 e.2 m
 have s8:=I.s8 e.1
 have ag:=I.ag e.1 p1
 have ez:x.z e.1=(x.s e.1).length+1:=rfl
 refine⟨p3,by lia,4*(x.s e.1).length+x.g e.1,?_,by lia⟩
 rw[pW,show M.ws.getD e.2.toNat 0=pM M.ws e.2 from rfl,c1,if_pos (by lia)]
 congr 1;lia
theorem zl{K:aC}{x:Ax}{u:Ow}{n:Nat}{cst:Int}{L:List (Nat×Int)}{za zb:Addr}{D:Ends}{t1 t2 t3 t4 t5 t6 t7 v8 v9:Option V}{H5:Hp}{P5:List (Option Int)}{G5:List Int}
  (dc:H5 u.d=some (.dK (ON x.p x.r u))) (p5:H5 u.lp=some (.lst (P5.map tv))) (a5:H5 u.la=some (.lst (G5.map V.int))) (ea:H5 za=some (.lst (nV (L.map aJ)))) (eb:H5 zb=some (.lst ((L.map cj).map V.int))) (npa:u.lp≠u.la) (n1:u.lp≠za) (n2:u.la≠za) (n3:u.lp≠zb) (n4:u.la≠zb) (lP:P5.length=n) (lG:G5.length=n) (hk:∀e∈L,e.1<n) (nd:(L.map aJ).Nodup)
  (q:∀(v8 v9:Option V) (H':Hp) (P:List (Option Int)) (G:List Int),(∀b v,H5 b=some v->b≠u.lp->b≠u.la->H' b=some v)->H' u.lp=some (.lst (P.map tv))->H' u.la=some (.lst (G.map V.int))->P.length=n->G.length=n->(∀k,k<n->P.getD k none=(lk L k).or (P5.getD k none))->(∀k,k<n->G.getD k 0=if (lk L k).isSome=true then cst else G5.getD k 0)->D.nx [some (V.ref u.d),t1,t2,t3,t4,t5,t6,t7,v8,v9] H'):
  lA (Vc K za zb) (Pr K 2 (Aj (jG 8) (Aj (jG 9) Md))) (kN (kB (jd 9) (E8 (jZ (jd 0) (tC (V.str (bg "places")))) (jd 8) xV)) (kB (tC (V.int cst)) (E8 (jZ (jd 0) (tC (V.str (bg "ages")))) (jd 8) xV))) D [some (V.ref u.d),t1,t2,t3,t4,t5,t6,t7,v8,v9] H5:=by
 have nl:(nV (L.map aJ)).length=L.length:=by unfold nV;rw[aj,aj]
 refine lA.XC (xs:=nV (L.map aJ)) (ys:=(L.map cj).map V.int) (λi σ H'=>Y4 λ(v8 v9:Option V) (P:List (Option Int)) (G:List Int)=>C8 (σ=[some (V.ref u.d),t1,t2,t3,t4,t5,t6,t7,v8,v9]) ((∀b v,H5 b=some v->b≠u.lp->b≠u.la->H' b=some v)) (H' u.lp=some (.lst (P.map tv))) (H' u.la=some (.lst (G.map V.int))) (P.length=n) (G.length=n) ((∀k,k<n->P.getD k none=(lk (L.take i) k).or (P5.getD k none))) (∀k,k<n->G.getD k 0=if (lk (L.take i) k).isSome=true then cst else G5.getD k 0))
  (by rw[nl,aj,aj]) ⟨v8,v9,P5,G5,rfl,λ_ _ h _ _=>h,p5,a5,lP,lG,λ_ _=>rfl,λ_ _=>rfl⟩ (λi σ H' _ hz=>by obtain⟨_,_,_,_,_,f,_⟩:=hz;exact⟨lT.of (f _ _ ea (aE n1) (aE n2)),lT.of (f _ _ eb (aE n3) (aE n4))⟩) ?_ ?_
 ·rintro i v y σ H6 p hv hy ⟨v8,v9,P,G,rfl,f6,p6,a6,l6,g6,m6,m6'⟩ hp R2 hR2
  have hi:i<L.length:=by have:=(List.getElem?_eq_some_iff.mp hv).1;rw[nl]at this;exact this
  have ev:v=V.int (L[i].1:Nat):=by unfold nV at hv;rw[aT,aT,af hi]at hv;exact(bp hv).symm
  have ey:y=V.int L[i].2:=by rw[aT,aT,af hi]at hy;exact(bp hy).symm
  subst ev ey
  have kn:=hk L[i] (bH hi)
  have s7:jD H6 (upd H6 p (.tup [.int (L[i].1:Nat),.int L[i].2])):=jD.upd hp
  have tp:upd H6 p (.tup [.int (L[i].1:Nat),.int L[i].2]) p=some (.tup [.int (L[i].1:Nat),.int L[i].2]):=i8
  generalize upd H6 p (.tup [.int (L[i].1:Nat),.int L[i].2])=H7 at*
  have dc7:=s7 _ _ (f6 _ _ dc (jJ dc p5 (by kernel_rfl)) (jJ dc a5 (by kernel_rfl)))
  have p7:=s7 _ _ p6
  have a7:=s7 _ _ a6
  have nk:lk (L.take i) L[i].1=none:=vz λz=>by
   obtain⟨e,he,e1⟩:=List.mem_map.mp z
   obtain⟨j,hj,rfl⟩:=List.mem_iff_getElem.mp he
   rw[List.getElem_take]at e1
   have hj':j<i:=by rw[c_]at hj;lia
   have:=List.pairwise_iff_getElem.mp nd j i (by rw[aj];lia) (by rw[aj];exact hi) hj'
   rw[dY,dY]at this
   exact this e1
  have ix1:Jm (P.map tv).length (L[i].1:Int)=some L[i].1:=Aq (by lia) (by rw[aj];lia)
  have ix2:Jm (G.map V.int).length (L[i].1:Int)=some L[i].1:=Aq (by lia) (by rw[aj];lia)
  refine⟨p,_,rfl,.inl (.inl tp),rfl,_,_,rfl,_,_,rfl,rfl,?_⟩
  show kN _ _ _ [some (V.ref u.d),t1,t2,t3,t4,t5,t6,t7,some (V.int (L[i].1:Nat)),some (V.int L[i].2)] H7
  refine jw (λσ' H'=>σ'=[some (V.ref u.d),t1,t2,t3,t4,t5,t6,t7,some (V.int (L[i].1:Nat)),some (V.int L[i].2)]/\H'=upd H7 u.lp (.lst ((P.set L[i].1 (some L[i].2)).map tv))) (λR hR=> ?_) ?_
  ·simp only[tC,jd,kB,xV,jZ,kL,E8,aa,ae,dc7,tI,p7,ix1]
   refine hR _ _ ⟨rfl,?_⟩
   rw[fh];rfl
  rintro Gq hGq _ _ ⟨rfl,rfl⟩
  subst hGq
  have f8:∀{b v},H7 b=some v->b≠u.lp->upd H7 u.lp (.lst ((P.set L[i].1 (some L[i].2)).map tv)) b=some v:=λ{b v} e n=>by rw[i_ n];exact e
  have p8:upd H7 u.lp (.lst ((P.set L[i].1 (some L[i].2)).map tv)) u.lp=some (.lst ((P.set L[i].1 (some L[i].2)).map tv)):=i8
  have dc8:=f8 dc7 (jJ dc7 p7 (by kernel_rfl))
  have a8:=f8 a7 (aE npa)
  generalize upd H7 u.lp (.lst ((P.set L[i].1 (some L[i].2)).map tv))=H8 at*
  simp only[tC,jd,kB,xV,jZ,kL,E8,aa,ae,dc8,qt,a8,ix2]
  refine hR2 _ _ ⟨_,_,P.set L[i].1 (some L[i].2),G.set L[i].1 cst,rfl,λb v e b1 b2=> ?_,?_,?_,by rw[bf];exact l6,by rw[bf];exact g6,λk hk=> ?_,λk hk=> ?_⟩
  ·rw[i_ b2];exact f8 (s7 _ _ (f6 b v e b1 b2)) b1
  ·rw[i_ npa];exact p8
  ·rw[i8,fh]
  ·rw[W5 (by lia),Nn hi,m6 k hk]
   by_cases e:L[i].1=k
   ·rw[if_pos e,if_pos e,←e,nk];rfl
   ·rw[if_neg e,if_neg e,gE]
  ·rw[W5 (by lia),Nn hi,m6' k hk]
   by_cases e:L[i].1=k
   ·rw[if_pos e,if_pos e,←e,nk];rfl
   ·rw[if_neg e,if_neg e,gE]
 ·rintro σ H6 ⟨v8,v9,P,G,rfl,f6,p6,a6,l6,g6,m6,m6'⟩
  rw[nl,cF]at m6 m6'
  exact q v8 v9 H6 P G f6 p6 a6 l6 g6 m6 m6'
noncomputable def Ki (A:Ad):Sp:=λvs H Q _=>Y9 λ(x:Ax) (u:Ow) (ow:Own) (M M':Mem) (O Y F:List (Nat×Int)) (lr:Addr)=>Wu (vs=[.ref u.d,.ref lr,.int O.length]) (Wx A H x M') (lW H x u ow) (In ow M O Y) ((∃Dn c,xS ow M O Y F Dn c)) (H lr=some (.lst (nV (F.map aJ)))) (u.lp≠lr) (u.la≠lr) ((∀x',Nx ow F x'->In x' M' (O++F.filter λe=>decide (ow.g e.1=1)) (F.filter λe=>decide (ow.g e.1=0)))) (∀H' x',Nx ow F x'->Wx A H' x M'->lW H' x u x'->(∀b v,H b=some v->b≠u.lp->b≠u.la->H' b=some v)->Q (.bl true) H')
theorem lF:jf ["_law_own","_law_order_here","_law_stood","_law_areas","_law_stays","_law_grows","_law_young","_law_old","_law_k","_law_at_here"] ["_law_own","_law_order_here","_law_stood"] (ja u4):=fsc
theorem JJ(T:Txt K mg A):jO P w K mg base (lV P w) true 10 A.qb A.sC ["_law_own","_law_order_here","_law_stood"] (Ki A):=by
 refine T.yO.oZ lF (λvs H Q E h=> ?_) (λcdv A' outer s H vs Q E hr hx h=> ?_)
 ·obtain⟨_,_,_,_,_,_,_,_,_,rfl,_⟩:=h
  rfl
 ·obtain⟨x,u,ow,M,M',O,Y,F,lr,rfl,h,o,I,⟨Dn,c,md⟩,eo,nr1,nr2,nx,q⟩:=h
  refine⟨_,nR.run (i3 (jA (i:=3) lF.nd rfl lo (jr (by exact jT hr) (i4 0) jb (λ_ _=>rfl)))
   (i3 (tu (i:=4) (fsc:=ja u4) (N2:=["_law_own"]) (js:=[0]) lF.nd rfl lo ⟨rfl,rfl,by decide+kernel,by decide+kernel,by decide+kernel,by decide+kernel,by decide+kernel,by decide+kernel,by decide+kernel⟩ rfl rfl (by rfl) (lj (i4 1)) (λ_ _ _ _=>(qk (jj mz (jN j7 (jr (by exact jT hr) (i4 1) jb (λ_ _=>rfl)) (i4 0) (λ_ _=>rfl)) i9 (jK _)))) (λ_ _ _ _=>(i4 0)))
   (i3 (tu (i:=5) (fsc:=ja u4) (N2:=["_law_own"]) (js:=[0]) lF.nd rfl lo ⟨rfl,rfl,by decide+kernel,by decide+kernel,by decide+kernel,by decide+kernel,by decide+kernel,by decide+kernel,by decide+kernel⟩ rfl rfl (by rfl) (lj (i4 1)) (λ_ _ _ _=>(qk (jj mz (jN j7 (jr (by exact jT hr) (i4 1) jb (λ_ _=>rfl)) (i4 0) (λ_ _=>rfl)) i9 (jK _)))) (λ_ _ _ _=>(i4 0)))
   (i3 (jA (i:=6) lF.nd rfl lo (jL (jg (i4 3) rfl) T.ke T.uG ((wj T).mono (by decide)) hr T.uw hx (iY (jg (i4 3) rfl) iZ)))
   (i3 (jA (i:=7) lF.nd rfl lo (jL (jg (i4 3) rfl) T.ke T.uG ((wj T).mono (by decide)) hr T.uw hx (iY (jg (i4 3) rfl) iZ)))
   (i3 (jH (oV (uE (jj Gh (jz kX (by rfl) T.nP PyProof.Rows.Boot.«len» (iY (i4 6) iZ)) (jz kX (by rfl) T.nP PyProof.Rows.Boot.«len» (iY (i4 4) iZ)) (jK _)) (uU (jj Gh (jz kX (by rfl) T.nP PyProof.Rows.Boot.«len» (iY (i4 7) iZ)) (je j4 (i4 2) (jz kX (by rfl) T.nP PyProof.Rows.Boot.«len» (iY (i4 5) iZ))) (jK _))))) (i6 (jh vt)) jx)
   (i3 (kT hx.own rfl (mI rfl T.oX (iY (jz kX (by rfl) T.nP PyProof.Rows.Boot.«len» (iY (jr (by exact jT hr) (i4 0) jb (λ_ _=>rfl)) iZ)) iZ)) (jR (i:=8) lF.nd rfl lo)
    (i6 (jH (oV (qm (jj xr (jN j7 (jr (by exact jT hr) (i4 0) jb (λ_ _=>rfl)) (i4 8) (λ_ _=>rfl)) i9 (jK _)) (um (jj Gi (i4 8) (i4 1) (by with_unfolding_all rfl))))) (i6 (rG l9 (rF (jr (by exact jT hr) (i4 0) jb (λ_ _=>rfl)) (i4 8) uC))) jx)))
   (i3 (kT hx.own rfl (K9 rfl T.Lf (iY (i4 4) (iY (i4 6) iZ))) (yi (n:=2) (by rfl) (lS (jR (i:=8) lF.nd rfl lo) (lS (jR (i:=9) lF.nd rfl lo) vO)))
    (i3 (rG (i4 9) (rF (jr (by exact jT hr) (i4 0) jb (λ_ _=>rfl)) (i4 8) uC))
   (i6 (rG i9 (rF (jr (by exact jT hr) (i4 0) jb (λ_ _=>rfl)) (i4 8) uC)))))
   (i3 (kT hx.own rfl (K9 rfl T.Lf (iY (i4 5) (iY (B8 PL (i4 7) (Ar (i4 2)) Ob) iZ))) (yi (n:=2) (by rfl) (lS (jR (i:=8) lF.nd rfl lo) (lS (jR (i:=9) lF.nd rfl lo) vO)))
    (i3 (rG (i4 9) (rF (jr (by exact jT hr) (i4 0) jb (λ_ _=>rfl)) (i4 8) uC))
   (i6 (rG i9 (rF (jr (by exact jT hr) (i4 0) jb (λ_ _=>rfl)) (i4 8) uC)))))
   (i6 (jh vt))))))))))),?_⟩
  show kN _ _ _ [some (V.ref u.d),some (V.ref lr),some (V.int O.length),none,none,none,none,none,none,none] H
  obtain⟨da,ea⟩:=h.ar.ob
  have M_:=md.M_ I
  refine jw (λσ' H'=>σ'=[some (V.ref u.d),some (V.ref lr),some (V.int O.length),some (V.ref x.p),none,none,none,none,none,none]/\H=H') (λR hR=> ?_) ?_
  ·simp only[tC,jd,kB,jG,jZ,kL,aa,ay,ax,o.dc,GI]
   exact hR _ _ ⟨rfl,rfl⟩
  rintro Gq hGq _ _ ⟨rfl,rfl⟩
  subst hGq
  have kl:∀k∈F.map aJ,k<ow.G.length:=λk hk=>by obtain⟨a,ha⟩:=md.fy k hk;exact((I.ye k a).mp ha).1
  refine jw (λσ' H'=>∃l1,C5 (σ'=[some (V.ref u.d),some (V.ref lr),some (V.int O.length),some (V.ref x.p),some (V.ref l1),none,none,none,none,none]) (jD H H') (u.lp≠l1) (u.la≠l1) (H' l1=some (.lst (nV ((F.filter λe=>decide (ow.g e.1=0)).map aJ))))) (λR hR=> ?_) ?_
  ·simp only[jd,kB,jG,jq,yu,xW,tU,ao,aB,aa,ae,ay,ax,V.int.injEq,V.bl.injEq,V.str.injEq,V.ref.injEq,V.ty.injEq,av,ak,exists_eq_left']
   refine⟨⟨_,lT.of eo⟩,vP.Im (pg ow 0) (λv=>v) (lT.of eo) (by unfold nV;rw[aj,aj];exact aW M_ (by decide)) (λv hv K' hK=> ?_) (λv hv _ K' hK=> ?_) λlg hlg=> ?_⟩
   ·obtain⟨k,hk,rfl⟩:=List.mem_map.mp hv
    simp only[jY,lu,tC,jd,zK,eqv,zL,jZ,kL,aa,ae,↓jS,bN,o.dc,qt,o.ag,ko (Own.E9 (kl k hk))]
    exact hK
   ·simp only[jd,aa,bN]
    exact hK
   ·rw[fc,Fy]
    exact hR _ _ ⟨lg,rfl,jD.upd hlg,i5 o.pl hlg,i5 o.ag hlg,i8⟩
  rintro Gq hGq _ H1 ⟨l1,rfl,s1,nl1,nl1',e1⟩
  subst hGq
  have o1:=o.same s1
  refine jw (λσ' H'=>∃l2,C5 (σ'=[some (V.ref u.d),some (V.ref lr),some (V.int O.length),some (V.ref x.p),some (V.ref l1),some (V.ref l2),none,none,none,none]) (jD H1 H') (u.lp≠l2) (u.la≠l2) (H' l2=some (.lst (nV ((F.filter λe=>decide (ow.g e.1=1)).map aJ))))) (λR hR=> ?_) ?_
  ·simp only[jd,kB,jG,jq,yu,xW,tU,ao,aB,aa,ae,ay,ax,V.int.injEq,V.bl.injEq,V.str.injEq,V.ref.injEq,V.ty.injEq,av,ak,exists_eq_left']
   refine⟨⟨_,lT.of (s1 _ _ eo)⟩,vP.Im (pg ow 1) (λv=>v) (lT.of (s1 _ _ eo)) (by unfold nV;rw[aj,aj];exact aW M_ (by decide)) (λv hv K' hK=> ?_) (λv hv _ K' hK=> ?_) λlg hlg=> ?_⟩
   ·obtain⟨k,hk,rfl⟩:=List.mem_map.mp hv
    simp only[jY,lu,tC,jd,zK,eqv,zL,jZ,kL,aa,ae,↓jS,bN,o1.dc,qt,o1.ag,ko (Own.E9 (kl k hk))]
    exact hK
   ·simp only[jd,aa,bN]
    exact hK
   ·rw[fc,Fy]
    exact hR _ _ ⟨lg,rfl,jD.upd hlg,i5 o1.pl hlg,i5 o1.ag hlg,i8⟩
  rintro Gq hGq _ H2 ⟨l2,rfl,s2,nl2,nl2',e2⟩
  have o2:=o1.same s2
  subst hGq
  have I':=nx _ (T_ I.lp)
  have ez:(XW ow F).z=ow.z:=rfl
  have h2:=h.same (s1.trans s2)
  obtain⟨da2,ea2⟩:=h2.ar.ob
  obtain⟨dy2,ey2⟩:=h2.ar.r9
  obtain⟨do2,eo2⟩:=h2.ar.old
  generalize hY:(F.filter λe=>decide (ow.g e.1=0))=Y' at*
  generalize hG:(F.filter λe=>decide (ow.g e.1=1))=G' at*
  have ly:Y'.length<=10:=by rw[←hY];exact aW (cU ..) M_
  have lg:G'.length<=10:=by rw[←hG];exact aW (cU ..) M_
  have lO:=I.Xk
  refine jw (λσ' H'=>∃l3,C5 (σ'=[some (V.ref u.d),some (V.ref lr),some (V.int O.length),some (V.ref x.p),some (V.ref l1),some (V.ref l2),some (V.ref l3),none,none,none]) (jD H2 H') (u.lp≠l3) (u.la≠l3) (H' l3=some (.lst ((Y'.map cj).map V.int)))) (λR hR=> ?_) ?_
  ·simp only[jc,jv,jd,kB,jG,jq,↓jE,↓jB,aa,ae,ay,ax,and_true,true_and,kK,qw,uX,ea2,T.jF,T.jQ,T.jC,zG,tT,ey2,Eo]
   refine⟨x.y,dy2,_,_,_,x.m,x.q,M'.ws,_,rfl,ey2,h2.ar.mem,I'.wo,DO I'.ly (I'.XA λe he=> .inr he),by rw[aj];lia,λl3 H3 s3 n3 e3=>hR _ _ ⟨l3,rfl,s3,i5 o2.pl n3,i5 o2.ag n3,?_⟩⟩
   rw[e3,←D_ I'.ly]
  rintro Gq hGq _ H3 ⟨l3,rfl,s3,nl3,nl3',e3⟩
  have o3:=o2.same s3
  subst hGq
  have h3:=h2.same s3
  refine jw (λσ' H'=>∃l4,C5 (σ'=[some (V.ref u.d),some (V.ref lr),some (V.int O.length),some (V.ref x.p),some (V.ref l1),some (V.ref l2),some (V.ref l3),some (V.ref l4),none,none]) (jD H3 H') (u.lp≠l4) (u.la≠l4) (H' l4=some (.lst (((O++G').map cj).map V.int)))) (λR hR=> ?_) ?_
  ·simp only[jc,jv,jd,kB,jG,jq,↓jE,↓jB,aa,ae,ay,ax,and_true,true_and,kK,qw,uX,s3 _ _ ea2,T.jF,T.lD,T.jC,FG,tT,s3 _ _ eo2,Eo]
   have lo':=I'.lo
   rw[←I'.fr.ob]at lo'
   refine⟨x.o,do2,_,_,_,x.m,x.q,M'.ws,_,rfl,s3 _ _ eo2,h3.ar.mem,I'.wo,DO lo' (I'.XA λe he=> .inl he),by rw[aj,aY];lia,λl4 H4 s4 n4 e4=>hR _ _ ⟨l4,rfl,s4,i5 o3.pl n4,i5 o3.ag n4,?_⟩⟩
   rw[e4,←D_ lo']
  rintro Gq hGq _ H4 ⟨l4,rfl,s4,nl4,nl4',e4⟩
  subst hGq
  have s14:jD H H4:=s1.trans (s2.trans (s3.trans s4))
  have o4:=o.same s14
  have h4:=h3.same s4
  have e1':=s4 _ _ (s3 _ _ (s2 _ _ e1))
  have e2':=s4 _ _ (s3 _ _ e2)
  have e3':=s4 _ _ e3
  refine jw (λσ' H'=>σ'=[some (V.ref u.d),some (V.ref lr),some (V.int O.length),some (V.ref x.p),some (V.ref l1),some (V.ref l2),some (V.ref l3),some (V.ref l4),none,none]/\H4=H') (λR hR=> ?_) ?_
  ·refine Io (λK1 hK=> ?_) (hR _ _ ⟨rfl,rfl⟩)
   simp only[jY,lu,NL,A6,jc,jv,jd,qx,Rh,eqv,xk,↓reduceIte,dG,decide_true,aa,ae,aK,↓jS,e1',e2',e3',e4,nV,aj,aY]
   rw[decide_eq_true (by lia)]
   exact hK
  rintro Gq hGq _ _ ⟨rfl,rfl⟩
  subst hGq
  have Fb:=I.Fb
  have n3:=Ow.SO o.nd
  have eo4:=s14 _ _ eo
  refine jw (λσ' H'=>Y2 λ(v8:Option V) (P:List (Option Int))=>C6 (σ'=[some (V.ref u.d),some (V.ref lr),some (V.int O.length),some (V.ref x.p),some (V.ref l1),some (V.ref l2),some (V.ref l3),some (V.ref l4),v8,none]) ((∀b v,H4 b=some v->b≠u.lp->b≠u.la->H' b=some v)) (H' u.lp=some (.lst (P.map tv))) (H' u.la=some (.lst (ow.G.map V.int))) (P.length=ow.G.length) (∀k,k<ow.G.length->P.getD k none=if ow.g k<2/\k∉F.map aJ then none else ow.p k)) (λR hR=> ?_) ?_
  ·simp only[A6,jc,jv,tC,jd,LS,xk,bc,bD,mh,Ao,jZ,kL,aa,V.int.injEq,V.bl.injEq,V.str.injEq,V.ref.injEq,V.ty.injEq,av,ak,and_true,exists_eq_left',o4.dc,qt,o4.ag]
   refine⟨by rw[aj];lia,by rw[aj];lia,?_⟩
   refine lA.Cc (λi σ H'=>Y2 λ(v8:Option V) (P:List (Option Int))=>C6 (σ=[some (V.ref u.d),some (V.ref lr),some (V.int O.length),some (V.ref x.p),some (V.ref l1),some (V.ref l2),some (V.ref l3),some (V.ref l4),v8,none]) ((∀b v,H4 b=some v->b≠u.lp->b≠u.la->H' b=some v)) (H' u.lp=some (.lst (P.map tv))) (H' u.la=some (.lst (ow.G.map V.int))) (P.length=ow.G.length) (∀k,k<ow.G.length->P.getD k none=if k<i/\ow.g k<2/\k∉F.map aJ then none else ow.p k))
    ⟨_,ow.P,rfl,λ_ _ h _ _=>h,o4.pl,o4.ag,I.lp,λk _=>by rw[if_neg λz=>absurd z.1 (cP _)];rfl⟩ ?_ ?_
   ·rintro i σ H5 hi ⟨v8,P,rfl,f5,p5,a5,l5,m5⟩ R2 hR2
    rw[aj,bB]at hi
    have at1:yy (ow.G.map V.int) (0+(i:Int))=some (.int (ow.g i)):=by rw[bM];exact ko (Own.E9 hi)
    have dc5:=f5 _ _ o4.dc (jJ o4.dc o4.pl (by kernel_rfl)) (jJ o4.dc o4.ag (by kernel_rfl))
    have or5:=f5 _ _ eo4 (aE nr1) (aE nr2)
    have fin0:¬(ow.g i<2/\i∉F.map aJ)->R2 [some (V.ref u.d),some (V.ref lr),some (V.int O.length),some (V.ref x.p),some (V.ref l1),some (V.ref l2),some (V.ref l3),some (V.ref l4),some (V.int (0+(i:Int))),none] H5:=λz=>by
     refine hR2 _ _ ⟨_,P,rfl,f5,p5,a5,l5,λk hk=> ?_⟩
     rw[m5 k hk]
     by_cases e:k=i
     ·subst e;rw[if_neg λy=>z y.2,if_neg λy=>z y.2]
     ·by_cases y:k<i/\ow.g k<2/\k∉F.map aJ
      ·rw[if_pos y,if_pos ⟨by lia,y.2⟩]
      ·rw[if_neg y,if_neg λy'=>y ⟨by lia,y'.2⟩]
    have at1:yy (ow.G.map V.int) (i:Int)=some (.int (ow.g i)):=ko (Own.E9 hi)
    have ix:Jm (P.map tv).length (i:Int)=some i:=Aq (by lia) (by rw[aj];lia)
    rw[bM]at fin0
    simp only[j5,kZ,jY,lu,A5,tC,jd,kB,jG,tR,zL,↓reduceIte,aS,xV,jZ,kL,E8,decide_eq_false_iff_not,aa,ae,ay,ax,aK,decide_eq_true_eq,NT,↓jS,dc5,qt,tI,a5,p5,at1,or5,bM,PC,ix]
    by_cases z1:ow.g i<2
    ·rw[if_pos z1]
     refine⟨rfl,Na,?_⟩
     by_cases z2:i∈F.map aJ
     ·rw[if_neg λy=>y z2];exact fin0 λy=>y.2 z2
     ·rw[if_pos z2]
      refine hR2 _ _ ⟨_,P.set i none,rfl,λb v e b1 b2=>by rw[i_ b1];exact f5 b v e b1 b2,by rw[i8,fh];rfl,by rw[i_ (aE n3.1)];exact a5,by rw[bf];exact l5,λk hk=> ?_⟩
      rw[W5 (by lia)]
      by_cases e:i=k
      ·subst e;rw[if_pos rfl,if_pos ⟨by lia,z1,z2⟩]
      ·rw[if_neg e,m5 k hk]
       by_cases y:k<i/\ow.g k<2/\k∉F.map aJ
       ·rw[if_pos y,if_pos ⟨by lia,y.2⟩]
       ·rw[if_neg y,if_neg λy'=>y ⟨by lia,y'.2⟩]
    ·rw[if_neg z1];exact fin0 λy=>z1 y.1
   ·rintro σ H5 ⟨v8,P,rfl,f5,p5,a5,l5,m5⟩
    rw[aj,bB]at m5
    refine hR _ _ ⟨v8,P,rfl,f5,p5,a5,l5,λk hk=> ?_⟩
    rw[m5 k hk]
    by_cases y:ow.g k<2/\k∉F.map aJ
    ·rw[if_pos y,if_pos ⟨hk,y⟩]
    ·rw[if_neg y,if_neg λy'=>y y'.2]
  rintro Gq hGq _ H5 ⟨v8,P5,rfl,f5,p5,a5,l5,m5⟩
  subst hGq
  refine jw (λσ' H'=>Y4 λ(v8 v9:Option V) (P:List (Option Int)) (G:List Int)=>C8 (σ'=[some (V.ref u.d),some (V.ref lr),some (V.int O.length),some (V.ref x.p),some (V.ref l1),some (V.ref l2),some (V.ref l3),some (V.ref l4),v8,v9]) ((∀b v,H4 b=some v->b≠u.lp->b≠u.la->H' b=some v)) (H' u.lp=some (.lst (P.map tv))) (H' u.la=some (.lst (G.map V.int))) (P.length=ow.G.length) (G.length=ow.G.length) ((∀k,k<ow.G.length->P.getD k none=(lk Y' k).or (P5.getD k none))) (∀k,k<ow.G.length->G.getD k 0=if (lk Y' k).isSome then 1 else ow.g k)) (λR hR=> ?_) ?_
  ·have Bm:=f5 _ _ e1' (aE nl1) (aE nl1')
   have Il:=f5 _ _ e3' (aE nl3) (aE nl3')
   simp only[jc,jv,jd,jq,mh,aa,ae,Rw]
   refine⟨⟨_,lT.of Bm⟩,⟨_,lT.of Il⟩,zl (x:=x) (f5 _ _ o4.dc (jJ o4.dc o4.pl (by kernel_rfl)) (jJ o4.dc o4.ag (by kernel_rfl))) p5 a5 Bm Il n3.1 nl1 nl1' nl3 nl3' l5 rfl (λe he=> ?_) ?_ λv8 v9 H6 P G f6 p6 a6 l6 g6 m6 m6'=>hR _ _ ⟨v8,v9,P,G,rfl,λb v e b1 b2=>f6 b v (f5 b v e b1 b2) b1 b2,p6,a6,l6,g6,m6,m6'⟩⟩
   ·rw[←hY]at he
    exact kl e.1 (bK (f:=aJ) (List.mem_filter.mp he).1)
   ·rw[←hY]
    exact gD (iC _ gR) md.fn
  rintro Gq hGq _ H6 ⟨v8',v9',P6,G6,rfl,f6,p6,a6,l6,g6,m6,m6'⟩
  subst hGq
  refine jw (λσ' H'=>Y4 λ(v8 v9:Option V) (P:List (Option Int)) (G:List Int)=>C8 (σ'=[some (V.ref u.d),some (V.ref lr),some (V.int O.length),some (V.ref x.p),some (V.ref l1),some (V.ref l2),some (V.ref l3),some (V.ref l4),v8,v9]) ((∀b v,H4 b=some v->b≠u.lp->b≠u.la->H' b=some v)) (H' u.lp=some (.lst (P.map tv))) (H' u.la=some (.lst (G.map V.int))) (P.length=ow.G.length) (G.length=ow.G.length) ((∀k,k<ow.G.length->P.getD k none=(lk G' k).or (P6.getD k none))) (∀k,k<ow.G.length->G.getD k 0=if (lk G' k).isSome then 2 else G6.getD k 0)) (λR hR=> ?_) ?_
  ·have zS:=f6 _ _ e2' (aE nl2) (aE nl2')
   have U4:=f6 _ _ e4 (aE nl4) (aE nl4')
   have cu:DZ (((O++G').map cj).map V.int) (some (O.length:Int)) none=(G'.map cj).map V.int:=by
    rw[Pe (by rw[aj,aj,aY];lia),←fM,←fM,List.drop_left]
   simp only[jc,jv,jd,jq,mh,U1,Ii,Km,Va,aa,ae,Rw,U4,cu]
   intro p hp
   have s7:jD H6 (upd H6 p (.lst ((G'.map cj).map V.int))):=jD.upd hp
   have e7:upd H6 p (.lst ((G'.map cj).map V.int)) p=some (.lst ((G'.map cj).map V.int)):=i8
   have n7:=i5 p6 hp
   have n8:=i5 a6 hp
   generalize upd H6 p (.lst ((G'.map cj).map V.int))=H7 at*
   refine⟨⟨_,lT.of (s7 _ _ zS)⟩,⟨_,lT.of e7⟩,zl (x:=x) (s7 _ _ (f6 _ _ o4.dc (jJ o4.dc o4.pl (by kernel_rfl)) (jJ o4.dc o4.ag (by kernel_rfl)))) (s7 _ _ p6) (s7 _ _ a6) (s7 _ _ zS) e7 n3.1 nl2 nl2' n7 n8 l6 g6 (λe he=> ?_) ?_ λv8 v9 H8 P G f8 p8 a8 l8 g8 m8 m8'=>hR _ _ ⟨v8,v9,P,G,rfl,λb v e b1 b2=>f8 b v (s7 _ _ (f6 b v e b1 b2)) b1 b2,p8,a8,l8,g8,m8,m8'⟩⟩
   ·rw[←hG]at he
    exact kl e.1 (bK (f:=aJ) (List.mem_filter.mp he).1)
   ·rw[←hG]
    exact gD (iC _ gR) md.fn
  rintro Gq hGq _ H7 ⟨v8',v9',P7,G7,rfl,f7,p7,a7,l7,g7,m7,m7'⟩
  subst hGq
  simp only[kM,tC]
  have o7:=o4.Xz f7 p7 a7
  refine q H7 ⟨P7,G7,ow.S,ow.D⟩ ⟨rfl,rfl,by rw[I.lp];exact l7,g7,λk hk=> ?_,λk hk=> ?_⟩ (h4.Wb o4 f7) o7 λb v e b1 b2=>f7 b v (s14 _ _ e) b1 b2
  ·show P7.getD k none=_
   rw[m7 k hk,m6 k hk,m5 k hk,←hG,←hY,yW,yW]
   have ag:=I.ag k hk
   by_cases z2:ow.g k=2
   ·simp[z2]
   ·by_cases y:k∈F.map aJ
    ·obtain⟨qa,hq⟩:=pI y
     by_cases z1:ow.g k=1
     ·simp[z1,hq]
     ·simp[show ow.g k=0 by lia,hq]
    ·by_cases z1:ow.g k=1
     ·simp[z1,vz y];intro qa m;exact absurd (bK (f:=aJ) m) y
     ·simp[show ow.g k=0 by lia,vz y];intro qa m;exact absurd (bK (f:=aJ) m) y
  ·show G7.getD k 0=_
   rw[m7' k hk,m6' k hk,←hG,←hY,yW,yW]
   have ag:=I.ag k hk
   by_cases y:k∈F.map aJ
   ·rw[if_pos y]
    obtain⟨qa,hq⟩:=pI y
    have gk:=md.fg I (yX hq)
    rw[hq]
    by_cases z1:ow.g k=1
    ·simp[z1]
    ·have z0:ow.g k=0:=by lia
     simp[z0]
   ·rw[if_neg y,vz y]
    by_cases z1:ow.g k=1<;>by_cases z0:ow.g k=0<;>simp[z1,z0]
structure S5(A:Ad)(H:Hp)(x:Ax)(M:Mem)(c:CS)(l:Addr):Prop where
 wh:Wx A H x (cM M c)
 cl:H l=some (.lst (c.cs.map V.int))
 nq:l≠x.q
 ng:l≠x.g
 nv:l≠x.v
 wo:jP c.ws
 l2:c.ws.length<=200
 oe:M.so.e<=c.ws.length
 se:M.ss.e<=c.ws.length
 c1:c.cs.length<=100
theorem Pd{ws:List Int}{i t:Nat}{k n g:Int}(h:i<ws.length):(Cu ws i t k n g).getD i 0=2*t+1:=by
 unfold Cu;rw[Jg (by rw[bf,z9];exact h)]
noncomputable def Sv (A:Ad):Sp:=λvs H Q _=>Y5 λ(x:Ax) (M:Mem) (c:CS) (l:Addr) (u:Int)=>C5 (vs=[.ref x.p,.int u,.ref l]) (S5 A H x M c l) (QY M c u) ((c.ot<=9999/\c.st<=9999)) (∀H',Wx A H' x (cM M (kQ M.sy c u))->H' l=some (.lst ((kQ M.sy c u).cs.map V.int))->Kx [l,x.q] H H'->jP (kQ M.sy c u).ws->Q (.int (qo M.sy c u)) H')
theorem ND:jf ["areas","word","copies","at"] ["areas","word","copies"] (ja MA):=fsc
theorem Nu(T:Txt K mg A):jO P w K mg base (lV P w) true 11 A.B4 A.D3 ["areas","word","copies"] (Sv A):=by
 refine T.Fl.oZ ND (λvs H Q E h=> ?_) (λcdv A' outer s H vs Q E hr hx h=> ?_)
 ·obtain⟨_,_,_,_,_,rfl,_⟩:=h
  rfl
 ·obtain⟨x,M,c,l,u,rfl,h,mo,t9,q⟩:=h
  refine⟨_,nR.run (i3 (jH (kI (jM (i7 ((AD T).mono (by decide)) hr rfl T.rC T.sZ.kp T.xh hx (iY (i4 0) (iY (i4 1) iZ))) (λ_=>rfl))) (i6 (jh (i4 1))) jx)
   (i3 (jA (i:=3) ND.nd rfl lo (i7 ((yn T).mono (by decide)) hr rfl T.vq T.uQ.kp T.yH hx (iY (i4 1) iZ)))
   (i3 (jH (jj Gg (i7 ((GG T).mono (by decide)) hr rfl T.yb T.yP.kp T.DV hx (iY (jg (i4 0) rfl) (iY (i4 3) iZ))) l9 (jK _)) (i6 (ji (xq bX bY oW (i4 2) (iY (i7 ((Hq T).mono (by decide)) hr rfl T.vo T.xn.kp T.CJ hx (iY (i4 0) (iY (i4 3) iZ))) iZ)))) jx)
   (i6 (jh (i7 ((P1 T).mono (by decide)) hr rfl T.Fq T.F3.kp T.MT hx (iY (jg (i4 0) rfl) (iY (i4 1) iZ)))))))),?_⟩
  obtain⟨dp,ep⟩:=h.wh.ar.ob
  cases hy:r9 M.sy u with
  |false=>
   refine uK (λ_ _=>False) (λR _=> ?_) (λ_ _ z=>z.elim)
   simp only[kM,j5,kZ,sR,jc,jv,jd,jm,jq,pT,az,bE,aS,L2.start,ao,aB,ai,aq,ah,bq,bw,aa,ae,bF,aA]
   refine⟨x,_,u,rfl,h.wh,mo.kw,?_⟩
   rw[show r9 (cM M c).sy u=false from hy]
   have e1:kQ M.sy c u=c:=by unfold kQ;rw[hy];rfl
   have e2:qo M.sy c u=u:=by unfold qo;rw[hy];rfl
   rw[e1,e2]at q
   simp only[↓reduceIte,exists_eq_left]
   exact q H h.wh h.cl (Kx.refl H) h.wo
  |true=>
   have hp:rh u=true:=by unfold r9 at hy;rw[aQ]at hy;exact hy.1
   obtain⟨ev,u9,u0,eu⟩:=Ft hp mo.kw
   obtain⟨a0,a1,mc⟩:=mo.yg hy
   refine jw (λσ' H'=>σ'=[some (V.ref x.p),some (V.int u),some (V.ref l),none]/\H=H') (λR hR=> ?_) ?_
   ·simp only[kM,j5,kZ,sR,jc,jv,jd,jm,jq,pT,az,bE,aS,L2.start,ao,aB,ai,aq,ah,bq,bw,aa,ae,bF,aA]
    refine⟨x,_,u,rfl,h.wh,mo.kw,?_⟩
    rw[show r9 (cM M c).sy u=true from hy]
    simp only[↓reduceIte,bJ,exists_eq_left]
    exact hR _ _ ⟨rfl,rfl⟩
   rintro Gq hGq _ _ ⟨rfl,rfl⟩
   subst hGq
   refine jw (λσ' H'=>σ'=[some (V.ref x.p),some (V.int u),some (V.ref l),some (V.int (u/2))]/\H=H') (λR hR=> ?_) ?_
   ·simp only[jc,jv,jd,kB,jG,jm,aa,ae,ay,ax,V.int.injEq,V.bl.injEq,V.str.injEq,V.ref.injEq,V.ty.injEq,av,ak,and_true,exists_eq_left',yq,ev,eu]
    exact⟨aF,hR _ _ ⟨rfl,rfl⟩⟩
   rintro Gq hGq _ _ ⟨rfl,rfl⟩
   subst hGq
   have wa:wi (V.int (u/2)) 0 (c.ws.length-1)=true:=E3 a0 (by lia)
   refine jw (λσ' H'=>C7 (σ'=[some (V.ref x.p),some (V.int u),some (V.ref l),some (V.int (u/2))]) (Wx A H' x (cM M (kQ M.sy c u))) (H' l=some (.lst ((kQ M.sy c u).cs.map V.int))) (Kx [l,x.q] H H') (jP (kQ M.sy c u).ws) (rh (pM (kQ M.sy c u).ws (u/2))=true) ((kQ M.sy c u).ws.length=c.ws.length)) (λR hR=> ?_) ?_
   ·cases ip:rh (pM c.ws (u/2)) with
    |true=>
     have e1:kQ M.sy c u=c:=by unfold kQ;rw[hy,if_pos rfl,if_pos ip]
     rw[e1]at hR
     simp only[j5,kc,kZ,jY,lu,jc,jv,tC,jd,jm,QS,rd,jq,and_assoc,↓reduceIte,↓jE,qy,NS,aa,ae,V.int.injEq,V.bl.injEq,V.str.injEq,V.ref.injEq,V.ty.injEq,av,ak,and_true,true_and,exists_eq_left',exists_and_left,aK,↓jS,kK,qw,ep,T.jF,T.jC,tT,zC]
     refine⟨x.q,c.ws,h.wh.ar.mem,aF,h.wo,?_⟩
     rw[if_pos wa,if_pos (show rh (c.ws.getD (iv (V.int (u/2))).toNat 0)=true from ip)]
     exact hR _ _ ⟨rfl,h.wh,h.cl,Kx.refl H,h.wo,ip,rfl⟩
    |false=>
     obtain⟨n,cn,h1,h2⟩:=mc ip
     obtain⟨_,n0,n34,n2,_⟩:=CM cn
     simp only[j5,kc,kZ,jY,lu,jc,jv,tC,jd,jm,QS,rd,jq,and_assoc,↓reduceIte,↓jE,qy,NS,aa,ae,V.int.injEq,V.bl.injEq,V.str.injEq,V.ref.injEq,V.ty.injEq,av,ak,and_true,true_and,exists_eq_left',exists_and_left,aK,↓jS,kK,qw,ep,T.jF,T.jC,tT,zC]
     refine⟨x.q,c.ws,h.wh.ar.mem,aF,h.wo,?_⟩
     rw[if_pos wa,if_neg (show¬rh (c.ws.getD (iv (V.int (u/2))).toNat 0)=true by rw[show c.ws.getD (iv (V.int (u/2))).toNat 0=pM c.ws (u/2) from rfl,ip];intro z;cases z),show(iv (V.int (u/2))).toNat=(u/2).toNat from rfl,cn]
     simp only[h.cl]
     refine⟨x,M,c,u/2,n,rfl,h.wh,h.wo,h.l2,h.oe,h.se,a0,a1,mo.o0,mo.s0,cn,h1,h2,λH1 k1 w1=> ?_⟩
     have l1:=k1 l _ h.cl rfl (by simpa using h.nq)
     have c1:=h.c1
     have mc':kQ M.sy c u=if n%4=0 then⟨Cu c.ws (u/2).toNat c.st.toNat (n/4+1) n 1,c.ot,c.st+(n/4+1),c.cs++[c.st]⟩ else⟨Cu c.ws (u/2).toNat c.ot.toNat (n/4+1) n 2,c.ot+(n/4+1),c.st,c.cs++[c.ot]⟩:=by
      unfold kQ;rw[hy,if_pos rfl,ip,if_neg (by intro z;cases z),cn]
     have t0:=mo.o0
     have t1:=mo.s0
     have kx:∀{ys:List V},Kx [l,x.q] H (upd H1 l (.lst ys)):=λ{ys} b v eb kb nb=>by
      rw[bI,not_or]at nb
      rw[i_ nb.1];exact k1 b v eb kb nb.2
     rw[mc']at hR
     by_cases z:n%4=0
     ·rw[if_pos z]at hR w1⊢
      simp only[l1]
      refine⟨by rw[aj];exact bQ c1 (by decide),hR _ _ ⟨rfl,w1.row l1 h.nq h.ng h.nv,?_,kx,L_ h.wo n0 n34 (by decide) (by decide) (by omega),?_,I0⟩⟩
      ·rw[i8,bo];rfl
      ·show rh (List.getD _ _ _)=true;rw[Pd (by lia)];exact Be (by lia)
     ·rw[if_neg z]at hR w1⊢
      simp only[l1]
      refine⟨by rw[aj];exact bQ c1 (by decide),hR _ _ ⟨rfl,w1.row l1 h.nq h.ng h.nv,?_,kx,L_ h.wo n0 n34 (by decide) (by decide) (by omega),?_,I0⟩⟩
      ·rw[i8,bo];rfl
      ·show rh (List.getD _ _ _)=true;rw[Pd (by lia)];exact Be (by lia)
   rintro Gq hGq _ H1 ⟨rfl,w1,l1,k1,o1,p1,n1⟩
   subst hGq
   obtain⟨dp1,ep1⟩:=w1.ar.ob
   simp only[kM,jc,jv,jd,jm,jq,and_assoc,↓jE,aa,ae,V.int.injEq,V.bl.injEq,V.str.injEq,V.ref.injEq,V.ty.injEq,av,ak,and_true,true_and,exists_eq_left',exists_and_left,kK,qw,ep1,T.jF,T.jC,tT,LK]
   refine⟨x.q,_,w1.ar.mem,o1,mo.kw,?_⟩
   rw[if_pos hp]
   refine⟨show u/2<((kQ M.sy c u).ws.length:Int) by rw[n1];exact a1,?_⟩
   rw[if_pos (show rh ((cM M (kQ M.sy c u)).ws.getD (u/2).toNat 0)=true from p1)]
   have e:=q H1 w1 l1 k1 o1
   unfold qo at e
   rw[if_pos hy]at e
   exact e
noncomputable def Kh (A:Ad):Sp:=λvs H Q _=>Y7 λ(x:Ax) (u:Ow) (ow:Own) (M:Mem) (O Y:List (Nat×Int)) (c:Int)=>C8 (vs=[.ref u.d,.int c]) (Wx A H x M) (lW H x u ow) (In ow M O Y) (ow.G.length<10) ((∀k j,ow.t k j= .no)) ((∀k,k<ow.G.length->(ow.p k).isSome=true)) (∀(H':Hp) (u':Ow) (ow':Own) (M':Mem) (O' Y':List (Nat×Int)),Wx A H' x M'->lW H' x u' ow'->In ow' M' O' Y'->u'.d=u.d->ow'.D=ow.D->ow'.G.length<=ow.G.length+1->(∀k j,ow'.t k j= .no)->(∀k,k<ow'.G.length->(ow'.p k).isSome=true)->Kx [x.q,u.lp,u.la,u.ls] H H'->(u'.lp=u.lp/\u'.la=u.la/\u'.ls=u.ls)->Q .kG H')
theorem zz:jf ["_law_own","_law_cell","_law_areas","_law_slots"] ["_law_own","_law_cell"] (ja AN):=fsc
theorem JH(T:Txt K mg A):jO P w K mg base (lV P w) true 11 A.p_ A.sx ["_law_own","_law_cell"] (Kh A):=by
 refine T.yN.oZ zz (λvs H Q E h=> ?_) (λcdv A' outer s H vs Q E hr hx h=> ?_)
 ·obtain⟨_,_,_,_,_,_,_,rfl,_⟩:=h
  rfl
 ·obtain⟨x,u,ow,M,O,Y,c,rfl,h,o,I,l10,bl,al,q⟩:=h
  refine⟨_,nR.run (i3 (jA (i:=2) zz.nd rfl lo (jr (by exact jT hr) (i4 0) jb (λ_ _=>rfl)))
   (i3 (jA (i:=3) zz.nd rfl lo (Oa (iY (je mW (je qj (i4 1) i9) i9) (iY (je mW (je qj (i4 1) i9) i9) iZ)) (yS RE (by rfl) T.IA PyProof.Rows.Boot.«int» (iY (vN mz (je mW (i4 1) i9) i9 (jK _)) iZ)) (λ_ _=>rfl)))
   (i3 (jH (jj xr (lJ (jg (i4 2) rfl) T.ke T.vA ((xx T).mono (by decide)) hr T.vc hx) (je j4 (je j4 (lJ (jg (i4 2) rfl) T.ke T.tD ((uH T).mono (by decide)) hr T.sU hx) (i4 3)) i9) (jK _)) (i6 Od) jx)
   (i6 (jH (jj mz (je mW (i4 1) i9) i9 (jK _)) (i3 (ji (xq bX bY oW (jr (by exact jT hr) (i4 0) jb (λ_ _=>rfl)) (iY (jL (i4 2) T.jF T.zO ((Ee T).mono (by decide)) hr T.zH hx (iY (i4 3) iZ)) iZ)))
   (i3 (ji (xq bX bY oW (jr (by exact jT hr) (i4 0) jb (λ_ _=>rfl)) (iY i9 iZ)))
   (i6 (ji (xq bX bY oW (jr (by exact jT hr) (i4 0) jb (λ_ _=>rfl)) (iY (je De (mS (iY l9 iZ)) (i4 3)) iZ)))))) (i6 (jH (oV (qm (jj mz (je mW (i4 1) i9) i9 (jK _)) (um (jj PJ (lJ (jg (i4 2) rfl) T.ke T.vA ((xx T).mono (by decide)) hr T.vc hx) (i4 3) (jK _))))) (i3 (ji (xq bX bY oW (jr (by exact jT hr) (i4 0) jb (λ_ _=>rfl)) (iY (jL (i4 2) T.jF T.wX ((Ca T).mono (by decide)) hr T.wD hx (iY (i4 3) iZ)) iZ)))
   (i3 (ji (xq bX bY oW (jr (by exact jT hr) (i4 0) jb (λ_ _=>rfl)) (iY (je mW (je qj (i4 1) i9) i9) iZ)))
   (i3 (ji (i7 ((JK T).mono (by decide)) hr rfl T.D6 T.CY.kp T.IV hx (iY (jg (i4 2) rfl) (iY (jN j7 (jr (by exact jT hr) (i4 0) jb (λ_ _=>rfl)) (Js Jr i9) (λ_ _=>rfl)) (iY (jN j7 (jr (by exact jT hr) (i4 0) jb (λ_ _=>rfl)) (Js Jr i9) (λ_ _=>rfl)) iZ)))))
   (i6 (ji (xq bX bY oW (jr (by exact jT hr) (i4 0) jb (λ_ _=>rfl)) (iY (je De (mS (iY l9 iZ)) (i4 3)) iZ))))))) jx))))))),?_⟩
  show kN _ _ _ [some (V.ref u.d),some (V.int c),none,none] H
  obtain⟨da,ea⟩:=h.ar.ob
  obtain⟨do1,eo⟩:=h.ar.old
  obtain⟨dy1,ey⟩:=h.ar.r9
  refine jw (λσ' H'=>σ'=[some (V.ref u.d),some (V.int c),some (V.ref x.p),none]/\H=H') (λR hR=> ?_) ?_
  ·simp only[tC,jd,kB,jG,jZ,kL,aa,ay,ax,o.dc,GI]
   exact hR _ _ ⟨rfl,rfl⟩
  rintro Gq hGq _ _ ⟨rfl,rfl⟩
  subst hGq
  have A4:Q .kG H:=q H u ow M O Y h o I rfl rfl (by lia) bl al (Kx.refl H) ⟨rfl,rfl,rfl⟩
  refine jw (λσ' H'=>∃n:Nat,C3 (σ'=[some (V.ref u.d),some (V.int c),some (V.ref x.p),some (V.int n)]) (H=H') (n<=8)) (λR hR=> ?_) ?_
  ·by_cases c7:c%7=3
   ·simp only[lu,A6,jc,jv,tC,jd,zD,kB,jG,wG,xU,zK,eqv,OC,cInt,DS,bt,bu,az,↓reduceIte,i8,decide_true,FJ,ai,aq,aa,ae,ay,ax,and_true,true_and,aA,QV,c7]
    intro p hp
    rw[Qv hp]
    exact hR _ _ ⟨(c/2%9).toNat,by rw[dB (by lia)],rfl,by omega⟩
   ·simp only[lu,A6,jc,jv,tC,jd,zD,kB,jG,wG,xU,zK,eqv,OC,cInt,DS,bt,bu,az,↓reduceIte,i8,decide_false,Cw,ai,aq,aa,ae,ay,ax,and_true,true_and,aK,aA,QV,c7]
    intro p hp
    rw[Qv hp]
    exact hR _ _ ⟨(c/2%4).toNat,by rw[dB (by lia)],rfl,by lia⟩
  rintro Gq hGq _ _ ⟨n,rfl,rfl,n8⟩
  subst hGq
  by_cases z:M.so.e-M.so.t<M.sy.t-M.sy.b+n+1
  ·refine uK (λ_ _=>False) (λR _=> ?_) (λ_ _ z=>z.elim)
   simp only[NM,j5,kZ,jY,lu,jv,tC,jd,qx,LS,tR,jq,↓jE,↓jB,aa,ae,and_true,true_and,and_false,decide_eq_true_eq,↓jS,kK,qw,uX,ea,T.jF,T.lD,FG,eo,yp]
   refine⟨x.o,do1,_,_,_,rfl,eo,?_⟩
   simp only[and_true,true_and,ea,T.jF,T.jQ,zG,ey,AX]
   refine⟨x.y,dy1,_,_,_,rfl,ey,?_⟩
   simp only[↓reduceIte,z]
   exact A4
  refine jw (λσ' H'=>σ'=[some (V.ref u.d),some (V.int c),some (V.ref x.p),some (V.int n)]/\H=H') (λR hR=> ?_) ?_
  ·simp only[NM,j5,kZ,jY,lu,jv,tC,jd,qx,LS,tR,jq,↓jE,↓jB,aa,ae,and_true,true_and,and_false,decide_eq_true_eq,↓jS,kK,qw,uX,ea,T.jF,T.lD,FG,eo,yp]
   refine⟨x.o,do1,_,_,_,rfl,eo,?_⟩
   simp only[and_true,true_and,ea,T.jF,T.jQ,zG,ey,AX]
   refine⟨x.y,dy1,_,_,_,rfl,ey,?_⟩
   simp only[↓reduceIte,z]
   exact hR _ _ ⟨rfl,rfl⟩
  rintro Gq hGq _ _ ⟨rfl,rfl⟩
  subst hGq
  have f:=I.fr
  have f1:=f.hv;have f2:=f.ot;have f3:=f.o0;have f4:=f.yw;have f5:=f.y0;have f6:=f.yt;have f7:=f.l2
  have pP:(ow.P.map tv).length<=10:=by rw[aj,I.lp];lia
  have n3:=Ow.SO o.nd
  have fin:∀{a g:Int} {M2:Mem} {H2 H3:Hp} {O' Y':List (Nat×Int)} {nr:Addr},Wx A H2 x M2->(∀b v,H b=some v->Oq v=true->b≠x.q->H2 b=some v)->In (ow.lay a g n) M2 O' Y'->H nr=none->(∀b v,H2 b=some v->b≠u.lp->b≠u.la->b≠u.ls->H3 b=some v)->H3 u.lp=some (.lst ((ow.P++[some a]).map tv))->H3 u.la=some (.lst ((ow.G++[g]).map V.int))->H3 u.ls=some (.lst ((u.rs++[nr]).map V.ref))->H3 nr=some (.lst (ah n .kG))->Q .kG H3:=λ{a g M2 H2 H3 O' Y' nr} w2 k2 I2 hnr g' e1 e2 e3 e4=>by
   have o2:=o.go h (H':=H2) λb v e k n=>k2 b v e k λz=>n (by rw[z];exact aM ..)
   refine q _ {u with rs:=u.rs++[nr]} (ow.lay a g n) M2 O' Y' (w2.Xm o2 g') (o.lay hnr ⟨i5 h.ar.mem.ls hnr,i5 h.hd.ls hnr,i5 h.wk.ls hnr⟩ (λb v e k b0 b1 b2 b3=>g' b v (k2 b v e k b0) b1 b2 b3) ⟨_,h.ar.mem.ls⟩ e1 e2 e3 e4 I.ls) I2 rfl rfl (by show(ow.G++[_]).length<=_;rw[aY];exact aN _) (Own.TU bl) (Own.TR I.lp al) (λb v e k z=> ?_) ⟨rfl,rfl,rfl⟩
   simp only[bI,bz,or_false,not_or]at z
   exact g' b v (k2 b v e k z.1) z.2.1 z.2.2.1 z.2.2.2
  cases c2:decide (c%2=0) with
  |true=>
   have c2:=of_decide_eq_true c2
   refine Jj (λK1 hK=>by simp only[jY,lu,tC,jd,xU,zK,eqv,bt,bu,decide_true,aa,ae,true_and,↓jS,c2];exact hK) ?_
   refine jw (λσ' H'=>σ'=[some (V.ref u.d),some (V.int c),some (V.ref x.p),some (V.int n)]/\∃H2,(∀b,H2 b=none->H b=none)/\Wx A H2 x {M with ws:=kF M.ws M.so.t.toNat n 2,so:=⟨M.so.b,M.so.e,M.so.t+(n+1)⟩}/\(∀b v,H b=some v->Oq v=true->b≠x.q->H2 b=some v)/\H'=upd H2 u.lp (.lst ((ow.P++[some M.so.t]).map tv))) (λR hR=> ?_) ?_
   ·simp only[kc,jc,jv,tC,jd,↓jB,qy,NS,jZ,kL,aa,ae,and_true,true_and,uX,o.dc,tI,ea,S8,o.pl]
    refine⟨x.p,x.m,x.q,x.o,x.y,x.s,M.ws,M.so,M.sy,M.ss,V.int n,rfl,h.ar,I.wo,by lia,f3,by lia,aF,?_⟩
    rw[if_pos (E3 (by lia) (by lia)),if_pos (show iv (V.int n)+1<=M.so.e-M.so.t by show(n:Int)+1<=_;lia)]
    intro H2 a2 f2'
    have e2:=f2' _ _ o.pl (o.ne _ (by simp[Ow.as])).1 (jJ o.pl eo (by kernel_rfl))
    rw[e2]
    refine⟨bQ pP (by decide),hR _ _ ⟨rfl,H2,λb hb=> ?_,h.IU a2 λb v e n1 n2 _=>f2' b v e n1 (Ed e eo n2 (by kernel_rfl)),λb v e k n1=>f2' b v e n1 (λy=>by rw[y,eo]at e;cases e;cases k),?_⟩⟩
    ·obtain⟨_,eo2⟩:=a2.old
     cases e:H b with
     |none=>rfl
     |some v=>
      rw[f2' b v e (λy=>by rw[y,a2.mem.ls]at hb;cases hb) (λy=>by rw[y,eo2]at hb;cases hb)]at hb
      cases hb
    ·rw[bo];rfl
   rintro Gq hGq _ _ ⟨rfl,H2,b2,w2,k2,rfl⟩
   subst hGq
   have o2:=o.go h (H':=H2) λb v e k n=>k2 b v e k λz=>n (by rw[z];exact aM ..)
   refine jw (λσ' H'=>σ'=[some (V.ref u.d),some (V.int c),some (V.ref x.p),some (V.int n)]/\H'=upd (upd H2 u.lp (.lst ((ow.P++[some M.so.t]).map tv))) u.la (.lst ((ow.G++[2]).map V.int))) (λR hR=> ?_) ?_
   ·have d3:upd H2 u.lp (.lst ((ow.P++[some M.so.t]).map tv)) u.d=some (.dK (ON x.p x.r u)):=by rw[i_ (jJ o2.dc o2.pl (by kernel_rfl))];exact o2.dc
    have a3:upd H2 u.lp (.lst ((ow.P++[some M.so.t]).map tv)) u.la=some (.lst (ow.G.map V.int)):=by rw[i_ (aE n3.1)];exact o2.ag
    generalize upd H2 u.lp (.lst ((ow.P++[some M.so.t]).map tv))=H3 at*
    simp only[kc,jc,jv,tC,jd,qy,NS,jZ,kL,aa,d3,qt,a3]
    refine⟨bQ (show _<=10 by rw[aj];lia) (by decide),hR _ _ ⟨rfl,?_⟩⟩
    rw[bo];rfl
   rintro Gq hGq _ _ ⟨rfl,rfl⟩
   subst hGq
   have d4:upd (upd H2 u.lp (.lst ((ow.P++[some M.so.t]).map tv))) u.la (.lst ((ow.G++[2]).map V.int)) u.d=some (.dK (ON x.p x.r u)):=by rw[i_ (jJ o2.dc o2.ag (by kernel_rfl)),i_ (jJ o2.dc o2.pl (by kernel_rfl))];exact o2.dc
   have s4:upd (upd H2 u.lp (.lst ((ow.P++[some M.so.t]).map tv))) u.la (.lst ((ow.G++[2]).map V.int)) u.ls=some (.lst (u.rs.map V.ref)):=by rw[i_ n3.2.2.1,i_ n3.2.1];exact o2.sl
   have p4:upd (upd H2 u.lp (.lst ((ow.P++[some M.so.t]).map tv))) u.la (.lst ((ow.G++[2]).map V.int)) u.lp=some (.lst ((ow.P++[some M.so.t]).map tv)):=by rw[i_ n3.1,i8]
   have a4:upd (upd H2 u.lp (.lst ((ow.P++[some M.so.t]).map tv))) u.la (.lst ((ow.G++[2]).map V.int)) u.la=some (.lst ((ow.G++[2]).map V.int)):=i8
   have g4:∀b v,H2 b=some v->b≠u.lp->b≠u.la->upd (upd H2 u.lp (.lst ((ow.P++[some M.so.t]).map tv))) u.la (.lst ((ow.G++[2]).map V.int)) b=some v:=λb v e b1 b2=>by rw[i_ b2,i_ b1];exact e
   have b4:∀b,upd (upd H2 u.lp (.lst ((ow.P++[some M.so.t]).map tv))) u.la (.lst ((ow.G++[2]).map V.int)) b=none->H b=none:=λb hb=>b2 b (j6 (j6 hb).2).2
   generalize upd (upd H2 u.lp (.lst ((ow.P++[some M.so.t]).map tv))) u.la (.lst ((ow.G++[2]).map V.int))=H4 at*
   simp only[kc,lu,jc,jv,tC,jd,zD,bc,bD,az,i8,KI,qy,NS,jZ,kL,ai,aq,aa,ae,true_and,aA,DK,d4,BR,s4]
   intro p hp
   refine⟨by lia,by lia,aW (show _<=8 by lia) (by decide),λnr hnr=> ?_⟩
   obtain⟨nrp,hnr4⟩:=j6 hnr
   have s6:jD H4 (upd (upd H4 p (.lst [.kG])) nr (.lst (ah n .kG))):=λb v e=>by rw[i_ (i5 e hnr4),i_ (i5 e hp)];exact e
   rw[bB,CO]
   have e6:upd (upd H4 p (.lst [.kG])) nr (.lst (ah n .kG)) nr=some (.lst (ah n .kG)):=i8
   generalize upd (upd H4 p (.lst [.kG])) nr (.lst (ah n .kG))=H6 at*
   rw[s6 _ _ s4]
   have nls:=i5 s4 hnr4
   refine⟨bQ (show _<=10 by rw[aj,o.rl,I.ls];lia) (by decide),fin w2 k2 (I.lay (a:=M.so.t) (g:=2) (so:=⟨M.so.b,M.so.e,M.so.t+(n+1)⟩) (sy:=M.sy) n8 l10 (by decide) (by decide) f3 (by lia) ?_ (.inl ⟨rfl,rfl,rfl⟩) ?_ ?_ λk b m=> ?_) (b4 nr hnr4) (λb v e b1 b2 b3=>by rw[i_ b3];exact s6 _ _ (g4 b v e b1 b2)) ?_ ?_ ?_ ?_⟩
   ·refine⟨by show(kF _ _ _ _).length<=200;rw[sO];exact f7,f.ob,by show 0<=M.so.t+_;lia,by show M.so.t+_<=M.so.e;lia,?_,f4,f5,f6,f.st,by show M.sy.t-M.sy.b<=M.so.e-(M.so.t+_);lia,f.SQ⟩
    show(M.sy.b=M.so.e/\M.ss.b=M.sy.e/\M.ss.e=((kF _ _ _ _).length:Int))∨(M.ss.b=M.so.e/\M.sy.b=M.ss.e/\M.sy.e=((kF _ _ _ _).length:Int))
    rw[sO];exact f1
   ·have e:=Bg (k:=ow.G.length) (I.Nl (a:=M.so.t) (g:=2) (n:=n)).1
    rw[(Own.lay_z (k:=0) I.ls).2]at e
    exact e
   ·exact I.Nl.2
   ·rcases m with m|m
    ·have:=I.QU m;lia
    ·have:=I.QW m;lia
   ·rw[i_ (aE n3.2.1)];exact s6 _ _ p4
   ·rw[i_ (aE n3.2.2.1)];exact s6 _ _ a4
   ·rw[i8,bo];rfl
   ·rw[i_ (aE nls)];exact e6
  |false=>
   have c2:=of_decide_eq_false c2
   refine Io (λK1 hK=>by simp only[jY,lu,tC,jd,xU,zK,eqv,bt,bu,decide_false,aa,ae,true_and,↓jS,c2];exact hK) ?_
   by_cases zy:M.sy.e-M.sy.t>n
   ·refine Jj (λK1 hK=> ?_) ?_
    ·simp only[jY,lu,A5,jv,tC,jd,xU,U0,tR,zK,eqv,jq,bt,bu,↓reduceIte,decide_true,↓jE,↓jB,aa,ae,and_true,true_and,↓jS,kK,qw,uX,show c%2=1 by lia,ea,T.jF,T.jQ,zG,ey,yp]
     refine⟨x.y,dy1,_,_,_,rfl,ey,?_⟩
     show K1 (decide ((n:Int)<M.sy.e-M.sy.t)) H
     rw[decide_eq_true zy];exact hK
    refine jw (λσ' H'=>σ'=[some (V.ref u.d),some (V.int c),some (V.ref x.p),some (V.int n)]/\∃H2,(∀b,H2 b=none->H b=none)/\Wx A H2 x {M with ws:=kF M.ws M.sy.t.toNat n 0,sy:=⟨M.sy.b,M.sy.e,M.sy.t+(n+1)⟩}/\(∀b v,H b=some v->Oq v=true->b≠x.q->H2 b=some v)/\H'=upd H2 u.lp (.lst ((ow.P++[some M.sy.t]).map tv))) (λR hR=> ?_) ?_
    ·simp only[kc,jc,jv,tC,jd,↓jB,qy,NS,jZ,kL,aa,ae,and_true,true_and,uX,o.dc,tI,ea,S9,o.pl]
     refine⟨x.p,x.m,x.q,x.o,x.y,x.s,M.ws,M.so,M.sy,M.ss,V.int n,rfl,h.ar,I.wo,by lia,by lia,by lia,aF,?_⟩
     rw[if_pos (E3 (by lia) (by lia)),if_pos (show iv (V.int n)+1<=M.sy.e-M.sy.t by show(n:Int)+1<=_;lia)]
     intro H2 a2 f2'
     have e2:=f2' _ _ o.pl (o.ne _ (by simp[Ow.as])).1 (jJ o.pl ey (by kernel_rfl))
     rw[e2]
     refine⟨bQ pP (by decide),hR _ _ ⟨rfl,H2,λb hb=> ?_,h.IU a2 λb v e n1 n2 _=>f2' b v e n1 (Ed e ey n2 (by kernel_rfl)),λb v e k n1=>f2' b v e n1 (λy=>by rw[y,ey]at e;cases e;cases k),?_⟩⟩
     ·obtain⟨_,ey2⟩:=a2.r9
      cases e:H b with
      |none=>rfl
      |some v=>
       rw[f2' b v e (λy=>by rw[y,a2.mem.ls]at hb;cases hb) (λy=>by rw[y,ey2]at hb;cases hb)]at hb
       cases hb
     ·rw[bo];rfl
    rintro Gq hGq _ _ ⟨rfl,H2,b2,w2,k2,rfl⟩
    subst hGq
    have o2:=o.go h (H':=H2) λb v e k n=>k2 b v e k λz=>n (by rw[z];exact aM ..)
    have gg:0<=c/18%2/\c/18%2<=1:=by lia
    generalize hgg:c/18%2=g at*
    refine jw (λσ' H'=>σ'=[some (V.ref u.d),some (V.int c),some (V.ref x.p),some (V.int n)]/\H'=upd (upd H2 u.lp (.lst ((ow.P++[some M.sy.t]).map tv))) u.la (.lst ((ow.G++[g]).map V.int))) (λR hR=> ?_) ?_
    ·have d3:upd H2 u.lp (.lst ((ow.P++[some M.sy.t]).map tv)) u.d=some (.dK (ON x.p x.r u)):=by rw[i_ (jJ o2.dc o2.pl (by kernel_rfl))];exact o2.dc
     have a3:upd H2 u.lp (.lst ((ow.P++[some M.sy.t]).map tv)) u.la=some (.lst (ow.G.map V.int)):=by rw[i_ (aE n3.1)];exact o2.ag
     generalize upd H2 u.lp (.lst ((ow.P++[some M.sy.t]).map tv))=H3 at*
     simp only[kc,lu,jc,jv,tC,jd,wG,xU,DS,bt,bu,qy,NS,jZ,kL,aa,ae,and_true,true_and,d3,qt,a3,hgg]
     refine⟨bQ (show _<=10 by rw[aj];lia) (by decide),hR _ _ ⟨rfl,?_⟩⟩
     rw[bo];rfl
    rintro Gq hGq _ _ ⟨rfl,rfl⟩
    subst hGq
    have d4:upd (upd H2 u.lp (.lst ((ow.P++[some M.sy.t]).map tv))) u.la (.lst ((ow.G++[g]).map V.int)) u.d=some (.dK (ON x.p x.r u)):=by rw[i_ (jJ o2.dc o2.ag (by kernel_rfl)),i_ (jJ o2.dc o2.pl (by kernel_rfl))];exact o2.dc
    have s4:upd (upd H2 u.lp (.lst ((ow.P++[some M.sy.t]).map tv))) u.la (.lst ((ow.G++[g]).map V.int)) u.ls=some (.lst (u.rs.map V.ref)):=by rw[i_ n3.2.2.1,i_ n3.2.1];exact o2.sl
    have p4:upd (upd H2 u.lp (.lst ((ow.P++[some M.sy.t]).map tv))) u.la (.lst ((ow.G++[g]).map V.int)) u.lp=some (.lst ((ow.P++[some M.sy.t]).map tv)):=by rw[i_ n3.1,i8]
    have a4:upd (upd H2 u.lp (.lst ((ow.P++[some M.sy.t]).map tv))) u.la (.lst ((ow.G++[g]).map V.int)) u.la=some (.lst ((ow.G++[g]).map V.int)):=i8
    have g4:∀b v,H2 b=some v->b≠u.lp->b≠u.la->upd (upd H2 u.lp (.lst ((ow.P++[some M.sy.t]).map tv))) u.la (.lst ((ow.G++[g]).map V.int)) b=some v:=λb v e b1 b2=>by rw[i_ b2,i_ b1];exact e
    have b4:∀b,upd (upd H2 u.lp (.lst ((ow.P++[some M.sy.t]).map tv))) u.la (.lst ((ow.G++[g]).map V.int)) b=none->H b=none:=λb hb=>b2 b (j6 (j6 hb).2).2
    have w4:Wx A (upd (upd H2 u.lp (.lst ((ow.P++[some M.sy.t]).map tv))) u.la (.lst ((ow.G++[g]).map V.int))) x {M with ws:=kF M.ws M.sy.t.toNat n 0,sy:=⟨M.sy.b,M.sy.e,M.sy.t+(n+1)⟩}:=w2.Wb o2 g4
    generalize upd (upd H2 u.lp (.lst ((ow.P++[some M.sy.t]).map tv))) u.la (.lst ((ow.G++[g]).map V.int))=H4 at*
    refine jw (λσ' H'=>σ'=[some (V.ref u.d),some (V.int c),some (V.ref x.p),some (V.int n)]/\H'=upd H4 x.q (.lst ((kF M.ws M.sy.t.toNat n g).map V.int))) (λR hR=> ?_) ?_
    ·obtain⟨da4,ea4⟩:=w4.ar.ob
     have l1:yy (gL tv (ow.P++[some M.sy.t])) (-1)=some (.int M.sy.t):=by rw[bo];exact Kw _ _
     have l2:yy (gL V.int (ow.G++[g])) (-1)=some (.int g):=by rw[bo];exact Kw _ _
     simp only[kc,lu,WI,jc,jv,tC,jd,jm,O2,zL,jq,bc,↓jE,jZ,kL,aa,ae,and_true,true_and,kK,qw,ea4,T.jF,T.jC,tT,d4,tI,qt,p4,a4,l1,l2]
     refine⟨x.m,x.q,kF M.ws M.sy.t.toNat n 0,V.int M.sy.t,V.int g,rfl,w4.ar.mem,aF,aF,I.wo.kF n8 (by decide) (by decide),?_⟩
     rw[if_pos (E3 (by lia) (by rw[sO];lia)),show(iv (V.int M.sy.t)).toNat=M.sy.t.toNat from rfl,KJ n8 (by lia) (by decide) (by decide)]
     dsimp only
     rw[if_pos (E3 gg.1 (by lia))]
     refine hR _ _ ⟨rfl,?_⟩
     congr 3
     show(kF M.ws M.sy.t.toNat n 0).set M.sy.t.toNat (2*(4*((4*(n:Int)+0)/4)+g))=kF M.ws M.sy.t.toNat n g
     unfold kF
     rw[List.set_set,show(4*(n:Int)+0)/4=n by lia]
    rintro Gq hGq _ _ ⟨rfl,rfl⟩
    subst hGq
    have nq1:=λb hb=>(o.ne b hb).1
    have f5':∀b v,H4 b=some v->b≠x.q->upd H4 x.q (.lst ((kF M.ws M.sy.t.toNat n g).map V.int)) b=some v:=λb v e n=>by rw[i_ n];exact e
    have d5:=f5' _ _ d4 (jJ d4 w4.ar.mem.ls (by kernel_rfl))
    have s5:=f5' _ _ s4 (nq1 _ (by simp[Ow.as]))
    have p5:=f5' _ _ p4 (nq1 _ (by simp[Ow.as]))
    have a5:=f5' _ _ a4 (nq1 _ (by simp[Ow.as]))
    have q5:upd H4 x.q (.lst ((kF M.ws M.sy.t.toNat n g).map V.int)) x.q=some (.lst ((kF M.ws M.sy.t.toNat n g).map V.int)):=i8
    have b5:∀b,upd H4 x.q (.lst ((kF M.ws M.sy.t.toNat n g).map V.int)) b=none->H b=none:=λb hb=>b4 b (j6 hb).2
    have w2':Wx A (upd H2 x.q (.lst ((kF M.ws M.sy.t.toNat n g).map V.int))) x {M with ws:=kF M.ws M.sy.t.toNat n g,sy:=⟨M.sy.b,M.sy.e,M.sy.t+(n+1)⟩}:=by
     have f:∀b v,H2 b=some v->b≠x.q->upd H2 x.q (.lst ((kF M.ws M.sy.t.toNat n g).map V.int)) b=some v:=λb v e n=>by rw[i_ n];exact e
     obtain⟨dm2,em2⟩:=w2.ar.mem.ob
     refine w2.IU (w2.ar.wr ⟨⟨dm2,?_⟩,i8⟩ f) λb v e n _ _=>f b v e n
     have e:=f _ _ em2 (jJ em2 w2.ar.mem.ls (by kernel_rfl))
     rw[show((kF M.ws M.sy.t.toNat n 0).length:Int)=((kF M.ws M.sy.t.toNat n g).length:Int) by rw[sO,sO]]at e
     exact e
    generalize upd H4 x.q (.lst ((kF M.ws M.sy.t.toNat n g).map V.int))=H5 at*
    simp only[kc,lu,jc,jv,tC,jd,zD,bc,bD,az,i8,KI,qy,NS,jZ,kL,ai,aq,aa,ae,true_and,aA,DK,d5,BR,s5]
    intro p hp
    refine⟨by lia,by lia,aW (show _<=8 by lia) (by decide),λnr hnr=> ?_⟩
    obtain⟨nrp,hnr4⟩:=j6 hnr
    have s6:jD H5 (upd (upd H5 p (.lst [.kG])) nr (.lst (ah n .kG))):=λb v e=>by rw[i_ (i5 e hnr4),i_ (i5 e hp)];exact e
    rw[bB,CO]
    have e6:upd (upd H5 p (.lst [.kG])) nr (.lst (ah n .kG)) nr=some (.lst (ah n .kG)):=i8
    generalize upd (upd H5 p (.lst [.kG])) nr (.lst (ah n .kG))=H6 at*
    rw[s6 _ _ s5]
    have nls:=i5 s5 hnr4
    refine⟨bQ (show _<=10 by rw[aj,o.rl,I.ls];lia) (by decide),fin w2' (λb v e k n=>by rw[i_ n];exact k2 b v e k n) (I.lay (a:=M.sy.t) (g:=g) (so:=M.so) (sy:=⟨M.sy.b,M.sy.e,M.sy.t+(n+1)⟩) n8 l10 gg.1 (by lia) (by lia) (by lia) ?_ (.inr ⟨by lia,rfl,rfl⟩) I.Nl.1 ?_ λk b m=> ?_) (b5 nr hnr4) (λb v e b1 b2 b3=> ?_) ?_ ?_ ?_ ?_⟩
    ·refine⟨by show(kF _ _ _ _).length<=200;rw[sO];exact f7,f.ob,f3,f2,?_,by show M.sy.e-M.sy.b=_;exact f4,by show M.sy.b<=M.sy.t+_;lia,by show M.sy.t+_<=M.sy.e;lia,f.st,by show M.sy.t+_-M.sy.b<=M.so.e-M.so.t;lia,f.SQ⟩
     show(M.sy.b=M.so.e/\M.ss.b=M.sy.e/\M.ss.e=((kF _ _ _ _).length:Int))∨(M.ss.b=M.so.e/\M.sy.b=M.ss.e/\M.sy.e=((kF _ _ _ _).length:Int))
     rw[sO];exact f1
    ·have e:=Bg (k:=ow.G.length) (I.Nl (a:=M.sy.t) (g:=g) (n:=n)).2
     rw[(Own.lay_z (k:=0) I.ls).2]at e
     exact e
    ·rcases m with m|m
     ·have:=I.QU m;lia
     ·have:=I.QW m;lia
    ·rw[i_ b3]
     refine s6 _ _ ?_
     by_cases y:b=x.q
     ·subst y;rw[i8]at e;cases e;exact q5
     ·rw[i_ y]at e;exact f5' b v (g4 b v e b1 b2) y
    ·rw[i_ (aE n3.2.1)];exact s6 _ _ p5
    ·rw[i_ (aE n3.2.2.1)];exact s6 _ _ a5
    ·rw[i8,bo];rfl
    ·rw[i_ (aE nls)];exact e6
   ·refine Io (λK1 hK=> ?_) ?_
    ·simp only[jY,lu,A5,jv,tC,jd,xU,U0,tR,zK,eqv,jq,bt,bu,↓reduceIte,decide_true,↓jE,↓jB,aa,ae,and_true,true_and,↓jS,kK,qw,uX,show c%2=1 by lia,ea,T.jF,T.jQ,zG,ey,yp]
     refine⟨x.y,dy1,_,_,_,rfl,ey,?_⟩
     show K1 (decide ((n:Int)<M.sy.e-M.sy.t)) H
     rw[decide_eq_false zy];exact hK
    ·exact A4
noncomputable def XU (s:S3) (c:CS) (a:Int):CS:={kQ s c (pM c.ws a) with ws:=(kQ s c (pM c.ws a)).ws.set a.toNat (qo s c (pM c.ws a))}
noncomputable def DI (A:Ad):Sp:=λvs H Q _=>Y5 λ(x:Ax) (M:Mem) (c:CS) (l:Addr) (a:Int)=>C9 (vs=[.ref x.p,.int a,.ref l]) (S5 A H x M c l) (QY M c (pM c.ws a)) ((c.ot<=9999/\c.st<=9999)) (0<=a) (a<c.ws.length) ((kd (.int (qo M.sy c (pM c.ws a)))).isSome=true) ((kQ M.sy c (pM c.ws a)).ws.length=c.ws.length) (∀H',Wx A H' x (cM M (XU M.sy c a))->H' l=some (.lst ((XU M.sy c a).cs.map V.int))->Kx [l,x.q] H H'->Q .kG H')
theorem J_:jf ["areas","place","copies"] ["areas","place","copies"] (ja AU):=fsc
theorem Dz(T:Txt K mg A):jO P w K mg base (lV P w) true 12 A.qg A.sH ["areas","place","copies"] (DI A):=by
 refine T.vk.oZ J_ (λvs H Q E h=> ?_) (λcdv A' outer s H vs Q E hr hx h=> ?_)
 ·obtain⟨_,_,_,_,_,rfl,_⟩:=h
  rfl
 ·obtain⟨x,M,c,l,a,rfl,h,mo,t9,a0,a1,kw,nl,q⟩:=h
  refine⟨_,nR.run (i6 (ji (jL (jg (i4 0) rfl) T.jW T.mT ((nj T).mono (by decide)) hr T.mR hx (iY (i4 1) (iY (i7 ((Nu T).mono (by decide)) hr rfl T.F_ T.Fl.kp T.L0 hx (iY (i4 0) (iY (jL (jg (i4 0) rfl) T.jW T.pJ ((qr T).mono (by decide)) hr T.o_ hx (iY (i4 1) iZ)) (iY (i4 2) iZ)))) iZ))))),?_⟩
  obtain⟨dp,ep⟩:=h.wh.ar.ob
  obtain⟨dm,em⟩:=h.wh.ar.mem.ob
  simp only[kc,jc,jv,jd,jm,jq,az,↓jE,↓jB,L2.start,ao,aB,ai,aq,ah,aD,aa,ae,and_true,true_and,aA,aL,kK,qw,uX,ep,T.jF,T.jC,tT,em,Eb,Gx]
  refine⟨x.m,x.q,c.ws,V.int a,rfl,h.wh.ar.mem,aF,?_⟩
  rw[if_pos (E3 a0 (by lia))]
  refine⟨x,M,c,l,pM c.ws a,rfl,h,mo,t9,λH1 w1 l1 k1 o1=>⟨x.m,x.q,(kQ M.sy c (pM c.ws a)).ws,V.int a,_,rfl,w1.ar.mem,aF,aF,?_⟩⟩
  rw[if_pos (show wi (V.int a) 0 (((kQ M.sy c (pM c.ws a)).ws.length:Int)-1)=true from E3 a0 (by rw[nl];lia))]
  obtain⟨v,ev⟩:=Option.isSome_iff_exists.mp kw
  rw[ev]
  dsimp only
  have m2:=w1.ar.mem.put a.toNat (qo M.sy c (pM c.ws a))
  have f2:∀b v,H1 b=some v->b≠x.q->upd H1 x.q (.lst (((kQ M.sy c (pM c.ws a)).ws.set a.toNat (qo M.sy c (pM c.ws a))).map V.int)) b=some v:=λb v eb nb=>by rw[i_ nb];exact eb
  refine q _ (w1.IU (w1.ar.wr m2 f2) λb u eb nb _ _=>f2 b u eb nb) (f2 _ _ l1 h.nq) λb v eb kb nb=>f2 b v (k1 b v eb kb nb) λz=>nb (by rw[z];simp)
theorem Tv{ns:List Int}:∃is:List Int,DZ (ns.map V.int) (some 4) (some 14)=is.map V.int/\is.length<=10:=by
 unfold DZ
 refine⟨_,by rw[←fM,←List.map_take],?_⟩
 rw[c_,eV]
 unfold HT.Kr
 simp only[aj]
 rw[if_neg (by decide),if_neg (by decide),show Int.toNat 14=14 from rfl,show Int.toNat 4=4 from rfl]
 omega
noncomputable def cf (ns:List Int) (k j:Nat):Int:=cat ns (14+(5*(k:Int)+j)%22)+3*k
theorem ML{c n:Int}{i:Nat}(h:H_ c n= .ce i):c%4≠0/\c%4≠1/\n≠0/\i=(c/4%n).toNat:=by
 unfold H_ at h
 by_cases z:c%4=0
 ·rw[if_pos z]at h;cases h
 ·rw[if_neg z]at h
  by_cases y:c%4=1∨n=0
  ·rw[if_pos y]at h;cases h
  ·rw[if_neg y]at h;rw[not_or]at y;cases h;exact⟨z,y.1,y.2,rfl⟩
theorem QH{x:Own}{c:Int}(al:∀k,k<x.G.length->(x.p k).isSome=true):Gd x (H_ c x.G.length):=by
 cases e:H_ c x.G.length with
 |no=>exact aF
 |nu m=>
  unfold H_ at e
  by_cases z:c%4=0
  ·rw[if_pos z]at e;cases e;show -1000000000000<=_/\_<=1000000000000;lia
  ·rw[if_neg z]at e
   by_cases y:c%4=1∨(x.G.length:Int)=0
   ·rw[if_pos y]at e;cases e
   ·rw[if_neg y]at e;cases e
 |ce i=>
  obtain⟨_,_,h3,rfl⟩:=ML e
  have p1:=e8 (c/4) h3
  have p2:=g_ (c/4) (show(0:Int)<x.G.length by lia)
  exact⟨by lia,al _ (by lia)⟩
theorem UO{x:Own}{ns:List Int}(hs:x.S.length=x.G.length)(h:∀k j,x.t k j= .no∨x.t k j=H_ (cf ns k j) x.G.length):∀k i,x.t k 5= .ce i->x.t (k+1) 0= .ce i->False:=λk i h1 h2=>by
 have k1:k+1<x.G.length:=by
  refine fV λz=> ?_
  have:x.s (k+1)=[]:=by unfold Own.s;rw[au,cK (by lia)];rfl
  unfold Own.t at h2;rw[this]at h2;cases h2
 rcases h k 5 with e|e
 ·rw[e]at h1;cases h1
 rcases h (k+1) 0 with e'|e'
 ·rw[e']at h2;cases h2
 rw[e]at h1
 rw[e']at h2
 obtain⟨a1,a2,a3,a4⟩:=ML h1
 obtain⟨b1,b2,b3,b4⟩:=ML h2
 have ec:cf ns (k+1) 0=cf ns k 5+3:=by
  unfold cf
  rw[show(5*((k+1:Nat):Int)+((0:Nat):Int))=5*(k:Int)+((5:Nat):Int) by lia]
  lia
 rw[ec]at b1 b2 b4
 generalize cf ns k 5=c at*
 have q1:(c+3)/4=c/4+1:=by lia
 rw[q1]at b4
 have p1:=e8 (c/4) a3
 have p2:=e8 (c/4+1) a3
 have p3:=g_ (c/4) (show(0:Int)<x.G.length by lia)
 have e5:(c/4+1)%(x.G.length:Int)=c/4%(x.G.length:Int):=by lia
 rw[←Int.emod_add_emod]at e5
 generalize c/4%(x.G.length:Int)=r at*
 by_cases z:r+1<x.G.length
 ·rw[Int.emod_eq_of_lt (by lia) z]at e5;lia
 ·rw[show r+1=(x.G.length:Int) by lia,Int.emod_self]at e5;lia
noncomputable def Bl (K:aC) (H:Hp) (a:Addr) (ns:List Int):Prop:=(∃o,H a=some (.F8 o (.lst (ns.map V.int))))∨∀H',lT K H' a (ns.map V.int)
theorem Bl.sq{K:aC}{H:Hp}{a:Addr}{ns:List Int}(h:Bl K H a ns):lT K H a (ns.map V.int):=h.elim (λ⟨o,e⟩=> .inl (.inr ⟨o,e⟩)) λh=>h H
theorem Bl.kx{K:aC}{H H':Hp}{a:Addr}{ns:List Int}(h:Bl K H a ns)(k:∀o v,H a=some (.F8 o v)->H' a=some (.F8 o v)):Bl K H' a ns:=h.imp (λ⟨o,e⟩=>⟨o,k _ _ e⟩) id
theorem Xu{K:aC}{H:Hp}{a p:Addr}{ns:List Int}(hO:MP [p] H)(h:lT K H a (ns.map V.int)):Bl K H a ns:=by
 rcases h with (h|⟨o,h⟩)|h
 ·by_cases z:a∈ [p]
  ·rw[hO.2 a z]at h;cases h
  ·rcases hO.1 a z with y|⟨o,xs,y⟩<;>rw[y]at h<;>cases h
 ·exact .inl ⟨o,h⟩
 ·exact .inr λH'=> .inr h
noncomputable def HV (K:aC) (A:Ad):Sp:=λvs H Q _=>Y2 λ(a:Addr) (ns:List Int)=>C5 (vs=[.ref a]) (Bl K H a ns) (ns.length<=63) (H A.jy=some (.G_ #[])) (∀(H':Hp) (x:Ax) (u:Ow) (ow:Own) (M:Mem) (O Y:List (Nat×Int)),Wx A H' x M->x.t=A.jy->lW H' x u ow->In ow M O Y->Q (.ref u.d) H')
theorem lz:jf ["_law_script","_law_young","_law_areas","_law_many","_law_own","_law_cell","_law_k","_law_slot","_law_hand"] ["_law_script"] (ja zm):=fsc
theorem Hn(T:Txt K mg A):jO P w K mg base (lV P w) true 12 A.oJ A.qN ["_law_script"] (HV K A):=by
 refine T.xl.oZ lz (λvs H Q E h=> ?_) (λcdv A' outer s H vs Q E hr hx h=> ?_)
 ·obtain⟨_,_,rfl,_⟩:=h
  rfl
 ·obtain⟨a,ns,rfl,hS,l63,et,q⟩:=h
  refine⟨_,nR.run (i3 (jA (i:=1) lz.nd rfl lo (je j4 i9 (je mW (i7 ((wm T).mono (by decide)) hr rfl T.sM T.rV.kp T.vI hx (iY (i4 0) (iY i9 iZ))) i9)))
   (i3 (jA (i:=2) lz.nd rfl lo (rY T.Dp ((Hg T).mono (by decide)) hr rfl T.Fm T.Cz hx (iY (je j4 (je j4 (i4 1) i9) (je mW (i7 ((wm T).mono (by decide)) hr rfl T.sM T.rV.kp T.vI hx (iY (i4 0) (iY i9 iZ))) i9)) (iY (i4 1) iZ))))
   (i3 (jA (i:=3) lz.nd rfl lo (je j4 i9 (je mW (i7 ((wm T).mono (by decide)) hr rfl T.sM T.rV.kp T.vI hx (iY (i4 0) (iY i9 iZ))) i9)))
   (i3 (jA (i:=4) lz.nd rfl lo (N_ (wg jb (i4 2) (wg jb (rY T.Ds ((Hl T).mono (by decide)) hr rfl T.Fp T.CF hx (iY (i4 3) iZ)) (wg jb (mS iZ) (wg jb (mS iZ) (wg jb (mS iZ) Oc)))))))
   (i3 (K3 (jT hr) (i4 4) jb (je De (mS (iY l9 iZ)) (i4 3)) rfl)
   (i3 (kT hx.own rfl (lj (B8 RG (i4 0) (Ar i9) (Ar i9))) (jR (i:=5) lz.nd rfl lo)
    (i6 (ji (i7 ((JH T).mono (by decide)) hr rfl T.wN T.yN.kp T.EG hx (iY (i4 4) (iY (i4 5) iZ))))))
   (i3 (kT hx.own rfl (mI rfl T.oX (iY (jz kX (by rfl) T.nP PyProof.Rows.Boot.«len» (iY (jr (by exact jT hr) (i4 4) jb (λ_ _=>rfl)) iZ)) iZ)) (jR (i:=6) lz.nd rfl lo)
    (i6 (kT hx.own rfl (mI rfl T.oX (iY (jz kX (by rfl) T.nP PyProof.Rows.Boot.«len» (iY (jN j7 (jr (by exact jT hr) (i4 4) jb (λ_ _=>rfl)) (i4 6) (λ_ _=>rfl)) iZ)) iZ)) (jR (i:=7) lz.nd rfl lo)
    (i3 (jA (i:=5) lz.nd rfl lo (je j4 (i7 ((wm T).mono (by decide)) hr rfl T.sM T.rV.kp T.vI hx (iY (i4 0) (iY (je j4 i9 (je mW (je j4 (je Bf i9 (i4 6)) (i4 7)) i9)) iZ))) (je Bf i9 (i4 6))))
   (i6 (ji (i7 ((Lk T).mono (by decide)) hr rfl T.yQ T.Ah.kp T.FO hx (iY (i4 4) (iY (i4 6) (iY (i4 7) (iY (i7 ((BO T).mono (by decide)) hr rfl T.tf T.ux.kp T.yE hx (iY (i4 5) (iY (jz kX (by rfl) T.nP PyProof.Rows.Boot.«len» (iY (jr (by exact jT hr) (i4 4) jb (λ_ _=>rfl)) iZ)) iZ))) iZ)))))))))))
   (i3 (kT hx.own rfl (mI rfl T.oX (iY (i4 3) iZ)) (jR (i:=8) lz.nd rfl lo)
    (i6 (ji (i7 ((JF T).mono (by decide)) hr rfl T.wM T.yM.kp T.EF hx (iY (i4 4) (iY (i4 8) (iY (i7 ((BO T).mono (by decide)) hr rfl T.tf T.ux.kp T.yE hx (iY (i7 ((wm T).mono (by decide)) hr rfl T.sM T.rV.kp T.vI hx (iY (i4 0) (iY (je j4 i9 (i4 8)) iZ))) (iY (jz kX (by rfl) T.nP PyProof.Rows.Boot.«len» (iY (jr (by exact jT hr) (i4 4) jb (λ_ _=>rfl)) iZ)) iZ))) iZ)))))))
   (i6 (jh (i4 4))))))))))),?_⟩
  show kN _ _ _ [some (V.ref a),none,none,none,none,none,none,none,none] H
  have y0:0<=cat ns 0%17/\cat ns 0%17<=16:=by lia
  refine jw (λσ' H'=>∃y:Int,C4 (σ'=[some (V.ref a),some (V.int y),none,none,none,none,none,none,none]) (H=H') (4<=y) (y<=20)) (λR hR=> ?_) ?_
  ·simp only[lu,jc,jv,tC,jd,kB,jG,jm,qx,xU,aa,ay,ax]
   refine⟨a,ns,0,rfl,hS.sq,by decide,?_⟩
   simp only[bt,bu,true_and]
   exact hR _ _ ⟨4+cat ns 0%17,rfl,rfl,by lia,by lia⟩
  rintro Gq hGq _ _ ⟨y,rfl,rfl,y4,y20⟩
  subst hGq
  have Hs:∀{G:Hp} {x dx:Addr} {o:HO},G x=none->G dx=none->jD G (upd (upd G dx (HO.own x)) x o):=λ{G x dx o} hx hdx b u eb=>by rw[i_ (i5 eb hx),i_ (i5 eb hdx)];exact eb
  refine jw (λσ' H'=>Y7 λo pA m qA oA yA sA=>C7 (σ'=[some (V.ref a),some (V.int y),some (V.ref pA),none,none,none,none,none,none]) (sS A.jI A.jo A.ju H' pA m qA oA yA sA (ah (o+2*y).toNat (-1)) ⟨0,o,0⟩ ⟨o,o+y,o⟩ ⟨o+y,o+2*y,o+y⟩) (jD H H') (H pA=none) (H qA=none) (4+y<=o) (o<=73)) (λR hR=> ?_) ?_
  ·simp only[lu,jc,jv,tC,jd,kB,jG,jm,qx,xU,rZ,aa,ae,ay,ax]
   refine⟨a,ns,1,rfl,hS.sq,by decide,?_⟩
   simp only[bt,bu,true_and]
   intro pA dx hp hdx _
   have s1:=Hs (o:=HO.ins A.jI dx []) hp hdx
   refine⟨pA,dx,V.int (y+4+cat ns 1%50),V.int y,rfl,i8,aF,aF,?_⟩
   rw[if_pos ⟨E3 (by lia) (by lia),E3 (by lia) (by lia)⟩]
   intro m qA oA yA sA H2 a2 f2 fr2
   exact⟨rfl,hR _ _ ⟨y+4+cat ns 1%50,pA,m,qA,oA,yA,sA,rfl,a2,λb v e=>f2 b v (s1 _ _ e) (i5 e hp),hp,(j6 (j6 fr2.2.1).2).2,by lia,by lia⟩⟩
  rintro Gq hGq _ H1 ⟨o,pA,m,qA,oA,yA,sA,rfl,ar1,s1,hpA,hqA,o4,SQ⟩
  subst hGq
  have hS1:=hS.kx (H':=H1) λo v e=>s1 _ _ e
  refine jw (λσ' H'=>∃n:Int,C4 (σ'=[some (V.ref a),some (V.int y),some (V.ref pA),some (V.int n),none,none,none,none,none]) (H1=H') (1<=n) (n<=4)) (λR hR=> ?_) ?_
  ·simp only[lu,jc,jv,tC,jd,kB,jG,jm,qx,xU,aa,ay,ax]
   refine⟨a,ns,2,rfl,hS1.sq,by decide,?_⟩
   simp only[bt,bu,true_and]
   exact hR _ _ ⟨1+cat ns 2%4,rfl,rfl,by lia,by lia⟩
  rintro Gq hGq _ _ ⟨n,rfl,rfl,n1,n4⟩
  subst hGq
  refine jw (λσ' H'=>Y5 λ(x:Ax) (d0 lp la ls:Addr)=>XD (σ'=[some (V.ref a),some (V.int y),some (V.ref pA),some (V.int n),some (V.ref d0),none,none,none,none]) (Wx A H' x ⟨ah (o+2*y).toNat (-1),⟨0,o,0⟩,⟨o,o+y,o⟩,⟨o+y,o+2*y,o+y⟩,ah n.toNat (-1),[]⟩) (x.t=A.jy) (H' d0=some (.dK [(.inr "areas",.ref x.p),(.inr "roots",.ref x.r),(.inr "places",.ref lp),(.inr "ages",.ref la),(.inr "slots",.ref ls)])) (H' lp=some (.lst [])) (H' la=some (.lst [])) (H' ls=some (.lst [])) ((lp≠la/\lp≠ls/\la≠ls)) ((∀b∈ [lp,la,ls],b≠x.q/\b≠x.g/\b≠x.v)) (d0≠x.d) (d0≠x.e) (Bl K H' a ns)) (λR hR=> ?_) ?_
  ·simp only[jc,jv,tC,jd,zD,kB,jG,rZ,aq,aa,ae,ay,ax,true_and,U_,QF,Ko]
   intro d0 hd0 r dx hr hdx _
   have hr1:=(j6 hr).2
   have sI:jD H1 (upd (upd (upd H1 d0 (.dK [])) dx (HO.own r)) r (HO.ins A.j_ dx [])):=(jD.upd hd0).trans (Hs hr hdx)
   have dI:upd (upd (upd H1 d0 (.dK [])) dx (HO.own r)) r (HO.ins A.j_ dx []) d0=some (.dK []):=Hs hr hdx _ _ i8
   have nd0:d0≠r:=i5 (show upd H1 d0 (.dK []) d0=some (.dK []) from i8) hr
   refine⟨r,dx,V.int n,rfl,i8,aF,?_⟩
   rw[if_pos (E3 (by omega) (by lia))]
   generalize upd (upd (upd H1 d0 (.dK [])) dx (HO.own r)) r (HO.ins A.j_ dx [])=HI at*
   intro h g b bd w' v l e H2 hg hbd hv he er hd2 bk2 wk2 ls2 ngv nbe f2
   refine⟨rfl,λlp hlp la hla ls hls=> ?_⟩
   have f12:jD H1 H2:=λz v e=>f2 _ _ (sI _ _ e) (i5 e hr1)
   have d2:=f2 _ _ dI nd0
   have s3:jD H2 (upd H2 lp (.lst [])):=jD.upd hlp
   have s4:jD (upd H2 lp (.lst [])) (upd (upd H2 lp (.lst [])) la (.lst [])):=jD.upd hla
   have s5:jD (upd (upd H2 lp (.lst [])) la (.lst [])) (upd (upd (upd H2 lp (.lst [])) la (.lst [])) ls (.lst [])):=jD.upd hls
   have l5:=s5 _ _ (s4 _ _ (show upd H2 lp (.lst []) lp=some (.lst []) from i8))
   have a5:=s5 _ _ (show upd (upd H2 lp (.lst [])) la (.lst []) la=some (.lst []) from i8)
   have c5:upd (upd (upd H2 lp (.lst [])) la (.lst [])) ls (.lst []) ls=some (.lst []):=i8
   have n1:=i5 (show upd H2 lp (.lst []) lp=some (.lst []) from i8) hla
   have n2:=i5 (s4 _ _ (show upd H2 lp (.lst []) lp=some (.lst []) from i8)) hls
   have n3:=i5 (show upd (upd H2 lp (.lst [])) la (.lst []) la=some (.lst []) from i8) hls
   have s25:=s3.trans (s4.trans s5)
   have hla2:=(j6 hla).2
   have hls2:=(j6 (j6 hls).2).2
   generalize upd (upd (upd H2 lp (.lst [])) la (.lst [])) ls (.lst [])=H5 at*
   have w5:Wx A H5 ⟨pA,m,qA,oA,yA,sA,r,h,g,b,bd,w',v,l,e,A.jy⟩ ⟨ah (o+2*y).toNat (-1),⟨0,o,0⟩,⟨o,o+y,o⟩,⟨o+y,o+2*y,o+y⟩,ah n.toNat (-1),[]⟩:=Wh.same (H:=H2) ⟨ar1.same f12,⟨dx,er⟩,hd2,bk2,wk2,ls2,⟨#[],f12 _ _ (s1 _ _ et),aF⟩,i5 (sI _ _ ar1.mem.ls) hg,i5 (sI _ _ ar1.mem.ls) hv,ngv,nbe⟩ s25
   have d5:=s25 _ _ d2
   have fu:∀{c v'},H5 c=some v'->c≠d0->upd H5 d0 (.dK (Ea [] [(.inr (bg "areas"),.ref pA),(.inr (bg "roots"),.ref r),(.inr (bg "places"),.ref lp),(.inr (bg "ages"),.ref la),(.inr (bg "slots"),.ref ls)])) c=some v':=λ{c v'} e n=>by rw[i_ n];exact e
   have nbd:d0≠bd:=i5 dI hbd
   refine⟨d5,[(.inr (bg "areas"),.ref pA),(.inr (bg "roots"),.ref r),(.inr (bg "places"),.ref lp),(.inr (bg "ages"),.ref la),(.inr (bg "slots"),.ref ls)],rfl,(show 5<=15 by decide),hR _ _ ⟨⟨pA,m,qA,oA,yA,sA,r,h,g,b,bd,w',v,l,e,A.jy⟩,d0,lp,la,ls,rfl,w5.lists λc v' e' z=>fu e' λy=> ?_,rfl,?_,fu l5 (jJ l5 d5 (by kernel_rfl)),fu a5 (jJ a5 d5 (by kernel_rfl)),fu c5 (jJ c5 d5 (by kernel_rfl)),⟨n1,n2,n3⟩,λc hc=> ?_,nbd,i5 dI he,hS1.kx λo' v' e'=>fu (s25 _ _ (f12 _ _ e')) λy=> ?_⟩⟩
   ·subst y
    rw[d5]at e';cases e'
    rcases z with z|z|z|z|z|z
    ·cases z
    ·exact jJ d5 w5.ar.mem.ls (by kernel_rfl) z
    ·exact jJ d5 w5.hd.ls (by kernel_rfl) z
    ·exact jJ d5 w5.wk.ls (by kernel_rfl) z
    ·exact nbd z
    ·exact i5 dI he z
   ·rw[i8];kernel_rfl
   ·have q2:=f12 _ _ ar1.mem.ls
    simp only[bI,bz,or_false]at hc
    have z:H2 c=none:=by rcases hc with rfl|rfl|rfl;exact hlp;exact hla2;exact hls2
    exact⟨aE (i5 q2 z),aE (i5 hd2.ls z),aE (i5 wk2.ls z)⟩
   ·rw[y,hd0]at e';cases e'
  rintro Gq hGq _ H2 ⟨x,d0,lp,la,ls,rfl,w2,xt,d2,p2,a2,s2,nl,ne2,nd2,SO,hS2⟩
  subst hGq
  refine jw (λσ' H'=>∃u:Ow,C4 (σ'=[some (V.ref a),some (V.int y),some (V.ref pA),some (V.int n),some (V.ref u.d),none,none,none,none]) (Wx A H' x ⟨ah (o+2*y).toNat (-1),⟨0,o,0⟩,⟨o,o+y,o⟩,⟨o+y,o+2*y,o+y⟩,ah n.toNat (-1),[]⟩) (lW H' x u ⟨[],[],[],ah n.toNat .no⟩) (Bl K H' a ns)) (λR hR=> ?_) ?_
  ·simp only[lu,jc,jv,tC,jd,zD,bc,bD,az,i8,KI,KA,kL,ai,aq,aa,ae,true_and,aA,DK]
   intro p hp
   refine⟨by lia,by lia,aW (show _<=4 by lia) (by decide),λlh hlh=> ?_⟩
   obtain⟨_,hlh2⟩:=j6 hlh
   have s3:jD H2 (upd (upd H2 p (.lst [.kG])) lh (.lst (ah n.toNat .kG))):=λb v e=>by rw[i_ (i5 e hlh2),i_ (i5 e hp)];exact e
   rw[CO]
   have e3:upd (upd H2 p (.lst [.kG])) lh (.lst (ah n.toNat .kG)) lh=some (.lst (ah n.toNat .kG)):=i8
   generalize upd (upd H2 p (.lst [.kG])) lh (.lst (ah n.toNat .kG))=H3 at*
   have d3:=s3 _ _ d2
   rw[d3]
   have w3:=w2.same s3
   have fu:∀{c v'} {kv:List (Key×V)},H3 c=some v'->c≠d0->upd H3 d0 (.dK kv) c=some v':=λ{c v' kv} e n=>by rw[i_ n];exact e
   refine⟨bQ (show 5<=10 by decide) (by decide),hR _ _ ⟨⟨d0,lp,la,ls,lh,[]⟩,rfl,w3.lists λc v' e' z=>fu e' λy=> ?_,⟨?_,fu (s3 _ _ p2) (jJ p2 d2 (by kernel_rfl)),fu (s3 _ _ a2) (jJ a2 d2 (by kernel_rfl)),fu (s3 _ _ s2) (jJ s2 d2 (by kernel_rfl)),rfl,(λk b e=>nomatch e),⟨_,fu e3 (jJ e3 d3 (by kernel_rfl)),by rw[bA,bA],λj t v h1 h2=> ?_⟩,?_,λb hb=> ?_,nd2⟩,hS2.kx λo' v' e'=>fu (s3 _ _ e') λy=> ?_⟩⟩
   ·subst y
    rw[d3]at e';cases e'
    rcases z with z|z|z|z|z|z
    ·cases z
    ·exact jJ d3 w3.ar.mem.ls (by kernel_rfl) z
    ·exact jJ d3 w3.hd.ls (by kernel_rfl) z
    ·exact jJ d3 w3.wk.ls (by kernel_rfl) z
    ·exact nd2 z
    ·exact SO z
   ·rw[i8];kernel_rfl
   ·rw[cV]at h1 h2
    by_cases y:j<n.toNat
    ·rw[if_pos y]at h1 h2;cases h1;cases h2;rfl
    ·rw[if_neg y]at h1;cases h1
   ·show [lp,la,ls,lh].Nodup
    have n1:=i5 p2 hlh2
    have n2:=i5 a2 hlh2
    have n3:=i5 s2 hlh2
    simp[nl.1,nl.2.1,nl.2.2,n1,n2,n3]
   ·have hb:b∈ [lp,la,ls,lh]:=hb
    simp only[bI,bz,or_false]at hb
    rcases hb with rfl|rfl|rfl|rfl
    ·exact ne2 _ (by simp)
    ·exact ne2 _ (by simp)
    ·exact ne2 _ (by simp)
    ·exact⟨aE (i5 w2.ar.mem.ls hlh2),aE (i5 w2.hd.ls hlh2),aE (i5 w2.wk.ls hlh2)⟩
   ·rw[y,d2]at e';cases e'
  rintro Gq hGq _ H3 ⟨u,rfl,w3,o3,hS3⟩
  subst hGq
  have I3:=In.new (o:=o) (y:=y) (n:=n) (by lia) (by lia) SQ y20 (by lia) n1 n4
  have r0:(ah n.toNat Th.no).length=n.toNat:=bA
  refine jw (λσ' H'=>Y6 λ(v5:Option V) (u':Ow) (ow:Own) (M:Mem) (O Y:List (Nat×Int))=>C8 (σ'=[some (V.ref a),some (V.int y),some (V.ref pA),some (V.int n),some (V.ref u'.d),v5,none,none,none]) (Wx A H' x M) (lW H' x u' ow) (In ow M O Y) (ow.D.length=n.toNat) ((∀k j,ow.t k j= .no)) ((∀k,k<ow.G.length->(ow.p k).isSome=true)) (Bl K H' a ns)) (λR hR=> ?_) ?_
  ·simp only[tC,jd,jq,mh,tU,Rk,Ii,Va,aa,V.int.injEq,V.bl.injEq,V.str.injEq,V.ref.injEq,V.ty.injEq,av,ak,exists_eq_left']
   refine⟨_,hS3.sq,λp hp=> ?_⟩
   obtain⟨cs,ecs,cl⟩:=Tv (ns:=ns)
   rw[ecs]
   have s4:jD H3 (upd H3 p (.lst (cs.map V.int))):=jD.upd hp
   have e4:upd H3 p (.lst (cs.map V.int)) p=some (.lst (cs.map V.int)):=i8
   have np:∀{b v},H3 b=some v->b≠p:=λe=>i5 e hp
   generalize upd H3 p (.lst (cs.map V.int))=H4 at*
   refine⟨⟨_,lT.of e4⟩,lA.Gn (xs:=cs.map V.int) (λi σ H'=>Y6 λ(v5:Option V) (u':Ow) (ow:Own) (M:Mem) (O Y:List (Nat×Int))=>WL (σ=[some (V.ref a),some (V.int y),some (V.ref pA),some (V.int n),some (V.ref u'.d),v5,none,none,none]) ((u'.lp=u.lp/\u'.la=u.la/\u'.ls=u.ls)) (H' p=some (.lst (cs.map V.int))) (Wx A H' x M) (lW H' x u' ow) (In ow M O Y) (ow.D.length=n.toNat) ((∀k j,ow.t k j= .no)) ((∀k,k<ow.G.length->(ow.p k).isSome=true)) (ow.G.length<=i) (Bl K H' a ns))
    ⟨_,u,_,_,_,_,rfl,⟨rfl,rfl,rfl⟩,e4,w3.same s4,o3.same s4,I3,r0,λk j=>rfl,λk hk=>absurd hk (cP _),b7 _,hS3.kx λo v e=>s4 _ _ e⟩ (λi σ H' _ hz=>by obtain⟨_,_,_,_,_,_,_,_,e,_⟩:=hz;exact lT.of e) ?_ ?_⟩
   ·rintro i v σ H5 hv ⟨v5,u5,ow,M,O,Y,rfl,eu,e5,w5,o5,I5,dl,bl,al,gl,hS5⟩ R2 hR2
    obtain⟨hi,rfl,_⟩:=ints_get hv
    simp only[kc,jc,jv,jd,jG,jm,aa,ae,ay,ax]
    refine⟨x,u5,ow,M,O,Y,cs[i],rfl,w5,o5,I5,by lia,bl,al,λH6 u6 ow6 M6 O6 Y6 w6 o6 I6 ed eD eG bl6 al6 k6 eu6=>hR2 _ _ ⟨_,u6,ow6,M6,O6,Y6,by rw[ed],⟨eu6.1.trans eu.1,eu6.2.1.trans eu.2.1,eu6.2.2.trans eu.2.2⟩,k6 _ _ e5 rfl ?_,w6,o6,I6,by rw[eD];exact dl,bl6,al6,by lia,hS5.kx λo v e=>k6 _ _ e rfl ?_⟩⟩
    ·simp only[bI,bz,or_false,not_or,eu.1,eu.2.1,eu.2.2]
     exact⟨aE (np w3.ar.mem.ls),aE (np o3.pl),aE (np o3.ag),aE (np o3.sl)⟩
    ·simp only[bI,bz,or_false,not_or]
     refine⟨λz=> ?_,λz=> ?_,λz=> ?_,λz=> ?_⟩
     ·rw[z,w5.ar.mem.ls]at e;cases e
     ·rw[z,o5.pl]at e;cases e
     ·rw[z,o5.ag]at e;cases e
     ·rw[z,o5.sl]at e;cases e
   ·rintro σ H5 ⟨v5,u5,ow,M,O,Y,rfl,eu,e5,w5,o5,I5,dl,bl,al,gl,hS5⟩
    exact hR _ _ ⟨v5,u5,ow,M,O,Y,rfl,w5,o5,I5,dl,bl,al,hS5⟩
  rintro Gq hGq _ H4 ⟨v5,u,ow,M,O,Y,rfl,w4,o4,I4,dl,bl,al,hS4⟩
  subst hGq
  have Fb:=I4.Fb
  refine jw (λσ' H'=>Y5 λ(v5 v6 v7:Option V) (ow':Own) (M':Mem)=>C8 (σ'=[some (V.ref a),some (V.int y),some (V.ref pA),some (V.int n),some (V.ref u.d),v5,v6,v7,none]) (Wx A H' x M') (lW H' x u ow') (In ow' M' O Y) (ow'.P=ow.P) (ow'.G=ow.G) (ow'.D=ow.D) (Bl K H' a ns)) (λR hR=> ?_) ?_
  ·simp only[lu,A6,jc,jv,tC,jd,zL,xk,bc,bD,mh,Ao,jZ,kL,aa,ae,V.int.injEq,V.bl.injEq,V.str.injEq,V.ref.injEq,V.ty.injEq,av,ak,and_true,exists_eq_left',o4.dc,tI,o4.pl]
   refine⟨by lia,by rw[aj,I4.lp];lia,?_⟩
   refine lA.Cc (λi σ H'=>Y5 λ(v5 v6 v7:Option V) (ow':Own) (M':Mem)=>C9 (σ=[some (V.ref a),some (V.int y),some (V.ref pA),some (V.int n),some (V.ref u.d),v5,v6,v7,none]) (Wx A H' x M') (lW H' x u ow') (In ow' M' O Y) (ow'.P=ow.P) (ow'.G=ow.G) (ow'.D=ow.D) ((∀k j,ow'.t k j= .no∨ow'.t k j=H_ (cf ns k j) ow.G.length)) (Bl K H' a ns))
    ⟨_,_,_,ow,M,rfl,w4,o4,I4,rfl,rfl,rfl,λk j=> .inl (bl k j),hS4⟩ ?_ ?_
   ·rintro i σ H5 hi ⟨v5,v6,v7,ow5,M5,rfl,w5,o5,I5,eP,eG,eD,tt,hS5⟩ R2 hR2
    rw[aj,bB,I4.lp]at hi
    obtain⟨ra,rv,r1,r2,r3,r4⟩:=o5.OH (k:=i) (by rw[I5.ls,eG];exact hi)
    have at3:yy (u.rs.map V.ref) (0+(i:Int))=some (.ref ra):=by rw[bM];exact ko r2
    have s8:=I5.s8 i
    simp only[jG,bc,aa,ae,ay,ax,o5.dc,BR,o5.sl,at3,r3,r4.l]
    refine⟨by lia,by lia,?_⟩
    refine lA.Cc (λj σ H'=>Y4 λ(v5 v7:Option V) (ow':Own) (M':Mem)=>Wu (σ=[some (V.ref a),some (V.int y),some (V.ref pA),some (V.int n),some (V.ref u.d),v5,some (V.int (0+(i:Int))),v7,none]) (Wx A H' x M') (lW H' x u ow') (In ow' M' O Y) (ow'.P=ow.P) (ow'.G=ow.G) (ow'.D=ow.D) ((ow'.s i).length=(ow5.s i).length) ((∀k j,ow'.t k j= .no∨ow'.t k j=H_ (cf ns k j) ow.G.length)) (Bl K H' a ns))
     ⟨_,_,ow5,M5,rfl,w5,o5,I5,eP,eG,eD,rfl,tt,hS5⟩ ?_ ?_
    ·rintro j σ H6 hj ⟨v5,v7,ow6,M6,rfl,w6,o6,I6,eP6,eG6,eD6,es6,tt6,hS6⟩ R3 hR3
     rw[bB,←es6]at hj
     refine jw (λσ' H'=>σ'=[some (V.ref a),some (V.int y),some (V.ref pA),some (V.int n),some (V.ref u.d),some (V.int (cf ns i j)),some (V.int (0+(i:Int))),some (V.int (0+(j:Int))),none]/\H6=H') (λR4 hR4=> ?_) ?_
     ·simp only[lu,jc,jv,tC,jd,kB,jG,jm,qx,KG,xU,IQ,true_or,bt,bu,bc,bD,aa,ae,ay,ax,and_true,true_and]
      refine⟨a,ns,14+(5*(0+(i:Int))+(0+(j:Int)))%22,rfl,hS6.sq,by lia,?_⟩
      have e:cat ns (14+(5*(0+(i:Int))+(0+(j:Int)))%22)+3*(0+(i:Int))=cf ns i j:=by unfold cf;rw[bM,bM]
      dsimp only
      rw[e]
      exact hR4 _ _ ⟨rfl,rfl⟩
     rintro Gq hGq _ _ ⟨rfl,rfl⟩
     subst hGq
     simp only[kc,A6,jc,jv,tC,jd,jm,xk,jZ,kL,aa,ae,o6.dc,tI,o6.pl]
     have ln:((gL tv ow6.P).length:Int)=ow.G.length:=by rw[aj,eP6,I4.lp]
     rw[ln]
     refine⟨cf ns i j,_,rfl,by lia,λv H7 s7 tV=> ?_⟩
     have ep:∀k,ow6.p k=ow.p k:=λk=>by unfold Own.p;rw[eP6]
     obtain⟨pa,epa⟩:=Option.isSome_iff_exists.mp (al i hi)
     have m6:=I6.at (k:=i) (a:=pa) (by rw[eG6];exact hi) (by rw[ep];exact epa)
     have gd:Gd ow6 (H_ (cf ns i j) ow.G.length):=by rw[←eG6];exact QH λk hk=>by rw[ep];exact al k (by rw[←eG6];exact hk)
     have hS':i<ow6.S.length:=by rw[I6.ls,eG6];exact hi
     have tt':∀k' j',(ow6.put i j (H_ (cf ns i j) ow.G.length)).t k' j'= .no∨(ow6.put i j (H_ (cf ns i j) ow.G.length)).t k' j'=H_ (cf ns k' j') ow.G.length:=λk' j'=>by
      rw[Own.SU hS' hj]
      by_cases z:k'=i/\j'=j
      ·rw[if_pos z,z.1,z.2];exact .inr rfl
      ·rw[if_neg z];exact tt6 k' j'
     refine⟨x,u,ow6,M6,O,Y,i,j,pa,H_ (cf ns i j) ow.G.length,v,by rw[bM,bM],w6.same s7,o6.same s7,I6,m6,hj,tV,gd,λH8 ks w8 o8 nd8 m8 k8=>hR3 _ _ ⟨_,_,ow6.put i j _,_,rfl,w8,o8,I6.put m6 hj gd (UO (ns:=ns) (by show(ow6.S.set _ _).length=ow6.G.length;rw[bf];exact I6.ls) (by show∀k' j',_∨_=H_ _ (ow6.G.length:Int);rw[eG6];exact tt')) nd8 m8,eP6,eG6,eD6,?_,tt',hS6.kx λo' v' e'=>k8 _ _ (s7 _ _ e') rfl (λz=> ?_) (λz=> ?_) λz=> ?_⟩⟩
     ·rw[Own.NA hS',if_pos rfl,bf];exact es6
     ·rw[z,w6.ar.mem.ls]at e';cases e'
     ·rw[z,w6.bk.dc]at e';cases e'
     ·obtain⟨ii,hii,ez⟩:=List.mem_iff_getElem.mp z
      obtain⟨vs,e1,_⟩:=o6.sr ii _ (af hii)
      rw[ez,e']at e1;cases e1
    ·rintro σ H6 ⟨v5,v7,ow6,M6,rfl,w6,o6,I6,eP6,eG6,eD6,es6,tt6,hS6⟩
     exact hR2 _ _ ⟨_,_,_,ow6,M6,rfl,w6,o6,I6,eP6,eG6,eD6,tt6,hS6⟩
   ·rintro σ H5 ⟨v5,v6,v7,ow5,M5,rfl,w5,o5,I5,eP,eG,eD,tt,hS5⟩
    exact hR _ _ ⟨v5,v6,v7,ow5,M5,rfl,w5,o5,I5,eP,eG,eD,hS5⟩
  rintro Gq hGq _ H5 ⟨v5',v6,v7,ow5,M5,rfl,w5,o5,I5,eP,eG,eD,hS5⟩
  subst hGq
  refine jw (λσ' H'=>Y3 λ(v8:Option V) (ow':Own) (M':Mem)=>C4 (σ'=[some (V.ref a),some (V.int y),some (V.ref pA),some (V.int n),some (V.ref u.d),v5',v6,v7,v8]) (Wx A H' x M') (lW H' x u ow') (In ow' M' O Y)) (λR hR=> ?_) ?_
  ·simp only[jc,jv,jd,bc,bD,mh,Ao,aa,ae,V.int.injEq,V.bl.injEq,V.str.injEq,V.ref.injEq,V.ty.injEq,av,ak,and_true,exists_eq_left']
   refine⟨by lia,by lia,?_⟩
   refine lA.Cc (λi σ H'=>Y3 λ(v8:Option V) (ow':Own) (M':Mem)=>C8 (σ=[some (V.ref a),some (V.int y),some (V.ref pA),some (V.int n),some (V.ref u.d),v5',v6,v7,v8]) (Wx A H' x M') (lW H' x u ow') (In ow' M' O Y) (ow'.P=ow.P) (ow'.G=ow.G) (ow'.D.length=n.toNat) (Bl K H' a ns))
    ⟨_,ow5,M5,rfl,w5,o5,I5,eP,eG,by rw[eD];exact dl,hS5⟩ ?_ ?_
   ·rintro i σ H6 hi ⟨v8,ow6,M6,rfl,w6,o6,I6,eP6,eG6,eD6,hS6⟩ R2 hR2
    simp only[kc,lu,A6,jc,jv,tC,jd,jG,jm,qx,xk,jZ,kL,aa,ae,ay,ax]
    refine⟨a,ns,36+(0+(i:Int)),rfl,hS6.sq,by lia,?_⟩
    simp only[o6.dc,tI,o6.pl]
    have ln:((gL tv ow6.P).length:Int)=ow.G.length:=by rw[aj,eP6,I4.lp]
    rw[ln]
    have ep:∀k,ow6.p k=ow.p k:=λk=>by unfold Own.p;rw[eP6]
    refine⟨_,_,rfl,by lia,λv H7 s7 tV=> ?_⟩
    have gd:Gd ow6 (H_ (cat ns (36+(0+(i:Int)))) ow.G.length):=by rw[←eG6];exact QH λk hk=>by rw[ep];exact al k (by rw[←eG6];exact hk)
    refine⟨x,u,ow6,M6,O,Y,i,_,v,by rw[bM],w6.same s7,o6.same s7,I6,by rw[eD6];exact hi,tV,gd,λH8 w8 o8 k8=>hR2 _ _ ⟨_,_,_,rfl,w8,o8,I6.held gd,eP6,eG6,by show(ow6.D.set _ _).length=_;rw[bf];exact eD6,hS6.kx λo' v' e'=>k8 _ _ (s7 _ _ e') rfl λz=> ?_⟩⟩
    rcases List.mem_cons.mp z with z|z
    ·rw[z,w6.hd.ls]at e';cases e'
    ·obtain⟨vh,eh,_⟩:=o6.hd
     rw[List.mem_singleton.mp z,eh]at e';cases e'
   ·rintro σ H6 ⟨v8,ow6,M6,rfl,w6,o6,I6,eP6,eG6,eD6,hS6⟩
    exact hR _ _ ⟨v8,ow6,M6,rfl,w6,o6,I6⟩
  rintro Gq hGq _ H6 ⟨v8,ow6,M6,rfl,w6,o6,I6⟩
  subst hGq
  simp only[kM,jd,aa,ae]
  exact q H6 x u ow6 M6 O Y w6 xt o6 I6
noncomputable def LJ (A:Ad):Sp:=λvs H Q _=>Y5 λ(x:Ax) (M:Mem) (ow:Own) (O Y:List (Nat×Int))=>C4 (vs=[.ref x.p,.ref x.r]) (Wx A H x M) (In ow M O Y) (∀(H':Hp) (l:Addr) (F:List (Nat×Int)) (Dn:List Int) (c:CS),H l=none->l≠x.v->Wx A H' x (WC M c (ow.D.map (wd (pp ow F))))->H' l=some (.lst (c.cs.map V.int))->xS ow M O Y F Dn c->S2 ow M F Dn->F.map aJ=ord ow O->Kx [x.q,x.g] H H'->Q (.ref l) H')
structure Go(A:Ad)(H0 H:Hp)(x:Ax)(M:Mem)(ow:Own)(O Y F:List (Nat×Int))(Dn:List Int)(c:CS)(l:Addr)(hw:List Int):Prop where
 wh:Wx A H x (WC M c hw)
 cl:H l=some (.lst (c.cs.map V.int))
 md:xS ow M O Y F Dn c
 kx:Kx [x.q,x.g] H0 H
 nq:l≠x.q
 ng:l≠x.g
 nv:l≠x.v
section
variable{A:Ad}{H0 H H':Hp}{x:Ax}{M:Mem}{ow:Own}{O Y F:List (Nat×Int)}{Dn:List Int}{c:CS}{l:Addr}{hw:List Int}
theorem Go.pre(g:Go A H0 H x M ow O Y F Dn c l hw)(I:In ow M O Y):S5 A H x {M with hw:=hw} c l/\c.ot<=9999/\c.st<=9999:=by
 have t:=g.md.MM I
 have f:=I.fr
 have:=f.hv;have:=f.yw;have:=f.y0;have:=f.yt;have:=f.l2;have:=f.ot;have:=f.o0
 have e:=g.md.len
 have M_:=g.md.M_ I
 refine⟨⟨g.wh,g.cl,g.nq,g.ng,g.nv,g.md.wo,by lia,?_,?_,by rw[g.md.cs,aj];lia⟩,by lia,by lia⟩
 ·show M.so.e<=_;lia
 ·show M.ss.e<=_;lia
theorem Go.same(g:Go A H0 H x M ow O Y F Dn c l hw)(s:jD H H'):Go A H0 H' x M ow O Y F Dn c l hw:=⟨g.wh.same s,s _ _ g.cl,g.md,g.kx.trans (Co s),g.nq,g.ng,g.nv⟩
theorem QY.XS{u:Int}(m:QY M c u):QY {M with hw:=hw} c u:=⟨m.kw,m.o0,m.s0,m.yg⟩
theorem Go.slot(g:Go A H0 H x M ow O Y F Dn c l hw)(I:In ow M O Y)(hl:H0 l=none){k:Nat}{a ag:Int}(m:At ow O F k a ag){j:Nat}(hj:j<(ow.s k).length)(w0:E4 ow F hw){Q:VK}{E:XK}
  (q:∀H' F' c',(∃ls,F'=F++ls)->Go A H0 H' x M ow O Y F' ((a+1+j)::Dn) c' l hw->E4 ow F' hw->F'.map aJ=Kq ow (F.map aJ) (ow.t k j)->Kx [l,x.q] H H'->Q .kG H'):
  DI A [.ref x.p,.int (a+1+j),.ref l] H Q E:=by
 obtain⟨p,t1,t2⟩:=g.pre I
 obtain⟨m1,m2,a0,a1,ls,md,e1⟩:=g.md.slot I m hj rfl rfl
 have nl:(kQ M.sy c (pM c.ws (a+1+j))).ws.length=c.ws.length:=by have:=md.len;rw[show({kQ M.sy c (pM c.ws (a+1+j)) with ws:=(kQ M.sy c (pM c.ws (a+1+j))).ws.set (a+1+(j:Int)).toNat (qo M.sy c (pM c.ws (a+1+j)))}:CS).ws.length=(kQ M.sy c (pM c.ws (a+1+j))).ws.length from bf ..]at this;rw[this,g.md.len]
 refine⟨x,{M with hw:=hw},c,l,a+1+j,rfl,p,m1.XS,⟨t1,t2⟩,a0,by rw[g.md.len];exact a1,m2,nl,λH' w1 l1 k1=>q H' (F++ls) _ ⟨ls,rfl⟩ ⟨w1,l1,md,λb v eb kb nb=>k1 b v (g.kx b v eb kb nb) kb λz=> ?_,g.nq,g.ng,g.nv⟩ (w0.app md I) e1 k1⟩
 rcases List.mem_cons.mp z with rfl|z
 ·rw[hl]at eb;cases eb
 ·rw[aU]at z;subst z;exact nb (aM ..)
end
theorem oH:jf ["areas","roots","copies","hand","word","place","done"] ["areas","roots"] (ja Cg):=fsc
theorem Lm(T:Txt K mg A):jO P w K mg base (lV P w) true 13 A.rP A.ua ["areas","roots"] (LJ A):=by
 refine T.Ai.oZ oH (λvs H Q E h=> ?_) (λcdv A' outer s H vs Q E hr hx h=> ?_)
 ·obtain⟨_,_,_,_,_,rfl,_⟩:=h
  rfl
 ·obtain⟨x,M,ow,O,Y,rfl,h,I,q⟩:=h
  refine⟨_,nR.run (i3 (jA (i:=2) oH.nd rfl lo (mS iZ))
   (i3 (kT hx.own rfl (Iu rfl T.uY (iY (lJ (jg (i4 1) rfl) T.rz T.Ay ((Du T).mono (by decide)) hr T.zV hx) iZ)) (yi (n:=2) (by rfl) (lS (jR (i:=3) oH.nd rfl lo) (lS (jR (i:=4) oH.nd rfl lo) vO)))
    (i6 (ji (jL (jg (i4 1) rfl) T.rz T.Aw ((Dt T).mono (by decide)) hr T.zU hx (iY (i4 3) (iY (i7 ((Nu T).mono (by decide)) hr rfl T.F_ T.Fl.kp T.L0 hx (iY (i4 0) (iY (i4 4) (iY (i4 2) iZ)))) iZ))))))
   (i3 (kT hx.own rfl (lj (lJ (jg (i4 1) rfl) T.pR T.xu ((AB T).mono (by decide)) hr T.xg hx)) (jR (i:=5) oH.nd rfl lo)
    (i6 (ji (i7 ((Dz T).mono (by decide)) hr rfl T.uT T.vk.kp T.z4 hx (iY (i4 0) (iY (i4 5) (iY (i4 2) iZ)))))))
   (i3 (jA (i:=6) oH.nd rfl lo i9)
   (i3 (B_ hx.own (jj xr (i4 6) (jz kX (by rfl) T.nP PyProof.Rows.Boot.«len» (iY (i4 2) iZ)) (jK _))
    (i3 (kT hx.own rfl (lj (i7 ((AF T).mono (by decide)) hr rfl T.rE T.s_.kp T.xj hx (iY (jg (i4 0) rfl) (iY (jN j7 (i4 2) (i4 6) (λ_ _=>rfl)) iZ)))) (jR (i:=5) oH.nd rfl lo)
    (i6 (ji (i7 ((Dz T).mono (by decide)) hr rfl T.uT T.vk.kp T.z4 hx (iY (i4 0) (iY (i4 5) (iY (i4 2) iZ)))))))
   (i6 (jA (i:=6) oH.nd rfl lo (je j4 (i4 6) i9)))))
   (i6 (jh (i4 2)))))))),?_⟩
  obtain⟨dr,er⟩:=h.ro
  obtain⟨dh,eh⟩:=h.hd.ob
  obtain⟨db,eb⟩:=h.bk.ob
  show kN _ _ _ [some (V.ref x.p),some (V.ref x.r),none,none,none,none,none] H
  refine jw (λσ' H'=>∃l,C3 (σ'=[some (V.ref x.p),some (V.ref x.r),some (V.ref l),none,none,none,none]) (H l=none) (H'=upd H l (.lst []))) (λR hR=> ?_) ?_
  ·simp only[jv,zD,kB,jG,aq,ay,ax,true_and,U_]
   intro l hl
   exact hR _ _ ⟨l,rfl,hl,rfl⟩
  rintro Gq hGq _ _ ⟨l,rfl,hl,rfl⟩
  subst hGq
  have s1:jD H (upd H l (.lst [])):=jD.upd hl
  have nq:=i5 h.ar.mem.ls hl
  have ng:=i5 h.hd.ls hl
  have nv:=i5 h.wk.ls hl
  have g1:Go A H (upd H l (.lst [])) x M ow O Y [] [] ⟨M.ws,M.so.t,M.ss.b,[]⟩ l M.hw:=⟨by
   have e:(⟨M.ss.b,M.ss.e,M.ss.b⟩:S3)=M.ss:=by show S3.mk M.ss.b M.ss.e M.ss.b=S3.mk M.ss.b M.ss.e M.ss.t;rw[I.fr.st]
   show Wx A _ x {M with ss:=⟨M.ss.b,M.ss.e,M.ss.b⟩}
   rw[e];exact h.same s1,i8,I.mid,Co s1,aE nq,aE ng,aE nv⟩
  generalize upd H l (.lst [])=H1 at*
  refine jw (λσ' H'=>Y5 λv3 v4 F c hw=>C4 (σ'=[some (V.ref x.p),some (V.ref x.r),some (V.ref l),v3,v4,none,none]) (Go A H H' x M ow O Y F [] c l hw) (E4 ow F hw) (F.map aJ=uu ow [] ow.D)) (λR hR=> ?_) ?_
  ·obtain⟨dr1,er1⟩:=g1.wh.ro
   obtain⟨dh1,eh1⟩:=g1.wh.hd.ob
   simp only[jc,jv,jd,jq,mh,↓jE,↓jB,Nf,aa,ae,and_true,true_and,kK,qw,uX,er1,T.my,T.l_,JP,eh1,Nd]
   refine⟨x.h,x.g,M.hw,rfl,g1.wh.hd,λl2 hl2=>⟨⟨_,lT.of i8⟩,?_⟩⟩
   have s2:jD H1 (upd H1 l2 (.lst (M.hw.map V.int))):=jD.upd hl2
   have g2:=g1.same s2
   have e2:upd H1 l2 (.lst (M.hw.map V.int)) l2=some (.lst (M.hw.map V.int)):=i8
   have n2l:=i5 g1.cl hl2
   have n2q:=i5 g1.wh.ar.mem.ls hl2
   have n2g:=i5 g1.wh.hd.ls hl2
   generalize upd H1 l2 (.lst (M.hw.map V.int))=H2 at*
   refine lA.enum (xs:=M.hw.map V.int) (λi σ H'=>Y5 λv3 v4 F c hw=>C7 (σ=[some (V.ref x.p),some (V.ref x.r),some (V.ref l),v3,v4,none,none]) (Go A H H' x M ow O Y F [] c l hw) (H' l2=some (.lst (M.hw.map V.int))) (F.map aJ=uu ow [] (ow.D.take i)) (hw.length=ow.D.length) ((∀j t,ow.D[j]? =some t->j<i->hw.getD j 0=wd (pp ow F) t/\Jk ow F t)) (∀j t,ow.D[j]? =some t->i<=j->hw.getD j 0=wd ow.p t))
    ⟨_,_,[],_,M.hw,rfl,g2,e2,rfl,by rw[I.hd,aj],λj t _ z=>absurd z (cP _),λj t ej _=> ?_⟩ (λi σ H' _ hz=>by obtain⟨_,_,_,_,_,_,_,e,_⟩:=hz;exact lT.of e) ?_ ?_
   ·rw[I.hd,au,aT,ej];rfl
   ·rintro i v σ H3 p hv ⟨v3,v4,F,c,hw,rfl,g3,e3,k3,hl3,h1,h2⟩ hp R2 hR2
    obtain⟨hi,rfl,_⟩:=ints_get hv
    have hi':i<ow.D.length:=by rw[I.hd,aj]at hi;exact hi
    have et:ow.D[i]? =some ow.D[i]:=af hi'
    have ew:M.hw[i]=wd ow.p ow.D[i]:=by
     have:M.hw[i]? =some (wd ow.p ow.D[i]):=by rw[I.hd,aT,et];rfl
     rw[af hi]at this;exact bp this
    rw[ew]
    have s3:jD H3 (upd H3 p (.tup [.int i,.int (wd ow.p ow.D[i])])):=jD.upd hp
    have g4:=g3.same s3
    have e4:=s3 _ _ e3
    have tp:upd H3 p (.tup [.int i,.int (wd ow.p ow.D[i])]) p=some (.tup [.int i,.int (wd ow.p ow.D[i])]):=i8
    generalize upd H3 p (.tup [.int i,.int (wd ow.p ow.D[i])])=H4 at*
    obtain⟨dr4,er4⟩:=g4.wh.ro
    obtain⟨dh4,eh4⟩:=g4.wh.hd.ob
    obtain⟨m1,m2,ls,md,e1,e2',e3'⟩:=g4.md.meet I (I.gd _ (bH hi')) (.inl rfl)
    obtain⟨pr,t1,t2⟩:=g4.pre I
    refine⟨p,_,rfl,.inl (.inl tp),rfl,?_⟩
    simp only[kc,jc,jv,jd,jG,jm,and_assoc,Aj,Md,↓jE,↓jB,aa,ae,ay,ax,V.int.injEq,V.bl.injEq,V.str.injEq,V.ref.injEq,V.ty.injEq,av,ak,and_true,true_and,exists_eq_left',exists_and_left,kK,qw,uX,er4,T.my,T.l_,JP,eh4,Nc]
    generalize hW:qo M.sy c (wd ow.p ow.D[i])=W at*
    refine⟨x,{M with hw:=hw},c,l,_,rfl,pr,m1.XS,⟨t1,t2⟩,λH5 w5 l5 k5 o5=>⟨x.h,x.g,hw,V.int i,V.int W,by rw[←hW],w5.hd,aF,aF,?_⟩⟩
    rw[if_pos (E3 (by lia) (by rw[hl3];lia))]
    obtain⟨v,ev⟩:=Option.isSome_iff_exists.mp m2
    rw[ev]
    dsimp only
    have hd6:=w5.hd.put i W
    have f6:∀b u,H5 b=some u->b≠x.g->upd H5 x.g (.lst ((hw.set i W).map V.int)) b=some u:=λb u eb nb=>by rw[i_ nb];exact eb
    refine hR2 _ _ ⟨_,_,F++ls,kQ M.sy c (wd ow.p ow.D[i]),hw.set i W,rfl,⟨w5.hand hd6 f6,f6 _ _ l5 g4.ng,md,λb v eb kb nb=> ?_,g4.nq,g4.ng,g4.nv⟩,?_,?_,by rw[bf];exact hl3,λj t ej hj=> ?_,λj t ej hj=> ?_⟩
    ·rw[bI,not_or,aU]at nb
     refine f6 b v (k5 b v (g4.kx b v eb kb (by rw[bI,not_or,aU];exact nb)) kb λz=> ?_) nb.2
     rcases List.mem_cons.mp z with rfl|z
     ·rw[hl]at eb;cases eb
     ·exact nb.1 (List.mem_singleton.mp z)
    ·exact f6 _ _ (k5 _ _ e4 rfl (by rw[bI,not_or,aU];exact⟨aE n2l,aE n2q⟩)) (aE n2g)
    ·rw[e1,k3,cx,et];exact Bk.symm
    ·by_cases e:j=i
     ·subst e
      rw[et]at ej;cases ej
      rw[Jg (by lia)]
      exact⟨e2',e3'⟩
     ·have z:=h1 j t ej (by lia)
      rw[Jh (aE e),z.1]
      have y:=md.app I z.2
      exact⟨y.1.symm,y.2⟩
    ·rw[Jh (by lia)]
     exact h2 j t ej (by lia)
   ·rintro σ H3 ⟨v3,v4,F,c,hw,rfl,g3,e3,k3,hl3,h1,h2⟩
    have ln:(M.hw.map V.int).length=ow.D.length:=by rw[aj,I.hd,aj]
    rw[ln]at k3 h1
    rw[cF]at k3
    refine hR _ _ ⟨v3,v4,F,c,hw,rfl,g3,⟨ik λj=> ?_,λt ht=> ?_⟩,k3⟩
    ·by_cases z:j<ow.D.length
     ·have e:=(h1 j _ (af z) z).1
      rw[au,af (by lia)]at e
      rw[aT,af z,af (by lia)]
      exact congrArg some e
     ·rw[cK (by lia),cK (by rw[aj];lia)]
    ·obtain⟨j,hj,rfl⟩:=List.mem_iff_getElem.mp ht
     exact(h1 j _ (af hj) hj).2
  rintro Gq hGq _ H2 ⟨v3,v4,F,c,hw,rfl,g2,w2,k2⟩
  subst hGq
  refine jw (λσ' H'=>Y4 λv5 F c Dn=>C5 (σ'=[some (V.ref x.p),some (V.ref x.r),some (V.ref l),v3,v4,v5,none]) (Go A H H' x M ow O Y F Dn c l hw) (E4 ow F hw) (F.map aJ=uu ow [] (U5 ow O)) (∀p∈M.ks,p∈Dn)) (λR hR=> ?_) ?_
  ·obtain⟨dr1,er1⟩:=g2.wh.ro
   obtain⟨db1,eb1⟩:=g2.wh.bk.ob
   simp only[jv,jd,jq,mh,tU,↓jE,↓jB,aa,ae,and_true,true_and,kK,qw,uX,er1,T.my,T.mK,JN,eb1,FU]
   refine⟨x.b,x.d,M.ks,rfl,g2.wh.bk,I.U6,λl2 hl2=>⟨l2,rfl,⟨_,lT.of i8⟩,?_⟩⟩
   have s2:jD H2 (upd H2 l2 (.lst ((mY M.ks).map V.int))):=jD.upd hl2
   have g3:=g2.same s2
   have e2:upd H2 l2 (.lst ((mY M.ks).map V.int)) l2=some (.lst ((mY M.ks).map V.int)):=i8
   have n2l:=i5 g2.cl hl2
   have n2q:=i5 g2.wh.ar.mem.ls hl2
   generalize upd H2 l2 (.lst ((mY M.ks).map V.int))=H3 at*
   refine lA.Gn (xs:=(mY M.ks).map V.int) (λi σ H'=>Y4 λv5 F c Dn=>C6 (σ=[some (V.ref x.p),some (V.ref x.r),some (V.ref l),v3,v4,v5,none]) (Go A H H' x M ow O Y F Dn c l hw) (E4 ow F hw) (H' l2=some (.lst ((mY M.ks).map V.int))) (F.map aJ=uu ow (uu ow [] ow.D) (((mY M.ks).take i).map (Sy ow O))) (∀p∈(mY M.ks).take i,p∈Dn))
    ⟨_,F,c,[],rfl,g3,w2,e2,k2,λ_ z=>nomatch z⟩ (λi σ H' _ hz=>by obtain⟨_,_,_,_,_,_,_,e,_⟩:=hz;exact lT.of e) ?_ ?_
   ·rintro i v σ H4 hv ⟨v5,F,c,Dn,rfl,g4,w4,e4,k4,d4⟩ R2 hR2
    obtain⟨hi,rfl,tk⟩:=ints_get hv
    obtain⟨k,a,j,ii,m,hj,ep,et,gi⟩:=I.b1 _ ((qi M.ks).mem_iff.mp (bH hi))
    simp only[kc,jc,jv,jd,jG,jm,aa,ae,ay,ax,ep]
    refine g4.slot I hl (.inl ⟨m,rfl⟩) hj w4 λH5 F5 c5 _ g5 w5 k5 kx5=>hR2 _ _ ⟨_,F5,c5,_,rfl,g5,w5,?_,?_,λp hp=> ?_⟩
    ·exact kx5 _ _ e4 rfl (by rw[bI,not_or,aU];exact⟨aE n2l,aE n2q⟩)
    ·rw[k5,k4,tk,bo,ao,aB,Bk,ep,Kp I.lo m hj]
    ·rw[tk]at hp
     rcases List.mem_append.mp hp with hp|hp
     ·exact aP _ (d4 p hp)
     ·rw[List.mem_singleton.mp hp,ep];exact aM ..
   ·rintro σ H4 ⟨v5,F,c,Dn,rfl,g4,w4,e4,k4,d4⟩
    rw[aj,cF]at k4 d4
    exact hR _ _ ⟨v5,F,c,Dn,rfl,g4,w4,by rw[k4];exact I.start,λp hp=>d4 p ((qi M.ks).mem_iff.mpr hp)⟩
  rintro Gq hGq _ H3 ⟨v5,F,c,Dn,rfl,g3,w3,k3,d3⟩
  subst hGq
  refine jw (λσ' H'=>σ'=[some (V.ref x.p),some (V.ref x.r),some (V.ref l),v3,v4,v5,some (V.int 0)]/\H3=H') (λR hR=> ?_) ?_
  ·simp only[tC,kB,jG,ay,ax]
   exact hR _ _ ⟨rfl,rfl⟩
  rintro Gq hGq _ _ ⟨rfl,rfl⟩
  subst hGq
  refine jw (λσ' H'=>Y5 λv5 d F c Dn=>C5 (σ'=[some (V.ref x.p),some (V.ref x.r),some (V.ref l),v3,v4,v5,some (V.int d)]) (Go A H H' x M ow O Y F Dn c l hw) (E4 ow F hw) (F.map aJ=ord ow O) (S2 ow M F Dn)) (λR hR=> ?_) ?_
  ·simp only[lu,jc,jv,jd,jm,LS,zL,jq,mh,tU,↓jE,kK,qw]
   refine⟨λk σ H'=>∃(v5:Option V) (d:Nat) (F:List (Nat×Int)) (c:CS) (Dn:List Int),σ=[some (V.ref x.p),some (V.ref x.r),some (V.ref l),v3,v4,v5,some (V.int d)]/\k=11-d/\Go A H H' x M ow O Y F Dn c l hw/\E4 ow F hw/\NY ow (11-d) (F.map aJ) d=ord ow O/\(∀p∈M.ks,p∈Dn)/\∀k q,(k,q)∈F.take d->∀j:Nat,j<(ow.s k).length->q+1+j∈Dn,
    ⟨_,v5,0,F,c,Dn,rfl,rfl,g3,w3,by rw[k3];rfl,d3,λ_ _ z=>by simp at z⟩,?_⟩
   rintro k σ H4 ⟨v5,d,F,c,Dn,rfl,rfl,g4,w4,c4,d4,f4⟩
   obtain⟨da4,ea4⟩:=g4.wh.ar.ob
   have cl:c.cs.length=F.length:=by rw[g4.md.cs,aj]
   have M_:=g4.md.M_ I
   simp only[kN,jY,lu,A6,jc,jv,jd,tR,xk,aa,ae,and_true,true_and,exists_and_left,decide_eq_true_eq,↓jS,g4.cl,ea4,T.jF,T.jC,tT]
   by_cases z:d<F.length
   ·rw[if_pos (by rw[aj,cl];lia)]
    refine⟨λσ' H'=>∃(v5:Option V) (F:List (Nat×Int)) (c:CS) (Dn:List Int),σ'=[some (V.ref x.p),some (V.ref x.r),some (V.ref l),v3,v4,v5,some (V.int ((d+1:Nat):Int))]/\Go A H H' x M ow O Y F Dn c l hw/\E4 ow F hw/\NY ow (11-(d+1)) (F.map aJ) (d+1)=ord ow O/\(∀p∈M.ks,p∈Dn)/\∀k q,(k,q)∈F.take (d+1)->∀j:Nat,j<(ow.s k).length->q+1+j∈Dn,
     λσ' H' ⟨v5,F,c,Dn,hh⟩=>⟨11-(d+1),by omega,v5,d+1,hh.1,rfl,F,c,Dn,hh.2⟩,?_⟩
    have eF:F[d]? =some F[d]:=af z
    generalize hkq:F[d]=kq at*
    obtain⟨k,qa⟩:=kq
    have mk:(k,qa)∈F:=bW eF
    have at1:At ow O F k qa (ow.g k+1):= .inr ⟨mk,rfl⟩
    have rg:=g4.md.arg I at1
    have ez:ow.z k=(ow.s k).length+1:=rfl
    have s8:=I.s8 k
    have gk:=g4.md.fg I mk
    have hdw:=(g4.md.ce k qa _ at1).1
    have cn:lx c.ws qa.toNat=some (4*(ow.s k).length+(ow.g k+1)):=by
     rw[pW,show c.ws.getD qa.toNat 0=pM c.ws qa from rfl,hdw,g4.md.len,if_pos (by omega)]
     congr 1;lia
    have ecs:(c.cs.map V.int)[d]? =some (V.int qa):=by rw[g4.md.cs,aT,aT,eF];rfl
    rw[ko ecs]
    dsimp only
    refine⟨x.m,x.q,c.ws,_,rfl,g4.wh.ar.mem,aF,g4.md.wo,by rw[g4.md.len];have:=I.fr.l2;lia,?_⟩
    rw[if_pos (E3 rg.1 (by rw[g4.md.len];lia)),show(iv (V.int qa)).toNat=qa.toNat from rfl,cn]
    dsimp only
    intro l2 hl2
    refine⟨l2,rfl,⟨_,lT.of i8⟩,?_⟩
    have sp:Er (iv (V.int qa)) (4*((ow.s k).length:Int)+(ow.g k+1))=wC ow (k,qa):=by
     unfold Er wC;rw[show((4*((ow.s k).length:Int)+(ow.g k+1))/4).toNat=(ow.s k).length by omega];rfl
    rw[sp]
    have s2:jD H4 (upd H4 l2 (.lst ((wC ow (k,qa)).map V.int))):=jD.upd hl2
    have g5:=g4.same s2
    have e2:upd H4 l2 (.lst ((wC ow (k,qa)).map V.int)) l2=some (.lst ((wC ow (k,qa)).map V.int)):=i8
    have n2l:=i5 g4.cl hl2
    have n2q:=i5 g4.wh.ar.mem.ls hl2
    generalize upd H4 l2 (.lst ((wC ow (k,qa)).map V.int))=H5 at*
    have sll:(wC ow (k,qa)).length=(ow.s k).length:=by unfold wC;rw[aj,cb]
    refine lA.Gn (xs:=(wC ow (k,qa)).map V.int) (λi σ H'=>Y4 λ(v5:Option V) (ls:List (Nat×Int)) (c:CS) (Dn':List Int)=>C7 (σ=[some (V.ref x.p),some (V.ref x.r),some (V.ref l),v3,v4,v5,some (V.int d)]) (Go A H H' x M ow O Y (F++ls) Dn' c l hw) (E4 ow (F++ls) hw) (H' l2=some (.lst ((wC ow (k,qa)).map V.int))) ((F++ls).map aJ=uu ow (F.map aJ) ((ow.s k).take i)) ((∀p∈Dn,p∈Dn')) (∀j:Nat,j<i->j<(ow.s k).length->qa+1+j∈Dn'))
     ⟨_,[],c,Dn,rfl,by rw[aD];exact g5,by rw[aD];exact w4,e2,by rw[aD];rfl,λ_ h=>h,λj z=>absurd z (cP _)⟩ (λi σ H' _ hz=>by obtain⟨_,_,_,_,_,_,_,e,_⟩:=hz;exact lT.of e) ?_ ?_
    ·rintro i v σ H6 hv ⟨v5,ls,c6,Dn6,rfl,g6,w6,e6,k6,d6,f6⟩ R2 hR2
     obtain⟨hi,rfl,tk⟩:=ints_get hv
     have hi':i<(ow.s k).length:=by lia
     have e0:(wC ow (k,qa))[i]? =some (qa+1+(i:Nat)):=by unfold wC;rw[aT,fA hi'];rfl
     have ep:(wC ow (k,qa))[i]=qa+1+(i:Nat):=bp ((af hi).symm.trans e0)
     simp only[kc,jc,jv,jd,jG,jm,aa,ae,ay,ax,ep]
     refine g6.slot I hl (.inr ⟨bV _ mk,rfl⟩) hi' w6 λH7 F7 c7 ⟨ls7,e7⟩ g7 w7 k7 kx7=> ?_
     subst e7
     rw[eN]at g7 w7 k7
     refine hR2 _ _ ⟨_,ls++ls7,c7,_,rfl,g7,w7,?_,?_,λp hp=>aP _ (d6 p hp),λj j1 j2=> ?_⟩
     ·exact kx7 _ _ e6 rfl (by rw[bI,not_or,aU];exact⟨aE n2l,aE n2q⟩)
     ·have et:ow.t k i=(ow.s k)[i]:=by unfold Own.t;rw[au,af hi'];rfl
      rw[k7,k6,cx,af hi',←et];exact Bk.symm
     ·by_cases e:j=i
      ·subst e;exact aM ..
      ·exact aP _ (f6 j (by lia) j2)
    ·rintro σ H6 ⟨v5,ls,c6,Dn6,rfl,g6,w6,e6,k6,d6,f6⟩
     rw[aj,sll]at k6 f6
     rw[cF]at k6
     simp only[lu,tC,jd,kB,jG,qx,and_assoc,aa,ae,ay,ax,V.int.injEq,V.bl.injEq,V.str.injEq,V.ref.injEq,V.ty.injEq,av,ak,and_true,true_and,exists_eq_left',exists_and_left]
     refine⟨by lia,F++ls,c6,Dn6,g6,w6,?_,λp hp=>d6 p (d4 p hp),λk' q' m' j hj=> ?_⟩
     ·rw[k6,←c4,show 11-d=(11-(d+1))+1 by lia,O_ (by rw[aj];exact z)]
      congr 2
      rw[au,aT,eF];rfl
     ·rw[List.take_append_of_le_length (by lia),cx,eF]at m'
      rcases List.mem_append.mp m' with m'|m'
      ·exact d6 _ (f4 k' q' m' j hj)
      ·have m':=List.mem_singleton.mp m'
       cases m'
       exact f6 j hj hj
   ·rw[if_neg (by rw[aj,cl];lia)]
    refine hR _ _ ⟨v5,d,F,c,Dn,rfl,g4,w4,?_,λk q m j hj=>f4 k q (by rw[gu (by lia)];exact m) j hj,d4,w4.i⟩
    rw[←c4,MY (by rw[aj];lia)]
  rintro Gq hGq _ H4 ⟨v5,d,F,c,Dn,rfl,g4,w4,k4,d4⟩
  subst hGq
  simp only[kM,jd,aa,ae]
  have e:=g4.wh
  rw[w4.e]at e
  exact q H4 l F Dn c hl (aE nv) e g4.cl g4.md d4 k4 g4.kx
noncomputable def Ew (A:Ad):Sp:=λvs H Q _=>Y5 λ(x:Ax) (M:Mem) (ow:Own) (O Y:List (Nat×Int))=>C5 (vs=[.ref x.p,.ref x.r]) (Wx A H x M) (x.t=A.jy) (In ow M O Y) (∀(H':Hp) (d t:Addr) (F:List (Nat×Int)) (Dn:List Int) (c:CS) (ks:List Int),(∀b u,H b=some u->Oq u=true->b≠d)->Wx A H' {x with y:=x.s,s:=x.y,d:=d} (T9 ow M F c ks)->xS ow M O Y F Dn c->S2 ow M F Dn->F.map aJ=ord ow O->ks.Nodup->     (∀p,p∈ks↔(p∈M.ks∨∃e∈F,ow.g e.1=1/\p∈wC ow e)/\r9 ⟨M.ss.b,M.ss.e,c.st⟩ (pM c.ws p)=true)->Kx [x.q,x.g] H H'->     H' t=some (.tup [.int (F.length-(F.filter λe=>decide (ow.g e.1=1)).length),.int (F.filter λe=>decide (ow.g e.1=1)).length])->Q (.ref t) H')
theorem ur:jf ["areas","roots","copies","grown"] ["areas","roots"] (ja o9):=fsc
theorem Eg(T:Txt K mg A):jO P w K mg base (lV P w) true 14 A.mn A.lK ["areas","roots"] (Ew A):=by
 refine T.uj.Xl ur (λvs H Q E h=> ?_) (λcdv A' outer s H vs Q E hcd hr hx h=> ?_)
 ·obtain⟨_,_,_,_,_,rfl,_⟩:=h
  rfl
 ·obtain⟨x,M,ow,O,Y,rfl,h,ht,I,q⟩:=h
  refine⟨_,nR.run (i3 (jA (i:=2) ur.nd rfl lo (i7 ((Lm T).mono (by decide)) hr rfl T.yR T.Ai.kp T.FR hx (iY (i4 0) (iY (i4 1) iZ))))
   (i3 (ji (jL (i4 1) T.my T.Az ((Fc T).mono (by decide)) hr T.zW hx (iY (PM (fsc:=ja o9) (hcd.symm.trans T.q9) T.q0 rfl (by decide+kernel) (by rfl)) iZ)))
   (i3 (ji (lJ (i4 0) T.jF T.Dj ((Hf T).mono (by decide)) hr T.Cy hx))
   (i3 (ji (lJ (jg (i4 0) rfl) T.ke T.BL ((GD T).mono (by decide)) hr T.Bu hx))
   (i3 (tu (i:=3) (fsc:=ja o9) (N2:=["areas"]) (js:=[0]) ur.nd rfl lo ⟨rfl,rfl,by decide+kernel,by decide+kernel,by decide+kernel,by decide+kernel,by decide+kernel,by decide+kernel,by decide+kernel⟩ rfl rfl (by rfl) (lj (i4 2)) (λ_ _ _ _=>(qk (PN (jL (K4 (K:=K) rfl (i4 1) rfl) T.ke T.AA ((Dv T).mono (by decide)) hr T.zX M9 (iY (i4 0) iZ)) (λ_=>rfl)))) (λ_ _ _ _=>(i4 0)))
   (i3 (ji (i7 ((Hr T).mono (by decide)) hr rfl T.vp T.xo.kp T.CK hx (iY (i4 0) (iY (jg (i4 1) rfl) (iY (i4 3) iZ)))))
   (i6 (jh (we (iY (je uD (jz kX (by rfl) T.nP PyProof.Rows.Boot.«len» (iY (i4 2) iZ)) (jz kX (by rfl) T.nP PyProof.Rows.Boot.«len» (iY (i4 3) iZ))) (iY (jz kX (by rfl) T.nP PyProof.Rows.Boot.«len» (iY (i4 3) iZ)) iZ))))))))))),?_⟩
  show kN _ _ _ [some (V.ref x.p),some (V.ref x.r),none,none] H
  refine jw (λσ' H'=>Y4 λl F Dn c=>C9 (σ'=[some (V.ref x.p),some (V.ref x.r),some (V.ref l),none]) (H l=none) (l≠x.v) (Wx A H' x (WC M c (ow.D.map (wd (pp ow F))))) (H' l=some (.lst (c.cs.map V.int))) (xS ow M O Y F Dn c) (S2 ow M F Dn) (F.map aJ=ord ow O) (Kx [x.q,x.g] H H')) (λR hR=> ?_) ?_
  ·simp only[jc,jv,jd,kB,jG,jm,aa,ae,ay,ax]
   exact⟨x,M,ow,O,Y,rfl,h,I,λH' l F Dn c hl nv w1 e1 md dn fo kx=>hR _ _ ⟨l,F,Dn,c,rfl,hl,nv,w1,e1,md,dn,fo,kx⟩⟩
  rintro Gq hGq _ H1 ⟨l,F,Dn,c,rfl,hl,nv,w1,e1,md,dn,fo,k1⟩
  subst hGq
  refine jw (λσ' H'=>C4 (σ'=[some (V.ref x.p),some (V.ref x.r),some (V.ref l),none]) (Wx A H' x (WC M c (ow.D.map (wd (pp ow F))))) (H' l=some (.lst (c.cs.map V.int))) (Kx [x.q,x.g] H H')) (λR hR=> ?_) ?_
  ·obtain⟨dr1,er1⟩:=w1.ro
   simp only[kc,jc,jv,jd,↓jB,aa,ae,and_true,true_and,US,uX,er1,Lr]
   obtain⟨ps,et,tt⟩:=w1.tb
   rw[ht]at et
   refine⟨ps,et,tt,λf ps' _ tt'=> ?_⟩
   rw[←ht]at et⊢
   have w1':=w1.Xy tt'
   have f1:∀b u,H1 b=some u->Oq u=true->upd H1 x.t (.G_ ps') b=some u:=λb u e k=>by rw[i_ λz=>by rw[z,et]at e;cases e;cases k];exact e
   exact⟨x,_,_,rfl,w1',λH' s'=>hR _ _ ⟨rfl,w1'.same s',s' _ _ (f1 _ _ e1 rfl),λb u e k n=>s' _ _ (f1 _ _ (k1 b u e k n) k)⟩⟩
  rintro Gq hGq _ H2 ⟨rfl,w2,e2,k2⟩
  subst hGq
  obtain⟨da2,ea2⟩:=w2.ar.ob
  refine jw (λσ' H'=>C4 (σ'=[some (V.ref x.p),some (V.ref x.r),some (V.ref l),none]) (Wx A H' {x with y:=x.s,s:=x.y} ⟨c.ws,⟨M.so.b,M.so.e,c.ot⟩,⟨M.ss.b,M.ss.e,c.st⟩,M.sy,ow.D.map (wd (pp ow F)),M.ks⟩) (H' l=some (.lst (c.cs.map V.int))) (Kx [x.q,x.g] H H')) (λR hR=> ?_) ?_
  ·simp only[kc,jv,jd,↓jB,aa,and_true,true_and,uX,ea2,OR]
   have f3:∀b u,H2 b=some u->b≠x.p->upd H2 x.p (.ins A.jI da2 (zR x.m x.o x.s x.y)) b=some u:=λb u e n=>by rw[i_ n];exact e
   exact⟨x.p,da2,x.m,x.o,x.y,x.s,rfl,ea2,hR _ _ ⟨rfl,w2.IU (w2.ar.flip i8 f3) λb u e _ _ n=>f3 b u e (Ed e ea2 n (by kernel_rfl)),f3 _ _ e2 (jJ e2 ea2 (by kernel_rfl)),λb u e k n=>f3 b u (k2 b u e k n) λz=>by rw[z]at e;have:=k2 _ _ e k (by rw[←z];exact n);rw[ea2]at this;cases this;cases k⟩⟩
  rintro Gq hGq _ H3 ⟨rfl,w3,e3,k3⟩
  subst hGq
  obtain⟨da3,ea3⟩:=w3.ar.ob
  obtain⟨ds3,es3⟩:=w3.ar.Ex
  refine jw (λσ' H'=>C4 (σ'=[some (V.ref x.p),some (V.ref x.r),some (V.ref l),none]) (Wx A H' {x with y:=x.s,s:=x.y} (T9 ow M F c M.ks)) (H' l=some (.lst (c.cs.map V.int))) (Kx [x.q,x.g] H H')) (λR hR=> ?_) ?_
  ·simp only[kc,jv,jd,jq,↓jE,↓jB,aa,and_true,true_and,kK,qw,uX,ea3,T.jF,T.kJ,FH,es3,OF]
   have f4:∀b u,H3 b=some u->b≠x.y->upd H3 x.y (.ins A.ju ds3 (wz M.sy.b M.sy.e M.sy.b)) b=some u:=λb u e n=>by rw[i_ n];exact e
   exact⟨x.y,ds3,_,_,_,rfl,es3,hR _ _ ⟨rfl,w3.IU (w3.ar.Xv (z:=⟨M.sy.b,M.sy.e,M.sy.b⟩) ⟨ds3,i8⟩ f4) λb u e _ n _=>f4 b u e (Ed e es3 n (by kernel_rfl)),f4 _ _ e3 (jJ e3 es3 (by kernel_rfl)),λb u e k n=>f4 b u (k3 b u e k n) λz=>by have:=k3 b u e k n;rw[z,es3]at this;cases this;cases k⟩⟩
  rintro Gq hGq _ H4 ⟨rfl,w4,e4,k4⟩
  subst hGq
  obtain⟨da4,ea4⟩:=w4.ar.ob
  obtain⟨do4,eo4⟩:=w4.ar.old
  have M_:=md.M_ I
  have tp:=md.MM I
  have ecs:=md.cs
  have Po:(c.cs.map V.int).filter (λv=>wi v M.so.b (c.ot-1))=((F.filter λe=>decide (ow.g e.1=1)).map cj).map V.int:=by
   rw[I.fr.ob,ecs,d_,d_]
   congr 2
   refine iq λe he=> ?_
   have r:=md.VS (k:=e.1) (q:=e.2) he
   have:=ow.z1 e.1
   have fr:=I.fr;have:=fr.hv;have:=fr.o0;have:=fr.yw;have:=fr.y0;have:=fr.yt
   show wi (V.int e.2) 0 (c.ot-1)=decide (ow.g e.1=1)
   rcases md.fg I (k:=e.1) (q:=e.2) he with z|z
   ·have:=r.2 z
    rw[decide_eq_false (by lia)]
    unfold wi;simp;omega
   ·have:=r.1 z
    rw[decide_eq_true z]
    exact E3 (by omega) (by omega)
  refine jw (λσ' H'=>∃lg,C5 (σ'=[some (V.ref x.p),some (V.ref x.r),some (V.ref l),some (V.ref lg)]) (H' lg=some (.lst (((F.filter λe=>decide (ow.g e.1=1)).map cj).map V.int))) (Wx A H' {x with y:=x.s,s:=x.y} (T9 ow M F c M.ks)) (H' l=some (.lst (c.cs.map V.int))) (Kx [x.q,x.g] H H')) (λR hR=> ?_) ?_
  ·simp only[jc,jv,jd,kB,jG,jq,pT,yu,xW,tU,↓jE,↓jB,ao,aB,aa,ae,ay,ax,V.int.injEq,V.bl.injEq,V.str.injEq,V.ref.injEq,V.ty.injEq,av,ak,exists_eq_left',kK,qw,uX]
   refine⟨⟨_,lT.of e4⟩,vP.Im (λv=>wi v M.so.b (c.ot-1)) (λv=>v) (lT.of e4) (by rw[aj,ecs,aj];exact aW M_ (by decide)) (λv hv K' hK=> ?_) (λv hv _ K' hK=> ?_) λlg hlg=> ?_⟩
   ·obtain⟨q',_,rfl⟩:=List.mem_map.mp hv
    simp only[aa,ae,and_true,true_and,ea4,T.jF,T.lD,FG,eo4,NF,bN]
    exact⟨x.o,do4,_,_,_,_,rfl,eo4,aF,_,rfl,hK⟩
   ·simp only[jd,aa,bN]
    exact hK
   ·rw[fc,Po]
    have s5:jD H4 (upd H4 lg (.lst (((F.filter λe=>decide (ow.g e.1=1)).map cj).map V.int))):=jD.upd hlg
    exact hR _ _ ⟨lg,rfl,i8,w4.same s5,s5 _ _ e4,k4.trans (Co s5)⟩
  rintro Gq hGq _ H5 ⟨lg,rfl,eg5,w5,e5,k5⟩
  subst hGq
  obtain⟨dr5,er5⟩:=w5.ro
  refine jw (λσ' H'=>Y2 λd ks=>C8 (σ'=[some (V.ref x.p),some (V.ref x.r),some (V.ref l),some (V.ref lg)]) ((∀b u,H b=some u->Oq u=true->b≠d)) (Wx A H' {x with y:=x.s,s:=x.y,d:=d} (T9 ow M F c ks)) (ks.Nodup) ((∀p,p∈ks↔(p∈M.ks∨∃e∈F,ow.g e.1=1/\p∈wC ow e)/\r9 ⟨M.ss.b,M.ss.e,c.st⟩ (pM c.ws p)=true)) (H' l=some (.lst (c.cs.map V.int))) (H' lg=some (.lst (((F.filter λe=>decide (ow.g e.1=1)).map cj).map V.int))) (Kx [x.q,x.g] H H')) (λR hR=> ?_) ?_
  ·simp only[kc,jc,jv,jd,jm,jq,↓jE,aa,ae,and_true,true_and,kK,qw,er5,T.my,T.mK,JN]
   refine⟨{x with y:=x.s,s:=x.y},T9 ow M F c M.ks,ow,F.filter λe=>decide (ow.g e.1=1),lg,rfl,w5,md.wo,?_,eg5,I.U6,aW (cU ..) M_,I.s8,λe he=> ?_,λp hp=> ?_,λH6 d ks fd w6 k6 nd6 m6=>hR _ _ ⟨d,ks,rfl,λb u e k=> ?_,w6,nd6,λp=> ?_,k6 _ _ e5 rfl bz,k6 _ _ eg5 rfl bz,k5.trans (k6.mono λ_ z=>nomatch z)⟩⟩
   ·show c.ws.length<=200;rw[md.len];exact I.fr.l2
   ·obtain⟨he,e1⟩:=List.mem_filter.mp he
    have e1:=of_decide_eq_true e1
    have at1:At ow O F e.1 e.2 (ow.g e.1+1):= .inr ⟨he,rfl⟩
    have rg:=md.arg I at1
    have hdw:=(md.ce e.1 e.2 _ at1).1
    have s8:=I.s8 e.1
    have ez:ow.z e.1=(ow.s e.1).length+1:=rfl
    refine⟨rg.1,by show _<=(c.ws.length:Int);rw[md.len];exact rg.2.2.1,4*(ow.s e.1).length+(ow.g e.1+1),?_,by lia⟩
    show lx c.ws e.2.toNat=_
    rw[pW,show c.ws.getD e.2.toNat 0=pM c.ws e.2 from rfl,hdw,md.len,if_pos (by lia)]
    congr 1;lia
   ·obtain⟨k,a,j,i,m,hj,rfl,_⟩:=I.b1 p hp
    have r:=I.QU m
    have ez:ow.z k=(ow.s k).length+1:=rfl
    have fr:=I.fr;have:=fr.hv;have:=fr.ot;have:=fr.yw;have:=fr.y0;have:=fr.yt
    show _/\_<(c.ws.length:Int)
    rw[md.len]
    lia
   ·by_cases n:b∈ [x.q,x.g]
    ·rcases List.mem_cons.mp n with z|z
     ·rw[z];exact fd _ _ w5.ar.mem.ls rfl
     ·rw[List.mem_singleton.mp z];exact fd _ _ w5.hd.ls rfl
    ·exact fd b u (k5 b u e k n) k
   ·rw[m6 p]
    refine and_congr (or_congr Iff.rfl ⟨λ⟨e,he,hp⟩=> ?_,λ⟨e,he,e1,hp⟩=>⟨e,List.mem_filter.mpr ⟨he,decide_eq_true e1⟩,hp⟩⟩) Iff.rfl
    obtain⟨he,e1⟩:=List.mem_filter.mp he
    exact⟨e,he,of_decide_eq_true e1,hp⟩
  rintro Gq hGq _ H6 ⟨d,ks,rfl,fd,w6,nd6,m6,e6,g6,k6⟩
  subst hGq
  simp only[kM,lu,A6,jc,jv,jd,LN,E6,xk,az,ai,aq,aa,ae,true_and,aA,QV,e6,g6]
  intro t ht'
  have s7:jD H6 (upd H6 t (.tup [.int ((c.cs.map V.int).length-(((F.filter λe=>decide (ow.g e.1=1)).map cj).map V.int).length),.int (((F.filter λe=>decide (ow.g e.1=1)).map cj).map V.int).length])):=jD.upd ht'
  refine q _ d t F Dn c ks fd (w6.same s7) md dn fo nd6 m6 (k6.trans (Co s7)) ?_
  rw[i8]
  simp only[aj,ecs]
noncomputable def DH (A:Ad):Sp:=λvs H Q _=>Y6 λ(x:Ax) (u:Ow) (ow:Own) (M:Mem) (O Y:List (Nat×Int))=>C6 (vs=[.ref u.d]) (Wx A H x M) (x.t=A.jy) (lW H x u ow) (In ow M O Y) (∀(H':Hp) (x':Ax) (ow':Own) (M':Mem) (F O' Y':List (Nat×Int)),Wx A H' x' M'->x'.t=A.jy->lW H' x' u ow'->In ow' M' O' Y'->Nx ow F ow'->(∀k∈F.map aJ,∃a,(k,a)∈Y)->Q (.bl true) H')
theorem lE:jf ["_law_own","_law_areas","_law_order_here","_law_stood","_law_begins","_law_due","_law_found"] ["_law_own"] (ja oj):=fsc
theorem Dw(T:Txt K mg A):jO P w K mg base (lV P w) true 15 A.lR A.mP ["_law_own"] (DH A):=by
 refine T.sY.oZ lE (λvs H Q E h=> ?_) (λcdv A' outer s H vs Q E hr hx h=> ?_)
 ·obtain⟨_,_,_,_,_,_,rfl,_⟩:=h
  rfl
 ·obtain⟨x,u,ow,M,O,Y,rfl,h,ht,o,I,q⟩:=h
  refine⟨_,nR.run (i3 (jA (i:=1) lE.nd rfl lo (jr (by exact jT hr) (i4 0) jb (λ_ _=>rfl)))
   (i3 (jA (i:=2) lE.nd rfl lo (i7 ((Ho T).mono (by decide)) hr rfl T.vn T.xm.kp T.CI hx (iY (i4 0) iZ)))
   (i3 (jA (i:=3) lE.nd rfl lo (jz kX (by rfl) T.nP PyProof.Rows.Boot.«len» (iY (jL (jg (i4 1) rfl) T.ke T.uG ((wj T).mono (by decide)) hr T.uw hx (iY (jg (i4 1) rfl) iZ)) iZ)))
   (i3 (jA (i:=4) lE.nd rfl lo (mS (iY (jg (jg (i4 1) rfl) rfl) (iY (jg (jg (i4 1) rfl) rfl) iZ))))
   (i3 (jA (i:=5) lE.nd rfl lo (we (iY (jz kX (by rfl) T.nP PyProof.Rows.Boot.«len» (iY (yf (fsc:=ja oj) (N2:=["_law_own"]) (js:=[0]) ⟨rfl,rfl,by decide+kernel,by decide+kernel,by decide+kernel,by decide+kernel,by decide+kernel,by decide+kernel,by decide+kernel⟩ rfl rfl (by rfl) (lj (i4 2)) (λ_ _ _ _=>(qk (jj mz (jN j7 (jr (by exact jT hr) (i4 1) jb (λ_ _=>rfl)) (i4 0) (λ_ _=>rfl)) i9 (jK _)))) (λ_ _ _ _=>(i4 0))) iZ)) (iY (jz kX (by rfl) T.nP PyProof.Rows.Boot.«len» (iY (yf (fsc:=ja oj) (N2:=["_law_own"]) (js:=[0]) ⟨rfl,rfl,by decide+kernel,by decide+kernel,by decide+kernel,by decide+kernel,by decide+kernel,by decide+kernel,by decide+kernel⟩ rfl rfl (by rfl) (lj (i4 2)) (λ_ _ _ _=>(qk (jj mz (jN j7 (jr (by exact jT hr) (i4 1) jb (λ_ _=>rfl)) (i4 0) (λ_ _=>rfl)) i9 (jK _)))) (λ_ _ _ _=>(i4 0))) iZ)) iZ))))
   (i3 (jA (i:=6) lE.nd rfl lo (i7 ((Eg T).mono (by decide)) hr rfl T.rK T.uj.kp T.zJ hx (iY (i4 1) (iY (jr (by exact jT hr) (i4 0) jb (λ_ _=>rfl)) iZ))))
   (i3 (jH (oV (uE (kI (jM (jz wc (by rfl) T.nO PyProof.Rows.Boot.«isinstance» (iY (i4 6) (iY (Df T.Fx PyProof.Rows.Boot.«tuple») iZ))) (λ_=>rfl))) (uE (jj (Jq (Tz hr)) (i4 6) (i4 5) (jK _)) (uE (kI (jM (i7 ((BP T).mono (by decide)) hr rfl T.tj T.uy.kp T.yF hx (iY (jN j7 (i4 6) i9 (λ_ _=>rfl)) iZ)) (λ_=>rfl))) (uU (kI (jM (i7 ((BP T).mono (by decide)) hr rfl T.tj T.uy.kp T.yF hx (iY (jN j7 (i4 6) i9 (λ_ _=>rfl)) iZ)) (λ_=>rfl)))))))) (i6 (jh vt)) jx)
   (i3 (jH (oV (uE (jj (Jq (Tz hr)) (mS (iY (jg (jg (i4 1) rfl) rfl) (iY (jg (jg (i4 1) rfl) rfl) iZ))) (i4 4) (jK _)) (uU (jj (Jq (Tz hr)) (lJ (jg (i4 1) rfl) T.ke T.tD ((uH T).mono (by decide)) hr T.sU hx) i9 (jK _))))) (i6 (jh vt)) jx)
   (i6 (jh (yd (i7 ((JJ T).mono (by decide)) hr rfl T.wO T.yO.kp T.EH hx (iY (i4 0) (iY (i4 2) (iY (i4 3) iZ)))) (yh (i7 ((GF T).mono (by decide)) hr rfl T.uA T.vY.kp T.Bv hx (iY (i4 0) iZ)))))))))))))),?_⟩
  show kN _ _ _ [some (V.ref u.d),none,none,none,none,none,none] H
  refine jw (λσ' H'=>σ'=[some (V.ref u.d),some (V.ref x.p),none,none,none,none,none]/\H=H') (λR hR=> ?_) ?_
  ·simp only[tC,jd,kB,jG,jZ,kL,aa,ay,ax,o.dc,GI]
   exact hR _ _ ⟨rfl,rfl⟩
  rintro Gq hGq _ _ ⟨rfl,rfl⟩
  subst hGq
  refine jw (λσ' H'=>∃lr,C4 (σ'=[some (V.ref u.d),some (V.ref x.p),some (V.ref lr),none,none,none,none]) (jD H H') (H lr=none) (H' lr=some (.lst (nV (ord ow O))))) (λR hR=> ?_) ?_
  ·simp only[jc,jv,jd,kB,jG,jm,aa,ay,ax]
   exact⟨x,u,ow,M,O,Y,rfl,o,I,λlr H1 s1 e1 n1=>hR _ _ ⟨lr,rfl,s1,n1,e1⟩⟩
  rintro Gq hGq _ H1 ⟨lr,rfl,s1,n1,e1⟩
  subst hGq
  have h1:=h.same s1
  have o1:=o.same s1
  obtain⟨da1,ea1⟩:=h1.ar.ob
  obtain⟨do1,eo1⟩:=h1.ar.old
  refine jw (λσ' H'=>σ'=[some (V.ref u.d),some (V.ref x.p),some (V.ref lr),some (V.int O.length),none,none,none]/\jD H1 H') (λR hR=> ?_) ?_
  ·simp only[A6,jc,jv,jd,kB,jG,xk,jq,↓jE,↓jB,aa,ae,ay,ax,and_true,true_and,kK,qw,uX,ea1,T.jF,T.lD,T.jC,FG,tT,eo1,Eo]
   have l':=I.lo
   rw[←I.fr.ob]at l'
   refine⟨x.o,do1,_,_,_,x.m,x.q,M.ws,_,rfl,eo1,h1.ar.mem,I.wo,DO l' (I.XA λe he=> .inl he),by rw[aj];have:=I.Xk;lia,λl4 H4 s4 n4 e4=> ?_⟩
   rw[←D_ l']at e4
   simp only[e4,aj]
   exact hR _ _ ⟨rfl,s4⟩
  rintro Gq hGq _ H2 ⟨rfl,s2⟩
  subst hGq
  have h2:=h1.same s2
  have o2:=o1.same s2
  obtain⟨da2,ea2⟩:=h2.ar.ob
  obtain⟨dy2,ey2⟩:=h2.ar.r9
  obtain⟨ds2,es2⟩:=h2.ar.Ex
  refine jw (λσ' H'=>∃lb,C4 (σ'=[some (V.ref u.d),some (V.ref x.p),some (V.ref lr),some (V.int O.length),some (V.ref lb),none,none]) (jD H2 H') (H2 lb=none) (H' lb=some (.lst [.int M.sy.b,.int M.ss.b]))) (λR hR=> ?_) ?_
  ·simp only[jc,jv,jd,zD,kB,jG,jq,az,↓jE,ai,aq,aa,ae,ay,ax,and_true,true_and,aA,QV,kK,qw,ea2,T.jF,T.jQ,T.kJ,zG,FH,ey2,es2,T.ke,T.kU,II]
   exact λlb hlb=>hR _ _ ⟨lb,rfl,jD.upd hlb,hlb,i8⟩
  rintro Gq hGq _ H3 ⟨lb,rfl,s3,nb,e3⟩
  subst hGq
  have h3:=h2.same s3
  have o3:=o2.same s3
  have gf:=I.gf
  have er3:=s3 _ _ (s2 _ _ e1)
  have gl:=gf.len I.Fb
  have nl:(nV (ord ow O)).length<=sizeLine:=by unfold nV;rw[aj];exact aW gl (by decide)
  refine jw (λσ' H'=>∃td,C3 (σ'=[some (V.ref u.d),some (V.ref x.p),some (V.ref lr),some (V.int O.length),some (V.ref lb),some (V.ref td),none]) (jD H3 H') (H' td=some (.tup [.int ((nV (ord ow O)).filter (pg ow 0)).length,.int ((nV (ord ow O)).filter (pg ow 1)).length]))) (λR hR=> ?_) ?_
  ·simp only[A6,jc,jv,jd,LN,kB,jG,xk,jq,az,yu,xW,tU,ao,aB,ai,aq,aa,ae,ay,ax,V.int.injEq,V.bl.injEq,V.str.injEq,V.ref.injEq,V.ty.injEq,av,ak,true_and,exists_eq_left',aA,QV]
   refine⟨⟨_,lT.of er3⟩,vP.Im (pg ow 0) (λv=>v) (lT.of er3) nl (λv hv K' hK=> ?_) (λv hv _ K' hK=> ?_) λl5 hl5=> ?_⟩
   ·obtain⟨k,hk,rfl⟩:=List.mem_map.mp hv
    simp only[jY,lu,tC,jd,zK,eqv,zL,jZ,kL,aa,ae,↓jS,bN,o3.dc,qt,o3.ag,ko (Own.E9 (gf.2 k hk).1)]
    exact hK
   ·simp only[jd,aa,bN]
    exact hK
   ·rw[fc]
    have s4:jD H3 (upd H3 l5 (.lst ((nV (ord ow O)).filter (pg ow 0)))):=jD.upd hl5
    have e4:upd H3 l5 (.lst ((nV (ord ow O)).filter (pg ow 0))) l5=some (.lst ((nV (ord ow O)).filter (pg ow 0))):=i8
    generalize upd H3 l5 (.lst ((nV (ord ow O)).filter (pg ow 0)))=H4 at*
    have o4:=o3.same s4
    simp only[e4]
    refine⟨⟨_,lT.of (s4 _ _ er3)⟩,vP.Im (pg ow 1) (λv=>v) (lT.of (s4 _ _ er3)) nl (λv hv K' hK=> ?_) (λv hv _ K' hK=> ?_) λl6 hl6=> ?_⟩
    ·obtain⟨k,hk,rfl⟩:=List.mem_map.mp hv
     simp only[jY,lu,tC,jd,zK,eqv,zL,jZ,kL,aa,ae,↓jS,bN,o4.dc,qt,o4.ag,ko (Own.E9 (gf.2 k hk).1)]
     exact hK
    ·simp only[jd,aa,bN]
     exact hK
    ·rw[fc]
     have s5:jD H4 (upd H4 l6 (.lst ((nV (ord ow O)).filter (pg ow 1)))):=jD.upd hl6
     have e5:upd H4 l6 (.lst ((nV (ord ow O)).filter (pg ow 1))) l6=some (.lst ((nV (ord ow O)).filter (pg ow 1))):=i8
     generalize upd H4 l6 (.lst ((nV (ord ow O)).filter (pg ow 1)))=H5 at*
     simp only[e5]
     exact λtd htd=>hR _ _ ⟨td,rfl,(s4.trans s5).trans (jD.upd htd),i8⟩
  rintro Gq hGq _ H4 ⟨td,rfl,s4,etd⟩
  subst hGq
  have h4:=h3.same s4
  have o4:=o3.same s4
  refine jw (λσ' H'=>Y6 λt d F Dn c ks=>Wu (σ'=[some (V.ref u.d),some (V.ref x.p),some (V.ref lr),some (V.int O.length),some (V.ref lb),some (V.ref td),some (V.ref t)]) (u.d≠d) (Wx A H' {x with y:=x.s,s:=x.y,d:=d} (T9 ow M F c ks)) (xS ow M O Y F Dn c) (S2 ow M F Dn) (F.map aJ=ord ow O) (ks.Nodup) ((∀p,p∈ks↔(p∈M.ks∨∃e∈F,ow.g e.1=1/\p∈wC ow e)/\r9 ⟨M.ss.b,M.ss.e,c.st⟩ (pM c.ws p)=true)) (Kx [x.q,x.g] H4 H') (H' t=some (.tup [.int (F.length-(F.filter λe=>decide (ow.g e.1=1)).length),.int (F.filter λe=>decide (ow.g e.1=1)).length]))) (λR hR=> ?_) ?_
  ·simp only[jc,jv,tC,jd,kB,jG,jm,jZ,kL,aa,ae,ay,ax,o4.dc,Ln]
   exact⟨x,M,ow,O,Y,rfl,h4,ht,I,λH5 d t F Dn c ks fd w5 md dn fo nd m5 k5 tp=>hR _ _ ⟨t,d,F,Dn,c,ks,rfl,fd _ _ o4.dc rfl,w5,md,dn,fo,nd,m5,k5,tp⟩⟩
  rintro Gq hGq _ H5 ⟨t,d,F,Dn,c,ks,rfl,nd5,w5,md,dn,fo,nd,m5,k5,tp⟩
  subst hGq
  have o5:lW H5 {x with y:=x.s,s:=x.y,d:=d} u ow:={o4.go h4 (k5.mono λb hb=>by rcases List.mem_cons.mp hb with rfl|hb;exact aM ..;rw[List.mem_singleton.mp hb];simp) with n2:=nd5}
  have etd5:=k5 _ _ etd rfl λz=>by
   rcases List.mem_cons.mp z with z|z
   ·exact jJ etd h4.ar.mem.ls (by kernel_rfl) z
   ·exact jJ etd h4.hd.ls (by kernel_rfl) (List.mem_singleton.mp z)
  have elr5:=k5 _ _ (s4 _ _ er3) rfl λz=>by
   rcases List.mem_cons.mp z with z|z
   ·exact i5 h.ar.mem.ls n1 z.symm
   ·exact i5 h.hd.ls n1 (List.mem_singleton.mp z).symm
  have elb5:=k5 _ _ (s4 _ _ e3) rfl λz=>by
   rcases List.mem_cons.mp z with z|z
   ·exact i5 h2.ar.mem.ls nb z.symm
   ·exact i5 h2.hd.ls nb (List.mem_singleton.mp z).symm
  have lp:=Iz (x:=ow) (F:=F) λe he=>md.fg I (k:=e.1) (q:=e.2) he
  have c0:((nV (ord ow O)).filter (pg ow 0)).length=(F.filter λe=>decide (ow.g e.1=0)).length:=by rw[←fo,Fy];unfold nV;rw[aj,aj]
  have c1:((nV (ord ow O)).filter (pg ow 1)).length=(F.filter λe=>decide (ow.g e.1=1)).length:=by rw[←fo,Fy];unfold nV;rw[aj,aj]
  have tp':H5 t=some (.tup [.int ((nV (ord ow O)).filter (pg ow 0)).length,.int ((nV (ord ow O)).filter (pg ow 1)).length]):=by
   rw[tp,c0,c1,show(F.length:Int)-((F.filter λe=>decide (ow.g e.1=1)).length:Int)=((F.filter λe=>decide (ow.g e.1=0)).length:Int) by lia]
  generalize (((nV (ord ow O)).filter (pg ow 0)).length:Int)=C0 at*
  generalize (((nV (ord ow O)).filter (pg ow 1)).length:Int)=C1 at*
  refine jw (λσ' H'=>σ'=[some (V.ref u.d),some (V.ref x.p),some (V.ref lr),some (V.int O.length),some (V.ref lb),some (V.ref td),some (V.ref t)]/\H5=H') (λR hR=> ?_) ?_
  ·refine Io (λK1 hK=> ?_) (hR _ _ ⟨rfl,rfl⟩)
   have t1:SY H5 (.ref t)=some (.type "tuple"):=by simp[SY,tp']
   have t2:Kt K H5 (.ref t):=by simp[Kt,tp']
   simp only[jY,lu,NL,sR,A6,jc,jv,tC,jd,jm,OB,RI,zL,jq,pT,az,↓reduceIte,aS,dG,bJ,Cw,FJ,ai,aq,aa,ae,true_and,exists_eq_left,aK,aA,O1,↓jS,t1,t2,T.tw,tp',etd5,VO]
   refine⟨_,rfl,aF,true,rfl,?_⟩
   rw[if_neg (by decide),tp']
   exact⟨_,rfl,aF,true,rfl,hK⟩
  rintro Gq hGq _ _ ⟨rfl,rfl⟩
  subst hGq
  obtain⟨da5,ea5⟩:=w5.ar.ob
  obtain⟨dy5,ey5⟩:=w5.ar.r9
  obtain⟨ds5,es5⟩:=w5.ar.Ex
  replace ea5:H5 x.p=some (.ins A.jI da5 (zR x.m x.o x.s x.y)):=ea5
  replace ey5:H5 x.s=some (.ins A.ju dy5 (wz M.ss.b M.ss.e c.st)):=ey5
  replace es5:H5 x.y=some (.ins A.ju ds5 (wz M.sy.b M.sy.e M.sy.b)):=es5
  refine jw (λσ' H'=>σ'=[some (V.ref u.d),some (V.ref x.p),some (V.ref lr),some (V.int O.length),some (V.ref lb),some (V.ref td),some (V.ref t)]/\jD H5 H') (λR hR=> ?_) ?_
  ·simp only[kM,j5,kZ,jY,lu,NL,jc,jv,tC,jd,zD,eqv,jq,az,↓reduceIte,aS,i8,KH,NU,↓jE,↓jB,ai,aq,aa,ae,and_true,true_and,aA,QV,O1,↓jS,kK,qw,uX,ea5,T.jF,T.jQ,T.kJ,zG,FH,ey5,es5,T.ke,T.kU,II]
   intro p hp
   have s6:jD H5 (upd H5 p (.lst [.int M.sy.b,.int M.ss.b])):=jD.upd hp
   generalize upd H5 p (.lst [.int M.sy.b,.int M.ss.b])=H6 at*
   simp only[az,↓reduceIte,bJ,ai,aq,and_true,true_and,aA,s6 _ _ elb5,VO,s6 _ _ ea5,T.jF,T.kJ,FH,s6 _ _ es5,AX]
   refine⟨x.y,ds5,_,_,_,rfl,s6 _ _ es5,?_⟩
   simp only[↓reduceIte,decide_true,bJ,aL,Int.sub_self]
   exact hR _ _ ⟨rfl,s6⟩
  rintro Gq hGq _ H6 ⟨rfl,s6⟩
  subst hGq
  simp only[kM,DL,jc,jv,jd,jm,aa,ae]
  refine⟨_,u,ow,M,_,O,Y,F,lr,rfl,w5.same s6,o5.same s6,I,⟨Dn,c,md⟩,by rw[fo];exact s6 _ _ elr5,i5 o.pl n1,i5 o.ag n1,λx' nxx=>I.next md dn nxx nd m5,λH7 x' nxx w7 o7 f7=>⟨true,rfl,?_⟩⟩
  rw[if_pos rfl]
  have I':=I.next md dn nxx nd m5
  exact⟨_,u,x',_,_,_,rfl,w7,o7,I',λH8 s8=>q H8 _ x' _ F _ _ (w7.same s8) ht (o7.same s8) I' nxx md.fy⟩
noncomputable def FE (K:aC) (p:Addr):Sp:=λvs H Q _=>Y2 λ(a:Addr) (ns:List Int)=>C5 (vs=[.ref a]) (Bl K H a ns) (ns.length<=63) (H p=some (.G_ #[])) (∀H',Q (.bl true) H')
noncomputable def UP (K:aC) (A:Ad):Sp:=FE K A.jy
theorem J9:jf ["_law_script","_law_own","_law_turn","_law_there"] ["_law_script"] (ja EZ):=fsc
theorem Ua(T:Txt K mg A):jO P w K mg base (lV P w) true 16 A.KY A.M0 ["_law_script"] (UP K A):=by
 refine T.Pp.oZ J9 (λvs H Q E h=> ?_) (λcdv A' outer s H vs Q E hr hx h=> ?_)
 ·obtain⟨_,_,rfl,_⟩:=h
  rfl
 ·obtain⟨a,ns,rfl,hS,l63,et,q⟩:=h
  refine⟨_,nR.run (i3 (jA (i:=1) J9.nd rfl lo (i7 ((Hn T).mono (by decide)) hr rfl T.vm T.xl.kp T.CH hx (iY (i4 0) iZ)))
   (i3 (kT hx.own rfl (mI rfl T.oX (iY i9 iZ)) (jR (i:=2) J9.nd rfl lo)
    (i3 (jH (kI (jM (i7 ((Dw T).mono (by decide)) hr rfl T.qX T.sY.kp T.xT hx (iY (i4 1) iZ)) (λ_=>rfl))) (i6 (jh vt)) jx)
   (i3 (tu (i:=3) (fsc:=ja EZ) (N2:=["_law_own"]) (js:=[1]) J9.nd rfl lo ⟨rfl,rfl,by decide+kernel,by decide+kernel,by decide+kernel,by decide+kernel,by decide+kernel,by decide+kernel,by decide+kernel⟩ rfl rfl (by rfl) (mI rfl T.oX (iY (jz kX (by rfl) T.nP PyProof.Rows.Boot.«len» (iY (jr (by exact jT hr) (i4 1) jb (λ_ _=>rfl)) iZ)) iZ)) (λ_ _ _ _=>(qk (oV (qm (jj mz (jN j7 (jr (by exact jT hr) (i4 1) jb (λ_ _=>rfl)) (i4 0) (λ_ _=>rfl)) i9 (jK _)) (um (jj yc (jN j7 (jr (by exact jT hr) (i4 1) jb (λ_ _=>rfl)) (i4 0) (λ_ _=>rfl)) l9 (jK _))))))) (λ_ _ _ _=>(i4 0)))
   (i6 (jH (jj Gh (lJ (jg (jr (by exact jT hr) (i4 1) jb (λ_ _=>rfl)) rfl) T.ke T.tD ((uH T).mono (by decide)) hr T.sU hx) (jz (RH (by rfl)) (by rfl) T.Nr PyProof.Rows.Boot.«sum» (iY (yf (fsc:=ja EZ) (N2:=["_law_own"]) (js:=[1]) ⟨rfl,rfl,by decide+kernel,by decide+kernel,by decide+kernel,by decide+kernel,by decide+kernel,by decide+kernel,by decide+kernel⟩ rfl rfl (by rfl) (lj (i4 3)) (λ_ _ _ _=>B9) (λ_ _ _ _=>(je j4 i9 (jz kX (by rfl) T.nP PyProof.Rows.Boot.«len» (iY (jN j7 (jr (by exact jT hr) (i4 1) jb (λ_ _=>rfl)) (i4 0) (λ_ _=>rfl)) iZ))))) iZ)) (jK _)) (i6 (jh vt)) jx)))))
   (i6 (jh (vN mz (lJ (jg (jr (by exact jT hr) (i4 1) jb (λ_ _=>rfl)) rfl) T.ke T.tD ((uH T).mono (by decide)) hr T.sU hx) i9 (jK _)))))),?_⟩
  show kN _ _ _ [some (V.ref a),none,none,none] H
  refine jw (λσ' H'=>Y6 λ(x:Ax) (u:Ow) (ow:Own) (M:Mem) (O Y:List (Nat×Int))=>C5 (σ'=[some (V.ref a),some (V.ref u.d),none,none]) (Wx A H' x M) (x.t=A.jy) (lW H' x u ow) (In ow M O Y)) (λR hR=> ?_) ?_
  ·simp only[jc,jv,jd,kB,jG,jm,aa,ay,ax]
   exact⟨a,ns,rfl,hS,l63,et,λH1 x u ow M O Y w1 xt o1 I1=>hR _ _ ⟨x,u,ow,M,O,Y,rfl,w1,xt,o1,I1⟩⟩
  rintro Gq hGq _ H1 ⟨x,u,ow,M,O,Y,rfl,w1,xt,o1,I1⟩
  subst hGq
  refine jw (λσ' H'=>Y7 λ(v2 v3:Option V) (x:Ax) (ow:Own) (M:Mem) (O Y:List (Nat×Int))=>C5 (σ'=[some (V.ref a),some (V.ref u.d),v2,v3]) (Wx A H' x M) (lW H' x u ow) (In ow M O Y) (Y=[])) (λR hR=> ?_) ?_
  ·simp only[jc,jv,tC,jd,jm,jq,pT,bt,bu,e_,bc,bD,iL,mh,Ao,V.int.injEq,V.bl.injEq,V.str.injEq,V.ref.injEq,V.ty.injEq,av,ak,and_true,true_and,exists_eq_left']
   refine lA.Cc (λi σ H'=>Y7 λ(v2 v3:Option V) (x:Ax) (ow:Own) (M:Mem) (O Y:List (Nat×Int))=>C6 (σ=[some (V.ref a),some (V.ref u.d),v2,v3]) (Wx A H' x M) (x.t=A.jy) (lW H' x u ow) (In ow M O Y) (∀k b,(k,b)∈Y->(i:Int)<=ow.g k)) ⟨_,_,x,ow,M,O,Y,rfl,w1,xt,o1,I1,λk b m=>(I1.ag k ((I1.ye k b).mp m).1).1⟩ ?_ ?_
   ·rintro i σ H2 hi ⟨v2,v3,x,ow,M,O,Y,rfl,w2,xt,o2,I2,ag⟩ R2 hR2
    refine jw (λσ' H'=>Y5 λ(x:Ax) (ow':Own) (M:Mem) (O Y':List (Nat×Int))=>C6 (σ'=[some (V.ref a),some (V.ref u.d),some (V.int (0+(i:Int))),v3]) (Wx A H' x M) (x.t=A.jy) (lW H' x u ow') (In ow' M O Y') (∀k b,(k,b)∈Y'->ow'.g k=1/\((i:Int)+1)<=ow'.g k)) (λR3 hR3=> ?_) ?_
    ·simp only[kM,j5,kZ,sR,tC,aS,aa,ae,ay,ax]
     refine⟨x,u,ow,M,O,Y,rfl,w2,xt,o2,I2,λH3 x' ow' M' F O' Y' w3 xt' o3 I3 nx fy=>⟨true,rfl,?_⟩⟩
     rw[if_neg (by decide)]
     refine hR3 _ _ ⟨x',ow',M',O',Y',rfl,w3,xt',o3,I3,λk b m=> ?_⟩
     obtain⟨h1,h2,h3⟩:=(I3.ye k b).mp m
     rw[nx.G]at h1
     rw[nx.g k h1]at h2⊢
     rw[nx.p k h1]at h3
     by_cases z:k∈F.map aJ
     ·rw[if_pos z]at h2⊢
      obtain⟨b',hb⟩:=fy k z
      have a1:=ag k b' hb
      have a2:=I2.yg hb
      lia
     ·rw[if_neg z]at h2
      rw[if_neg (by lia),vz z]at h3
      cases h3
    rintro Gq hGq _ H3 ⟨x,ow,M,O,Y,rfl,w3,xt,o3,I3,ag3⟩
    subst hGq
    have Fb:=I3.Fb
    refine jw (λσ' H'=>∃lt,C3 (σ'=[some (V.ref a),some (V.ref u.d),some (V.int (0+(i:Int))),some (V.ref lt)]) (jD H3 H') (H' lt=some (.lst (nV ((bG ow.G.length).filter λk=>decide (ow.g k=1/\(ow.p k).isSome=true)))))) (λR4 hR4=> ?_) ?_
    ·simp only[A6,jc,jv,tC,jd,kB,jG,xk,bc,bD,yu,xW,Ao,jZ,kL,ao,aB,aa,ae,ay,ax,V.int.injEq,V.bl.injEq,V.str.injEq,V.ref.injEq,V.ty.injEq,av,ak,and_true,exists_eq_left',o3.dc,qt,o3.ag]
     refine⟨by lia,by rw[aj];lia,CN (λi ys H'=>H3=H'/\ys=nV ((bG i).filter λk=>decide (ow.g k=1/\(ow.p k).isSome=true))/\ys.length<=i) ⟨rfl,rfl,aN _⟩ (by rw[aj,bB];exact aW Fb (by decide)) (λi ys H' h=>h.2.2) (λj ys H' hj ⟨e1,e2,e3⟩ K1 hK=> ?_) λys H' ⟨e1,e2,e3⟩ lt hlt=> ?_⟩
     ·subst e1
      rw[aj,bB]at hj
      have at1:yy (ow.G.map V.int) (0+(j:Int))=some (.int (ow.g j)):=by rw[bM];exact ko (Own.E9 hj)
      have at2:yy (ow.P.map tv) (0+(j:Int))=some (tv (ow.p j)):=by
       rw[bM]
       refine ko ?_
       unfold Own.p
       rw[aT,au,af (by rw[I3.lp];exact hj)];rfl
      have fin:∀c:Bool,decide (ow.g j=1/\(ow.p j).isSome=true)=c->if c=true then K1 (ys++[.int (0+(j:Int))]) H3 else K1 ys H3:=λc hc=>by
       cases c with
       |true=>
        rw[if_pos rfl]
        refine hK _ _ ⟨rfl,?_,by rw[aY];exact fW e3⟩
        rw[e2,f9,df,bS (p:=λk=>decide (ow.g k=1/\(ow.p k).isSome=true)) hc,dj,bM];unfold nV;rw[bo];rfl
       |false=>
        rw[if_neg aZ]
        refine hK _ _ ⟨rfl,?_,by lia⟩
        rw[e2,f9,df,bR (by rw[hc];exact aZ),dj,aD]
      by_cases g1:ow.g j=1
      ·cases ep:ow.p j with
       |none=>
        rw[ep]at at2
        simp only[jY,lu,A5,tC,jd,zK,eqv,sV,rd,zL,↓reduceIte,dG,decide_true,jZ,kL,aa,ae,aK,↓jS,bN,o3.dc,qt,tI,o3.ag,o3.pl,at1,at2,g1,tv]
        exact fin false (decide_eq_false λz=>by rw[ep]at z;cases z.2)
       |some b=>
        rw[ep]at at2
        simp only[jY,lu,A5,tC,jd,zK,eqv,sV,rd,zL,↓reduceIte,dM,decide_true,jZ,kL,aa,ae,↓jS,bN,o3.dc,qt,tI,o3.ag,o3.pl,at1,at2,g1,tv]
        exact fin true (decide_eq_true ⟨g1,by rw[ep];rfl⟩)
      ·simp only[jY,lu,A5,tC,jd,zK,eqv,zL,↓reduceIte,decide_false,jZ,kL,aa,ae,aK,↓jS,bN,o3.dc,qt,o3.ag,at1,g1]
       exact fin false (decide_eq_false λz=>g1 z.1)
     ·subst e1
      rw[e2,aj,bB]
      exact hR4 _ _ ⟨lt,rfl,jD.upd hlt,i8⟩
    rintro Gq hGq _ H4 ⟨lt,rfl,s4,e4⟩
    subst hGq
    have o4:=o3.same s4
    have w4:=w3.same s4
    obtain⟨da4,ea4⟩:=w4.ar.ob
    obtain⟨dy4,ey4⟩:=w4.ar.r9
    simp only[kM,j5,kZ,jY,lu,A6,jc,jv,tC,jd,Rh,eqv,aS,yu,xW,tU,↓jE,↓jB,jZ,kL,Rl,ao,aB,aa,ae,V.int.injEq,V.bl.injEq,V.str.injEq,V.ref.injEq,V.ty.injEq,av,ak,and_true,true_and,exists_eq_left',↓jS,kK,qw,uX,o4.dc,GI,ea4,T.jF,T.jQ,zG,ey4,AX]
    refine⟨x.y,dy4,_,_,_,rfl,ey4,?_⟩
    simp only[decide_eq_false_iff_not]
    have sm:=I3.Xw λk b m=>(ag3 k b m).1
    have kl:∀k∈(bG ow.G.length).filter (λk=>decide (ow.g k=1/\(ow.p k).isSome=true)),k<ow.G.length:=λk hk=>List.mem_range.mp (List.mem_filter.mp hk).1
    have ln:((bG ow.G.length).filter λk=>decide (ow.g k=1/\(ow.p k).isSome=true)).length<=10:=aW (cU ..) (by rw[cb];exact Fb)
    generalize ((bG ow.G.length).filter λk=>decide (ow.g k=1/\(ow.p k).isSome=true))=ks at*
    refine⟨⟨_,lT.of e4⟩,vP.W8 (λv=>match v with| .int k=> .int (ow.z k.toNat)|_=> .kG) (lT.of e4) (by unfold nV;rw[aj];exact aW ln (by decide)) (λv hv K' hK=> ?_) λl5 hl5=> ?_⟩
    ·obtain⟨k,hk,rfl⟩:=List.mem_map.mp hv
     obtain⟨ra,rv,r1,r2,r3,r4⟩:=o4.OH (k:=k) (by rw[I3.ls];exact kl k hk)
     simp only[lu,A6,jc,jv,tC,jd,qx,zL,xk,jZ,kL,aa,ae,bN,o4.dc,BR,o4.sl,ko r2,r3,r4.l]
     have e:ow.z k=1+((ow.s k).length:Int):=by unfold Own.z;lia
     have hK:K' (.int (ow.z k)) H4:=hK
     rw[e]at hK
     exact hK
    ·have em:(nV ks).map (λv=>match v with| .int k=>V.int (ow.z k.toNat)|_=> .kG)=(ks.map ow.z).map V.int:=by unfold nV;rw[bU,bU];rfl
     rw[em]
     simp only[i8,D7,D7]
     refine⟨λm hm=> ?_,by rw[aj];lia,?_⟩
     ·obtain⟨k,hk,rfl⟩:=List.mem_map.mp hm
      have:=I3.s8 k
      unfold Own.z
      lia
     ·rw[if_neg (λz=>z sm.symm)]
      have s5:jD H4 (upd H4 l5 (.lst ((ks.map ow.z).map V.int))):=jD.upd hl5
      exact hR2 _ _ ⟨_,_,x,ow,M,O,Y,rfl,w4.same s5,xt,o4.same s5,I3,λk b m=>by have:=(ag3 k b m).2;lia⟩
   ·rintro σ H2 ⟨v2,v3,x,ow,M,O,Y,rfl,w2,xt,o2,I2,ag⟩
    refine hR _ _ ⟨v2,v3,x,ow,M,O,Y,rfl,w2,o2,I2,?_⟩
    cases Y with
    |nil=>rfl
    |cons e r=>
     have:=ag e.1 e.2 (aM ..)
     have:=((I2.ye e.1 e.2).mp (aM ..)).2.1
     lia
  rintro Gq hGq _ H2 ⟨v2,v3,x,ow,M,O,Y,rfl,w2,o2,I2,rfl⟩
  subst hGq
  obtain⟨da,ea⟩:=w2.ar.ob
  obtain⟨dy,ey⟩:=w2.ar.r9
  have e0:M.sy.b=M.sy.t:=I2.ly
  simp only[kM,lu,jv,tC,jd,zK,eqv,jq,↓jE,↓jB,jZ,kL,aa,ae,and_true,true_and,kK,qw,uX,o2.dc,GI,ea,T.jF,T.jQ,zG,ey,AX]
  refine⟨x.y,dy,_,_,_,rfl,ey,?_⟩
  simp only[decide_true,aL,e0,Int.sub_self]
  exact q _
structure nQ(K:aC)(f:Addr)(x q:Str)(st:Stmt)(d:FuncData):Prop where
 ex:∃(oc:Value) (od:Option Addr) (kV dc pm:Value) (an:Option Addr) (cd ct:Value) (sl:Array (Option Value)),K.lookup f=some ⟨oc,od,.func (dE x q (yJ st) (vf st) (ja st) .none kV dc pm an cd ct),sl⟩/\fE K cd q=true/\bO K (.ref f)=true/\d=dE x q (yJ st) (vf st) (ja st) .none kV dc pm an cd ct
theorem nQ.fn{K:aC}{f:Addr}{x q:Str}{st:Stmt}{d:FuncData}(h:nQ K f x q st d):mZ K x q st f d:=by
 obtain⟨oc,od,kV,dc,pm,an,cd,ct,sl,l,e,k,rfl⟩:=h.ex
 exact Tx (st:=st) l e k
theorem nQ.kp{K:aC}{f:Addr}{x q:Str}{st:Stmt}{d:FuncData}(h:nQ K f x q st d):bO K (.ref f)=true:=by
 obtain⟨oc,od,kV,dc,pm,an,cd,ct,sl,l,e,k,rfl⟩:=h.ex
 exact k
theorem all_mk{l:gb}{w:World}{K:aC}{h:Heap}{mg:Str->Option Value}{fa rR nI nJ nM mH nt ou mB nA oz nE lM oF nN uf oN oM oK qf nK qe rQ oU ug B2 mD kA j8 oC nD kP oB nZ oS B3 mE mC nX oQ yL lY nz nB pX ox nG oG oE nH qd nU nW pY qc F2 rS vU B5 uh rO pZ rT B1 nY yK nS vV oR mG k_ lZ oP kO lL qb B4 p_ qg oJ rP mn lR KY oq pe kf jV pV lX uO jo ju jI kh kD kr kE j_ nc jy:Addr}  {t_NOTHING:Tok}{t_MOST_NUMBER:Tok}{t_MOST_PLACE:Tok}{t_MOST_SLOTS:Tok}{t_MOST_AGE:Tok}{t_MOST_WORDS:Tok}{t_LEAST_OLD_WORDS:Tok}{t_MOST_OLD_WORDS:Tok}{t_LEAST_YOUNG_WORDS:Tok}{t_MOST_YOUNG_WORDS:Tok}{t_MOST_HANDS:Tok}{uc qI qJ qL pw qz sd pf qC sg qF m_ sk qM vK qQ qP qO sG qK sF ub qV vL D1 pk lI kR si qE me sh pH qU D2 pq pj pE qS A_ n_ qB qD tY sf qG su sj qH sE pB pC tZ sD Ik ud xX D4 vM t_ sv ue D0 pG A9 pz xY qT pv mM oa qR ma m9 sC D3 sx sH qN ua lK mP M0:FuncData}
  (X:K.In h) (G:h.Ns mainGlobals mg) (hfa:mg "law"=some (.ref fa))
  (wL:aH K mainGlobals "BadNumber"=some (some (.ref oq)))
  (ya:aH K mainGlobals "BadWord"=some (some (.ref pe)))
  (mv:aH K mainGlobals "BadCount"=some (some (.ref kf)))
  (uk:aH K mainGlobals "NoPlace"=some (some (.ref jV)))
  (Dc:aH K mainGlobals "NoRoom"=some (some (.ref pV)))
  (Al:aH K mainGlobals "NoCell"=some (some (.ref lX)))
  (C_:aH K mainGlobals "NoHand"=some (some (.ref uO)))
  (C2:aH K mainGlobals "Memory"=some (some (.ref jo)))
  (Bc:aH K mainGlobals "Space"=some (some (.ref ju)))
  (Fm:aH K mainGlobals "Areas"=some (some (.ref jI)))
  (Jd:aH K mainGlobals "Book"=some (some (.ref kh)))
  (Fn:aH K mainGlobals "Hands"=some (some (.ref kD)))
  (Fo:aH K mainGlobals "Lasts"=some (some (.ref kr)))
  (Je:aH K mainGlobals "Weak"=some (some (.ref kE)))
  (Fp:aH K mainGlobals "Roots"=some (some (.ref j_)))
  (pg_Memory:cm K jo dF=true)
  (hd_Memory:cy K jo=true)
  (po_Memory:cJ K jo=true)
  (sa_Memory:aG K (.ref jo) "__setattr__"=some (some (.builtin "object.__setattr__")))
  (Bi:cQ K jo=true)
  (kc_Memory:bO K (.ref jo)=true)
  (mV:aG K (.ref jo) "size"=some none)
  (lN:aG K (.ref jo) "words"=some none)
  (pg_Space:cm K ju dF=true)
  (hd_Space:cy K ju=true)
  (po_Space:cJ K ju=true)
  (sa_Space:aG K (.ref ju) "__setattr__"=some (some (.builtin "object.__setattr__")))
  (yj:cQ K ju=true)
  (kc_Space:bO K (.ref ju)=true)
  (kU:aG K (.ref ju) "begin"=some none)
  (tE:aG K (.ref ju) "end"=some none)
  (lU:aG K (.ref ju) "top"=some none)
  (pg_Areas:cm K jI dF=true)
  (hd_Areas:cy K jI=true)
  (po_Areas:cJ K jI=true)
  (sa_Areas:aG K (.ref jI) "__setattr__"=some (some (.builtin "object.__setattr__")))
  (Dp:cQ K jI=true)
  (kc_Areas:bO K (.ref jI)=true)
  (jC:aG K (.ref jI) "memory"=some none)
  (lD:aG K (.ref jI) "old"=some none)
  (jQ:aG K (.ref jI) "young"=some none)
  (kJ:aG K (.ref jI) "spare"=some none)
  (pg_Book:cm K kh dF=true)
  (hd_Book:cy K kh=true)
  (po_Book:cJ K kh=true)
  (sa_Book:aG K (.ref kh) "__setattr__"=some (some (.builtin "object.__setattr__")))
  (Fv:cQ K kh=true)
  (kc_Book:bO K (.ref kh)=true)
  (kY:aG K (.ref kh) "written"=some none)
  (pg_Hands:cm K kD dF=true)
  (hd_Hands:cy K kD=true)
  (po_Hands:cJ K kD=true)
  (sa_Hands:aG K (.ref kD) "__setattr__"=some (some (.builtin "object.__setattr__")))
  (Dq:cQ K kD=true)
  (kc_Hands:bO K (.ref kD)=true)
  (mU:aG K (.ref kD) "words"=some none)
  (pg_Lasts:cm K kr dF=true)
  (hd_Lasts:cy K kr=true)
  (po_Lasts:cJ K kr=true)
  (sa_Lasts:aG K (.ref kr) "__setattr__"=some (some (.builtin "object.__setattr__")))
  (Dr:cQ K kr=true)
  (kc_Lasts:bO K (.ref kr)=true)
  (oh:aG K (.ref kr) "waiting"=some none)
  (rM:aG K (.ref kr) "spoken"=some none)
  (pg_Weak:cm K kE dF=true)
  (hd_Weak:cy K kE=true)
  (po_Weak:cJ K kE=true)
  (sa_Weak:aG K (.ref kE) "__setattr__"=some (some (.builtin "object.__setattr__")))
  (Fw:cQ K kE=true)
  (kc_Weak:bO K (.ref kE)=true)
  (tF:aG K (.ref kE) "told"=some none)
  (pg_Roots:cm K j_ dF=true)
  (hd_Roots:cy K j_=true)
  (po_Roots:cJ K j_=true)
  (sa_Roots:aG K (.ref j_) "__setattr__"=some (some (.builtin "object.__setattr__")))
  (Ds:cQ K j_=true)
  (kc_Roots:bO K (.ref j_)=true)
  (l_:aG K (.ref j_) "hands"=some none)
  (mK:aG K (.ref j_) "book"=some none)
  (qq:aG K (.ref j_) "weaks"=some none)
  (qp:aG K (.ref j_) "lasts"=some none)
  (rW:aH K mainGlobals "is_whole"=some (some (.ref rR)))
  (a_Space_init:aG K (.ref ju) "__init__"=some (some (.ref nI)))
  (i_Space_init:ba K (.ref nI)=true)
  (a_Space_room:aG K (.ref ju) "room"=some (some (.ref nJ)))
  (i_Space_room:ba K (.ref nJ)=true)
  (a_Space_used:aG K (.ref ju) "used"=some (some (.ref nM)))
  (i_Space_used:ba K (.ref nM)=true)
  (a_Space_empty:aG K (.ref ju) "empty"=some (some (.ref mH)))
  (i_Space_empty:ba K (.ref mH)=true)
  (a_Areas_flip:aG K (.ref jI) "flip"=some (some (.ref nt)))
  (i_Areas_flip:ba K (.ref nt)=true)
  (a_Book_init:aG K (.ref kh) "__init__"=some (some (.ref ou)))
  (i_Book_init:ba K (.ref ou)=true)
  (a_Book_places:aG K (.ref kh) "places"=some (some (.ref mB)))
  (i_Book_places:ba K (.ref mB)=true)
  (a_Book_clear:aG K (.ref kh) "clear"=some (some (.ref nA)))
  (i_Book_clear:ba K (.ref nA)=true)
  (a_Hands_row:aG K (.ref kD) "row"=some (some (.ref oz)))
  (i_Hands_row:ba K (.ref oz)=true)
  (a_Lasts_init:aG K (.ref kr) "__init__"=some (some (.ref nE)))
  (i_Lasts_init:ba K (.ref nE)=true)
  (a_Lasts_pending:aG K (.ref kr) "pending"=some (some (.ref lM)))
  (i_Lasts_pending:ba K (.ref lM)=true)
  (a_Weak_init:aG K (.ref kE) "__init__"=some (some (.ref oF)))
  (i_Weak_init:ba K (.ref oF)=true)
  (a_Weak_names:aG K (.ref kE) "names"=some (some (.ref nN)))
  (i_Weak_names:ba K (.ref nN)=true)
  (sM:aH K mainGlobals "_law_at"=some (some (.ref uf)))
  (tj:aH K mainGlobals "_law_whole"=some (some (.ref oN)))
  (tf:aH K mainGlobals "_law_thing"=some (some (.ref oM)))
  (vn:aH K mainGlobals "_law_order"=some (some (.ref oK)))
  (j9:aH K mainGlobals "is_within"=some (some (.ref qf)))
  (a_Space_take:aG K (.ref ju) "take"=some (some (.ref nK)))
  (i_Space_take:ba K (.ref nK)=true)
  (uS:aH K mainGlobals "is_number"=some (some (.ref qe)))
  (v_:aH K mainGlobals "is_place"=some (some (.ref rQ)))
  (tq:aH K mainGlobals "want_slots"=some (some (.ref oU)))
  (Bd:aH K mainGlobals "is_head"=some (some (.ref ug)))
  (F9:aH K mainGlobals "fits"=some (some (.ref B2)))
  (a_Memory_init:aG K (.ref jo) "__init__"=some (some (.ref mD)))
  (i_Memory_init:ba K (.ref mD)=true)
  (a_Memory_want_place:aG K (.ref jo) "want_place"=some (some (.ref kA)))
  (i_Memory_want_place:ba K (.ref kA)=true)
  (a_Memory_want_stretch:aG K (.ref jo) "want_stretch"=some (some (.ref j8)))
  (i_Memory_want_stretch:ba K (.ref j8)=true)
  (a_Space_has:aG K (.ref ju) "has"=some (some (.ref oC)))
  (i_Space_has:ba K (.ref oC)=true)
  (a_Hands_init:aG K (.ref kD) "__init__"=some (some (.ref nD)))
  (i_Hands_init:ba K (.ref nD)=true)
  (a_Hands_want_hand:aG K (.ref kD) "want_hand"=some (some (.ref kP)))
  (i_Hands_want_hand:ba K (.ref kP)=true)
  (a_Lasts_say:aG K (.ref kr) "say"=some (some (.ref oB)))
  (i_Lasts_say:ba K (.ref oB)=true)
  (uB:aH K mainGlobals "want_number"=some (some (.ref nZ)))
  (qZ:aH K mainGlobals "want_place"=some (some (.ref oS)))
  (xp:aH K mainGlobals "kind"=some (some (.ref B3)))
  (a_Memory_read:aG K (.ref jo) "read"=some (some (.ref mE)))
  (i_Memory_read:ba K (.ref mE)=true)
  (a_Memory_copy:aG K (.ref jo) "copy"=some (some (.ref mC)))
  (i_Memory_copy:ba K (.ref mC)=true)
  (rD:aH K mainGlobals "number_word"=some (some (.ref nX)))
  (qY:aH K mainGlobals "place_word"=some (some (.ref oQ)))
  (vq:aH K mainGlobals "worth"=some (some (.ref yL)))
  (a_Memory_write:aG K (.ref jo) "write"=some (some (.ref lY)))
  (i_Memory_write:ba K (.ref lY)=true)
  (a_Areas_init:aG K (.ref jI) "__init__"=some (some (.ref nz)))
  (i_Areas_init:ba K (.ref nz)=true)
  (a_Book_write:aG K (.ref kh) "write"=some (some (.ref nB)))
  (i_Book_write:ba K (.ref nB)=true)
  (a_Book_has:aG K (.ref kh) "has"=some (some (.ref pX)))
  (i_Book_has:ba K (.ref pX)=true)
  (a_Hands_put:aG K (.ref kD) "put"=some (some (.ref ox)))
  (i_Hands_put:ba K (.ref ox)=true)
  (a_Lasts_move:aG K (.ref kr) "move"=some (some (.ref nG)))
  (i_Lasts_move:ba K (.ref nG)=true)
  (a_Weak_move:aG K (.ref kE) "move"=some (some (.ref oG)))
  (i_Weak_move:ba K (.ref oG)=true)
  (a_Weak_gone:aG K (.ref kE) "gone"=some (some (.ref oE)))
  (i_Weak_gone:ba K (.ref oE)=true)
  (a_Roots_init:aG K (.ref j_) "__init__"=some (some (.ref nH)))
  (i_Roots_init:ba K (.ref nH)=true)
  (uR:aH K mainGlobals "head_word"=some (some (.ref qd)))
  (n6:aH K mainGlobals "head_number"=some (some (.ref nU)))
  (rC:aH K mainGlobals "is_of_young"=some (some (.ref nW)))
  (a_Book_rub:aG K (.ref kh) "rub"=some (some (.ref pY)))
  (i_Book_rub:ba K (.ref pY)=true)
  (qh:aH K mainGlobals "_law_word"=some (some (.ref qc)))
  (Nb:aH K mainGlobals "lay"=some (some (.ref F2)))
  (rX:aH K mainGlobals "slots_of"=some (some (.ref rS)))
  (Am:aH K mainGlobals "age_of"=some (some (.ref vU)))
  (Jf:aH K mainGlobals "send"=some (some (.ref B5)))
  (yb:aH K mainGlobals "sent_to"=some (some (.ref uh)))
  (yQ:aH K mainGlobals "_law_put"=some (some (.ref rO)))
  (wM:aH K mainGlobals "_law_held"=some (some (.ref pZ)))
  (wb:aH K mainGlobals "words_of"=some (some (.ref rT)))
  (D6:aH K mainGlobals "aged"=some (some (.ref B1)))
  (rE:aH K mainGlobals "slot_places"=some (some (.ref nY)))
  (Fq:aH K mainGlobals "moved"=some (some (.ref yK)))
  (uA:aH K mainGlobals "_law_stands"=some (some (.ref nS)))
  (An:aH K mainGlobals "copied"=some (some (.ref vV)))
  (vp:aH K mainGlobals "renew_book"=some (some (.ref oR)))
  (a_Space_cells:aG K (.ref ju) "cells"=some (some (.ref mG)))
  (i_Space_cells:ba K (.ref mG)=true)
  (a_Areas_lay_into:aG K (.ref jI) "lay_into"=some (some (.ref k_)))
  (i_Areas_lay_into:ba K (.ref k_)=true)
  (a_Roots_follow:aG K (.ref j_) "follow"=some (some (.ref lZ)))
  (i_Roots_follow:ba K (.ref lZ)=true)
  (vo:aH K mainGlobals "copy_young"=some (some (.ref oP)))
  (a_Areas_lay_young:aG K (.ref jI) "lay_young"=some (some (.ref kO)))
  (i_Areas_lay_young:ba K (.ref kO)=true)
  (a_Areas_lay_old:aG K (.ref jI) "lay_old"=some (some (.ref lL)))
  (i_Areas_lay_old:ba K (.ref lL)=true)
  (wO:aH K mainGlobals "_law_went"=some (some (.ref qb)))
  (F_:aH K mainGlobals "meet"=some (some (.ref B4)))
  (wN:aH K mainGlobals "_law_laid"=some (some (.ref p_)))
  (uT:aH K mainGlobals "meet_slot"=some (some (.ref qg)))
  (vm:aH K mainGlobals "_law_built"=some (some (.ref oJ)))
  (yR:aH K mainGlobals "copy_met"=some (some (.ref rP)))
  (rK:aH K mainGlobals "collect_young"=some (some (.ref mn)))
  (qX:aH K mainGlobals "_law_collected"=some (some (.ref lR)))
  (g_law:aH K mainGlobals "law"=some (some (.ref KY)))
  (sQ:aH K mainGlobals "NOTHING"=some (some (.int (-1) t_NOTHING)))
  (rJ:aH K mainGlobals "MOST_NUMBER"=some (some (.int (1000000000000) t_MOST_NUMBER)))
  (vF:aH K mainGlobals "MOST_PLACE"=some (some (.int (9999) t_MOST_PLACE)))
  (tQ:aH K mainGlobals "MOST_SLOTS"=some (some (.int (8) t_MOST_SLOTS)))
  (r6:aH K mainGlobals "MOST_AGE"=some (some (.int (2) t_MOST_AGE)))
  (vG:aH K mainGlobals "MOST_WORDS"=some (some (.int (4000) t_MOST_WORDS)))
  (pS:aH K mainGlobals "LEAST_OLD_WORDS"=some (some (.int (4) t_LEAST_OLD_WORDS)))
  (rb:aH K mainGlobals "MOST_OLD_WORDS"=some (some (.int (2000) t_MOST_OLD_WORDS)))
  (n9:aH K mainGlobals "LEAST_YOUNG_WORDS"=some (some (.int (2) t_LEAST_YOUNG_WORDS)))
  (oY:aH K mainGlobals "MOST_YOUNG_WORDS"=some (some (.int (500) t_MOST_YOUNG_WORDS)))
  (vE:aH K mainGlobals "MOST_HANDS"=some (some (.int (6) t_MOST_HANDS)))
  (Gz:aH K mainGlobals "bool"=some none)
  (uY:aH K mainGlobals "enumerate"=some none)
  (IA:aH K mainGlobals "int"=some none)
  (nO:aH K mainGlobals "isinstance"=some none)
  (nP:aH K mainGlobals "len"=some none)
  (Ec:aH K mainGlobals "list"=some none)
  (oX:aH K mainGlobals "range"=some none)
  (ym:aH K mainGlobals "sorted"=some none)
  (Nr:aH K mainGlobals "sum"=some none)
  (Fx:aH K mainGlobals "tuple"=some none)
  (Lf:aH K mainGlobals "zip"=some none)
  (l_is_whole:nQ K rR "is_whole" "is_whole" Cj uc)
  (l_Space_init:nQ K nI "__init__" "Space.__init__" zf qI)
  (l_Space_room:nQ K nJ "room" "Space.room" zh qJ)
  (l_Space_used:nQ K nM "used" "Space.used" zj qL)
  (l_Space_empty:nQ K mH "empty" "Space.empty" xH pw)
  (l_Areas_flip:nQ K nt "flip" "Areas.flip" y7 qz)
  (l_Book_init:nQ K ou "__init__" "Book.__init__" AH sd)
  (l_Book_places:nQ K mB "places" "Book.places" xC pf)
  (l_Book_clear:nQ K nA "clear" "Book.clear" y9 qC)
  (l_Hands_row:nQ K oz "row" "Hands.row" AJ sg)
  (l_Lasts_init:nQ K nE "__init__" "Lasts.__init__" zd qF)
  (l_Lasts_pending:nQ K lM "pending" "Lasts.pending" rN m_)
  (l_Weak_init:nQ K oF "__init__" "Weak.__init__" AL sk)
  (l_Weak_names:nQ K nN "names" "Weak.names" vC qM)
  (l__law_at:nQ K uf "_law_at" "_law_at" Ei vK)
  (l__law_whole:nQ K oN "_law_whole" "_law_whole" zp qQ)
  (l__law_thing:nQ K oM "_law_thing" "_law_thing" zo qP)
  (l__law_order:nQ K oK "_law_order" "_law_order" vD qO)
  (l_is_within:nQ K qf "is_within" "is_within" AS sG)
  (l_Space_take:nQ K nK "take" "Space.take" zi qK)
  (l_is_number:nQ K qe "is_number" "is_number" AR sF)
  (l_is_place:nQ K rQ "is_place" "is_place" Ci ub)
  (l_want_slots:nQ K oU "want_slots" "want_slots" zw qV)
  (l_is_head:nQ K ug "is_head" "is_head" Ej vL)
  (l_fits:nQ K B2 "fits" "fits" My D1)
  (l_Memory_init:nQ K mD "__init__" "Memory.__init__" xE pk)
  (l_Memory_want_place:nQ K kA "want_place" "Memory.want_place" rn lI)
  (l_Memory_want_stretch:nQ K j8 "want_stretch" "Memory.want_stretch" pQ kR)
  (l_Space_has:nQ K oC "has" "Space.has" AK si)
  (l_Hands_init:nQ K nD "__init__" "Hands.__init__" zc qE)
  (l_Hands_want_hand:nQ K kP "want_hand" "Hands.want_hand" tK me)
  (l_Lasts_say:nQ K oB "say" "Lasts.say" EW sh)
  (l_want_number:nQ K nZ "want_number" "want_number" xN pH)
  (l_want_place:nQ K oS "want_place" "want_place" zv qU)
  (l_kind:nQ K B3 "kind" "kind" Mz D2)
  (l_Memory_read:nQ K mE "read" "Memory.read" xF pq)
  (l_Memory_copy:nQ K mC "copy" "Memory.copy" xD pj)
  (l_number_word:nQ K nX "number_word" "number_word" xK pE)
  (l_place_word:nQ K oQ "place_word" "place_word" zt qS)
  (l_worth:nQ K yL "worth" "worth" JV A_)
  (l_Memory_write:nQ K lY "write" "Memory.write" wt n_)
  (l_Areas_init:nQ K nz "__init__" "Areas.__init__" y8 qB)
  (l_Book_write:nQ K nB "write" "Book.write" y_ qD)
  (l_Book_has:nQ K pX "has" "Book.has" Cd tY)
  (l_Hands_put:nQ K ox "put" "Hands.put" AI sf)
  (l_Lasts_move:nQ K nG "move" "Lasts.move" DC qG)
  (l_Weak_move:nQ K oG "move" "Weak.move" EY su)
  (l_Weak_gone:nQ K oE "gone" "Weak.gone" EX sj)
  (l_Roots_init:nQ K nH "__init__" "Roots.__init__" ze qH)
  (l_head_word:nQ K qd "head_word" "head_word" AQ sE)
  (l_head_number:nQ K nU "head_number" "head_number" xI pB)
  (l_is_of_young:nQ K nW "is_of_young" "is_of_young" xJ pC)
  (l_Book_rub:nQ K pY "rub" "Book.rub" Ce tZ)
  (l__law_word:nQ K qc "_law_word" "_law_word" AO sD)
  (l_lay:nQ K F2 "lay" "lay" Qy Ik)
  (l_slots_of:nQ K rS "slots_of" "slots_of" Ck ud)
  (l_age_of:nQ K vU "age_of" "age_of" GN xX)
  (l_send:nQ K B5 "send" "send" MB D4)
  (l_sent_to:nQ K uh "sent_to" "sent_to" Ek vM)
  (l__law_put:nQ K rO "_law_put" "_law_put" Cf t_)
  (l__law_held:nQ K pZ "_law_held" "_law_held" AM sv)
  (l_words_of:nQ K rT "words_of" "words_of" Cn ue)
  (l_aged:nQ K B1 "aged" "aged" Mx D0)
  (l_slot_places:nQ K nY "slot_places" "slot_places" xM pG)
  (l_moved:nQ K yK "moved" "moved" JU A9)
  (l__law_stands:nQ K nS "_law_stands" "_law_stands" uI pz)
  (l_copied:nQ K vV "copied" "copied" GO xY)
  (l_renew_book:nQ K oR "renew_book" "renew_book" zu qT)
  (l_Space_cells:nQ K mG "cells" "Space.cells" xG pv)
  (l_Areas_lay_into:nQ K k_ "lay_into" "Areas.lay_into" uq mM)
  (l_Roots_follow:nQ K lZ "follow" "Roots.follow" wu oa)
  (l_copy_young:nQ K oP "copy_young" "copy_young" zr qR)
  (l_Areas_lay_young:nQ K kO "lay_young" "Areas.lay_young" tJ ma)
  (l_Areas_lay_old:nQ K lL "lay_old" "Areas.lay_old" u_ m9)
  (l__law_went:nQ K qb "_law_went" "_law_went" u4 sC)
  (l_meet:nQ K B4 "meet" "meet" MA D3)
  (l__law_laid:nQ K p_ "_law_laid" "_law_laid" AN sx)
  (l_meet_slot:nQ K qg "meet_slot" "meet_slot" AU sH)
  (l__law_built:nQ K oJ "_law_built" "_law_built" zm qN)
  (l_copy_met:nQ K rP "copy_met" "copy_met" Cg ua)
  (l_collect_young:nQ K mn "collect_young" "collect_young" o9 lK)
  (l__law_collected:nQ K lR "_law_collected" "_law_collected" oj mP)
  (l_law:nQ K KY "law" "law" EZ M0)
  (q9:lK.code= .ref nc)
  (mx:dv K kf Q_ "ValueError.__new__"=true)
  (xf:dv K oq Q_ "ValueError.__new__"=true)
  (yx:dv K pe Q_ "ValueError.__new__"=true)
  (A7:dv K lX Q_ "ValueError.__new__"=true)
  (DP:dv K uO Q_ "ValueError.__new__"=true)
  (uv:dv K jV Q_ "ValueError.__new__"=true)
  (DQ:dv K pV Q_ "ValueError.__new__"=true)
  (q0:dO K nc jy=true)
  (rL:a_ K (.type "NoneType") (.type "int")=some false)
  (q_:a_ K (.type "NoneType") (.type "bool")=some false)
  (wQ:a_ K (.type "bool") (.type "int")=some true)
  (vv:a_ K (.type "bool") (.type "bool")=some true)
  (yT:a_ K (.type "int") (.type "int")=some true)
  (wU:a_ K (.type "int") (.type "bool")=some false)
  (yU:a_ K (.type "str") (.type "int")=some false)
  (wW:a_ K (.type "str") (.type "bool")=some false)
  (wV:a_ K (.type "list") (.type "int")=some false)
  (vx:a_ K (.type "list") (.type "bool")=some false)
  (vy:a_ K (.type "tuple") (.type "int")=some false)
  (uF:a_ K (.type "tuple") (.type "bool")=some false)
  (tw:a_ K (.type "tuple") (.type "tuple")=some true)
  (wR:a_ K (.type "dict") (.type "int")=some false)
  (vw:a_ K (.type "dict") (.type "bool")=some false)
  :∃fd:FuncData,(∀(s:Shared) (v:Value),BindsTo s fd ⟨[v],[]⟩ [("_law_script",v)])/\∀base:Heap,K.In base->base.Ns mainGlobals mg->jO l.prog w K mg base (lV l.prog w) true 16 fa fd ["_law_script"] (FE K jy):=by
 have e:=hfa.symm.trans (aI X G g_law)
 cases e
 obtain⟨oc,od,kV,dc,pm,an,cd,ct,sl,_,_,_,rfl⟩:=id l_law.ex
 let A:Ad:=⟨rR,uc,nI,qI,nJ,qJ,nM,qL,mH,pw,nt,qz,ou,sd,mB,pf,nA,qC,oz,sg,nE,qF,lM,m_,oF,sk,nN,qM,uf,vK,oN,qQ,oM,qP,oK,qO,qf,sG,nK,qK,qe,sF,rQ,ub,oU,qV,ug,vL,B2,D1,mD,pk,kA,lI,j8,kR,oC,si,nD,qE,kP,me,oB,sh,nZ,pH,oS,qU,B3,D2,mE,pq,mC,pj,nX,pE,oQ,qS,yL,A_,lY,n_,nz,qB,nB,qD,pX,tY,ox,sf,nG,qG,oG,su,oE,sj,nH,qH,qd,sE,nU,pB,nW,pC,pY,tZ,qc,sD,F2,Ik,rS,ud,vU,xX,B5,D4,uh,vM,rO,t_,pZ,sv,rT,ue,B1,D0,nY,pG,yK,A9,nS,pz,vV,xY,oR,qT,mG,pv,k_,mM,lZ,oa,oP,qR,kO,ma,lL,m9,qb,sC,B4,D3,p_,sx,qg,sH,oJ,qN,rP,ua,mn,lK,lR,mP,fa,(dE "law" "law" (yJ EZ) (vf EZ) (ja EZ) .none kV dc pm an cd ct),nc,jy,oq,pe,kf,jV,pV,lX,uO,jo,ju,jI,kh,kD,kr,kE,j_⟩
 have T:Txt K mg A:={
  wL:=aI X G wL,
  ya:=aI X G ya,
  mv:=aI X G mv,
  uk:=aI X G uk,
  Dc:=aI X G Dc,
  Al:=aI X G Al,
  C_:=aI X G C_,
  C2:=aI X G C2,
  Bc:=aI X G Bc,
  Fm:=aI X G Fm,
  Jd:=aI X G Jd,
  Fn:=aI X G Fn,
  Fo:=aI X G Fo,
  Je:=aI X G Je,
  Fp:=aI X G Fp,
  jW:=⟨pg_Memory,hd_Memory,po_Memory,sa_Memory⟩,
  Bi:=⟨Bi,a_Memory_init,i_Memory_init,kc_Memory⟩,
  mV:=mV,
  lN:=lN,
  ke:=⟨pg_Space,hd_Space,po_Space,sa_Space⟩,
  yj:=⟨yj,a_Space_init,i_Space_init,kc_Space⟩,
  kU:=kU,
  tE:=tE,
  lU:=lU,
  jF:=⟨pg_Areas,hd_Areas,po_Areas,sa_Areas⟩,
  Dp:=⟨Dp,a_Areas_init,i_Areas_init,kc_Areas⟩,
  jC:=jC,
  lD:=lD,
  jQ:=jQ,
  kJ:=kJ,
  pR:=⟨pg_Book,hd_Book,po_Book,sa_Book⟩,
  Fv:=⟨Fv,a_Book_init,i_Book_init,kc_Book⟩,
  kY:=kY,
  rz:=⟨pg_Hands,hd_Hands,po_Hands,sa_Hands⟩,
  Dq:=⟨Dq,a_Hands_init,i_Hands_init,kc_Hands⟩,
  mU:=mU,
  vT:=⟨pg_Lasts,hd_Lasts,po_Lasts,sa_Lasts⟩,
  Dr:=⟨Dr,a_Lasts_init,i_Lasts_init,kc_Lasts⟩,
  oh:=oh,
  rM:=rM,
  A8:=⟨pg_Weak,hd_Weak,po_Weak,sa_Weak⟩,
  Fw:=⟨Fw,a_Weak_init,i_Weak_init,kc_Weak⟩,
  tF:=tF,
  my:=⟨pg_Roots,hd_Roots,po_Roots,sa_Roots⟩,
  Ds:=⟨Ds,a_Roots_init,i_Roots_init,kc_Roots⟩,
  l_:=l_,
  mK:=mK,
  qq:=qq,
  qp:=qp,
  rW:=aI X G rW,
  sJ:=l_is_whole.fn,
  vR:=l_is_whole.fn.binds (ps:=["thing"]) λ_ _ _ _ _ _=>Bm λ_=>rfl,
  BE:=l_Space_init.fn,
  vb:=l_Space_init.fn.binds (ps:=["self","begin","end"]) λ_ _ _ _ _ _=>Il λ_ _ _=>rfl,
  vA:=⟨a_Space_room,i_Space_room,l_Space_room.kp⟩,
  BF:=l_Space_room.fn,
  vc:=l_Space_room.fn.binds (ps:=["self"]) λ_ _ _ _ _ _=>Bm λ_=>rfl,
  tD:=⟨a_Space_used,i_Space_used,l_Space_used.kp⟩,
  BH:=l_Space_used.fn,
  sU:=l_Space_used.fn.binds (ps:=["self"]) λ_ _ _ _ _ _=>Bm λ_=>rfl,
  BL:=⟨a_Space_empty,i_Space_empty,l_Space_empty.kp⟩,
  Ag:=l_Space_empty.fn,
  Bu:=l_Space_empty.fn.binds (ps:=["self"]) λ_ _ _ _ _ _=>Bm λ_=>rfl,
  Dj:=⟨a_Areas_flip,i_Areas_flip,l_Areas_flip.kp⟩,
  Bx:=l_Areas_flip.fn,
  Cy:=l_Areas_flip.fn.binds (ps:=["self"]) λ_ _ _ _ _ _=>Bm λ_=>rfl,
  CP:=l_Book_init.fn,
  EA:=l_Book_init.fn.binds (ps:=["self"]) λ_ _ _ _ _ _=>Bm λ_=>rfl,
  xu:=⟨a_Book_places,i_Book_places,l_Book_places.kp⟩,
  Aa:=l_Book_places.fn,
  xg:=l_Book_places.fn.binds (ps:=["self"]) λ_ _ _ _ _ _=>Bm λ_=>rfl,
  Dk:=⟨a_Book_clear,i_Book_clear,l_Book_clear.kp⟩,
  Bz:=l_Book_clear.fn,
  CA:=l_Book_clear.fn.binds (ps:=["self"]) λ_ _ _ _ _ _=>Bm λ_=>rfl,
  Ay:=⟨a_Hands_row,i_Hands_row,l_Hands_row.kp⟩,
  CT:=l_Hands_row.fn,
  zV:=l_Hands_row.fn.binds (ps:=["self"]) λ_ _ _ _ _ _=>Bm λ_=>rfl,
  BC:=l_Lasts_init.fn,
  CC:=l_Lasts_init.fn.binds (ps:=["self"]) λ_ _ _ _ _ _=>Bm λ_=>rfl,
  zP:=⟨a_Lasts_pending,i_Lasts_pending,l_Lasts_pending.kp⟩,
  x_:=l_Lasts_pending.fn,
  zI:=l_Lasts_pending.fn.binds (ps:=["self"]) λ_ _ _ _ _ _=>Bm λ_=>rfl,
  CV:=l_Weak_init.fn,
  ED:=l_Weak_init.fn.binds (ps:=["self"]) λ_ _ _ _ _ _=>Bm λ_=>rfl,
  Dm:=⟨a_Weak_names,i_Weak_names,l_Weak_names.kp⟩,
  BI:=l_Weak_names.fn,
  CG:=l_Weak_names.fn.binds (ps:=["self"]) λ_ _ _ _ _ _=>Bm λ_=>rfl,
  sM:=aI X G sM,
  rV:=l__law_at.fn,
  vI:=l__law_at.fn.binds (ps:=["_law_script","_law_k"]) λ_ _ _ _ _ _=>zS λ_ _=>rfl,
  tj:=aI X G tj,
  uy:=l__law_whole.fn,
  yF:=l__law_whole.fn.binds (ps:=["_law_found"]) λ_ _ _ _ _ _=>Bm λ_=>rfl,
  tf:=aI X G tf,
  ux:=l__law_thing.fn,
  yE:=l__law_thing.fn.binds (ps:=["_law_cell","_law_many"]) λ_ _ _ _ _ _=>zS λ_ _=>rfl,
  vn:=aI X G vn,
  xm:=l__law_order.fn,
  CI:=l__law_order.fn.binds (ps:=["_law_own"]) λ_ _ _ _ _ _=>Bm λ_=>rfl,
  j9:=aI X G j9,
  j3:=l_is_within.fn,
  ky:=l_is_within.fn.binds (ps:=["thing","least","most"]) λ_ _ _ _ _ _=>Il λ_ _ _=>rfl,
  yZ:=⟨a_Space_take,i_Space_take,l_Space_take.kp⟩,
  BG:=l_Space_take.fn,
  yD:=l_Space_take.fn.binds (ps:=["self","many"]) λ_ _ _ _ _ _=>zS λ_ _=>rfl,
  uS:=aI X G uS,
  vi:=l_is_number.fn,
  zZ:=l_is_number.fn.binds (ps:=["thing"]) λ_ _ _ _ _ _=>Bm λ_=>rfl,
  v_:=aI X G v_,
  wI:=l_is_place.fn,
  BX:=l_is_place.fn.binds (ps:=["thing"]) λ_ _ _ _ _ _=>Bm λ_=>rfl,
  tq:=aI X G tq,
  uz:=l_want_slots.fn,
  yG:=l_want_slots.fn.binds (ps:=["slots"]) λ_ _ _ _ _ _=>Bm λ_=>rfl,
  Bd:=aI X G Bd,
  B6:=l_is_head.fn,
  Ia:=l_is_head.fn.binds (ps:=["number"]) λ_ _ _ _ _ _=>Bm λ_=>rfl,
  F9:=aI X G F9,
  Fj:=l_fits.fn,
  LZ:=l_fits.fn.binds (ps:=["memory","at","slots"]) λ_ _ _ _ _ _=>Il λ_ _ _=>rfl,
  Ac:=l_Memory_init.fn,
  Bt:=l_Memory_init.fn.binds (ps:=["self","size"]) λ_ _ _ _ _ _=>zS λ_ _=>rfl,
  rj:=⟨a_Memory_want_place,i_Memory_want_place,l_Memory_want_place.kp⟩,
  uP:=l_Memory_want_place.fn,
  rf:=l_Memory_want_place.fn.binds (ps:=["self","at"]) λ_ _ _ _ _ _=>zS λ_ _=>rfl,
  pO:=⟨a_Memory_want_stretch,i_Memory_want_stretch,l_Memory_want_stretch.kp⟩,
  sX:=l_Memory_want_stretch.fn,
  pN:=l_Memory_want_stretch.fn.binds (ps:=["self","begin","many"]) λ_ _ _ _ _ _=>Il λ_ _ _=>rfl,
  AA:=⟨a_Space_has,i_Space_has,l_Space_has.kp⟩,
  CU:=l_Space_has.fn,
  zX:=l_Space_has.fn.binds (ps:=["self","at"]) λ_ _ _ _ _ _=>zS λ_ _=>rfl,
  BB:=l_Hands_init.fn,
  CB:=l_Hands_init.fn.binds (ps:=["self","many"]) λ_ _ _ _ _ _=>zS λ_ _=>rfl,
  wY:=⟨a_Hands_want_hand,i_Hands_want_hand,l_Hands_want_hand.kp⟩,
  vX:=l_Hands_want_hand.fn,
  wF:=l_Hands_want_hand.fn.binds (ps:=["self","hand"]) λ_ _ _ _ _ _=>zS λ_ _=>rfl,
  ER:=⟨a_Lasts_say,i_Lasts_say,l_Lasts_say.kp⟩,
  I_:=l_Lasts_say.fn,
  EB:=l_Lasts_say.fn.binds (ps:=["self","ticket"]) λ_ _ _ _ _ _=>zS λ_ _=>rfl,
  uB:=aI X G uB,
  vZ:=l_want_number.fn,
  Bw:=l_want_number.fn.binds (ps:=["thing"]) λ_ _ _ _ _ _=>Bm λ_=>rfl,
  qZ:=aI X G qZ,
  rB:=l_want_place.fn,
  ve:=l_want_place.fn.binds (ps:=["thing"]) λ_ _ _ _ _ _=>Bm λ_=>rfl,
  xp:=aI X G xp,
  vj:=l_kind.fn,
  z3:=l_kind.fn.binds (ps:=["word"]) λ_ _ _ _ _ _=>Bm λ_=>rfl,
  pJ:=⟨a_Memory_read,i_Memory_read,l_Memory_read.kp⟩,
  Ae:=l_Memory_read.fn,
  o_:=l_Memory_read.fn.binds (ps:=["self","at"]) λ_ _ _ _ _ _=>zS λ_ _=>rfl,
  BK:=⟨a_Memory_copy,i_Memory_copy,l_Memory_copy.kp⟩,
  Ab:=l_Memory_copy.fn,
  Bs:=l_Memory_copy.fn.binds (ps:=["self","start","goal","many"]) λ_ _ _ _ _ _=>U4 λ_ _ _ _=>rfl,
  rD:=aI X G rD,
  s9:=l_number_word.fn,
  xi:=l_number_word.fn.binds (ps:=["n"]) λ_ _ _ _ _ _=>Bm λ_=>rfl,
  qY:=aI X G qY,
  rA:=l_place_word.fn,
  vd:=l_place_word.fn.binds (ps:=["at"]) λ_ _ _ _ _ _=>Bm λ_=>rfl,
  vq:=aI X G vq,
  uQ:=l_worth.fn,
  yH:=l_worth.fn.binds (ps:=["word"]) λ_ _ _ _ _ _=>Bm λ_=>rfl,
  mT:=⟨a_Memory_write,i_Memory_write,l_Memory_write.kp⟩,
  zM:=l_Memory_write.fn,
  mR:=l_Memory_write.fn.binds (ps:=["self","at","word"]) λ_ _ _ _ _ _=>Il λ_ _ _=>rfl,
  By:=l_Areas_init.fn,
  Cz:=l_Areas_init.fn.binds (ps:=["self","old_words","young_words"]) λ_ _ _ _ _ _=>Il λ_ _ _=>rfl,
  yY:=⟨a_Book_write,i_Book_write,l_Book_write.kp⟩,
  BA:=l_Book_write.fn,
  yC:=l_Book_write.fn.binds (ps:=["self","place"]) λ_ _ _ _ _ _=>zS λ_ _=>rfl,
  Gp:=⟨a_Book_has,i_Book_has,l_Book_has.kp⟩,
  EJ:=l_Book_has.fn,
  FL:=l_Book_has.fn.binds (ps:=["self","place"]) λ_ _ _ _ _ _=>zS λ_ _=>rfl,
  Aw:=⟨a_Hands_put,i_Hands_put,l_Hands_put.kp⟩,
  CQ:=l_Hands_put.fn,
  zU:=l_Hands_put.fn.binds (ps:=["self","hand","word"]) λ_ _ _ _ _ _=>Il λ_ _ _=>rfl,
  Dl:=⟨a_Lasts_move,i_Lasts_move,l_Lasts_move.kp⟩,
  He:=l_Lasts_move.fn,
  CD:=l_Lasts_move.fn.binds (ps:=["self","ticket","at"]) λ_ _ _ _ _ _=>Il λ_ _ _=>rfl,
  ET:=⟨a_Weak_move,i_Weak_move,l_Weak_move.kp⟩,
  Jb:=l_Weak_move.fn,
  EE:=l_Weak_move.fn.binds (ps:=["self","name","at"]) λ_ _ _ _ _ _=>Il λ_ _ _=>rfl,
  ES:=⟨a_Weak_gone,i_Weak_gone,l_Weak_gone.kp⟩,
  Ja:=l_Weak_gone.fn,
  EC:=l_Weak_gone.fn.binds (ps:=["self","name"]) λ_ _ _ _ _ _=>zS λ_ _=>rfl,
  BD:=l_Roots_init.fn,
  CF:=l_Roots_init.fn.binds (ps:=["self","many"]) λ_ _ _ _ _ _=>zS λ_ _=>rfl,
  uR:=aI X G uR,
  vg:=l_head_word.fn,
  zY:=l_head_word.fn.binds (ps:=["slots","age"]) λ_ _ _ _ _ _=>zS λ_ _=>rfl,
  n6:=aI X G n6,
  og:=l_head_number.fn,
  rp:=l_head_number.fn.binds (ps:=["memory","at"]) λ_ _ _ _ _ _=>zS λ_ _=>rfl,
  rC:=aI X G rC,
  sZ:=l_is_of_young.fn,
  xh:=l_is_of_young.fn.binds (ps:=["areas","word"]) λ_ _ _ _ _ _=>zS λ_ _=>rfl,
  Gr:=⟨a_Book_rub,i_Book_rub,l_Book_rub.kp⟩,
  EK:=l_Book_rub.fn,
  FN:=l_Book_rub.fn.binds (ps:=["self","place"]) λ_ _ _ _ _ _=>zS λ_ _=>rfl,
  qh:=aI X G qh,
  qW:=l__law_word.fn,
  uN:=l__law_word.fn.binds (ps:=["_law_thing_here","_law_places"]) λ_ _ _ _ _ _=>zS λ_ _=>rfl,
  Nb:=aI X G Nb,
  Mc:=l_lay.fn,
  SG:=l_lay.fn.binds (ps:=["memory","at","slots"]) λ_ _ _ _ _ _=>Il λ_ _ _=>rfl,
  rX:=aI X G rX,
  sL:=l_slots_of.fn,
  vS:=l_slots_of.fn.binds (ps:=["memory","at"]) λ_ _ _ _ _ _=>zS λ_ _=>rfl,
  Am:=aI X G Am,
  Ba:=l_age_of.fn,
  FP:=l_age_of.fn.binds (ps:=["memory","at"]) λ_ _ _ _ _ _=>zS λ_ _=>rfl,
  Jf:=aI X G Jf,
  Jc:=l_send.fn,
  OX:=l_send.fn.binds (ps:=["memory","at","goal"]) λ_ _ _ _ _ _=>Il λ_ _ _=>rfl,
  yb:=aI X G yb,
  yP:=l_sent_to.fn,
  DV:=l_sent_to.fn.binds (ps:=["memory","at"]) λ_ _ _ _ _ _=>zS λ_ _=>rfl,
  yQ:=aI X G yQ,
  Ah:=l__law_put.fn,
  FO:=l__law_put.fn.binds (ps:=["_law_own","_law_k","_law_slot","_law_thing_here"]) λ_ _ _ _ _ _=>U4 λ_ _ _ _=>rfl,
  wM:=aI X G wM,
  yM:=l__law_held.fn,
  EF:=l__law_held.fn.binds (ps:=["_law_own","_law_hand","_law_thing_here"]) λ_ _ _ _ _ _=>Il λ_ _ _=>rfl,
  wb:=aI X G wb,
  wJ:=l_words_of.fn,
  BY:=l_words_of.fn.binds (ps:=["memory","at"]) λ_ _ _ _ _ _=>zS λ_ _=>rfl,
  D6:=aI X G D6,
  CY:=l_aged.fn,
  IV:=l_aged.fn.binds (ps:=["memory","at","age"]) λ_ _ _ _ _ _=>Il λ_ _ _=>rfl,
  rE:=aI X G rE,
  s_:=l_slot_places.fn,
  xj:=l_slot_places.fn.binds (ps:=["memory","at"]) λ_ _ _ _ _ _=>zS λ_ _=>rfl,
  Fq:=aI X G Fq,
  F3:=l_moved.fn,
  MT:=l_moved.fn.binds (ps:=["memory","word"]) λ_ _ _ _ _ _=>zS λ_ _=>rfl,
  uA:=aI X G uA,
  vY:=l__law_stands.fn,
  Bv:=l__law_stands.fn.binds (ps:=["_law_own"]) λ_ _ _ _ _ _=>Bm λ_=>rfl,
  An:=aI X G An,
  Bb:=l_copied.fn,
  FQ:=l_copied.fn.binds (ps:=["memory","at","space","age"]) λ_ _ _ _ _ _=>U4 λ_ _ _ _=>rfl,
  vp:=aI X G vp,
  xo:=l_renew_book.fn,
  CK:=l_renew_book.fn.binds (ps:=["areas","book","grown"]) λ_ _ _ _ _ _=>Il λ_ _ _=>rfl,
  uG:=⟨a_Space_cells,i_Space_cells,l_Space_cells.kp⟩,
  Af:=l_Space_cells.fn,
  uw:=l_Space_cells.fn.binds (ps:=["self","memory"]) λ_ _ _ _ _ _=>zS λ_ _=>rfl,
  uo:=⟨a_Areas_lay_into,i_Areas_lay_into,l_Areas_lay_into.kp⟩,
  wH:=l_Areas_lay_into.fn,
  tX:=l_Areas_lay_into.fn.binds (ps:=["self","space","slots","age"]) λ_ _ _ _ _ _=>U4 λ_ _ _ _=>rfl,
  Az:=⟨a_Roots_follow,i_Roots_follow,l_Roots_follow.kp⟩,
  zN:=l_Roots_follow.fn,
  zW:=l_Roots_follow.fn.binds (ps:=["self","goal_of"]) λ_ _ _ _ _ _=>zS λ_ _=>rfl,
  vo:=aI X G vo,
  xn:=l_copy_young.fn,
  CJ:=l_copy_young.fn.binds (ps:=["areas","at"]) λ_ _ _ _ _ _=>zS λ_ _=>rfl,
  wX:=⟨a_Areas_lay_young,i_Areas_lay_young,l_Areas_lay_young.kp⟩,
  vW:=l_Areas_lay_young.fn,
  wD:=l_Areas_lay_young.fn.binds (ps:=["self","slots"]) λ_ _ _ _ _ _=>zS λ_ _=>rfl,
  zO:=⟨a_Areas_lay_old,i_Areas_lay_old,l_Areas_lay_old.kp⟩,
  xZ:=l_Areas_lay_old.fn,
  zH:=l_Areas_lay_old.fn.binds (ps:=["self","slots"]) λ_ _ _ _ _ _=>zS λ_ _=>rfl,
  wO:=aI X G wO,
  yO:=l__law_went.fn,
  EH:=l__law_went.fn.binds (ps:=["_law_own","_law_order_here","_law_stood"]) λ_ _ _ _ _ _=>Il λ_ _ _=>rfl,
  F_:=aI X G F_,
  Fl:=l_meet.fn,
  L0:=l_meet.fn.binds (ps:=["areas","word","copies"]) λ_ _ _ _ _ _=>Il λ_ _ _=>rfl,
  wN:=aI X G wN,
  yN:=l__law_laid.fn,
  EG:=l__law_laid.fn.binds (ps:=["_law_own","_law_cell"]) λ_ _ _ _ _ _=>zS λ_ _=>rfl,
  uT:=aI X G uT,
  vk:=l_meet_slot.fn,
  z4:=l_meet_slot.fn.binds (ps:=["areas","place","copies"]) λ_ _ _ _ _ _=>Il λ_ _ _=>rfl,
  vm:=aI X G vm,
  xl:=l__law_built.fn,
  CH:=l__law_built.fn.binds (ps:=["_law_script"]) λ_ _ _ _ _ _=>Bm λ_=>rfl,
  yR:=aI X G yR,
  Ai:=l_copy_met.fn,
  FR:=l_copy_met.fn.binds (ps:=["areas","roots"]) λ_ _ _ _ _ _=>zS λ_ _=>rfl,
  rK:=aI X G rK,
  uj:=l_collect_young.fn,
  zJ:=l_collect_young.fn.binds (ps:=["areas","roots"]) λ_ _ _ _ _ _=>zS λ_ _=>rfl,
  qX:=aI X G qX,
  sY:=l__law_collected.fn,
  xT:=l__law_collected.fn.binds (ps:=["_law_own"]) λ_ _ _ _ _ _=>Bm λ_=>rfl,
  Pp:=l_law.fn,
  sQ:=⟨_,aI X G sQ,⟨_,rfl⟩⟩,
  rJ:=⟨_,aI X G rJ,⟨_,rfl⟩⟩,
  vF:=⟨_,aI X G vF,⟨_,rfl⟩⟩,
  tQ:=⟨_,aI X G tQ,⟨_,rfl⟩⟩,
  r6:=⟨_,aI X G r6,⟨_,rfl⟩⟩,
  vG:=⟨_,aI X G vG,⟨_,rfl⟩⟩,
  pS:=⟨_,aI X G pS,⟨_,rfl⟩⟩,
  rb:=⟨_,aI X G rb,⟨_,rfl⟩⟩,
  n9:=⟨_,aI X G n9,⟨_,rfl⟩⟩,
  oY:=⟨_,aI X G oY,⟨_,rfl⟩⟩,
  vE:=⟨_,aI X G vE,⟨_,rfl⟩⟩,
  mx:=mx,
  xf:=xf,
  yx:=yx,
  A7:=A7,
  DP:=DP,
  uv:=uv,
  DQ:=DQ,
  rL:=rL,
  q_:=q_,
  wQ:=wQ,
  vv:=vv,
  yT:=yT,
  wU:=wU,
  yU:=yU,
  wW:=wW,
  wV:=wV,
  vx:=vx,
  vy:=vy,
  uF:=uF,
  tw:=tw,
  wR:=wR,
  vw:=vw,
  Gz:=cc X G Gz,
  uY:=cc X G uY,
  IA:=cc X G IA,
  nO:=cc X G nO,
  nP:=cc X G nP,
  Ec:=cc X G Ec,
  oX:=cc X G oX,
  ym:=cc X G ym,
  Nr:=cc X G Nr,
  Fx:=cc X G Fx,
  Lf:=cc X G Lf,
  q9:=q9,
  q0:=q0}
 exact⟨_,λs v=> .of_eq rfl,λbase _ _=>Ua T⟩
theorem walk{l:gb}{q:Program}{loose:List Str}{XP:(Str->Option Value)->Heap->Prop}{d:DefRec}{K:Params->aC}{as:List Addr}{e:∀P,as=(K P).map (·.1)}{jy:Addr}(hn:l.most=some 63)(hdf:d.params.defaults=[])
  (hK_collect_young:∀w:World,(K w.params).lookup jy=none) (hc_collect_young:∀w:World,∃c,dO (K w.params) c jy=true)
  (F:∀(w:World) (mg:Str->Option Value) (fa:Addr) (h:Heap),(K w.params).In h->h.Ns mainGlobals mg->mg d.name=some (.ref fa)->
   ∃fd:FuncData,(∀(s:Shared) (u:Value),BindsTo s fd ⟨[u],[]⟩ [("_law_script",u)])/\∀base:Heap,(K w.params).In base->base.Ns mainGlobals mg->jO l.prog w (K w.params) mg base (lV l.prog w) true 16 fa fd ["_law_script"] (FE (K w.params) jy)):
  iV q loose XP (PySem.W.kmHook K as e [jy]).says l.row.toRowW d [] (λf vs=>iP f vs):=
 L2.QJ (ts:=[jy]) (n:=63) (k:=16) (x:="_law_script") (ca:=true) (CX:=λw=>lV l.prog w) (sp:=λw=>FE (K w.params) jy) hn (by decide) hdf ⟨λ_=>rfl,by decide,by decide⟩ (λ_ _ Y=>PySem.W.km_in_of Y) (λ_ _ Y=>PySem.W.km_tabs_of Y)
  (λw=>List.forall_mem_cons.mpr ⟨hK_collect_young w,λ_ z=>nomatch z⟩) (λw=>List.forall_mem_cons.mpr ⟨hc_collect_young w,λ_ z=>nomatch z⟩) F (λ_ _ a ns hl hO hS=>⟨a,ns,rfl,Xu hO hS,hl,hO.2 _ (aM ..),λ_=>rfl⟩)
  λ_ _ _ _ _ ⟨_,_,_,_,_,_,_,_,_,_,_,_,z⟩=>z
end
end K12
namespace PySem.W.Fast
theorem tw4221045260817958741:True:=trivial
theorem tw10844313518598524614:True:=trivial
theorem tw2062541511649671418:True:=trivial
theorem tw17865286367690201953:True:=trivial
theorem tw18150964998749568852:True:=trivial
theorem tw13959582021101538205:True:=trivial
theorem tw468783351761730312:True:=trivial
theorem tw4813456350848470023:True:=trivial
theorem tw18157323886881003915:True:=trivial
theorem tw13927797187481731452:True:=trivial
theorem tw1594663056928727460:True:=trivial
theorem tw14188188510086090970:True:=trivial
theorem tw10805058910223291306:True:=trivial
theorem tw16008346182878025293:True:=trivial
theorem tw3359657827515844037:True:=trivial
theorem tw12544357683739325094:True:=trivial
theorem tw6517744728052576723:True:=trivial
theorem tw13129233524406185020:True:=trivial
theorem tw12646362815235241821:True:=trivial
theorem tw5146006768998956639:True:=trivial
theorem tw15271040817596606676:True:=trivial
theorem tw957000265713480574:True:=trivial
theorem tw1568682262194360297:True:=trivial
theorem tw12334373571972655388:True:=trivial
theorem tw9172867304641992182:True:=trivial
theorem tw16415300165852031225:True:=trivial
theorem tw2074497304012775243:True:=trivial
theorem tw15627142830347230273:True:=trivial
theorem tw9344283084581429909:True:=trivial
theorem tw15667446635454275812:True:=trivial
theorem tw4651547638649909619:True:=trivial
theorem tw16772283408565737122:True:=trivial
theorem tw11580183536169390429:True:=trivial
theorem tw5196410401103552718:True:=trivial
theorem tw11367894678845924102:True:=trivial
theorem tw1231013446452685597:True:=trivial
theorem tw1823574798235306774:True:=trivial
theorem tw14616947354271688959:True:=trivial
theorem tw1133640887383100952:True:=trivial
theorem tw17593967473359817371:True:=trivial
theorem tw222555744762478837:True:=trivial
theorem tw10066056932879704037:True:=trivial
theorem tw11227060924975956441:True:=trivial
theorem tw17171767171849825548:True:=trivial
theorem tw15627980144853937699:True:=trivial
theorem tw10627314355975025306:True:=trivial
theorem tw15020765492755017078:True:=trivial
theorem tw3762973350837951009:True:=trivial
theorem tw4235287341842846410:True:=trivial
theorem tw5324661903247112941:True:=trivial
theorem tw1954217341062953832:True:=trivial
theorem tw4503457550536382325:True:=trivial
theorem tw3808617843278712460:True:=trivial
theorem tw11481386407158427336:True:=trivial
theorem tw14228665592150443665:True:=trivial
theorem tw6085352386692673601:True:=trivial
theorem tw12418439527773297990:True:=trivial
theorem tw8335180782496725058:True:=trivial
theorem tw10429174095085702247:True:=trivial
theorem tw9599727920897682047:True:=trivial
theorem tw14239579451582599113:True:=trivial
theorem tw10448497577594327322:True:=trivial
theorem tw7947754859040762787:True:=trivial
theorem tw3861940268152284463:True:=trivial
theorem tw17385080356305381467:True:=trivial
theorem tw9847987267290150401:True:=trivial
theorem tw16006696210439706247:True:=trivial
theorem tw9319122987766921604:True:=trivial
theorem tw11852318183713588216:True:=trivial
theorem tw6234955338784879326:True:=trivial
theorem tw14890391655979750108:True:=trivial
theorem tw15698645054438270507:True:=trivial
theorem tw15588861100838738097:True:=trivial
theorem tw9996577314248825992:True:=trivial
theorem tw14886948225832788964:True:=trivial
theorem tw1408791981169776981:True:=trivial
theorem tw12173412198594154466:True:=trivial
theorem tw1166871877607314495:True:=trivial
theorem tw12828766343147496240:True:=trivial
theorem tw493534636731898187:True:=trivial
theorem tw13411768064527238954:True:=trivial
theorem tw10942652136766188931:True:=trivial
theorem tw392974448210029301:True:=trivial
theorem tw1905596838122419898:True:=trivial
theorem tw14478624359955600812:True:=trivial
theorem tw8403806743274025257:True:=trivial
theorem tw9180696415189409268:True:=trivial
theorem tw1573432287750809188:True:=trivial
theorem tw7636141785553250223:True:=trivial
theorem tw8365920598574805099:True:=trivial
theorem tw6250738228402528192:True:=trivial
theorem tw3982581240398307758:True:=trivial
theorem tw6986968881559919153:True:=trivial
theorem tw8287614840390557055:True:=trivial
theorem tw8308848580569927358:True:=trivial
theorem tw3259720485948832319:True:=trivial
theorem tw6927006076945978931:True:=trivial
theorem tw14465652120565471333:True:=trivial
theorem tw11328140849786092541:True:=trivial
theorem tw14495534966232201148:True:=trivial
theorem tw10741831560552314458:True:=trivial
theorem tw12557350965465414439:True:=trivial
theorem tw978631084511313424:True:=trivial
theorem tw9372542851681584399:True:=trivial
theorem tw10943094307781345035:True:=trivial
theorem tw15109110031172068088:True:=trivial
theorem tw3755530905301910045:True:=trivial
theorem tw7106434323162242731:True:=trivial
theorem tw17901150237856672454:True:=trivial
theorem tw14539715993301507230:True:=trivial
theorem tw6813999012917068749:True:=trivial
theorem tw8443369740091370090:True:=trivial
theorem tw11472818726757228444:True:=trivial
theorem tw18184106826076955702:True:=trivial
theorem tw15851891415778118632:True:=trivial
theorem tw15898492690192137180:True:=trivial
theorem tw16237063480035761575:True:=trivial
theorem tw14270582964398445081:True:=trivial
theorem tw16114896862369815759:True:=trivial
theorem tw6149815938290849085:True:=trivial
theorem tw3533500340020623045:True:=trivial
theorem tw9602804633737979293:True:=trivial
theorem tw18351275239177201709:True:=trivial
theorem tw16452439511385019460:True:=trivial
theorem tw8205090593466892773:True:=trivial
theorem tw8524321108064693550:True:=trivial
theorem tw9423469107812436753:True:=trivial
theorem tw12369215992654851898:True:=trivial
theorem tw12278794535464587463:True:=trivial
theorem tw17617172855513144418:True:=trivial
theorem tw6760951341827113663:True:=trivial
theorem tw1742780149672199815:True:=trivial
theorem tw3101811049025090080:True:=trivial
theorem tw1296925878197123867:True:=trivial
theorem tw5884916965533036580:True:=trivial
theorem tw10720848711304945964:True:=trivial
theorem tw3330154148069505357:True:=trivial
theorem tw6300715045850229878:True:=trivial
theorem tw14479916060299878695:True:=trivial
theorem tw79030924160708588:True:=trivial
theorem tw8031294633294487655:True:=trivial
theorem tw16556725686746273606:True:=trivial
theorem tw42626878653124102:True:=trivial
theorem tw14664054749462701054:True:=trivial
theorem tw17668464420292173223:True:=trivial
theorem tw13114090875783192988:True:=trivial
theorem tw4254538564250898136:True:=trivial
theorem tw4890710966368457282:True:=trivial
theorem tw9254877408509681121:True:=trivial
theorem tw12554571809581959144:True:=trivial
theorem tw13060323553778809640:True:=trivial
theorem tw11675413308778703182:True:=trivial
theorem tw1681177237654404410:True:=trivial
theorem tw18007514461830608550:True:=trivial
theorem tw1602913822327169849:True:=trivial
theorem tw7865240639993996757:True:=trivial
theorem tw3528023923711464260:True:=trivial
theorem tw3960896199277716141:True:=trivial
theorem tw232353016195589613:True:=trivial
theorem tw6378713450174384327:True:=trivial
theorem tw4643633167492655793:True:=trivial
theorem tw7999006056827709011:True:=trivial
theorem tw1690557572688545245:True:=trivial
theorem tw8823970141902455363:True:=trivial
theorem tw8958996043634569305:True:=trivial
theorem tw13387608701933749492:True:=trivial
theorem tw14653501230652141372:True:=trivial
theorem tw17860694494568721242:True:=trivial
theorem tw9050398664877539631:True:=trivial
theorem tw13249016742977238581:True:=trivial
theorem tw12793702204938242184:True:=trivial
theorem tw1467142021625134984:True:=trivial
theorem tw8171698926186714600:True:=trivial
theorem tw15615992446192287293:True:=trivial
theorem tw2496316500725595801:True:=trivial
theorem tw16549265094904772179:True:=trivial
theorem tw1431505601395404729:True:=trivial
theorem tw7005957063997873879:True:=trivial
theorem tw4014840802309689574:True:=trivial
theorem tw7533424338949525813:True:=trivial
theorem tw1470211456560363997:True:=trivial
theorem tw631821817040977097:True:=trivial
theorem tw13358618728929715445:True:=trivial
theorem tw7512401316610461048:True:=trivial
theorem tw3582680909113606824:True:=trivial
theorem tw11348901079689287540:True:=trivial
theorem tw14431237070802992268:True:=trivial
theorem tw345122331183770348:True:=trivial
theorem tw12289498571813822744:True:=trivial
theorem tw3525004211462808140:True:=trivial
theorem tw8388779301999786563:True:=trivial
theorem tw5284419426733209764:True:=trivial
theorem tw18069047738848276851:True:=trivial
theorem tw16168310024819237813:True:=trivial
theorem tw12562678976143124790:True:=trivial
theorem tw17104034310474226283:True:=trivial
theorem tw15319039039905465485:True:=trivial
theorem tw5297875833177902071:True:=trivial
theorem tw3801580580090284417:True:=trivial
theorem tw5673981458989652602:True:=trivial
theorem tw2197141320545373866:True:=trivial
theorem tw5135350715058377503:True:=trivial
theorem tw5636076387948240350:True:=trivial
theorem tw15075997777637726275:True:=trivial
theorem tw16144409733924348464:True:=trivial
theorem tw7347832979042144346:True:=trivial
theorem tw7560475969546203052:True:=trivial
theorem tw1424089438747991037:True:=trivial
theorem tw1098572480879093915:True:=trivial
theorem tw11545076335599637275:True:=trivial
theorem tw1400417678377670383:True:=trivial
theorem tw18321149473273288735:True:=trivial
theorem tw8009746310727310631:True:=trivial
theorem tw4839463445682932879:True:=trivial
theorem tw15113441355223112446:True:=trivial
theorem tw2801210581019178323:True:=trivial
theorem tw9588264863134390002:True:=trivial
theorem tw707255862324711057:True:=trivial
theorem tw6136712739463792887:True:=trivial
theorem tw6892745763736704683:True:=trivial
theorem tw3426245619832183886:True:=trivial
theorem tw11699221447863582228:True:=trivial
theorem tw1511287544119125297:True:=trivial
theorem tw572359633782982743:True:=trivial
theorem tw11001501051029071660:True:=trivial
theorem tw16705605704719063670:True:=trivial
theorem tw13921313308569274083:True:=trivial
theorem tw13805310819857430717:True:=trivial
theorem tw6908265289105722796:True:=trivial
theorem tw2909424147425772481:True:=trivial
theorem tw12377078686889948263:True:=trivial
theorem tw4649181969464776603:True:=trivial
theorem tw9724780593625141642:True:=trivial
theorem tw9321993231367649644:True:=trivial
theorem tw3509344486117765903:True:=trivial
theorem tw1548924725263706901:True:=trivial
theorem tw3515471253506078856:True:=trivial
theorem tw6842259182428367644:True:=trivial
theorem tw15733914367472885000:True:=trivial
theorem tw5919291159128884037:True:=trivial
theorem tw2681877007747485284:True:=trivial
theorem tw3199744065362707644:True:=trivial
theorem tw15914832353630613929:True:=trivial
theorem tw10703221243894404398:True:=trivial
theorem tw7755491503098060934:True:=trivial
theorem tw17309554710093280182:True:=trivial
theorem tw6996002180979607147:True:=trivial
theorem tw17637793118637577490:True:=trivial
theorem tw16114172296331705295:True:=trivial
theorem tw1562406266164953686:True:=trivial
theorem tw15799994709639685244:True:=trivial
theorem tw6413862500969319082:True:=trivial
theorem tw4834940725471927006:True:=trivial
theorem tw4261866974156633014:True:=trivial
theorem tw6134545302322456218:True:=trivial
theorem tw9086110313666274408:True:=trivial
theorem tw6123870024745074447:True:=trivial
theorem tw13584823326465183133:True:=trivial
theorem tw16167166761185292308:True:=trivial
theorem tw7297721411400281795:True:=trivial
theorem tw7103942143244811704:True:=trivial
theorem tw10385958702001853846:True:=trivial
theorem tw7653297840888096969:True:=trivial
theorem tw18107993650286181724:True:=trivial
theorem tw6733744903765029019:True:=trivial
theorem tw9620718936532680771:True:=trivial
theorem tw7188016130628897166:True:=trivial
theorem tw7161279098739123643:True:=trivial
theorem tw10278180470285360961:True:=trivial
theorem tw2438107498344834743:True:=trivial
theorem tw14894851039867621212:True:=trivial
theorem tw11706598279082776143:True:=trivial
theorem tw10801690906014247495:True:=trivial
theorem tw13502907839707059672:True:=trivial
theorem tw6815936298903800134:True:=trivial
theorem tw4209847741214362738:True:=trivial
theorem tw8718819864884033008:True:=trivial
theorem tw3749571618566366171:True:=trivial
theorem tw9421262381051296557:True:=trivial
theorem tw2739498638460962173:True:=trivial
theorem tw608365036872083188:True:=trivial
theorem tw11145945662259276504:True:=trivial
theorem tw2050673436206044093:True:=trivial
theorem tw4733775287145914270:True:=trivial
theorem tw16075599873961446429:True:=trivial
theorem tw380318292132726277:True:=trivial
theorem tw12199233974136521613:True:=trivial
theorem tw8950815430976592461:True:=trivial
theorem tw5796673955465284140:True:=trivial
theorem tw9989082225649036781:True:=trivial
theorem tw4675407488788097252:True:=trivial
theorem tw11672554256882164721:True:=trivial
theorem tw11737566489791724154:True:=trivial
theorem tw1422780339450180886:True:=trivial
theorem tw12084561752532792509:True:=trivial
theorem tw10210770231975328618:True:=trivial
theorem tw4342863510676056136:True:=trivial
theorem tw11764051877683025952:True:=trivial
theorem tw985317297305510908:True:=trivial
theorem tw7136067939160239709:True:=trivial
theorem tw16602161323703587240:True:=trivial
theorem tw13788656944469109066:True:=trivial
theorem tw17287164597060335620:True:=trivial
theorem tw722174545592108227:True:=trivial
theorem tw10810374394704968611:True:=trivial
theorem tw17749348333973177904:True:=trivial
theorem tw14273195645073365522:True:=trivial
theorem tw15144101593330030771:True:=trivial
theorem tw3721183828990753969:True:=trivial
theorem tw1713326205706719867:True:=trivial
theorem tw6258254809958226869:True:=trivial
theorem tw16169669552029604681:True:=trivial
theorem tw7281030499426725216:True:=trivial
theorem tw9948135656374870238:True:=trivial
theorem tw13682438239470504921:True:=trivial
theorem tw7880887576070398306:True:=trivial
theorem tw17812931076633150725:True:=trivial
theorem tw9229394243037567375:True:=trivial
theorem tw11574361738560579438:True:=trivial
theorem tw7330720706999307190:True:=trivial
theorem tw854949620193913947:True:=trivial
theorem tw5145580548654845258:True:=trivial
theorem tw8730443444723354479:True:=trivial
theorem tw12357010392638274388:True:=trivial
theorem tw15741370015882293529:True:=trivial
theorem tw13162678610177181218:True:=trivial
theorem tw18236429048470615536:True:=trivial
theorem tw17437424998374277142:True:=trivial
theorem tw16087989664017014321:True:=trivial
theorem tw13916511930008350376:True:=trivial
theorem tw6277261299855115778:True:=trivial
theorem tw5397942272507782461:True:=trivial
theorem tw11564321269546469765:True:=trivial
theorem tw13738980503315900476:True:=trivial
theorem tw8662176824830880249:True:=trivial
theorem tw16660287454209348341:True:=trivial
theorem tw17288820228045424352:True:=trivial
theorem tw16333156449985535027:True:=trivial
theorem tw2841909392802931126:True:=trivial
theorem tw11411890867018616098:True:=trivial
theorem tw7068235060888471035:True:=trivial
theorem tw15620913470112769522:True:=trivial
theorem tw6019565283154041228:True:=trivial
theorem tw4306293537119096196:True:=trivial
theorem tw18031448629127422666:True:=trivial
theorem tw16063068077497732834:True:=trivial
theorem tw8955359808890260303:True:=trivial
theorem tw611681808458272880:True:=trivial
theorem tw18079238172131069624:True:=trivial
theorem tw7994667000476698444:True:=trivial
theorem tw2263671635960141616:True:=trivial
theorem tw10327706709321299288:True:=trivial
theorem tw7808357860411945585:True:=trivial
theorem tw5270644190791027059:True:=trivial
theorem tw12435638052915391941:True:=trivial
theorem tw2272655440912891015:True:=trivial
theorem tw11356468042957981641:True:=trivial
theorem tw154550008315321770:True:=trivial
theorem tw10645456675451382826:True:=trivial
theorem tw2462753651886450820:True:=trivial
theorem tw5633181975162499807:True:=trivial
theorem tw13987338064126817122:True:=trivial
theorem tw9971721156705405390:True:=trivial
theorem tw16257096182727322199:True:=trivial
theorem tw17607236345807487502:True:=trivial
theorem tw9570252470148009543:True:=trivial
theorem tw8806467306016433429:True:=trivial
theorem tw5948183789843847104:True:=trivial
theorem tw1545315492452404374:True:=trivial
theorem tw13096126436370721117:True:=trivial
theorem tw11856833946485248285:True:=trivial
theorem tw13871336133978302529:True:=trivial
theorem tw17607946679296424598:True:=trivial
theorem tw15053920842415917320:True:=trivial
theorem tw14161684953952883135:True:=trivial
theorem tw1485871540018025842:True:=trivial
theorem tw13149211283397876488:True:=trivial
theorem tw16942931966137541826:True:=trivial
theorem tw15891399594185166626:True:=trivial
theorem tw6150195181436494185:True:=trivial
theorem tw2172713790618710899:True:=trivial
theorem tw11480492173083573738:True:=trivial
theorem tw7911094874565253533:True:=trivial
theorem tw8088686508553844825:True:=trivial
theorem tw18365613362137832335:True:=trivial
theorem tw4083765298770788867:True:=trivial
theorem tw10856751375367891187:True:=trivial
theorem tw13009492390547648023:True:=trivial
theorem tw13319096154828209702:True:=trivial
theorem tw14780781759741625914:True:=trivial
theorem tw1266992945468154946:True:=trivial
theorem tw13069048698357752585:True:=trivial
theorem tw5395482346243598399:True:=trivial
theorem tw14941899118692284863:True:=trivial
theorem tw13571509577211460782:True:=trivial
theorem tw10724523359904291405:True:=trivial
theorem tw16973360289306053903:True:=trivial
theorem tw6106631423367617795:True:=trivial
theorem tw326183665077027223:True:=trivial
theorem tw6922198278597164204:True:=trivial
theorem tw569140091937046683:True:=trivial
theorem tw697372841934199303:True:=trivial
theorem tw17971344356194737027:True:=trivial
theorem tw12043188854437269612:True:=trivial
theorem tw10142416904538136164:True:=trivial
theorem tw15231375866126678440:True:=trivial
theorem tw11894321339390572960:True:=trivial
theorem tw9256511849844559016:True:=trivial
theorem tw17313427410233088237:True:=trivial
theorem tw1926060867798327905:True:=trivial
theorem tw13640146279854794808:True:=trivial
theorem tw14466957063488147357:True:=trivial
theorem tw11149238842484759707:True:=trivial
theorem tw11091407595954688898:True:=trivial
theorem tw18043106084701132943:True:=trivial
theorem tw17643830910779032528:True:=trivial
theorem tw8952612502015711728:True:=trivial
theorem tw8374758227695723921:True:=trivial
theorem tw6644526298353302955:True:=trivial
theorem tw5138085694998950162:True:=trivial
theorem tw6149577850032927379:True:=trivial
theorem tw16472937113090137530:True:=trivial
theorem tw6126468347117224909:True:=trivial
theorem tw15928035398949129612:True:=trivial
end PySem.W.Fast
open PySem PySem.W PyProof.Rows
set_option maxRecDepth 100000 in
set_option maxHeartbeats 0 in
theorem PySem.Challenge.cw_cellkeep_k12_whole_young_holds : PySem.Challenge.rw_cellkeep_k12_whole_young.Holds := by
 w_on; o_law; k_head; (case hw => w_witness2)
 k_fill
 refine K12.walk (l := PySem.Challenge.rw_cellkeep_k12_whole_young) rfl rfl (fun _ => ?hK) (fun _ => ?hC) ?F
 case hK => kernel_rfl
 case hC => first | exact ⟨309, by kernel_rfl⟩
 case F =>
  intro w mg fa h KX G hmg
  refine' K12.all_mk KX G hmg ?a0 ?a1 ?a2 ?a3 ?a4 ?a5 ?a6 ?a7 ?a8 ?a9 ?a10 ?a11 ?a12 ?a13 ?a14 ?a15 ?a16 ?a17 ?a18 ?a19 ?a20 ?a21 ?a22 ?a23 ?a24 ?a25 ?a26 ?a27 ?a28 ?a29 ?a30 ?a31 ?a32 ?a33 ?a34 ?a35 ?a36 ?a37 ?a38 ?a39 ?a40 ?a41 ?a42 ?a43 ?a44 ?a45 ?a46 ?a47 ?a48 ?a49 ?a50 ?a51 ?a52 ?a53 ?a54 ?a55 ?a56 ?a57 ?a58 ?a59 ?a60 ?a61 ?a62 ?a63 ?a64 ?a65 ?a66 ?a67 ?a68 ?a69 ?a70 ?a71 ?a72 ?a73 ?a74 ?a75 ?a76 ?a77 ?a78 ?a79 ?a80 ?a81 ?a82 ?a83 ?a84 ?a85 ?a86 ?a87 ?a88 ?a89 ?a90 ?a91 ?a92 ?a93 ?a94 ?a95 ?a96 ?a97 ?a98 ?a99 ?a100 ?a101 ?a102 ?a103 ?a104 ?a105 ?a106 ?a107 ?a108 ?a109 ?a110 ?a111 ?a112 ?a113 ?a114 ?a115 ?a116 ?a117 ?a118 ?a119 ?a120 ?a121 ?a122 ?a123 ?a124 ?a125 ?a126 ?a127 ?a128 ?a129 ?a130 ?a131 ?a132 ?a133 ?a134 ?a135 ?a136 ?a137 ?a138 ?a139 ?a140 ?a141 ?a142 ?a143 ?a144 ?a145 ?a146 ?a147 ?a148 ?a149 ?a150 ?a151 ?a152 ?a153 ?a154 ?a155 ?a156 ?a157 ?a158 ?a159 ?a160 ?a161 ?a162 ?a163 ?a164 ?a165 ?a166 ?a167 ?a168 ?a169 ?a170 ?a171 ?a172 ?a173 ?a174 ?a175 ?a176 ?a177 ?a178 ?a179 ?a180 ?a181 ?a182 ?a183 ?a184 ?a185 ?a186 ?a187 ?a188 ?a189 ?a190 ?a191 ?a192 ?a193 ?a194 ?a195 ?a196 ?a197 ?a198 ?a199 ?a200 ?a201 ?a202 ?a203 ?a204 ?a205 ?a206 ?a207 ?a208 ?a209 ?a210 ?a211 ?a212 ?a213 ?a214 ?a215 ?a216 ?a217 ?a218 ?a219 ?a220 ?a221 ?a222 ?a223 ?a224 ?a225 ?a226 ?a227 ?a228 ?a229 ?a230 ?a231 ?a232 ?a233 ?a234 ?a235 ?a236 ?a237 ?a238 ?a239 ?a240 ?a241 ?a242 ?a243 ?a244 ?a245 ?a246 ?a247 ?a248 ?a249 ?a250 ?a251 ?a252 ?a253 ?a254 ?a255 ?a256 ?a257 ?a258 ?a259 ?a260 ?a261 ?a262 ?a263 ?a264 ?a265 ?a266 ?a267 ?a268 ?a269 ?a270 ?a271 ?a272 ?a273 ?a274 ?a275 ?a276 ?a277 ?a278 ?a279 ?a280 ?a281 ?a282 ?a283 ?a284 ?a285 ?a286 ?a287 ?a288 ?a289 ?a290 ?a291 ?a292 ?a293 ?a294 ?a295 ?a296 ?a297 ?a298 ?a299 ?a300 ?a301 ?a302 ?a303 ?a304 ?a305 ?a306 ?a307 ?a308 ?a309 ?a310 ?a311 ?a312 ?a313 ?a314 ?a315 ?a316 ?a317 ?a318 ?a319 ?a320 ?a321 ?a322 ?a323 ?a324 ?a325 ?a326 ?a327 ?a328 ?a329 ?a330
  case a0 | a1 | a2 | a3 | a4 | a5 | a6 | a7 | a8 | a9 | a10 | a11 | a12 | a13 | a14 | a15 | a16 | a17 | a18 | a19 | a20 | a21 | a22 | a23 | a24 | a25 | a26 | a27 | a28 | a29 | a30 | a31 | a32 | a33 | a34 | a35 | a36 | a37 | a38 | a39 | a40 | a41 | a42 | a43 | a44 | a45 | a46 | a47 | a48 | a49 | a50 | a51 | a52 | a53 | a54 | a55 | a56 | a57 | a58 | a59 | a60 | a61 | a62 | a63 | a64 | a65 | a66 | a67 | a68 | a69 | a70 | a71 | a72 | a73 | a74 | a75 | a76 | a77 | a78 | a79 | a80 | a81 | a82 | a83 | a84 | a85 | a86 | a87 | a88 | a89 | a90 | a91 | a92 | a93 | a94 | a95 | a96 | a97 | a98 | a99 | a100 | a101 | a102 | a103 | a104 | a105 | a106 | a107 | a108 | a109 | a110 | a111 | a112 | a113 | a114 | a115 | a116 | a117 | a118 | a119 | a120 | a121 | a122 | a123 | a124 | a125 | a126 | a127 | a128 | a129 | a130 | a131 | a132 | a133 | a134 | a135 | a136 | a137 | a138 | a139 | a140 | a141 | a142 | a143 | a144 | a145 | a146 | a147 | a148 | a149 | a150 | a151 | a152 | a153 | a154 | a155 | a156 | a157 | a158 | a159 | a160 | a161 | a162 | a163 | a164 | a165 | a166 | a167 | a168 | a169 | a170 | a171 | a172 | a173 | a174 | a175 | a176 | a177 | a178 | a179 | a180 | a181 | a182 | a183 | a184 | a185 | a186 | a187 | a188 | a189 | a190 | a191 | a192 | a193 | a194 | a195 | a196 | a197 | a198 | a199 | a200 | a201 | a202 | a203 | a204 | a205 | a206 | a207 | a208 | a209 | a210 | a211 | a212 | a213 | a214 | a215 | a216 | a217 | a218 | a219 | a220 | a221 | a222 | a223 => k_is
  case a224 | a225 | a226 | a227 | a228 | a229 | a230 | a231 | a232 | a233 | a234 | a235 | a236 | a237 | a238 | a239 | a240 | a241 | a242 | a243 | a244 | a245 | a246 | a247 | a248 | a249 | a250 | a251 | a252 | a253 | a254 | a255 | a256 | a257 | a258 | a259 | a260 | a261 | a262 | a263 | a264 | a265 | a266 | a267 | a268 | a269 | a270 | a271 | a272 | a273 | a274 | a275 | a276 | a277 | a278 | a279 | a280 | a281 | a282 | a283 | a284 | a285 | a286 | a287 | a288 | a289 | a290 | a291 | a292 | a293 | a294 | a295 | a296 | a297 | a298 | a299 | a300 | a301 | a302 | a303 | a304 | a305 | a306 => exact ⟨⟨_, _, _, _, _, _, _, _, _, by k_is, by k_is, by k_is, rfl⟩⟩
  case a307 => rfl
  case a308 | a309 | a310 | a311 | a312 | a313 | a314 => k_exc
  case a315 => kernel_rfl
  case a316 | a317 | a318 | a319 | a320 | a321 | a322 | a323 | a324 | a325 | a326 | a327 | a328 | a329 | a330 => kit_is
