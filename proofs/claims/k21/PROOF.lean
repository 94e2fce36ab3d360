import PyProof.Rows.All
import Wide.All
import OpenK.AllK
import Wide.FinOn
import Lean
import PyProof.EqAt
import PyProof.EqKinds
import PyProof.TupleCall
import PySem.Challenge.RW_cellkeep_k21_pictures
set_option compiler.extract_closed false
set_option Elab.async false
set_option linter.all false
set_option maxRecDepth 100000
set_option maxHeartbeats 4000000
open PyProof.Rows.Boot renaming «len» -> ζl, «isinstance» -> ζi, «list» -> ζt, «sorted» -> ζs, «int» -> ζn
open List renaming getElem?_eq_getElem->ab,length_map->ae,getD_eq_getElem?_getD->af,mem_cons_of_mem->ai,getElem?_map->ak,replicate->ao,mem_cons_self->aq,length_append->ay,map_cons->az,mem_singleton->aA,map_append->aF,getElem_mem->aG,size_toArray->aH,not_mem_nil->aI,mem_append_right->aN,length_cons->aR,getElem?_eq_none->aS,length_set->aT,lookup->aU,range->aW,getElem?_set->aX,length_range->aY,mem_append_left->aZ,mem_cons->a_,mem_of_getElem?->ba,length_replicate->bc,append_nil->bg,getElem?_append_left->bj,getElem?_append_right->bp,sum_cons->bq,take_length->bt,take_succ_eq_append_getElem->bu,getElem?_zipWith->bx,mem_map_of_mem->bz,all_cons->bA,nodup_nil->bC,filter_cons_of_neg->bO,length_take->bP,map_map->bQ,getElem?_range->bT,length_zipWith->bU,map->bV,cons_append->bX,map_nil->bY,filter_cons_of_pos->cb,append_assoc->cf,take_add_one->cg,map_congr_left->cm,replicate_succ->cq,lookup_cons->cz,find?_cons->cF,mem_append->cG,zipWith->cI,getElem_map->cN,pairwise_cons->cQ,filter_map->cT,ext_getElem?->cV,mem_or_eq_of_mem_set->cY,getElem?_cons_succ->di,getElem?_replicate->dj,getElem?_drop->dB,zipWith_cons_cons->dD,flatten_cons->dF,length_filter_le->dH,length_singleton->dI,zipWith_nil_left->dJ,filterMap_cons->dS,eq_of_mem_replicate->d5,filter_append->d7,getElem?_take_of_lt->d8,flatMap_cons->d_,length->eB,any_cons->eK,length_drop->eM,filter_nil->eO,length_nil->eQ,mem_of_mem_drop->eT,mem_of_mem_take->eU,nil_append->eV,nodup_cons->eW,sum_nil->eX,getElem?_take->fu,map_replicate->fv,foldl->fH,all_eq_true->fL,map_set->fM,getElem?_cons_zero->fQ,idxOf_cons->fU,of_mem_zip->fV,sum_append->fW,getElem?_set_self->gb,getElem_cons_succ->gc,range_succ_eq_map->gf,take_of_length_le->gh,mem_range->gx,take_zero->gz,getElem?_set_ne->gI,pairwise_append->gJ,length_take_le->gM,take_succ_cons->gN,getElem_range->g8,mem_map->g9,set_cons_zero->g_,filter_congr->ic,foldl_append->ie,getElem_take->ig,nodup_append->iq,filter_cons->iy,mem_flatMap->iz,foldl_cons->iC,mem_filter->iD
open PySem.W renaming Frag->ah,findIn->aB,nsIn->aO,mg_of->bb,keepIn->bo,kitOne->bw,plainGet->bG,hasDictIn->bI,mg_none_of->bJ,emptyDict->bM,plainOver->bN,makesIn->bW,codeHdIn->b7,isFn->b_,instObj->ck,fnOf->cx,hideAll_get->dU,hideAll->eZ,kia_one->e_,plainGet_of->fc,codeIn->fj,lookIn->fk,callWith_K->fw,of_hideAll->fz,methodObj->fF,kdl_dict->fP,OpenLaw->fX,takerIn->fY,cellsFrom_some->gp,methodCall_KW->gC,callWith_K0->gR,codeHd_of_K->gS,kdu_collect->gT,handedIn->iB,WalkO->iN
open Ne renaming symm->aj
open Nat renaming le_refl->au,le_trans->av,lt_of_lt_of_le->ax,ne_of_lt->aJ,zero_le->bh,lt_irrefl->bD,le_add_right->bF,zero_add->bR,lt_of_le_of_lt->bZ,not_lt_zero->cj,min_self->cJ,ne_of_gt->cK,le_of_lt->dM,succ_le_succ->dO,sub_self->d9,add_zero->eY,le_succ->fm,lt_succ_self->fN,lt_of_succ_lt_succ->gj,add_le_add_left->gP,sub_zero->hE,lt_trichotomy->ir,min_eq_left->iE
open PySem.Heap renaming lt_size->aC,get?_push_of_some->aE,get?_push_size->br,SameBut->dY,DictAt->ei,get?_update_other->eA,get?_update_self->gu,size_push->gv,get?_push_ne->ib,size_update->ix
open Prod renaming fst->aD,snd->dE
open Bool renaming false_ne_true->aK,and_eq_true->aV,false_eq_true->du,true_and->dQ,and_self->eJ,eq_iff_iff->eN,not_false->fh,not_true->fA,and_true->gK,false_and->iK
open PySem.Value renaming ref->aL,int->dC,none->fb,type->fI,str->fZ,bool->iJ,isStrOf->iO
open Option.some renaming inj->aM
open PySem.Str renaming ofString->aP,empty->dN,ofString_eq_toList->gq
open Sum renaming inl->aQ,inr->fJ
open Int renaming toNat_natCast->bf,toNat_of_nonneg->bS,le_refl->cO,le_sub_one_of_lt->cX,emod_lt_of_pos->dA,emod_nonneg->dW,zero_add->dZ,le_of_lt->gZ
open True renaming intro->bB
open Option renaming map_some->bE,join_some->bK,getD_some->dP,isSome_map->fE,getD_none->iA
open PyProof.Rows renaming callWith_type1->bH,envOfC->gQ
open Array renaming getElem?_extract->cu,size_append->cU,size_extract->dt,getElem?_append->dG,length_toList->dR,extract_size->dX,append_empty->fq,size_setIfInBounds->fK,append_assoc->gW,ext_getElem?->gX
open PySem.NameKind renaming free->cy,cell->iM
open False renaming elim->cD
open Sum.inl renaming inj->cP
open PySem.Obj renaming mapSeq->cZ,data_mapFields->hU
open PySem.Around renaming in1_units->c9,under->gU
open PySem.Builtin.List renaming listTooLong->c_
open PySem.F renaming slot_list_append->de,type_list_append->df,args_tuple_add_2->fO,entry_tuple_add->fR,slot_list_index->fS,slot_tuple_add->gm,slot_dict_pop->gB
open PySem renaming mem_of_lookup->dg,Within->hV,call->iF
open ForInStep renaming yield->dv
open PySem.Calls renaming spliced_cons->ft,Name_function_global->fB,spliced_nil->fD,call_function_entry->fG,callWith_builtin->f_,evalArgs_plain->gG
open PySem.SeqAt renaming eq_list_lengthsAt->fT,EqAt->iG,eq_listAt->iI
open Or renaming inr->gA
open And renaming elim->gE
open Char renaming toNat->gH
open PySem.Paired renaming length->gL
open PySem.Code renaming isFrame->gY
open PySem.SeqAt.EqAt renaming int_str->hZ,of_refs->h_,str_int->ia,same->iH
open PySem.Data renaming fields->iu,seq->iw
open PySem.EqBoolInt renaming eq_bool_int->iL
open PySem.IsRange renaming new->iP
open PySem.MeetsSeq.EqGives renaming int->iQ
section
local macro_rules(kind:=Lean.Parser.Command.declaration)|d=>if d.getPos?.isSome then return d.rewriteBottomUp (·.setInfo .none) else Lean.Macro.throwUnsupported
namespace Internal
open PySem PySem.Spec PyProof.Rows
theorem Uc{α β:Sort _}{p q:α->β->Prop}{G:Prop}(k:∀a b,p a b->q a b->G)(h:∃a b,p a b/\q a b):G:=by
 obtain⟨a,b,x,y⟩:=h;exact k a b x y
theorem qh{α β:Sort _}{p q r:α->β->Prop}{G:Prop}(k:∀a b,p a b->q a b->r a b->G)(h:∃a b,p a b/\q a b/\r a b):G:=by
 obtain⟨a,b,x,y,z⟩:=h;exact k a b x y z
abbrev Key:=Sum Int Str
noncomputable def uq:Key->Value->Bool
 | .inl k,v=>Value.isInt k v
 | .inr x,v=>iO x v
noncomputable def VI (w:World):Key->Int
 | .inl k=>hashInt k
 | .inr x=>hashStr w x
theorem kf:∀{k:Key} {v:Value},uq k v=true->(∃i t,k=aQ i/\v=dC i t)∨(∃x t,k=fJ x/\v=fZ x t)
 | .inl i,v,h=>by
  obtain⟨t,e⟩:=Value.isInt_shape (k:=i) (v:=v) h;exact .inl ⟨i,t,rfl,e⟩
 | .inr x,v,h=>by
  obtain⟨t,e⟩:=Value.isStrOf_shape (x:=x) (v:=v) h;exact .inr ⟨x,t,rfl,e⟩
theorem LM(i:Int)(t:Tok):uq (.inl i) (.int i t)=true:=by simp[uq,Value.isInt]
theorem LN(x:Str)(t:Tok):uq (.inr x) (.str x t)=true:=by simp[uq,iO]
theorem RU(a b:Int):decide ((aQ a:Key)=aQ b)=(a==b):=by
 by_cases e:a=b
 ·subst e;simp
 ·have h:¬(aQ a:Key)=aQ b:=λq=>e (cP q);rw[decide_eq_false h];exact(beq_eq_false_iff_ne.mpr e).symm
theorem RX(a b:Str):decide ((fJ a:Key)=fJ b)=decide (a=b):=by
 by_cases e:a=b
 ·subst e;simp
 ·have h:¬(fJ a:Key)=fJ b:=λq=>e (Sum.inr.inj q);rw[decide_eq_false h,decide_eq_false e]
theorem RV(a:Int)(b:Str):decide ((aQ a:Key)=fJ b)=false:=decide_eq_false (λq=>nomatch q)
theorem RW(a:Str)(b:Int):decide ((fJ a:Key)=aQ b)=false:=decide_eq_false (λq=>nomatch q)
noncomputable def j7 (prog:Program) (w:World):PySem.KeyKind prog w Key where
 is:=uq
 hash:=VI w
 inj:=λv a b ha hb=>by
  rcases kf ha with ⟨i,t,rfl,rfl⟩|⟨x,t,rfl,rfl⟩
  ·rcases kf hb with ⟨j,u,rfl,e⟩|⟨y,u,rfl,e⟩
   ·injection e with e1 _;rw[e1]
   ·exact nomatch e
  ·rcases kf hb with ⟨j,u,rfl,e⟩|⟨y,u,rfl,e⟩
   ·exact nomatch e
   ·injection e with e1 _;rw[e1]
 byValue:=λk v h=>by
  rcases kf h with ⟨i,t,rfl,rfl⟩|⟨x,t,rfl,rfl⟩<;>rfl
 pyHash:=λhv h=>by
  rcases kf hv with ⟨i,t,rfl,rfl⟩|⟨x,t,rfl,rfl⟩
  ·exact wpAny_pyHash_int h
  ·exact wpAny_pyHash_str h
 eqBool:=λhu hv h=>by
  rcases kf hu with ⟨i,t,rfl,rfl⟩|⟨x,t,rfl,rfl⟩
  ·rcases kf hv with ⟨j,u,rfl,rfl⟩|⟨y,u,rfl,rfl⟩
   ·rw[RU]at h;exact wpAny_eqBool_int h
   ·rw[RV]at h;exact hZ i t y u _ _ _ _ h
  ·rcases kf hv with ⟨j,u,rfl,rfl⟩|⟨y,u,rfl,rfl⟩
   ·rw[RW]at h;exact ia x t j u _ _ _ _ h
   ·rw[RX]at h;exact wpAny_eqBool_str h
 «strs»:=λk x t v h=>by
  rcases kf h with ⟨i,u,rfl,e⟩|⟨y,u,rfl,e⟩
  ·exact nomatch e
  ·injection e with e1 _
   subst e1
   cases v<;>rfl
theorem HG(prog:Program)(w:World)(i:Int)(t:Tok):(j7 prog w).is (.inl i) (.int i t)=true:=LM i t
theorem HH(prog:Program)(w:World)(x:Str)(t:Tok):(j7 prog w).is (.inr x) (.str x t)=true:=LN x t
inductive V where
 |kr|bl (b:Bool)|int (i:Int)|str (x:Str)|byt (b:Array UInt8)|flt (b:UInt64)|ref (a:Addr)|ty (n:String)
 deriving DecidableEq
def RelV:V->Value->Prop
 | .kr,u=>u=fb
 | .bl b,u=>u=iJ b
 | .int i,u=>∃t,u=dC i t
 | .str x,u=>∃t,u=fZ x t
 | .byt b,u=>∃t,u=Value.bytes b t
 | .flt b,u=>∃t,u=Value.float b t
 | .ref a,u=>u=aL a
 | .ty n,u=>u=fI n
abbrev Vals:List V->List Value->Prop:=Paired RelV
theorem Vals.length{xs:List V}{us:List Value}(r:Vals xs us):xs.length=us.length:=gL r
theorem Vals.get:∀{xs:List V} {us:List Value} {i:Nat} {x:V},Vals xs us->xs[i]? =some x->∃u,us[i]? =some u/\RelV x u
 |_,_,_,_,.nil,e=>by simp at e
 |_,_,0,_,.cons r _,e=>by simp at e;subst e;exact⟨_,rfl,r⟩
 |_,_,i+1,x,.cons _ t,e=>by
  obtain⟨u,h1,h2⟩:=Vals.get (i:=i) (x:=x) t (by simpa using e);exact⟨u,by simpa using h1,h2⟩
theorem Vals.set{x:V}{u:Value}(r:RelV x u):∀{xs:List V} {us:List Value} (i:Nat),Vals xs us->Vals (xs.set i x) (us.set i u)
 |_,_,_,.nil=> .nil
 |_,_,0,.cons _ t=> .cons r t
 |_,_,i+1,.cons q t=> .cons q (Vals.set r i t)
theorem Vals.append{xs ys:List V}{us ws:List Value}(h:Vals xs us)(s:Vals ys ws):Vals (xs++ys) (us++ws):=by
 induction h with
 |nil=>exact s
 |cons r t ih=>exact .cons r ih
theorem Vals.take:∀{xs:List V} {us:List Value} (n:Nat),Vals xs us->Vals (xs.take n) (us.take n)
 |_,_,0,_=> .nil
 |_,_,_+1,.nil=> .nil
 |_,_,n+1,.cons r t=> .cons r (Vals.take n t)
theorem Vals.drop:∀{xs:List V} {us:List Value} (n:Nat),Vals xs us->Vals (xs.drop n) (us.drop n)
 |_,_,0,r=>r
 |_,_,_+1,.nil=> .nil
 |_,_,n+1,.cons _ t=>Vals.drop n t
def ud:Option V->Option Value->Prop
 |some v,some u=>RelV v u
 |none,none=>True
 |_,_=>False
def KV{κ:Type}:List (κ×V)->List (κ×Value)->Prop:=Paired λ(p:κ×V) (q:κ×Value)=>p.1=q.1/\RelV p.2 q.2
noncomputable def kV:Key->V
 | .inl i=> .int i
 | .inr x=> .str x
inductive HO where
 |lst (xs:List V)
 |tup (xs:List V)
 |dK (kvs:List (Key×V))|dT (kvs:List (List Key×V))
 |set (S:Int->Bool) (n:Nat)
 |ins (C dx:Addr) (fs:List (Str×V))
 |own (x:Addr)
 |xd (fs:List (Str×V))
 |met (f x:Addr)
 |V7 (lo hi:Int)
 |rV (o:Obj) (u:HO)
 |vN (ps:Array Value)
 |ext (φ:Heap->Prop)
 |exc (cls:Value)
abbrev Hp:=Addr->Option HO
noncomputable def upd (H:Hp) (a:Addr) (o:HO):Hp:=λb=>if b=a then some o else H b
theorem iZ{H:Hp}{a:Addr}{o:HO}:upd H a o a=some o:=by unfold upd;rw[if_pos rfl]
theorem i4{H:Hp}{a b:Addr}{o:HO}(h:b≠a):upd H a o b=H b:=by unfold upd;rw[if_neg h]
theorem Lj{H:Hp}{a:Addr}{o u:HO}:upd (upd H a o) a u=upd H a u:=by
 funext b;unfold upd;split<;>rfl
theorem UB{H:Hp}{a b:Addr}{o u:HO}(h:H a=some o)(h':H b=some u)(d:o≠u):a≠b:=by
 intro e;subst e;rw[h]at h';exact d (aM h')
theorem iY{H:Hp}{a b:Addr}{o:HO}(h:H a=some o)(h':H b=none):a≠b:=by
 intro e;subst e;rw[h]at h';cases h'
section
variable(P:Program)(w:World)
def kO(H:Hp)(h:Heap)(a:Addr):HO->Prop
 | .lst xs=>xs.length<=sizeLine/\∃(its:List Value) (n:Nat),Vals xs its/\h.get? a=some {cls:= .type "list",data:= .seq its.toArray n}
 | .tup xs=>xs.length<=sizeLine/\∃its:List Value,Vals xs its/\IsTup h a its.toArray
 | .dK kvs=>kvs.length<=sizeLine/\(a==sysModules)=false/\∃vs,KV kvs vs/\h.DictOf (j7 P w) a vs
 | .dT kvs=>kvs.length<=sizeLine/\(a==sysModules)=false/\∃xs:List (List Key×Addr×Value),
   Paired (λ(p:List Key×V) (q:List Key×Addr×Value)=>p.1=q.1/\H q.2.1=some (.tup (p.1.map kV))/\RelV p.2 q.2.2) kvs xs/\
   ∃o es ep,h.get? a=some o/\o.ExactDict/\o.data= .dict es ep/\es.toList=xs.map (entryOfKey (tupleKind (j7 P w)))/\(xs.map (·.1)).Nodup
 | .set S n=>h.SetOf (intKind P w) a S n
 | .ins C dx fs=>H dx=some (.own a)/\fs.length<=1000/\dx≠a/\h.get? a=some (ck C dx)/\
   ∃mA,h.Ns1 dx mA/\(∀f,ud (fs.lookup f) (mA f))/\hV mA (fs.map (·.1))
 | .own _=>∃o,h.get? a=some o
 | .xd fs=>∃mA,h.Ns1 a mA/\∀f,ud (fs.lookup f) (mA f)
 | .V7 lo hi=>∃t u v,h.get? a=some {cls:= .type "range",data:= .fields #[.int lo t,.int hi u,.int 1 v]}
 | .rV o u=>h.get? a=some o/\kO H h a u
 | .vN ps=>h.get? a=some {cls:= .none,data:= .fields ps}
 | .met f x=>h.get? a=some (fF (.ref f) (.ref x))
 | .exc cls=>∃o vs,h.get? a=some o/\o.cls=cls/\o.data= .fields vs
 | .ext φ=>φ h/\(∃o,h.get? a=some o)/\∀h1 h2:Heap,φ h1->(∀o,h1.get? a=some o->h2.get? a=some o)->φ h2
def tZ(H:Hp)(h:Heap):Prop:=∀a o,H a=some o->kO P w H h a o
end
section
variable{P:Program}{w:World}{H H':Hp}{h h':Heap}{a:Addr}{o:HO}
theorem kO.lt(x:kO P w H h a o):a<h.objs.size:=by
 cases o with
 |lst xs=>obtain⟨_,_,_,_,e⟩:=x;exact aC e
 |tup xs=>obtain⟨_,_,_,p⟩:=x;exact p.lt
 |dK kvs=>obtain⟨_,_,_,_,o,_,_,e,_⟩:=x;exact aC e
 |dT kvs=>obtain⟨_,_,_,_,o,_,_,e,_⟩:=x;exact aC e
 |set S n=>obtain⟨o,_,_,_,e,_⟩:=x;exact aC e
 |ins C dx fs=>obtain⟨_,_,_,e,_⟩:=x;exact aC e
 |own y=>obtain⟨_,e⟩:=x;exact aC e
 |xd fs=>obtain⟨_,⟨_,_,_,e,_⟩,_⟩:=x;exact aC e
 |V7 lo hi=>obtain⟨_,_,_,e⟩:=x;exact aC e
 |rV ob u=>obtain⟨e,_⟩:=x;exact aC e
 |vN ps=>exact aC (show h.get? a=some _ from x)
 |met f y=>exact aC (show h.get? a=some _ from x)
 |ext φ=>obtain⟨_,⟨_,e⟩,_⟩:=x;exact aC e
 |exc cls=>obtain⟨_,_,e,_⟩:=x;exact aC e
theorem Paired.Ut{α β:Type}{F G:α->β->Prop}{l₁:List α}{l₂:List β}(h:Paired F l₁ l₂)(f:∀a b,F a b->G a b):Paired G l₁ l₂:=by
 induction h with
 |nil=>exact .nil
 |cons r t ih=>exact .cons (f _ _ r) ih
theorem kO.vv(x:kO P w H h a o)(k:∀b u,(b=a∨H b=some (.own a))->h.get? b=some u->h'.get? b=some u)
  (ho:∀b,H b=some (.own a)->H' b=some (.own a)) (ht:∀b xs,H b=some (.tup xs)->H' b=some (.tup xs)):kO P w H' h' a o:=by
 induction o with
 |lst xs=>obtain⟨z,its,n,r,e⟩:=x;exact⟨z,its,n,r,k _ _ (.inl rfl) e⟩
 |tup xs=>obtain⟨z,its,r,ob,e,c⟩:=x;exact⟨z,its,r,ob,k _ _ (.inl rfl) e,c⟩
 |dK kvs=>obtain⟨z,y,vs,r,ob,es,ep,e,c⟩:=x;exact⟨z,y,vs,r,ob,es,ep,k _ _ (.inl rfl) e,c⟩
 |dT kvs=>
  obtain⟨z,y,xs,r,ob,es,ep,e,c⟩:=x;exact⟨z,y,xs,Paired.Ut r λp q z=>⟨z.1,ht _ _ z.2.1,z.2.2⟩,ob,es,ep,k _ _ (.inl rfl) e,c⟩
 |set S n=>obtain⟨ob,es,ep,t,e,c⟩:=x;exact⟨ob,es,ep,t,k _ _ (.inl rfl) e,c⟩
 |ins C dx fs=>
  obtain⟨d,z,ne,e,mA,⟨od,es,ep,e2,c⟩,r⟩:=x;exact⟨ho _ d,z,ne,k _ _ (.inl rfl) e,mA,⟨od,es,ep,k _ _ (.inr d) e2,c⟩,r⟩
 |own y=>obtain⟨ob,e⟩:=x;exact⟨ob,k _ _ (.inl rfl) e⟩
 |xd fs=>obtain⟨mA,⟨od,es,ep,e,c⟩,r⟩:=x;exact⟨mA,⟨od,es,ep,k _ _ (.inl rfl) e,c⟩,r⟩
 |V7 lo hi=>obtain⟨t,u,v,e⟩:=x;exact⟨t,u,v,k _ _ (.inl rfl) e⟩
 |rV ob u ih=>obtain⟨e,q⟩:=x;exact⟨k _ _ (.inl rfl) e,ih q⟩
 |vN ps=>
  have e:h.get? a=some {cls:= .none,data:= .fields ps}:=x;show h'.get? a=some {cls:= .none,data:= .fields ps};exact k a _ (.inl rfl) e
 |met f y=>
  have e:h.get? a=some (fF (.ref f) (.ref y)):=x;show h'.get? a=some (fF (.ref f) (.ref y));exact k a _ (.inl rfl) e
 |exc cls=>obtain⟨o,vs,e,c⟩:=x;exact⟨o,vs,k _ _ (.inl rfl) e,c⟩
 |ext φ=>obtain⟨p,⟨o,e⟩,st⟩:=x;exact⟨st _ _ p λo q=>k _ _ (.inl rfl) q,⟨o,k _ _ (.inl rfl) e⟩,st⟩
theorem tZ.lt(x:tZ P w H h)(e:H a=some o):a<h.objs.size:=(x a o e).lt
theorem tZ.fresh(x:tZ P w H h)(e:h.objs.size<=a):H a=none:=by
 cases q:H a with
 |none=>rfl
 |some u=>exact absurd (ax (x.lt q) e) (bD _)
theorem tZ.kept(x:tZ P w H h)(k:∀b u,h.get? b=some u->h'.get? b=some u):tZ P w H h':=λa o e=>
 (x a o e).vv (λb u _ q=>k b u q) (λ_ q=>q) λ_ _ q=>q
theorem tZ.laid(x:tZ P w H h)(k:∀b u,h.get? b=some u->h'.get? b=some u)(hp:h.objs.size<=a)(new:kO P w (upd H a o) h' a o):tZ P w (upd H a o) h':=λb u e=>by
 have hn:=x.fresh hp;by_cases hb:b=a
 ·subst hb;rw[iZ]at e;cases e;exact new
 ·rw[i4 hb]at e;exact(x b u e).vv (λc v _ q=>k c v q) (λc q=>by rw[i4 (iY q hn)];exact q) λc xs q=>by rw[i4 (iY q hn)];exact q
end
def Rd(H:Hp)(a:Addr)(u:HO):Prop:=H a=some u∨∃o,H a=some (.rV o u)
theorem Rd.ok{P:Program}{w:World}{H:Hp}{h:Heap}{a:Addr}{u:HO}(r:Rd H a u)(x:tZ P w H h):kO P w H h a u:=by
 rcases r with r|⟨o,r⟩
 ·exact x a u r
 ·obtain⟨_,q⟩:=x a _ r;exact q
def Tq:Option HO->Prop
 |some (.lst _)=>True
 |some (.dK _)=>True
 |some (.dT _)=>True
 |some (.set _ _)=>True
 |some (.ins _ _ _)=>True
 |some (.ext _)=>True
 |_=>False
section
variable{P:Program}{w:World}{H:Hp}{h h':Heap}{x e:Addr}{o':HO}
theorem tZ.write(ok:tZ P w H h)(mu:Tq (H x))(he:e=x∨H e=some (.own x))(k:∀b u,b≠e->h.get? b=some u->h'.get? b=some u)(heo:∃u,h'.get? e=some u)
  (new:kO P w (upd H x o') h' x o'):tZ P w (upd H x o') h':=λb u q=>by
 have nown:∀c y,H c=some (.own y)->c≠x:=λc y r z=>by subst z;rw[r]at mu;exact mu
 have ntup:∀c xs,H c=some (.tup xs)->c≠x:=λc xs r z=>by subst z;rw[r]at mu;exact mu
 by_cases hb:b=x
 ·subst hb;rw[iZ]at q;cases q;exact new
 ·rw[i4 hb]at q;by_cases hbe:b=e
  ·have q':H b=some (.own x):=by
    rcases he with z|z
    ·exact absurd (hbe.trans z) hb
    ·rw[hbe];exact z
   rw[q]at q';cases q'
   obtain⟨v,hv⟩:=heo;exact⟨v,by rw[hbe];exact hv⟩
  ·refine(ok b u q).vv (λc v hc r=>k c v ?_ r) (λc r=>by rw[i4 (nown c b r)];exact r) λc xs r=>by rw[i4 (ntup c xs r)];exact r
   rcases hc with rfl|hc
   ·exact hbe
   ·rintro rfl;rcases he with z|z
    ·exact nown c b hc z
    ·rw[hc]at z;cases z;exact hb rfl
end
structure Un(fs ex:List Addr)(H H':Hp)(h h':Heap):Prop where
 keep:∀b o,h.get? b=some o->H b=none->b∉fs->b∉ex->h'.get? b=some o
 slot:∀b o,h.get? b=some o->H b=none->b∈fs->b∉ex->∃sl,h'.get? b=some {o with slots:=sl}
 free:∀b o,h.get? b=some o->H b=none->b∉ex->H' b=none
 there:∀b o,h.get? b=some o->b∉ex->∃o',h'.get? b=some o'
 vx:∀b xs,H b=some (.tup xs)->H' b=some (.tup xs)
 tV:∀b o u,H b=some (.rV o u)->H' b=some (.rV o u)
 vf:∀b ps,H b=some (.vN ps)->∃more,H' b=some (.vN (ps++more))
section
variable{fs fs' ex ex':List Addr}{H H1 H2:Hp}{h h1 h2 h':Heap}{a x e:Addr}{o:HO}
theorem Un.any(u:Un fs ex H H1 h h1){b:Addr}{ob:Obj}(q:h.get? b=some ob)(n:H b=none)(hx:b∉ex):∃sl,h1.get? b=some {ob with slots:=sl}:=by
 by_cases hb:b∈fs
 ·exact u.slot b ob q n hb hx
 ·exact⟨ob.slots,u.keep b ob q n hb hx⟩
theorem Un.kept(k:∀b u,h.get? b=some u->h'.get? b=some u):Un fs ex H H h h':=
 ⟨λb ob q _ _ _=>k b ob q,λb ob q _ _ _=>⟨ob.slots,k b ob q⟩,λ_ _ _ n _=>n,λb ob q _=>⟨ob,k b ob q⟩,λ_ _ q=>q,λ_ _ _ q=>q,λ_ ps q=>⟨#[],by rw[q];simp⟩⟩
theorem Un.refl:Un fs ex H H h h:=Un.kept λ_ _ q=>q
theorem Un.laid(k:∀b u,h.get? b=some u->h'.get? b=some u)(hp:h.objs.size<=a)(hn:H a=none):Un fs ex H (upd H a o) h h' where
 keep:=λb u q _ _ _=>k b u q
 slot:=λb u q _ _ _=>⟨u.slots,k b u q⟩
 free:=λb u q n _=>by rw[i4 (aJ (ax (aC q) hp))];exact n
 there:=λb u q _=>⟨u,k b u q⟩
 vx:=λb xs q=>by rw[i4 (iY q hn)];exact q
 tV:=λb u xs q=>by rw[i4 (iY q hn)];exact q
 vf:=λb ps q=>⟨#[],by rw[i4 (iY q hn),q];simp⟩
theorem Un.write(mu:Tq (H x))(he:e=x∨H e=some (.own x))(k:∀b u,b≠e->h.get? b=some u->h'.get? b=some u)(heo:∃u,h'.get? e=some u):Un fs ex H (upd H x o) h h':=by
 have hx:∀b,H b=none->b≠x:=λb n z=>by subst z;rw[n]at mu;exact mu
 have hb:∀b,H b=none->b≠e:=λb n z=>by
  subst z;rcases he with r|r
  ·exact hx b n r
  ·rw[n]at r;cases r
 have hm:∀b u,H b=some u->¬Tq (some u)->b≠x:=λb u q nm z=>by subst z;rw[q]at mu;exact nm mu
 refine⟨λb u q n _ _=>k b u (hb b n) q,λb u q n _ _=>⟨u.slots,k b u (hb b n) q⟩,λb u q n _=>by rw[i4 (hx b n)];exact n,λb u q _=> ?_,
  λb xs q=>by rw[i4 (hm b _ q λz=>z)];exact q,λb u xs q=>by rw[i4 (hm b _ q λz=>z)];exact q,λb ps q=>⟨#[],by rw[i4 (hm b _ q λz=>z),q];simp⟩⟩
 by_cases hbe:b=e
 ·subst hbe;exact heo
 ·exact⟨u,k b u hbe q⟩
end
noncomputable def OP (h:Heap) (H:Hp):List Addr:=(aW h.objs.size).filter λa=>(H a).isSome
noncomputable def Fx (h:Heap) (H:Hp):Heap:=eZ h (OP h H)
theorem LC(h:Heap)(H:Hp):(Fx h H).objs.size=h.objs.size:=PySem.W.hideAll_size _ _
theorem Ni{h:Heap}{H:Hp}{b:Addr}{o:Obj}(e:h.get? b=some o)(n:H b=none):(Fx h H).get? b=some o:=
 dU _ e λhm=>by
  have q:(H b).isSome=true:=(List.mem_filter.mp hm).2;rw[n]at q;simp at q
theorem P5{h:Heap}{H:Hp}{b:Addr}{o:Obj}(e:(Fx h H).get? b=some o):h.get? b=some o/\H b=none:=by
 have e':h.get? b=some o:=fz (OP h H) e;refine⟨e',?_⟩
 cases q:H b with
 |none=>rfl
 |some x=>
  have hm:b∈OP h H:=List.mem_filter.mpr ⟨List.mem_range.mpr (aC e'),by simp[q]⟩;have z:(Fx h H).get? b=none:=PySem.W.hideAll_none (OP h H) hm;rw[z]at e;cases e
noncomputable def OW (g h:Heap) (L:Addr):List (Addr×Obj):=(aW h.objs.size).filterMap λa=>if a=L∨(g.get? a).isSome=true then none else(h.get? a).map λo=>(a,o)
noncomputable def rest (g h:Heap) (L d:Addr):List (Addr×Obj):=(OW g h L).filter λp=>decide (p.1≠d)
def BMain(mg:Str->Option Value)(h:Heap):Prop:=∃bm ob,mg "__builtins__"=some (.ref bm)/\bm≠builtinsNs/\h.get? bm=some ob/\ob.cls= .type "module"/\ob.dict=some builtinsNs/\ob.data= .plain
structure Mod(K:ah)(mg:Str->Option Value)(base:Heap):Prop where
 Ul:K.In base
 glob:base.Ns mainGlobals mg
 blt:∃mb,base.Ns builtinsNs mb/\∀x:Str,x≠"__name__"->mb x=bootBuiltins x
 nolimit:base.NoLimit
 bmain:BMain mg base
set_option genInjectivity false in
structure Cx where
 prog:Program
 w:World
 K:ah
 mg:Str->Option Value
 base:Heap
 A:Around
 N:List Str
 s₀:Shared
 H₀:Hp
 env:Env
 outer:List Env
 stack:List Env
 ex:List Addr
 fn:Str->Bool
 calm:Bool
 pn:List (Addr×Obj)
 xe:Value->Shared->Prop
noncomputable def B0 (l:List Env):List Addr:=l.filterMap (·.frame)
noncomputable abbrev Cx.fs (X:Cx):List Addr:=B0 X.outer
def Vb(sc:Scope)(x:Str):Prop:=sc.names.lookup x=some .local∨sc.names.lookup x=some .cell∨sc.names.lookup x=some .free
def Loc(sc:Scope)(x:Str):Prop:=sc.names.lookup x=some .local∨sc.names.lookup x=some .cell
def Look(env:Env)(h:Heap)(m:Str->Option Value)(x:Str)(u:Value):Prop:=
 (env.kindOf x=some .local/\m x=some u)∨((env.kindOf x=some .cell∨env.kindOf x=some .free)/\∃c,env.cells.lookup x=some c/\h.IsCell c (some u))
structure Cx.Ok(X:Cx):Prop where
 mod:Mod X.K X.mg X.base
 kind:X.env.scope.kind= .function
 glob:X.env.globals=mainGlobals
 blt:X.env.builtins=builtinsNs
 above:X.s₀.heap.objs.size<=X.env.locals
 inj:∀x y c,X.env.cells.lookup x=some c->X.env.cells.lookup y=some c->x=y
 has:∀x,(X.env.kindOf x=some .cell∨X.env.kindOf x=some .free)->∃c,X.env.cells.lookup x=some c
 Tf:∀x c,X.fn x=true->X.env.cells.lookup x=some c->X.s₀.heap.objs.size<=c
 hd:X.calm=true->X.A.handled=none
 frames:X.A.frames=some X.stack
 UY:X.stack=X.outer∨(X.stack=X.env::X.outer/\X.env.frame=some X.env.locals)
 VF:∀b∈X.ex,b≠X.env.locals/\∀x c,X.env.cells.lookup x=some c->c≠b
 bs:∀b o,X.base.get? b=some o->X.s₀.heap.get? b=some o/\X.H₀ b=none
 OO:X.base.objs.size<=X.s₀.heap.objs.size
 CC:∀b o,X.base.get? b=some o->b∉X.ex
 M_:∀b∈X.ex,b∉X.fs
 wR:X.s₀.heap.FunFrames X.base X.outer
 PD:∀b∈X.fs,X.H₀ b=none
structure Inv(X:Cx)(pins:List (Addr×Obj))(σ:List (Option V))(H:Hp)(s:Shared):Prop where
 ok:X.Ok
 os:s.os=X.s₀.os
 bare:AllBare s.gens
 base:Un X.fs X.ex X.H₀ H X.s₀.heap s.heap
 loc:∃m,s.heap.Ns X.env.locals m/\∀(i:Nat) (x:Str) (v:V),X.N[i]? =some x->σ[i]? =some (some v)->Vb X.env.scope x->∃u,RelV v u/\Look X.env s.heap m x u
 cell:∀x c,X.env.cells.lookup x=some c->∃v,s.heap.IsCell c v
 free:H X.env.locals=none
 o6:∀x c,X.env.cells.lookup x=some c->H c=none
 pin:∀p∈X.pn++pins,s.heap.get? p.1=some p.2/\H p.1=none/\p.1≠X.env.locals/\p.1∉X.fs/\∀v,p.2.data≠ .cell v
 j5:tZ X.prog X.w H s.heap
 len:σ.length=X.N.length
section
variable{X:Cx}{pins:List (Addr×Obj)}{σ:List (Option V)}{H H':Hp}{s:Shared}{h':Heap}
theorem Cx.Ok.VW(ok:X.Ok){b:Addr}{o:Obj}(e:X.base.get? b=some o):b∉X.fs:=λhb=>by
 have:=(ok.wR.mem hb).1;rw[e]at this;cases this
theorem Inv.bs(I:Inv X pins σ H s):∀b o,X.base.get? b=some o->s.heap.get? b=some o/\H b=none:=λb o e=>
 ⟨I.base.keep b o (I.ok.bs b o e).1 (I.ok.bs b o e).2 (I.ok.VW e) (I.ok.CC b o e),I.base.free b o (I.ok.bs b o e).1 (I.ok.bs b o e).2 (I.ok.CC b o e)⟩
theorem Inv.bk(I:Inv X pins σ H s):∀b o,X.base.get? b=some o->s.heap.get? b=some o:=λb o e=>(I.bs b o e).1
theorem Inv.mod(I:Inv X pins σ H s):Mod X.K X.mg X.base:=I.ok.mod
theorem Inv.GW(I:Inv X pins σ H s):X.K.In s.heap:=I.ok.mod.Ul.keeps I.bk
theorem Inv.lt(I:Inv X pins σ H s):X.env.locals<s.heap.objs.size:=let ⟨_,hn,_⟩:=I.loc;hn.lt
theorem Inv.sz(I:Inv X pins σ H s):X.s₀.heap.objs.size<=s.heap.objs.size:=av I.ok.above (dM I.lt)
theorem Inv.VX(I:Inv X pins σ H s){a:Addr}(h:s.heap.objs.size<=a):a∉X.fs:=λhb=>by
 obtain⟨_,o,ho,_⟩:=I.ok.wR.mem hb;exact absurd (ax (aC ho) (av I.sz h)) (bD _)
theorem Inv.Ry(I:Inv X pins σ H s):∀x c,X.env.cells.lookup x=some c->c≠X.env.locals:=λx c e z=>by
 obtain⟨v,o,ho,hd⟩:=I.cell x c e;obtain⟨m,⟨o',es,ep,ho',hd',_⟩,_⟩:=I.loc;rw[z,ho']at ho;cases ho;rw[hd']at hd;cases hd
theorem Inv.wR(I:Inv X pins σ H s):s.heap.FunFrames X.base X.outer:=by
 have all:∀(l:List Env),(∀b∈B0 l,b∈X.fs)->X.s₀.heap.FunFrames X.base l->s.heap.FunFrames X.base l:=by
  intro l
  induction l with
  |nil=>intro _ _;trivial
  |cons env r ih=>
   intro hs hl;obtain⟨hk,⟨L,o,hf,hn,ho,hd⟩,hr⟩:=hl;have hL:L∈X.fs:=hs L (by unfold B0;rw[dS,hf];exact aq);obtain⟨sl,e⟩:=I.base.slot L o ho (I.ok.PD L hL) hL λz=>I.ok.M_ L z hL;exact⟨hk,⟨L,_,hf,hn,e,hd⟩,ih (λb hb=>hs b (by unfold B0;rw[dS,hf];exact ai _ hb)) hr⟩
 exact all X.outer (λ_ hb=>hb) I.ok.wR
theorem Inv.stack(I:Inv X pins σ H s):s.heap.FunFrames X.base X.stack:=by
 rcases I.ok.UY with e|⟨e,hf⟩
 ·rw[e];exact I.wR
 ·rw[e];obtain⟨m,hn,_⟩:=I.loc;refine .cons (by rw[I.ok.kind];decide) hf hn ?_ I.wR;exact Heap.get?_none_of_le (av I.ok.OO I.ok.above)
theorem Inv.GN(I:Inv X pins σ H s):∀b∈B0 X.stack,b∈X.env.locals::X.fs:=λb hb=>by
 rcases I.ok.UY with e|⟨e,hf⟩
 ·rw[e]at hb;exact ai _ hb
 ·rw[e]at hb;unfold B0 at hb;rw[dS,hf]at hb;exact hb
theorem Inv.BL(I:Inv X pins σ H s):∀b∈B0 X.stack,H b=none:=λb hb=>by
 rcases List.mem_cons.mp (I.GN b hb) with e|hb
 ·rw[e];exact I.free
 ·obtain⟨_,o,ho,_⟩:=I.ok.wR.mem hb;exact I.base.free b o ho (I.ok.PD b hb) λz=>I.ok.M_ b z hb
theorem Inv.step{g':Array GenState}{t':Nat}{d':Drawn}{ch:List Addr}(I:Inv X pins σ H s)
  (hch:∀b∈ch,(b∈X.ex∨X.s₀.heap.objs.size<=b)/\b≠X.env.locals/\(∀x c,X.env.cells.lookup x=some c->c≠b)/\∀p∈X.pn++pins,p.1≠b)
  (keep:∀b o,b≠X.env.locals->b∉X.fs->b∉ch->s.heap.get? b=some o->H b=none->h'.get? b=some o)
  (slot:∀b o,b≠X.env.locals->b∈X.fs->b∉ch->s.heap.get? b=some o->H b=none->∃sl,h'.get? b=some {o with slots:=sl}) (free:∀b o,b∉ch->s.heap.get? b=some o->H b=none->H' b=none)
  (there:∀b o,b∉ch->s.heap.get? b=some o->∃o',h'.get? b=some o')
  (vx:∀b xs,H b=some (.tup xs)->H' b=some (.tup xs)) (tV:∀b o u,H b=some (.rV o u)->H' b=some (.rV o u)) (vf:∀b ps,H b=some (.vN ps)->∃more,H' b=some (.vN (ps++more)))
  (ns:∀m,s.heap.Ns X.env.locals m->h'.Ns X.env.locals m) (j5:tZ X.prog X.w H' h') (hg:AllBare g'):
  Inv X pins σ H' {s with heap:=h',gens:=g',drawn:=d',toks:=t'}:=by
 have neL:∀b o,X.s₀.heap.get? b=some o->b≠X.env.locals:=λb o e=>aJ (ax (aC e) I.ok.above);have neC:∀b o,X.s₀.heap.get? b=some o->b∉X.ex->b∉ch:=λb o e hx hb=>by
  rcases (hch b hb).1 with z|z
  ·exact hx z
  ·exact absurd (ax (aC e) z) (bD _)
 have cellK:∀x c,X.env.cells.lookup x=some c->∀v,s.heap.IsCell c v->h'.IsCell c v:=λx c e v ⟨o,ho,hd⟩=>by
  have nch:c∉ch:=λz=>(hch c z).2.2.1 x c e rfl;by_cases hc:c∈X.fs
  ·obtain⟨sl,q⟩:=slot c o (I.Ry x c e) hc nch ho (I.o6 x c e);exact⟨_,q,hd⟩
  ·exact⟨o,keep c o (I.Ry x c e) hc nch ho (I.o6 x c e),hd⟩
 refine⟨I.ok,I.os,hg,⟨λb o e n hb hx=> ?_,λb o e n hb hx=> ?_,λb o e n hx=> ?_,λb o e hx=> ?_,λb xs e=>vx b xs (I.base.vx b xs e),λb o xs e=>tV b o xs (I.base.tV b o xs e),λb ps e=> ?_⟩,?_,λx c e=> ?_,?_,λx c e=> ?_,λp hp=> ?_,j5,I.len⟩
 ·exact keep b o (neL b o e) hb (neC b o e hx) (I.base.keep b o e n hb hx) (I.base.free b o e n hx)
 ·obtain⟨sl,e1⟩:=I.base.slot b o e n hb hx;obtain⟨sl',e2⟩:=slot b _ (neL b o e) hb (neC b o e hx) e1 (I.base.free b o e n hx);exact⟨sl',e2⟩
 ·obtain⟨o',e1⟩:=I.base.there b o e hx;exact free b o' (neC b o e hx) e1 (I.base.free b o e n hx)
 ·obtain⟨o',e1⟩:=I.base.there b o e hx;exact there b o' (neC b o e hx) e1
 ·obtain⟨m1,e1⟩:=I.base.vf b ps e;obtain⟨m2,e2⟩:=vf b _ e1;exact⟨m1++m2,by rw[e2,gW]⟩
 ·obtain⟨m,hn,hl⟩:=I.loc;refine⟨m,ns m hn,λi x v e1 e2 e3=> ?_⟩;obtain⟨u,r,l⟩:=hl i x v e1 e2 e3;refine⟨u,r,?_⟩;rcases l with l|⟨k,c,e,z⟩
  ·exact .inl l
  ·exact .inr ⟨k,c,e,cellK x c e _ z⟩
 ·obtain⟨v,z⟩:=I.cell x c e;exact⟨v,cellK x c e v z⟩
 ·obtain⟨m,⟨o,_,_,ho,_⟩,_⟩:=I.loc;exact free _ o (λz=>(hch _ z).2.1 rfl) ho I.free
 ·obtain⟨v,o,ho,hd⟩:=I.cell x c e;exact free c o (λz=>(hch c z).2.2.1 x c e rfl) ho (I.o6 x c e)
 ·obtain⟨e,n,ne,nf,d⟩:=I.pin p hp;have nch:p.1∉ch:=λz=>(hch p.1 z).2.2.2 p hp rfl;exact⟨keep p.1 p.2 ne nf nch e n,free p.1 p.2 nch e n,ne,nf,d⟩
theorem Inv.un{t':Nat}(I:Inv X pins σ H s)(u:Un X.fs [] H H' s.heap h')(j5:tZ X.prog X.w H' h'):Inv X pins σ H' {s with heap:=h',toks:=t'}:=by
 obtain⟨m,⟨o,es,ep,ho,r⟩,_⟩:=id I.loc;obtain⟨sl,hL⟩:=u.any ho I.free (by simp);exact I.step (g':=s.gens) (d':=s.drawn) (ch:=[]) (λ_ z=>nomatch z) (λb o _ hb _ e n=>u.keep b o e n hb (by simp)) (λb o _ hb _ e n=>u.slot b o e n hb (by simp)) (λb o _ e n=>u.free b o e n (by simp)) (λb o _ e=>u.there b o e (by simp)) u.vx u.tV u.vf (λm' hm=>by
  obtain⟨o',es',ep',ho',r'⟩:=hm;rw[ho]at ho';cases ho'
  exact⟨_,es',ep',hL,r'⟩) j5 I.bare
theorem Inv.call{g':Array GenState}{t':Nat}{d':Drawn}{ch:List Addr}(I:Inv X pins σ H s)(u:Un (B0 X.stack) ch H H' s.heap h')(j5:tZ X.prog X.w H' h')(hg:AllBare g')
  (hch:∀b∈ch,(b∈X.ex∨X.s₀.heap.objs.size<=b)/\b≠X.env.locals/\(∀x c,X.env.cells.lookup x=some c->c≠b)/\∀p∈X.pn++pins,p.1≠b):
  Inv X pins σ H' {s with heap:=h',gens:=g',drawn:=d',toks:=t'}:=by
 obtain⟨m,⟨o,es,ep,ho,r⟩,_⟩:=id I.loc;obtain⟨sl,hL⟩:=u.any ho I.free λz=>(hch _ z).2.1 rfl;exact I.step (ch:=ch) hch (λb o hL hb hc e n=>u.keep b o e n (λz=>(List.mem_cons.mp (I.GN b z)).elim hL hb) hc) (λb o _ _ hc e n=>u.any e n hc) (λb o hc e n=>u.free b o e n hc) (λb o hc e=>u.there b o e hc) u.vx u.tV u.vf (λm' hm=>by
  obtain⟨o',es',ep',ho',r'⟩:=hm;rw[ho]at ho';cases ho'
  exact⟨_,es',ep',hL,r'⟩) j5 hg
theorem Inv.turned{t':Nat}{it:Addr}(I:Inv X pins σ H s)(k:∀b o,b≠it->s.heap.get? b=some o->h'.get? b=some o)(hn:H it=none)(hL:it≠X.env.locals)
  (h1:it∈X.ex∨X.s₀.heap.objs.size<=it) (h2:∀x c,X.env.cells.lookup x=some c->c≠it) (h3:∀p∈X.pn++pins,p.1≠it):Inv X pins σ H {s with heap:=h',toks:=t'}:=by
 have nit:∀b u,H b=some u->b≠it:=λb u e z=>by rw[z,hn]at e;cases e
 refine I.step (g':=s.gens) (d':=s.drawn) (ch:=[it]) (λb hb=> ?_) (λb o _ _ hc e _=>k b o (λz=>hc (by simp[z])) e) (λb o _ _ hc e _=>⟨o.slots,k b o (λz=>hc (by simp[z])) e⟩) (λ_ _ _ _ n=>n)
  (λb o hc e=>⟨o,k b o (λz=>hc (by simp[z])) e⟩) (λ_ _ e=>e) (λ_ _ _ e=>e) (λb ps e=>⟨#[],by rw[e];simp⟩) (λm hm=> ?_) (λb u e=> ?_) I.bare
 ·have e:b=it:=by simpa using hb
  subst e;exact⟨h1,hL,h2,h3⟩
 ·obtain⟨o,es,ep,ho,r⟩:=hm;exact⟨o,es,ep,k _ o (aj hL) ho,r⟩
 ·refine(I.j5 b u e).vv (λc v hc q=>k c v ?_ q) (λ_ q=>q) λ_ _ q=>q;rcases hc with z|z
  ·rw[z];exact nit b u e
  ·exact nit c _ z
theorem Inv.tok(I:Inv X pins σ H s)(t:Nat):Inv X pins σ H {s with toks:=t}:=I.un (h':=s.heap) (t':=t) Un.refl I.j5
theorem Inv.kept{t':Nat}(I:Inv X pins σ H s)(k:∀b u,s.heap.get? b=some u->h'.get? b=some u):Inv X pins σ H {s with heap:=h',toks:=t'}:=I.un (Un.kept k) (I.j5.kept k)
theorem Inv.laid{a:Addr}{o:HO}{t':Nat}(I:Inv X pins σ H s)(k:∀b u,s.heap.get? b=some u->h'.get? b=some u)(hp:s.heap.objs.size<=a)(new:kO X.prog X.w (upd H a o) h' a o):
  Inv X pins σ (upd H a o) {s with heap:=h',toks:=t'}:=I.un (Un.laid k hp (I.j5.fresh hp)) (I.j5.laid k hp new)
theorem Inv.write{x e:Addr}{o:HO}{t':Nat}(I:Inv X pins σ H s)(mu:Tq (H x))(he:e=x∨H e=some (.own x))(k:∀b u,b≠e->s.heap.get? b=some u->h'.get? b=some u)(heo:∃u,h'.get? e=some u)
  (new:kO X.prog X.w (upd H x o) h' x o):Inv X pins σ (upd H x o) {s with heap:=h',toks:=t'}:=I.un (Un.write mu he k heo) (I.j5.write mu he k heo new)
theorem Inv.Af{pins':List (Addr×Obj)}(I:Inv X pins σ H s)(h:∀p∈pins',s.heap.get? p.1=some p.2/\H p.1=none/\p.1≠X.env.locals/\p.1∉X.fs/\∀v,p.2.data≠ .cell v):Inv X pins' σ H s:=
 ⟨I.ok,I.os,I.bare,I.base,I.loc,I.cell,I.free,I.o6,λp hp=>(List.mem_append.mp hp).elim (λz=>I.pin p (aZ _ z)) (h p),I.j5,I.len⟩
theorem HL{N:List Str}(hN:N.Nodup){i j:Nat}{x:Str}(a:N[i]? =some x)(b:N[j]? =some x):i=j:=by
 obtain⟨h1,e1⟩:=List.getElem?_eq_some_iff.mp a;obtain⟨h2,e2⟩:=List.getElem?_eq_some_iff.mp b;exact(List.getElem_inj hN).mp (e1.trans e2.symm)
theorem EZ{M:Model}{A:Around}{E:Value->Shared->Prop}{i:Nat}{x:Str}{v:V}{u:Value}{Q:Unit->Shared->Prop}(I:Inv X pins σ H s)(hN:X.N.Nodup)(hi:X.N[i]? =some x)(hx:Loc X.env.scope x)(r:RelV v u)
  (h:∀s',Inv X pins (σ.set i (some v)) H s'->(∃a,dY a s.heap s'.heap/\(a=X.env.locals∨X.env.cells.lookup x=some a))->Q () s') (hf:X.fn x=true∨X.env.scope.names.lookup x=some .local:=by first|exact .inl rfl|exact .inr rfl|assumption):wpAny M A (storeName X.env x u) Q E s:=by
 obtain⟨m,hn,hl⟩:=id I.loc;have hcls:(X.env.scope.kind== .class ||(X.env.scope.kind== .module&&X.env.locals !=X.env.globals))=false:=by rw[I.ok.kind];rfl
 have hiσ:i<σ.length:=by rw[I.len];exact(List.getElem?_eq_some_iff.mp hi).1
 have Ry:=I.Ry;have tracked:∀{a:Addr} {h':Heap},(∃o,s.heap.get? a=some o/\H a=none)->dY a s.heap h'->tZ X.prog X.w H h':=λ{a h'} ha hs b ob e=>by
  obtain⟨_,_,hfree⟩:=ha;refine(I.j5 b ob e).vv (λc w' hc q=>(hs.2 c ?_).trans q) (λ_ q=>q) λ_ _ q=>q;rintro rfl;rcases hc with rfl|hc
  ·rw[hfree]at e;cases e
  ·rw[hfree]at hc;cases hc
 rcases hx with hk|hk
 ·refine wpAny_storeName_local hk hn (λh' hn' hs=> ?_) hcls;obtain⟨oL,_,_,hoL,_⟩:=id hn;refine h _ ⟨I.ok,I.os,I.bare,⟨λb o e n hb hx=> ?_,λb o e n hb hx=> ?_,I.base.free,λb o e hx=> ?_,I.base.vx,I.base.tV,I.base.vf⟩,⟨_,hn',λj y v' e1 e2 e3=> ?_⟩,λy c e=> ?_,I.free,I.o6,λp hp=> ?_,tracked ⟨oL,hoL,I.free⟩ hs,by simpa using I.len⟩ ⟨_,hs,.inl rfl⟩
  ·exact(hs.2 b (aJ (ax (aC e) I.ok.above))).trans (I.base.keep b o e n hb hx)
  ·obtain⟨sl,e1⟩:=I.base.slot b o e n hb hx;exact⟨sl,(hs.2 b (aJ (ax (aC e) I.ok.above))).trans e1⟩
  ·obtain⟨o',e1⟩:=I.base.there b o e hx;exact⟨o',(hs.2 b (aJ (ax (aC e) I.ok.above))).trans e1⟩
  ·by_cases hj:j=i
   ·subst hj;rw[hi]at e1;cases e1
    rw[gb hiσ]at e2
    cases e2
    exact⟨u,r,.inl ⟨hk,by simp⟩⟩
   ·rw[gI (aj hj)]at e2;obtain⟨u',r',q⟩:=hl j y v' e1 e2 e3;refine⟨u',r',?_⟩;rcases q with ⟨k,e⟩|⟨k,c,e,z⟩
    ·refine .inl ⟨k,?_⟩;have:y≠x:=λe=>hj (HL hN e1 (e▸hi));simp[this,e]
    ·exact .inr ⟨k,c,e,z.sameBut hs (Ry y c e)⟩
  ·obtain⟨w',z⟩:=I.cell y c e;exact⟨w',z.sameBut hs (Ry y c e)⟩
  ·obtain⟨e,n,ne,nf,d⟩:=I.pin p hp;exact⟨(hs.2 p.1 ne).trans e,n,ne,nf,d⟩
 ·have hfn:X.fn x=true:=by
   rcases hf with z|z
   ·exact z
   ·rw[z]at hk;cases hk
  obtain⟨c,hc⟩:=I.ok.has x (.inl hk);obtain⟨w',z⟩:=I.cell x c hc;refine wpAny_storeName_cell I.ok.kind hk hc z (λh' hc' hs=> ?_);obtain⟨oc,hoc,hocd⟩:=id z;refine h {s with heap:=h'} ⟨I.ok,I.os,I.bare,⟨λb o e n hb hx=> ?_,λb o e n hb hx=> ?_,I.base.free,λb o e hx=> ?_,I.base.vx,I.base.tV,I.base.vf⟩,⟨m,hn.sameBut hs (aj (Ry x c hc)),λj y v' e1 e2 e3=> ?_⟩,λy c' e=> ?_,I.free,I.o6,λp hp=> ?_,tracked ⟨oc,hoc,I.o6 x c hc⟩ hs,by simpa using I.len⟩ ⟨c,hs,.inr hc⟩
  ·exact(hs.2 b (aJ (ax (aC e) (I.ok.Tf x c hfn hc)))).trans (I.base.keep b o e n hb hx)
  ·obtain⟨sl,e1⟩:=I.base.slot b o e n hb hx;exact⟨sl,(hs.2 b (aJ (ax (aC e) (I.ok.Tf x c hfn hc)))).trans e1⟩
  ·obtain⟨o',e1⟩:=I.base.there b o e hx;exact⟨o',(hs.2 b (aJ (ax (aC e) (I.ok.Tf x c hfn hc)))).trans e1⟩
  ·by_cases hj:j=i
   ·subst hj;rw[hi]at e1;cases e1
    rw[gb hiσ]at e2
    cases e2
    exact⟨u,r,.inr ⟨.inl hk,c,hc,hc'⟩⟩
   ·rw[gI (aj hj)]at e2;obtain⟨u',r',q⟩:=hl j y v' e1 e2 e3;refine⟨u',r',?_⟩;rcases q with q|⟨k,c',e,z'⟩
    ·exact .inl q
    ·refine .inr ⟨k,c',e,z'.sameBut hs ?_⟩;rintro rfl;exact hj (HL hN e1 (I.ok.inj _ _ _ e hc▸hi))
  ·by_cases hcc:c'=c
   ·subst hcc;exact⟨_,hc'⟩
   ·obtain⟨w2,z2⟩:=I.cell y c' e;exact⟨w2,z2.sameBut hs hcc⟩
  ·obtain⟨e,n,ne,nf,d⟩:=I.pin p hp;refine⟨(hs.2 p.1 ?_).trans e,n,ne,nf,d⟩;intro q;rw[q,hoc]at e;have q':oc=p.2:=aM e;exact d w' (by rw[←q'];exact hocd)
theorem Iu{M:Model}{A:Around}{E:Value->Shared->Prop}{i:Nat}{x:Str}{v:V}{u:Value}{Q:Unit->Shared->Prop}(I:Inv X pins σ H s)(hN:X.N.Nodup)(hi:X.N[i]? =some x)(hx:Loc X.env.scope x)(r:RelV v u)
  (h:∀s',Inv X pins (σ.set i (some v)) H s'->Q () s') (hf:X.fn x=true∨X.env.scope.names.lookup x=some .local:=by first|exact .inl rfl|exact .inr rfl|assumption):wpAny M A (storeName X.env x u) Q E s:=
 EZ I hN hi hx r (λs' I' _=>h s' I') hf
theorem Inv.T9{s':Shared}{ch:List Addr}(I:Inv X pins σ H s)(ho:s'.os=s.os)(u:Un (B0 X.stack) ch H H' s.heap s'.heap)(j5:tZ X.prog X.w H' s'.heap)(hg:AllBare s'.gens)
  (hch:∀b∈ch,(b∈X.ex∨X.s₀.heap.objs.size<=b)/\b≠X.env.locals/\(∀x c,X.env.cells.lookup x=some c->c≠b)/\∀p∈X.pn++pins,p.1≠b):Inv X pins σ H' s':=by
 obtain⟨h',g',d',t',o'⟩:=s';have e:o'=s.os:=ho;subst e;exact I.call (g':=g') (t':=t') (d':=d') u j5 hg hch
end
abbrev XK:=Value->Option Addr->Hp->Prop
abbrev St:=List (Option V)
abbrev VK:=V->Hp->Prop
abbrev TE:=St->Hp->VK->Prop
abbrev TT:=St->Hp->(Bool->Hp->Prop)->Prop
abbrev TA:=St->Hp->(List V->Hp->Prop)->Prop
structure Ends where
 nx:St->Hp->Prop
 rt:VK
 bk:St->Hp->Prop:=λ_ _=>False
 ct:St->Hp->Prop:=λ_ _=>False
abbrev TS:=Ends->St->Hp->Prop
def EP(X:Cx)(pins:List (Addr×Obj))(σ:St)(Q:VK)(u:Value)(s':Shared):Prop:=∃v H',Inv X pins σ H' s'/\RelV v u/\Q v H'
def TP(X:Cx)(pins:List (Addr×Obj))(σ:St)(Q:Bool->Hp->Prop)(b:Bool)(s':Shared):Prop:=∃H',Inv X pins σ H' s'/\Q b H'
def AP(X:Cx)(pins:List (Addr×Obj))(σ:St)(Q:List V->Hp->Prop)(us:List Value)(s':Shared):Prop:=∃vs H',Inv X pins σ H' s'/\Vals vs us/\Q vs H'
def SP(X:Cx)(pins:List (Addr×Obj))(D:Ends)(f:Flow)(s':Shared):Prop:=
 match f with
 | .next=>∃σ' H',Inv X pins σ' H' s'/\D.nx σ' H'
 | .brk=>∃σ' H',Inv X pins σ' H' s'/\D.bk σ' H'
 | .cont=>∃σ' H',Inv X pins σ' H' s'/\D.ct σ' H'
 | .ret u=>∃v σ' H',Inv X pins σ' H' s'/\RelV v u/\D.rt v H'
def PE(X:Cx)(e:Expr)(t:TE):Prop:=
 ∀(pins:List (Addr×Obj)) (s:Shared) (σ:St) (H:Hp) (Q:VK),Inv X pins σ H s->t σ H Q->wpAny (model X.prog X.w) X.A (eval e X.env) (EP X pins σ Q) X.xe s
def PT(X:Cx)(e:Expr)(t:TT):Prop:=
 ∀(pins:List (Addr×Obj)) (s:Shared) (σ:St) (H:Hp) (Q:Bool->Hp->Prop),Inv X pins σ H s->t σ H Q->wpAny (model X.prog X.w) X.A (isTrue e X.env (eval e X.env)) (TP X pins σ Q) X.xe s
def PW(X:Cx)(e:Expr)(t:TT):Prop:=
 ∀(whole:Sem Value) (pins:List (Addr×Obj)) (s:Shared) (σ:St) (H:Hp) (Q:Bool->Hp->Prop),Inv X pins σ H s->t σ H Q->wpAny (model X.prog X.w) X.A (isTrue e X.env whole) (TP X pins σ Q) X.xe s
theorem PW.pt{X:Cx}{e:Expr}{t:TT}(h:PW X e t):PT X e t:=h _
def PA(X:Cx)(es:List Expr)(t:TA):Prop:=
 ∀(pos:Pos) (pins:List (Addr×Obj)) (s:Shared) (σ:St) (H:Hp) (Q:List V->Hp->Prop),Inv X pins σ H s->t σ H Q->wpAny (model X.prog X.w) X.A (spliced (backTo pos (starEach es X.env))) (AP X pins σ Q) X.xe s
def PS(X:Cx)(st:Stmt)(t:TS):Prop:=
 ∀(pins:List (Addr×Obj)) (s:Shared) (σ:St) (H:Hp) (D:Ends),Inv X pins σ H s->t D σ H->wpAny (model X.prog X.w) X.A (exec st X.env) (SP X pins D) X.xe s
def G1(X:Cx)(st:List Stmt)(t:TS):Prop:=
 ∀(pins:List (Addr×Obj)) (s:Shared) (σ:St) (H:Hp) (D:Ends),Inv X pins σ H s->t D σ H->wpAny (model X.prog X.w) X.A (execs st X.env) (SP X pins D) X.xe s
theorem lQ{α:Type}{t:Sem α}{Q Q':α->Shared->Prop}{M:Model}{A:Around}{E:Value->Shared->Prop}{s:Shared}(h:wpAny M A t Q E s)(hQ:∀a s,Q a s->Q' a s):wpAny M A t Q' E s:=wpAny_mono h hQ λ_ _ x=>x
section
variable{X:Cx}
theorem bin{a b:Expr}{ta tb:TE}(ha:PE X a ta)(hb:PE X b tb){pins:List (Addr×Obj)}{s:Shared}{σ:St}{H:Hp}{R:V->V->Hp->Prop}(I:Inv X pins σ H s)(h:ta σ H λx H1=>tb σ H1 λy H2=>R x y H2)
  {α:Type} {Q:α->Shared->Prop} {f:Value->Value->Sem α}
  (hf:∀v u s2 x y H2,Inv X pins σ H2 s2->RelV x v->RelV y u->R x y H2->wpAny (model X.prog X.w) X.A (f v u) Q X.xe s2):
  wpAny (model X.prog X.w) X.A (eval a X.env) (λv s₁=>wpAny (model X.prog X.w) X.A (eval b X.env) (λu s₂=>wpAny (model X.prog X.w) X.A (f v u) Q X.xe s₂) X.xe s₁) X.xe s:=by
 refine lQ (ha pins s σ H _ I h) λv s1=>qh λx H1 I1 r1 q1=> ?_;refine lQ (hb pins s1 σ H1 _ I1 q1) λu s2=>qh λy H2 I2 r2 q2=> ?_;exact hf v u s2 x y H2 I2 r1 r2 q2
def Wj(i:Nat):TE:=λσ H Q=>∃v,σ[i]? =some (some v)/\Q v H
def tC(v:V):TE:=λ_ H Q=>Q v H
theorem SE{i:Nat}{x:Str}{pos:Pos}(hN:X.N[i]? =some x)(hv:Vb X.env.scope x)(hd:(x==("__debug__":Str))=false:=by decide)(hcd:(x==("__classdict__":Str))=false:=by decide):PE X (.Name x pos) (Wj i):=by
 intro pins s σ H Q I h;obtain⟨v,e,h⟩:=h;obtain⟨m,hn,hl⟩:=I.loc;obtain⟨u,r,l⟩:=hl i x v hN e hv;have fin:EP X pins σ Q u s:=⟨v,H,I,r,h⟩;rcases l with ⟨hk,hm⟩|⟨hk,c,hc,hcell⟩
 ·exact wpAny_Name (wpAny_loadName_local I.ok.kind hk hn hm fin) hd
 ·rcases hk with hk|hk
  ·exact wpAny_Name (wpAny_loadName_cell I.ok.kind hk hc hcell fin) hd
  ·exact wpAny_Name (wpAny_loadName_free I.ok.kind hk hc hcell fin hcd) hd
theorem Su{i j pos}:PE X (.Constant (.int i) j pos) (tC (.int i)):=λ_ _ _ H _ I h=>wpAny_Constant_int ⟨.int i,H,I.tok _,⟨_,rfl⟩,h⟩
theorem UL{b j pos}:PE X (.Constant (.bool b) j pos) (tC (.bl b)):=λ_ _ _ H _ I h=>Constant_bool ⟨.bl b,H,I,rfl,h⟩
theorem Sx{j pos}:PE X (.Constant .none j pos) (tC .kr):=λ_ _ _ H _ I h=>Constant_none ⟨.kr,H,I,rfl,h⟩
theorem SA{x j pos}:PE X (.Constant (.str x) j pos) (tC (.str x)):=λ_ _ _ H _ I h=>Calls.Constant_str ⟨.str x,H,I.tok _,⟨_,rfl⟩,h⟩
def Gl(X:Cx)(x:Str):Prop:=X.env.kindOf x=some .globalImplicit
theorem BG{E:Value->Shared->Prop}{pins:List (Addr×Obj)}{s:Shared}{σ:St}{H:Hp}{x:Str}{u:Value}{pos:Pos}{Q:Value->Shared->Prop}(I:Inv X pins σ H s)(hg:Gl X x)(hm:X.mg x=some u)(h:Q u s)
  (hd:(x==("__debug__":Str))=false:=by decide):wpAny (model X.prog X.w) X.A (eval (.Name x pos) X.env) Q E s:=
 fB I.ok.kind hg (Calls.loadGlobal_global (by rw[I.ok.glob];exact I.mod.glob.keeps I.bk) hm h) hd
theorem r9{E:Value->Shared->Prop}{pins:List (Addr×Obj)}{s:Shared}{σ:St}{H:Hp}{x:Str}{u:Value}{pos:Pos}{Q:Value->Shared->Prop}(I:Inv X pins σ H s)(hg:Gl X x)(hm:X.mg x=none)(hv:bootBuiltins x=some u)(h:Q u s)
  (hn:x≠"__name__":=by decide) (hd:(x==("__debug__":Str))=false:=by decide):wpAny (model X.prog X.w) X.A (eval (.Name x pos) X.env) Q E s:=by
 obtain⟨mb,h1,h2⟩:=I.mod.blt;exact fB I.ok.kind hg (Calls.loadGlobal_builtin (by rw[I.ok.glob];exact I.mod.glob.keeps I.bk) hm (by rw[I.ok.blt];exact h1.keeps I.bk) ((h2 x hn).trans hv) h) hd
theorem Qf{x:Str}{v:V}{u:Value}{pos:Pos}(hg:Gl X x)(hm:X.mg x=some u)(r:RelV v u)(hd:(x==("__debug__":Str))=false:=by decide):PE X (.Name x pos) (tC v):=
 λ_ _ _ H _ I h=>BG I hg hm ⟨v,H,I,r,h⟩ hd
theorem Qc{x:Str}{v:V}{u:Value}{pos:Pos}(hg:Gl X x)(hm:X.mg x=none)(hv:bootBuiltins x=some u)(r:RelV v u)(hn:x≠"__name__":=by decide)(hd:(x==("__debug__":Str))=false:=by decide):PE X (.Name x pos) (tC v):=
 λ_ _ _ H _ I h=>r9 I hg hm hv ⟨v,H,I,r,h⟩ hn hd
variable{a b:Expr}{ta tb:TE}{pos:Pos}
variable{tA tB':TT}{rest:List Expr}
def QI(t u:TT):TT:=λσ H Q=>t σ H λc H1=>if c=true then u σ H1 Q else Q false H1
def Wf(t u:TT):TT:=λσ H Q=>t σ H λc H1=>if c=true then Q true H1 else u σ H1 Q
def S5(t:TT):TT:=λσ H Q=>t σ H λc H1=>Q (!c) H1
theorem Qp(ha:PT X a tA):PW X (.BoolOp .And [a] pos) tA:=by
 intro wh pins s σ H Q I h;refine isTrue_and (lQ (ha pins s σ H Q I h) λc s1 e=> ?_)
 cases c with
 |true=>exact isTrue_and_nil e
 |false=>exact e
theorem SR(ha:PT X a tA):PW X (.BoolOp .Or [a] pos) tA:=by
 intro wh pins s σ H Q I h;refine isTrue_or (lQ (ha pins s σ H Q I h) λc s1 e=> ?_)
 cases c with
 |false=>exact isTrue_or_nil e
 |true=>exact e
theorem SQ(ha:PT X a tA)(hb:PW X (.BoolOp .And (b::rest) pos) tB'):PW X (.BoolOp .And (a::b::rest) pos) (QI tA tB'):=by
 intro wh pins s σ H Q I h;refine isTrue_and (lQ (ha pins s σ H _ I h) λc s1 zq=> ?_);obtain⟨H1,I1,q1⟩:=zq
 cases c with
 |true=>exact hb wh pins s1 σ H1 Q I1 q1
 |false=>exact⟨H1,I1,q1⟩
theorem US(ha:PT X a tA)(hb:PW X (.BoolOp .Or (b::rest) pos) tB'):PW X (.BoolOp .Or (a::b::rest) pos) (Wf tA tB'):=by
 intro wh pins s σ H Q I h;refine isTrue_or (lQ (ha pins s σ H _ I h) λc s1 zq=> ?_);obtain⟨H1,I1,q1⟩:=zq
 cases c with
 |true=>exact⟨H1,I1,q1⟩
 |false=>exact hb wh pins s1 σ H1 Q I1 q1
theorem SO(ha:PT X a tA):PT X (.UnaryOp .Not a pos) (S5 tA):=by
 intro pins s σ H Q I h;exact isTrue_not (ha pins s σ H (λc H1=>Q (!c) H1) I h)
def Oy(ta tb:TE):TE:=λσ H Q=>ta σ H λx H1=>∃c,x= .bl c/\if c=true then tb σ H1 Q else Q (.bl false) H1
def OB(ta:TE):TE:=λσ H Q=>ta σ H λx H1=>∃c,x= .bl c/\Q (.bl (!c)) H1
theorem Sz{op}{t:TE}(h:PE X a t):PE X (.BoolOp op [a] pos) t:=λpins s σ H Q I hw=>BoolOp_one (h pins s σ H Q I hw)
theorem Ss(ha:PE X a ta)(hb:PE X (.BoolOp .And (b::rest) pos) tb):PE X (.BoolOp .And (a::b::rest) pos) (Oy ta tb):=by
 intro pins s σ H Q I h;refine BoolOp_and (lQ (ha pins s σ H _ I h) λv s1=>qh λx H1 I1 r1 q1=> ?_);obtain⟨c,rfl,q1⟩:=q1
 cases r1
 refine wpAny_truthy_bool ?_
 cases c with
 |true=>exact hb pins s1 σ H1 Q I1 q1
 |false=>exact⟨.bl false,H1,I1,rfl,q1⟩
theorem Sy(ha:PE X a ta):PE X (.UnaryOp .Not a pos) (OB ta):=by
 intro pins s σ H Q I h;refine UnaryOp_ (lQ (ha pins s σ H _ I h) λv s1=>qh λx H1 I1 r1 q1=> ?_);obtain⟨c,rfl,q1⟩:=q1
 cases r1
 exact not_of (wpAny_truthy_bool ⟨.bl (!c),H1,I1,rfl,q1⟩)
end
def jX(K:ah)(H:Hp)(a:Addr)(xs:List V):Prop:=
 Rd H a (.lst xs)∨
  ∃(o:Obj) (its:Array Value) (n:Nat),K.lookup a=some o/\o.cls= .type "list"/\o.dict=none/\o.data= .seq its n/\its.size<=sizeLine/\Vals xs its.toList
def Ke(K:ah)(H:Hp)(a:Addr)(xs:List V):Prop:=
 Rd H a (.tup xs)∨
  ∃(o:Obj) (its:Array Value) (n:Nat),K.lookup a=some o/\o.cls= .type "tuple"/\o.data= .seq its n/\its.size<=sizeLine/\Vals xs its.toList
noncomputable def Vs:Value->Option V
 | .none=>some .kr
 | .bool b=>some (.bl b)
 | .int i _=>some (.int i)
 | .str x _=>some (.str x)
 | .bytes b _=>some (.byt b)
 | .float b _=>some (.flt b)
 | .ref a=>some (.ref a)
 | .type n=>some (.ty n)
 |_=>none
theorem RelV.abs{x:V}{u:Value}(r:RelV x u):Vs u=some x:=by
 cases x with
 |kr=>cases r;rfl
 |bl _=>cases r;rfl
 |int _=>obtain⟨t,rfl⟩:=r;rfl
 |str _=>obtain⟨t,rfl⟩:=r;rfl
 |byt _=>obtain⟨t,rfl⟩:=r;rfl
 |flt _=>obtain⟨t,rfl⟩:=r;rfl
 |ref _=>cases r;rfl
 |ty _=>cases r;rfl
theorem RelV.inj{x y:V}{u:Value}(r:RelV x u)(q:RelV y u):x=y:=aM (r.abs.symm.trans q.abs)
theorem Vals.inj{xs ys:List V}{us:List Value}(h:Vals xs us)(k:Vals ys us):xs=ys:=by
 induction h generalizing ys with
 |nil=>cases k;rfl
 |cons r t ih=>cases k with|cons r' t'=>rw[r.inj r',ih t']
section
variable{X:Cx}{pins:List (Addr×Obj)}{σ:St}{H:Hp}{s:Shared}{a:Addr}{xs ys:List V}
theorem jX.of{K:ah}(h:H a=some (.lst xs)):jX K H a xs:= .inl (.inl h)
theorem Ke.of{K:ah}(h:H a=some (.tup xs)):Ke K H a xs:= .inl (.inl h)
theorem Inv.list(I:Inv X pins σ H s)(h:jX X.K H a xs):∃its:List Value,Vals xs its/\PlainL s.heap a its.toArray/\xs.length<=sizeLine:=by
 rcases h with h|⟨o,its,n,hk,hc,hd,hs,hz,r⟩
 ·obtain⟨z,its,n,r,e⟩:=h.ok I.j5;exact⟨its,r,⟨_,n,e,rfl,rfl,rfl⟩,z⟩
 ·refine⟨its.toList,r,⟨o,n,I.GW a o hk,hc,hd,by simpa using hs⟩,?_⟩;have e:=r.length;simp only[dR]at e;lia
theorem Inv.tuple(I:Inv X pins σ H s)(h:Ke X.K H a xs):∃its:List Value,Vals xs its/\IsTup s.heap a its.toArray/\xs.length<=sizeLine:=by
 rcases h with h|⟨o,its,n,hk,hc,hs,hz,r⟩
 ·obtain⟨z,its,r,p⟩:=h.ok I.j5;exact⟨its,r,p,z⟩
 ·refine⟨its.toList,r,⟨o,I.GW a o hk,hc,n,by simpa using hs⟩,?_⟩;have e:=r.length;simp only[dR]at e;lia
theorem Inv.y_(I:Inv X pins σ H s)(h:jX X.K H a xs)(h':jX X.K H a ys):xs=ys:=by
 obtain⟨its,r,⟨o,n,e,_,_,d⟩,_⟩:=I.list h;obtain⟨its',r',⟨o',n',e',_,_,d'⟩,_⟩:=I.list h';rw[e]at e';cases e'
 rw[d]at d';injection d' with d1 _
 have:its=its':=by simpa using congrArg Array.toList d1
 subst this;exact r.inj r'
end
noncomputable abbrev Cx.vy (X:Cx) (E:Value->Shared->Prop):Cx:={X with xe:=E}
theorem Cx.Ok.vy{X:Cx}(ok:X.Ok)(E:Value->Shared->Prop):(X.vy E).Ok:=
 ⟨ok.mod,ok.kind,ok.glob,ok.blt,ok.above,ok.inj,ok.has,ok.Tf,ok.hd,ok.frames,ok.UY,ok.VF,ok.bs,ok.OO,ok.CC,ok.M_,ok.wR,ok.PD⟩
theorem Cx.Ok.rk{X:Cx}{E:Value->Shared->Prop}(ok:(X.vy E).Ok):X.Ok:=
 ⟨ok.mod,ok.kind,ok.glob,ok.blt,ok.above,ok.inj,ok.has,ok.Tf,ok.hd,ok.frames,ok.UY,ok.VF,ok.bs,ok.OO,ok.CC,ok.M_,ok.wR,ok.PD⟩
section
variable{X:Cx}{pins:List (Addr×Obj)}{σ:St}{H:Hp}{s:Shared}{E:Value->Shared->Prop}
theorem Inv.vy(I:Inv X pins σ H s)(E:Value->Shared->Prop):Inv (X.vy E) pins σ H s:=⟨I.ok.vy E,I.os,I.bare,I.base,I.loc,I.cell,I.free,I.o6,I.pin,I.j5,I.len⟩
theorem Inv.rk(I:Inv (X.vy E) pins σ H s):Inv X pins σ H s:=⟨I.ok.rk,I.os,I.bare,I.base,I.loc,I.cell,I.free,I.o6,I.pin,I.j5,I.len⟩
theorem SP.rk{D:Ends}{f:Flow}{s':Shared}(h:SP (X.vy E) pins D f s'):SP X pins D f s':=by
 cases f with
 |next=>obtain⟨σ',H',I,q⟩:=h;exact⟨σ',H',I.rk,q⟩
 |brk=>obtain⟨σ',H',I,q⟩:=h;exact⟨σ',H',I.rk,q⟩
 |cont=>obtain⟨σ',H',I,q⟩:=h;exact⟨σ',H',I.rk,q⟩
 |ret u=>obtain⟨v,σ',H',I,r,q⟩:=h;exact⟨v,σ',H',I.rk,r,q⟩
end
section
variable{X:Cx}{st:Stmt}{rest:List Stmt}{t u:TS}{e:Expr}{te:TE}{pos:Pos}
def OA:TS:=λD σ H=>D.nx σ H
def oj(t u:TS):TS:=λD σ H=>t {D with nx:=u D} σ H
theorem Qm:G1 X [] OA:=λ_ _ σ H _ I h=>wpAny_execs_nil ⟨σ,H,I,h⟩
theorem Oa(h1:PS X st t)(h2:G1 X rest u):G1 X (st::rest) (oj t u):=by
 intro pins s σ H D I h;refine wpAny_execs_cons (lQ (h1 pins s σ H {D with nx:=u D} I h) λf s1 q=> ?_)
 cases f with
 |next=>
  obtain⟨σ',H',I',q⟩:=q;exact h2 pins s1 σ' H' D I' q
 |ret v=>exact q
 |brk=>exact q
 |cont=>exact q
theorem Qn(h1:PS X st t):G1 X [st] t:=by
 intro pins s σ H D I h;refine wpAny_execs_cons (lQ (h1 pins s σ H D I h) λf s1 q=> ?_)
 cases f with
 |next=>exact wpAny_execs_nil q
 |ret v=>exact q
 |brk=>exact q
 |cont=>exact q
theorem Inv.quiet{pins:List (Addr×Obj)}{σ:St}{H:Hp}{s:Shared}(I:Inv X pins σ H s):interactive X.env=false:=by simp[interactive,I.ok.kind]
def Oz(te:TE):TS:=λD σ H=>te σ H λ_ H1=>D.nx σ H1
theorem Qk(he:PE X e te)(hs:swapsWith e none pos.line X.env=pure false:=by rfl):PS X (.Expr e pos) (Oz te):=by
 intro pins s σ H D I h;exact wpAny_Expr_any (lQ (he pins s σ H _ I h) λv s1=>qh λx H1 I1 r1 q1=>⟨σ,H1,I1,q1⟩) I.quiet hs
def S6(te:TE):TS:=λD σ H=>te σ H D.rt
theorem SM(he:PE X e te):PS X (.Return (some e) pos) (S6 te):=by
 intro pins s σ H D I h;exact wpAny_Return_some (lQ (he pins s σ H _ I h) λv s1=>qh λx H1 I1 r1 q1=>⟨x,σ,H1,I1,r1,q1⟩)
def IA(c:TT)(t u:TS):TS:=λD σ H=>c σ H λb H1=>if b=true then t D σ H1 else u D σ H1
theorem UR{c:Expr}{a b:List Stmt}{tc:TT}(hc:PT X c tc)(ha:G1 X a t)(hb:G1 X b u):PS X (.If c a b pos) (IA tc t u):=by
 intro pins s σ H D I h;refine wpAny_If (lQ (hc pins s σ H _ I h) λd s1 zq=> ?_);obtain⟨H1,I1,q1⟩:=zq
 cases d with
 |true=>exact ha pins s1 σ H1 D I1 q1
 |false=>exact hb pins s1 σ H1 D I1 q1
end
abbrev TG:=V->St->Hp->(St->Hp->Prop)->Prop
abbrev OL:=List V->St->Hp->(St->Hp->Prop)->Prop
def PG(X:Cx)(target:Expr)(t:TG):Prop:=
 ∀(pins:List (Addr×Obj)) (s:Shared) (σ:St) (H:Hp) (v:V) (u:Value) (Q:St->Hp->Prop),Inv X pins σ H s->RelV v u->t v σ H Q->
  wpAny (model X.prog X.w) X.A (assign target X.env u) (λ_ s'=>∃σ' H',Inv X pins σ' H' s'/\Q σ' H') X.xe s
def Tr(X:Cx)(ts:List Expr)(t:OL):Prop:=
 ∀(pins:List (Addr×Obj)) (s:Shared) (σ:St) (H:Hp) (vs:List V) (us:List Value) (Q:St->Hp->Prop),Inv X pins σ H s->Vals vs us->t vs σ H Q->
  wpAny (model X.prog X.w) X.A (assignInOrder ((assignEach ts X.env).map (·.2)) us) (λ_ s'=>∃σ' H',Inv X pins σ' H' s'/\Q σ' H') X.xe s
abbrev Lm:=V->V->V->Hp->(Hp->Prop)->Prop
def OT(X:Cx)(t:Lm):Prop:=
 ∀(pins:List (Addr×Obj)) (s:Shared) (σ:St) (H:Hp) (o i v:V) (ov iv u:Value) (Q:Hp->Prop),Inv X pins σ H s->RelV o ov->RelV i iv->RelV v u->t o i v H Q->
  wpAny (model X.prog X.w) X.A (setItem ov iv u) (λ_ s'=>∃H',Inv X pins σ H' s'/\Q H') X.xe s
section
variable{X:Cx}{pos:Pos}
def oE(i:Nat):TG:=λv σ H Q=>Q (σ.set i (some v)) H
theorem BI{i:Nat}{x:Str}(hN:X.N.Nodup)(hi:X.N[i]? =some x)(hx:Loc X.env.scope x)(hf:X.fn x=true∨X.env.scope.names.lookup x=some .local:=by first|exact .inl rfl|exact .inr rfl|assumption):PG X (.Name x pos) (oE i):=by
 intro pins s σ H v u Q I r h;exact wpAny_assign_Name (Iu I hN hi hx r (λs' I'=>⟨_,H,I',h⟩) hf)
def Nb:OL:=λvs σ H Q=>vs=[]/\Q σ H
def A8(t:TG)(u:OL):OL:=λvs σ H Q=>∃v r,vs=v::r/\t v σ H λσ' H'=>u r σ' H' Q
theorem K0:Tr X [] Nb:=by
 intro pins s σ H vs us Q I r h;obtain⟨e,h⟩:=h;subst e
 cases r
 exact assignInOrder_nil ⟨σ,H,I,h⟩
theorem CN{e:Expr}{es:List Expr}{t:TG}{u:OL}(h1:PG X e t)(h2:Tr X es u)
  (hs:(assignEach (e::es) X.env).map (·.2)=assign e X.env::(assignEach es X.env).map (·.2):=by rfl):Tr X (e::es) (A8 t u):=by
 intro pins s σ H vs us Q I r h;obtain⟨v,vr,e1,h⟩:=h;subst e1
 cases r with
 |cons r rr=>
  rw[hs];refine assignInOrder_cons (lQ (h1 pins s σ H _ _ _ I r h) λ_ s1=>Uc λσ1 H1 I1 q1=> ?_);exact h2 pins s1 σ1 H1 _ _ Q I1 rr q1
def PF(K:ah)(n:Nat)(t:OL):TG:=λv σ H Q=>∃a xs,v= .ref a/\Ke K H a xs/\xs.length=n/\t xs σ H Q
theorem N5{es:List Expr}{k:Nat}{t:OL}{n:Nat}(hc:X.calm=true)(h:Tr X es t)
  (hn:(assignEach es X.env).length=n:=by rfl) (hst:(assignEach es X.env).findIdx? (·.1)=none:=by rfl):PG X (.Tuple es k pos) (PF X.K n t):=by
 intro pins s σ H v u Q I r hw;obtain⟨a,xs,e1,hq,hl,hw⟩:=hw;subst e1
 cases r
 obtain⟨its,rv,ht,hz⟩:=I.tuple hq;refine assign_Tuple_tuple (I.ok.hd hc) ht (by simp[hn,←hl,rv.length]) hst λh' hx=> ?_;have I1:Inv X pins σ H {s with heap:=h'}:=I.kept (t':=s.toks) λb o e=>hx b o (aJ (aC e)) e;exact h pins _ σ H xs _ Q I1 (by simpa using rv) hw
def RL(to ti:TE)(t:Lm):TG:=λv σ H Q=>to σ H λo H1=>ti σ H1 λi H2=>t o i v H2 λH3=>Q σ H3
theorem SF{o i:Expr}{to ti:TE}{t:Lm}(ho:PE X o to)(hi:PE X i ti)(hs:OT X t)
  (ha:∀v,assign (.Subscript o i pos) X.env v=(do
   let ov←holding [v] (eval o X.env)
   let iv←holding [v,ov] (eval i X.env)
   standAt pos
   holding [v,ov,iv] (setItem ov iv v)
   release [v,ov,iv] []):=by intro _;rfl):PG X (.Subscript o i pos) (RL to ti t):=by
 intro pins s σ H v u Q I r h;rw[ha];refine wpAny_bind (wpAny_holding (lQ (ho pins s σ H _ I h) λov s1=>qh λx H1 I1 r1 q1=> ?_));refine wpAny_bind (wpAny_holding (lQ (hi pins s1 σ H1 _ I1 q1) λiv s2=>qh λy H2 I2 r2 q2=> ?_));refine wpAny_bind (wpAny_standAt (wpAny_bind (wpAny_holding (lQ (hs pins s2 σ H2 x y v ov iv u _ I2 r1 r2 r q2) λ_ s3 zq=> ?_))));obtain⟨H3,I3,q3⟩:=zq;exact wpAny_release ⟨σ,H3,I3,q3⟩
def Iw(te:TE)(g:TG):TS:=λD σ H=>te σ H λx H1=>g x σ H1 D.nx
theorem SJ{tg e:Expr}{te:TE}{g:TG}(he:PE X e te)(hg:PG X tg g)(hs:swapsWithSole [tg] e pos.line X.env=pure false:=by rfl)(hw:swappedStores [tg] e X.env=pure none:=by rfl)
  (h1:(assignEach [tg] X.env).map (·.2)=[assign tg X.env]:=by rfl):PS X (.Assign [tg] e pos) (Iw te g):=by
 intro pins s σ H D I h;refine wpAny_Assign_stores (lQ (he pins s σ H _ I h) λv s1=>qh λx H1 I1 r1 q1=> ?_) hs hw;rw[h1];exact lQ (hg pins s1 σ H1 x v _ I1 r1 q1) λ_ s2 q=>q
theorem SN{i:Nat}{x:Str}{e:Expr}{te:TE}{pos':Pos}(hN:X.N.Nodup)(hi:X.N[i]? =some x)(hx:Loc X.env.scope x)(he:PE X e te)(hs:swapsWith e (some (.Name x pos')) pos.line X.env=pure false:=by rfl)(hf:X.fn x=true∨X.env.scope.names.lookup x=some .local:=by first|exact .inl rfl|exact .inr rfl|assumption):
  PS X (.Assign [.Name x pos'] e pos) (Iw te (oE i)):=by
 intro pins s σ H D I h;refine wpAny_Assign_Name (lQ (he pins s σ H _ I h) λv s1=>qh λy H1 I1 r1 q1=> ?_) hs;exact Iu I1 hN hi hx r1 (λs2 I2=>⟨_,H1,I2,q1⟩) hf
end
section
variable{X:Cx}{pos:Pos}
def OC(c:TT)(tb:TS):TS:=λD σ H=>∃W:Nat->St->Hp->Prop,(∃m,W m σ H)/\∀m σ H,W m σ H->
 c σ H λb H1=>if b=true then∃N:St->Hp->Prop,(∀σ' H',N σ' H'->∃m',m'<m/\W m' σ' H')/\tb {D with nx:=N,ct:=N,bk:=D.nx} σ H1 else D.nx σ H1
theorem N_{c:Expr}{body:List Stmt}{tc:TT}{tb:TS}(hp:PassesOwn (model X.prog X.w) X.A X.env X.xe)(hc:PT X c tc)(hb:G1 X body tb):PS X (.While c body [] pos) (OC tc tb):=by
 intro pins s σ H D I h;obtain⟨W,⟨m0,w0⟩,turn⟩:=h;refine wpAny_While (codeAny_whileLoop (λn s'=>∃σ' H',Inv X pins σ' H' s'/\W n σ' H') ?_ m0 ⟨σ,H,I,w0⟩);rintro n s1 ⟨σ1,H1,I1,w1⟩;refine wpAny_passesOwn hp (lQ (hc pins s1 σ1 H1 _ I1 (turn n σ1 H1 w1)) λb s2 zq=> ?_);obtain⟨H2,I2,q2⟩:=zq
 cases b with
 |true=>
  obtain⟨N,hN,q2⟩:=q2;rw[if_pos rfl];refine wpAny_passesOwn hp (lQ (hb pins s2 σ1 H2 _ I2 q2) λf s3 q3=> ?_)
  cases f with
  |next=>
   obtain⟨σ3,H3,I3,n3⟩:=q3;obtain⟨m',hm,w3⟩:=hN σ3 H3 n3;exact⟨m',hm,σ3,H3,I3,w3⟩
  |cont=>
   obtain⟨σ3,H3,I3,n3⟩:=q3;obtain⟨m',hm,w3⟩:=hN σ3 H3 n3;exact⟨m',hm,σ3,H3,I3,w3⟩
  |brk=>exact q3
  |ret v=>exact q3
 |false=>
  rw[if_neg aK];exact wpAny_execs_nil ⟨σ1,H2,I2,q2⟩
end
structure It where
 go:Nat->Hp->Prop
 Q5:Nat->Hp->V->Hp->Prop
 stop:Nat->Hp->Prop
def wK(X:Cx)(pins:List (Addr×Obj))(H:Hp)(b:Addr):Prop:=
 H b=none/\b≠X.env.locals/\b∉X.fs/\(b∈X.ex∨X.s₀.heap.objs.size<=b)/\(∀x c,X.env.cells.lookup x=some c->c≠b)/\∀p∈X.pn++pins,p.1≠b
theorem Inv.LA{X:Cx}{pins:List (Addr×Obj)}{σ:St}{H H':Hp}{s:Shared}{b:Addr}(I:Inv X pins σ H s)(hb:s.heap.objs.size<=b)(hn:H' b=none):wK X pins H' b:=by
 refine⟨hn,cK (ax I.lt hb),I.VX hb,.inr (av I.sz hb),λx c e z=> ?_,λp hp z=> ?_⟩
 ·obtain⟨v,q⟩:=I.cell x c e;exact absurd (ax q.lt (by rw[z];exact hb)) (bD _)
 ·exact absurd (ax (aC (I.pin p hp).1) (by rw[z];exact hb)) (bD _)
structure Turn(P:Program)(w:World)(K:ah)(tg:Expr)(J:It)(fp:List Addr)(it:Addr)(tn:Nat->Heap->Prop):Prop where
 mem:it∈fp
 obj:∀i h,tn i h->∀b∈fp,∃o,h.get? b=some o/\∀v,o.data≠ .cell v
 keep:∀i h h',tn i h->(∀b∈fp,∀o,h.get? b=some o->h'.get? b=some o)->tn i h'
 item:∀(X:Cx),X.prog=P->X.w=w->X.K=K->X.calm=true->∀(i:Nat) (pins:List (Addr×Obj)) (s:Shared) (σ:St) (H:Hp) (E:Value->Shared->Prop),Inv X pins σ H s->(∀b∈fp,wK X pins H b)->tn i s.heap->J.go i H->
  wpAny (model P w) X.A (pyNext (.ref it)) (λr s1=>∃u,r=some u/\
   wpAny (model P w) X.A (letOwnedTupleGo tg (.ref it) u) (λ_ s2=>∃x H',Inv X pins σ H' s2/\RelV x u/\J.Q5 i H x H'/\tn (i+1) s2.heap/\∀b∈fp,H' b=none) E s1) E s
 done:∀(X:Cx),X.prog=P->X.w=w->X.K=K->X.calm=true->∀(i:Nat) (pins:List (Addr×Obj)) (s:Shared) (σ:St) (H:Hp) (E:Value->Shared->Prop),Inv X pins σ H s->(∀b∈fp,wK X pins H b)->tn i s.heap->J.stop i H->
  wpAny (model P w) X.A (pyNext (.ref it)) (λr s1=>r=none/\Inv X pins σ H s1) E s
 self:∀(A:Around) (i:Nat) (s:Shared) (Q:Value->Shared->Prop) (E:Value->Shared->Prop),tn i s.heap->Q (.ref it) s->wpAny (model P w) A (pyIter (.ref it)) Q E s
abbrev TI:=St->Hp->(It->Hp->Prop)->Prop
def Wr(X:Cx)(pins:List (Addr×Obj))(σ:St)(tg:Expr)(R:It->Hp->Prop)(itv:Value)(s2:Shared):Prop:=
 ∃(it:Addr) (fp:List Addr) (tn:Nat->Heap->Prop) (J:It) (H':Hp),itv= .ref it/\Inv X pins σ H' s2/\Turn X.prog X.w X.K tg J fp it tn/\tn 0 s2.heap/\(∀b∈fp,wK X pins H' b)/\R J H'
def PI(X:Cx)(tg iter:Expr)(wi:TI):Prop:=
 ∀(pins:List (Addr×Obj)) (s:Shared) (σ:St) (H:Hp) (R:It->Hp->Prop),Inv X pins σ H s->wi σ H R->
  wpAny (model X.prog X.w) X.A (eval iter X.env) (λv s1=>wpAny (model X.prog X.w) X.A (pyIter v) (Wr X pins σ tg R) X.xe s1) X.xe s
theorem Nf{M:Model}{A:Around}{E:Value->Shared->Prop}{s:Shared}{tg:Expr}{it:Addr}{u:Value}{o:Obj}{n:String}{vs:Array Value}{Q:Unit->Shared->Prop}(ho:s.heap.get? it=some o)(hc:o.cls= .type n)(hd:o.data= .fields vs)
  (hn: ["enumerate","zip","dict_itemiterator","dict_reverseitemiterator","odict_iterator","itertools.zip_longest","itertools.pairwise"].contains n=false) (hQ:Q () s):wpAny M A (letOwnedTupleGo tg (.ref it) u) Q E s:=by
 unfold letOwnedTupleGo
 cases tg<;>first
  |exact wpAny_pure hQ
  |(cases u<;>first
    |exact wpAny_pure hQ
    |(refine wpAny_bind (wpAny_load ho ?_)
      rw[hc,hd];show wpAny M A (if (["enumerate","zip","dict_itemiterator","dict_reverseitemiterator","odict_iterator","itertools.zip_longest","itertools.pairwise"].contains n&&vs[0]? ==some (rawInt _))=true then _ else _) Q E s;rw[if_neg (by intro h;rw[hn,iK]at h;cases h)]
      exact wpAny_pure hQ))
noncomputable def Mp (K:ah) (a:Addr):It:=
 ⟨λi H=>∃xs x,jX K H a xs/\xs[i]? =some x,λi H x H'=>H'=H/\∀xs,jX K H a xs->xs[i]? =some x,λi H=>∃xs,jX K H a xs/\xs.length<=i⟩
noncomputable def OK (lo:Int) (n:Nat):It:=⟨λi _=>i<n,λi H x H'=>H'=H/\x= .int (lo+i),λi _=>n<=i⟩
theorem Mi{P:Program}{w:World}{K:ah}{tg:Expr}(a it:Addr):Turn P w K tg (Mp K a) [it] it (λi h=>h.IsListIter it a i) where
 mem:=by simp
 obj:=λi h st b hb=>by
  have e:b=it:=by simpa using hb
  subst e;obtain⟨o,e,c,d⟩:=st;exact⟨o,e,λv z=>by rw[d]at z;cases z⟩
 keep:=λi h h' st k=>st.at λo e=>k it (by simp) o e
 item:=by
  intro X hP hw hK hc i pins s σ H E I hf st hg;subst hP hw hK;obtain⟨xs,x,hq,hx⟩:=hg;obtain⟨its,rv,p,hz⟩:=I.list hq;obtain⟨u,hu,ru⟩:=rv.get hx;obtain⟨f0,f1,f2,f3,f4,f5⟩:=hf it (by simp);refine wpAny_pyNext_list_item st p.isList (x:=u) (by simpa using hu) λh' st' sb=> ?_;have I1:Inv X pins σ H {s with heap:=h'}:=I.turned (t':=s.toks) (λb o hb e=>(sb.2 b hb).trans e) f0 f1 f3 f4 f5;obtain⟨o,e,c,d⟩:=id st';exact⟨u,rfl,Nf (s:={s with heap:=h'}) e c d (by decide) ⟨x,H,I1,ru,⟨rfl,λys hy=>by rw[I.y_ hy hq];exact hx⟩,st',λb hb=>(hf b hb).1⟩⟩
 done:=by
  intro X hP hw hK hc i pins s σ H E I hf st hg;subst hP hw hK;obtain⟨xs,hq,hx⟩:=hg;obtain⟨its,rv,p,hz⟩:=I.list hq;obtain⟨f0,f1,f2,f3,f4,f5⟩:=hf it (by simp);have hl:=rv.length;exact wpAny_pyNext_list_end (I.ok.hd hc) st p.isList (by simp;lia) λh' eb=>⟨rfl,I.turned (t':=s.toks) (λb o hb e=>eb b o hb e) f0 f1 f3 f4 f5⟩
 self:=λ_ _ _ _ _ st h=>wpAny_pyIter_listiter st h
theorem J7{P:Program}{w:World}{K:ah}{tg:Expr}(it:Addr)(lo:Int)(n:Nat):Turn P w K tg (OK lo n) [it] it (λi h=>IsRangeIter h it (lo+(i:Nat)*1) ((n:Int)-(i:Nat)) 1) where
 mem:=by simp
 obj:=λi h st b hb=>by
  have e:b=it:=by simpa using hb
  subst e;exact⟨_,st,λv z=>by
   have z':iu _=Data.cell v:=z
   cases z'⟩
 keep:=λi h h' st k=>k it (by simp) _ st
 item:=by
  intro X hP hw hK hc i pins s σ H E I hf st hg;subst hP hw hK;obtain⟨f0,f1,f2,f3,f4,f5⟩:=hf it (by simp);have W:=Walks.range (prog:=X.prog) (w:=X.w) (I.ok.hd hc) it lo 1 n;refine W.item i s _ _ hg st λv h' tk hv st' kk=> ?_;obtain⟨t,rfl⟩:=hv;have I1:Inv X pins σ H {s with heap:=h',toks:=tk}:=I.turned (λb o hb e=>kk b o (by simpa using hb) e) f0 f1 f3 f4 f5;refine⟨_,rfl,Nf (s:={s with heap:=h',toks:=tk}) (n:="range_iterator") st' rfl rfl (by decide) ⟨.int (lo+i),H,I1,⟨t,?_⟩,⟨rfl,rfl⟩,st',λb hb=>(hf b hb).1⟩⟩;rw[Int.mul_one]
 done:=by
  intro X hP hw hK hc i pins s σ H E I hf st hg;subst hP hw hK;obtain⟨f0,f1,f2,f3,f4,f5⟩:=hf it (by simp);exact wpAny_pyNext_range_end (I.ok.hd hc) st (by have:n<=i:=hg;lia) λh' eb=>⟨rfl,I.turned (t':=s.toks) (λb o hb e=>eb b o hb e) f0 f1 f3 f4 f5⟩
 self:=λ_ _ _ _ _ st h=>wpAny_pyIter_rangeiter st h
section
variable{X:Cx}{tg:Expr}
def Nk(K:ah)(tl:TE):TI:=λσ H R=>tl σ H λx H1=>∃a,x= .ref a/\(∃xs,jX K H1 a xs)/\R (Mp K a) H1
theorem Qi{l:Expr}{tl:TE}(hl:PE X l tl):PI X tg l (Nk X.K tl):=by
 intro pins s σ H R I h;refine lQ (hl pins s σ H _ I h) λv s1=>qh λx H1 I1 r1 q1=> ?_;obtain⟨a,e,⟨xs,hq⟩,q⟩:=q1;subst e
 cases r1
 obtain⟨its,rv,p,hz⟩:=I1.list hq;refine wpAny_pyIter_list p.isList ?_;refine⟨s1.heap.objs.size,[s1.heap.objs.size],_,_,H1,rfl,I1.kept (t':=s1.toks) λb o e=>aE _ e,Mi a _,⟨_,br _ rfl,rfl,rfl⟩,λb hb=> ?_,q⟩;have e:b=s1.heap.objs.size:=by simpa using hb
 subst e;exact I1.LA (au _) (I1.j5.fresh (au _))
theorem HW{pins:List (Addr×Obj)}{σ:St}{H:Hp}{s:Shared}{R:It->Hp->Prop}{E:Value->Shared->Prop}{lo hi:Int}{t u v:Tok}{tk:Nat}(I:Inv X pins σ H s)(h1: -(2^62)<=lo)(h2:lo<2^62)(h3: -(2^62)<=hi)(h4:hi<2^62)
  (q:R (OK lo (hi-lo).toNat) H):wpAny (model X.prog X.w) X.A (pyIter (.ref s.heap.objs.size)) (Wr X pins σ tg R) E {s with heap:=s.heap.push {cls:= .type "range",data:= .fields #[.int lo t,.int hi u,.int 1 v]},toks:=tk}:=by
 refine wpAny_pyIter_range (iP ..) (small_one h1 h2 h3 h4) ?_;have I1:Inv X pins σ H {s with heap:=s.heap.push {cls:= .type "range",data:= .fields #[.int lo t,.int hi u,.int 1 v]},toks:=tk}:=I.kept λb o e=>aE _ e;refine⟨(s.heap.push {cls:= .type "range",data:= .fields #[.int lo t,.int hi u,.int 1 v]}).objs.size,[(s.heap.push {cls:= .type "range",data:= .fields #[.int lo t,.int hi u,.int 1 v]}).objs.size],_,_,H,rfl,
  I1.kept (t':=tk) λb o e=>aE _ e,J7 _ lo (hi-lo).toNat,?_,λb hb=> ?_,q⟩
 ·have e1:lo+((0:Nat):Int)*1=lo:=by simp
  have e2:(((hi-lo).toNat:Nat):Int)-((0:Nat):Int)=Builtin.Range.rangeSize lo hi 1:=by rw[rangeSize_one];split<;>lia
  show IsRangeIter _ _ (lo+((0:Nat):Int)*1) ((((hi-lo).toNat:Nat):Int)-((0:Nat):Int)) 1;rw[e1,e2];exact br _ rfl
 ·have e:b=(s.heap.push {cls:= .type "range",data:= .fields #[.int lo t,.int hi u,.int 1 v]}).objs.size:=by simpa using hb
  subst e;exact I1.LA (au _) (I1.j5.fresh (au _))
def Nl(ta:TA):TI:=λσ H R=>ta σ H λvs H1=>∃j:Int,vs=[.int j]/\ -(2^62)<=j/\j<2^62/\R (OK 0 j.toNat) H1
def Nm(ta:TA):TI:=λσ H R=>ta σ H λvs H1=>∃i j:Int,vs=[.int i,.int j]/\(-(2^62)<=i/\i<2^62/\ -(2^62)<=j/\j<2^62)/\R (OK i (j-i).toNat) H1
theorem L6{a:Expr}{ta:TA}{p pos:Pos}(hg:Gl X "range")(hm:X.mg "range"=none)(ha:PA X [a] ta)(hs:starEach [a] X.env=[(false,eval a X.env)]:=by rfl):PI X tg (.Call (.Name "range" p) [a] [] pos) (Nl ta):=by
 intro pins s σ H R I h;refine Call_ (r9 I hg hm boot_range (bH (lQ (ha pos pins s σ H _ I h) λus s1=>qh λvs H1 I1 r1 q1=> ?_) hs rfl));obtain⟨j,e,q1,q2,q⟩:=q1;subst e
 cases r1 with
 |cons r rr=>
  cases rr
  obtain⟨t,rfl⟩:=r;exact call_range_1 (HW I1 (by lia) (by lia) q1 q2 (by simpa using q))
theorem L7{a b:Expr}{ta:TA}{p pos:Pos}(hg:Gl X "range")(hm:X.mg "range"=none)(ha:PA X [a,b] ta)(hs:starEach [a,b] X.env=[(false,eval a X.env),(false,eval b X.env)]:=by rfl)(hs2:starEach [b] X.env=[(false,eval b X.env)]:=by rfl):
  PI X tg (.Call (.Name "range" p) [a,b] [] pos) (Nm ta):=by
 intro pins s σ H R I h;refine Call_ (r9 I hg hm boot_range (bH (lQ (ha pos pins s σ H _ I h) λus s1=>qh λvs H1 I1 r1 q1=> ?_) (by rw[hs,hs2]) (by rw[hs2];rfl)));obtain⟨i,j,e,⟨q1,q2,q3,q4⟩,q⟩:=q1;subst e
 cases r1 with
 |cons r rr=>
  cases rr with
  |cons r' rr=>
   cases rr
   obtain⟨t,rfl⟩:=r;obtain⟨t',rfl⟩:=r';exact call_range_2 (HW I1 q1 q2 q3 q4 q)
def S1(wi:TI)(g:TG)(tb:TS):TS:=λD σ H=>wi σ H λJ H1=>∃W:Nat->Nat->St->Hp->Prop,(∃m,W 0 m σ H1)/\∀i m σ H,W i m σ H->
 (J.stop i H/\D.nx σ H)∨(J.go i H/\∃N:St->Hp->Prop,(∀σ' H',N σ' H'->∃m',m'<m/\W (i+1) m' σ' H')/\∀x H',J.Q5 i H x H'->g x σ H' λσ2 H2=>tb {D with nx:=N,ct:=N,bk:=D.nx} σ2 H2)
noncomputable def CO (fp:List Addr) (h:Heap):List (Addr×Obj):=fp.filterMap λb=>(h.get? b).map λo=>(b,o)
theorem r_{fp:List Addr}{h:Heap}{b:Addr}{o:Obj}(hb:b∈fp)(e:h.get? b=some o):(b,o)∈CO fp h:=List.mem_filterMap.mpr ⟨b,hb,by rw[e];rfl⟩
theorem LW{fp:List Addr}{h:Heap}{p:Addr×Obj}(hp:p∈CO fp h):p.1∈fp/\h.get? p.1=some p.2:=by
 obtain⟨b,hb,e⟩:=List.mem_filterMap.mp hp
 cases q:h.get? b with
 |none=>rw[q]at e;cases e
 |some o=>
  rw[q]at e;have e':(b,o)=p:=aM e;subst e';exact⟨hb,q⟩
theorem Inv.pinned{pins:List (Addr×Obj)}{σ:St}{H:Hp}{s:Shared}{fp:List Addr}(I:Inv X pins σ H s)(hf:∀b∈fp,wK X pins H b)(ho:∀b∈fp,∃o,s.heap.get? b=some o/\∀v,o.data≠ .cell v):Inv X (pins++CO fp s.heap) σ H s:=
 I.Af λp hp=>(List.mem_append.mp hp).elim (λz=>I.pin p (aN _ z)) λz=>by
  obtain⟨hb,e⟩:=LW z;obtain⟨f0,f1,f2,_⟩:=hf p.1 hb;obtain⟨o,e',d⟩:=ho p.1 hb;rw[e]at e';cases e'
  exact⟨e,f0,f1,f2,d⟩
theorem Inv.DA{pins pl:List (Addr×Obj)}{σ:St}{H:Hp}{s:Shared}(I:Inv X (pins++pl) σ H s):Inv X pins σ H s:=I.Af λp hp=>I.pin p (aN _ (aZ _ hp))
theorem SK{iter:Expr}{body:List Stmt}{wi:TI}{g:TG}{tb:TS}{pos:Pos}(hp:PassesOwn (model X.prog X.w) X.A X.env X.xe)(hc:X.calm=true)(hi:PI X tg iter wi)(hg:PG X tg g)(hb:G1 X body tb)
  (hs:∀x,foldedSetIterable iter X.env x=pure x:=by intro _;rfl):PS X (.For tg iter body [] pos) (S1 wi g tb):=by
 intro pins s σ H D I h;refine wpAny_For (lQ (hi pins s σ H _ I h) λv s1 h1=>lQ h1 λitv s2 h2=> ?_) hs;obtain⟨it,fp,tn,J,H2,e,I2,T,st2,f2,W,⟨m0,w0⟩,turn⟩:=h2;subst e;have stat:∀{H':Hp},(∀b∈fp,H' b=none)->∀b∈fp,wK X pins H' b:=λhn b hb=>⟨hn b hb,(f2 b hb).2⟩;refine codeAny_forLoop_any (λn s'=>∃i σ' H',Inv X pins σ' H' s'/\tn i s'.heap/\(∀b∈fp,H' b=none)/\W i n σ' H') ?_ m0 ⟨0,σ,H2,I2,st2,λb hb=>(f2 b hb).1,w0⟩;rintro n s3 ⟨i,σ3,H3,I3,st3,fr3,w3⟩;rcases turn i n σ3 H3 w3 with ⟨stop,qn⟩|⟨go,N,hN,step⟩
 ·refine wpAny_passesOwn hp (lQ (T.done X rfl rfl rfl hc i pins s3 σ3 H3 X.xe I3 (stat fr3) st3 stop) λr s4=>gE λhr I4=> ?_);subst hr;exact wpAny_execs_nil ⟨σ3,H3,I4,qn⟩
 ·refine wpAny_passesOwn hp (lQ (T.item X rfl rfl rfl hc i pins s3 σ3 H3 X.xe I3 (stat fr3) st3 go) λr s4 zq=> ?_);obtain⟨u,hr,h4⟩:=zq;subst hr;refine wpAny_passesOwn hp (lQ h4 λ_ s5 zq=> ?_);obtain⟨x,H5,I5,r5,y5,st5,fr5⟩:=zq;have I5':=I5.pinned (stat fr5) (T.obj _ _ st5);refine wpAny_passesOwn hp (lQ (hg _ s5 σ3 H5 x u _ I5' r5 (step x H5 y5)) λ_ s6=>Uc λσ6 H6 I6 q6=> ?_);refine wpAny_passesOwn hp (lQ (hb _ s6 σ6 H6 _ I6 q6) λf s7 q7=> ?_);have again:∀{σ7:St} {H7:Hp},Inv X (pins++CO fp s5.heap) σ7 H7 s7->N σ7 H7->∃m,m<n/\∃i σ' H',Inv X pins σ' H' s7/\tn i s7.heap/\(∀b∈fp,H' b=none)/\W i m σ' H':=λ{σ7 H7} I7 n7=>by
   obtain⟨m',hm,w7⟩:=hN σ7 H7 n7;refine⟨m',hm,i+1,σ7,H7,I7.DA,T.keep _ _ _ st5 λb hb o e=>(I7.pin (b,o) (aN _ (aN _ (r_ hb e)))).1,λb hb=> ?_,w7⟩;obtain⟨o,e,d⟩:=T.obj _ _ st5 b hb;exact(I7.pin (b,o) (aN _ (aN _ (r_ hb e)))).2.1
  cases f with
  |next=>obtain⟨σ7,H7,I7,n7⟩:=q7;exact again I7 n7
  |cont=>obtain⟨σ7,H7,I7,n7⟩:=q7;exact again I7 n7
  |brk=>obtain⟨σ7,H7,I7,q7⟩:=q7;exact⟨σ7,H7,I7.DA,q7⟩
  |ret v=>obtain⟨x7,σ7,H7,I7,r7,q7⟩:=q7;exact⟨x7,σ7,H7,I7.DA,r7,q7⟩
end
theorem Na{K:ah}{a:Addr}{xs:List V}{g:TG}{tb:TS}{D:Ends}{σ:St}{H:Hp}(Pv:Nat->St->Hp->Prop)(h0:Pv 0 σ H)(hl:∀i σ H,i<=xs.length->Pv i σ H->jX K H a xs)
  (hs:∀i x σ H,xs[i]? =some x->Pv i σ H->g x σ H λσ2 H2=>tb {D with nx:=Pv (i+1),ct:=Pv (i+1),bk:=D.nx} σ2 H2) (hd:∀σ H,Pv xs.length σ H->D.nx σ H):
  ∃W:Nat->Nat->St->Hp->Prop,(∃m,W 0 m σ H)/\∀i m σ H,W i m σ H->
   ((Mp K a).stop i H/\D.nx σ H)∨((Mp K a).go i H/\∃N:St->Hp->Prop,(∀σ' H',N σ' H'->∃m',m'<m/\W (i+1) m' σ' H')/\∀x H',(Mp K a).Q5 i H x H'->g x σ H' λσ2 H2=>tb {D with nx:=N,ct:=N,bk:=D.nx} σ2 H2):=by
 refine⟨λi m σ H=>m=xs.length-i/\i<=xs.length/\Pv i σ H,⟨xs.length,by simp,bh _,h0⟩,?_⟩;rintro i m σ H ⟨rfl,hi,p⟩;have q:=hl i σ H hi p;by_cases hlt:i<xs.length
 ·refine .inr ⟨⟨xs,xs[i],q,by simp[hlt]⟩,Pv (i+1),λσ' H' p'=>⟨xs.length-(i+1),by omega,rfl,hlt,p'⟩,λx H' y=> ?_⟩;obtain⟨e,y⟩:=y;subst e;exact hs i x σ _ (y xs q) p
 ·have e:i=xs.length:=by lia
  subst e;exact .inl ⟨⟨xs,q,au _⟩,hd σ H p⟩
theorem Ly{lo:Int}{n:Nat}{g:TG}{tb:TS}{D:Ends}{σ:St}{H:Hp}(Pv:Nat->St->Hp->Prop)(h0:Pv 0 σ H)
  (hs:∀i σ H,i<n->Pv i σ H->g (.int (lo+i)) σ H λσ2 H2=>tb {D with nx:=Pv (i+1),ct:=Pv (i+1),bk:=D.nx} σ2 H2) (hd:∀σ H,Pv n σ H->D.nx σ H):
  ∃W:Nat->Nat->St->Hp->Prop,(∃m,W 0 m σ H)/\∀i m σ H,W i m σ H->
   ((OK lo n).stop i H/\D.nx σ H)∨((OK lo n).go i H/\∃N:St->Hp->Prop,(∀σ' H',N σ' H'->∃m',m'<m/\W (i+1) m' σ' H')/\∀x H',(OK lo n).Q5 i H x H'->g x σ H' λσ2 H2=>tb {D with nx:=N,ct:=N,bk:=D.nx} σ2 H2):=by
 refine⟨λi m σ H=>m=n-i/\i<=n/\Pv i σ H,⟨n,by simp,bh _,h0⟩,?_⟩;rintro i m σ H ⟨rfl,hi,p⟩;by_cases hlt:i<n
 ·refine .inr ⟨hlt,Pv (i+1),λσ' H' p'=>⟨n-(i+1),by omega,rfl,hlt,p'⟩,λx H' y=> ?_⟩;obtain⟨e,y⟩:=y;subst e y;exact hs i σ _ hlt p
 ·have e:i=n:=by lia
  subst e;exact .inl ⟨au _,hd σ H p⟩
abbrev R2:=V->V->Hp->VK->Prop
def nX(X:Cx)(f:Value->Value->Sem Value)(r:R2):Prop:=
 ∀(pins:List (Addr×Obj)) (s:Shared) (σ:St) (H:Hp) (x y:V) (v u:Value) (Q:VK),Inv X pins σ H s->RelV x v->RelV y u->r x y H Q->
  wpAny (model X.prog X.w) X.A (f v u) (EP X pins σ Q) X.xe s
def Tu(X:Cx)(f:Value->Sem Value)(r:V->Hp->VK->Prop):Prop:=
 ∀(pins:List (Addr×Obj)) (s:Shared) (σ:St) (H:Hp) (x:V) (v:Value) (Q:VK),Inv X pins σ H s->RelV x v->r x H Q->
  wpAny (model X.prog X.w) X.A (f v) (EP X pins σ Q) X.xe s
def nB(X:Cx)(f:Value)(r:List V->Hp->VK->Prop):Prop:=
 ∀(pins:List (Addr×Obj)) (s:Shared) (σ:St) (H:Hp) (xs:List V) (us:List Value) (Q:VK),Inv X pins σ H s->Vals xs us->r xs H Q->
  wpAny (model X.prog X.w) X.A (call f us) (EP X pins σ Q) X.xe s
def Vo(X:Cx)(r:V->Hp->(Bool->Hp->Prop)->Prop):Prop:=
 ∀(pins:List (Addr×Obj)) (s:Shared) (σ:St) (H:Hp) (x:V) (v:Value) (Q:Bool->Hp->Prop),Inv X pins σ H s->RelV x v->r x H Q->
  wpAny (model X.prog X.w) X.A (truthy v) (TP X pins σ Q) X.xe s
def Me(r:R2)(ta tb:TE):TE:=λσ H Q=>ta σ H λx H1=>tb σ H1 λy H2=>r x y H2 Q
def Wi(r:V->Hp->VK->Prop)(ta:TE):TE:=λσ H Q=>ta σ H λx H1=>r x H1 Q
def rI(C:Int->Int->Prop)(g:Int->Int->V):R2:=λx y H Q=>∃i j,x= .int i/\y= .int j/\C i j/\Q (g i j) H
def QZ(g:Int->Int->V):R2:=λx y H Q=>∃i j,x= .int i/\y= .int j/\Q (g i j) H
def rU(g:Int->V):V->Hp->VK->Prop:=λx H Q=>∃i,x= .int i/\Q (g i) H
section
variable{X:Cx}{a b c:Expr}{ta tb tc:TE}{pos:Pos}
theorem Rg(ha:PE X a ta)(hb:PE X b tb){pins:List (Addr×Obj)}{s:Shared}{σ:St}{H:Hp}{R:V->V->Hp->Prop}(I:Inv X pins σ H s)
  (h:ta σ H λx H1=>tb σ H1 λy H2=>R x y H2) {Q:Value->Shared->Prop} {f:Value->Value->Sem Value}
  (hf:∀v u s2 x y H2,Inv X pins σ H2 s2->RelV x v->RelV y u->R x y H2->wpAny (model X.prog X.w) X.A (f v u) Q X.xe s2):
  wpAny (model X.prog X.w) X.A (eval a X.env) (λv s₁=>wpAny (model X.prog X.w) X.A (eval b X.env) (λu s₂=>wpAny (model X.prog X.w) X.A (f v u) Q X.xe s₂) X.xe s₁) X.xe s:=by
 refine lQ (ha pins s σ H _ I h) λv s1=>qh λx H1 I1 r1 q1=> ?_;refine lQ (hb pins s1 σ H1 _ I1 q1) λu s2=>qh λy H2 I2 r2 q2=> ?_;exact hf v u s2 x y H2 I2 r1 r2 q2
theorem UO{op:Operator}{r:R2}(ho:nX X (binaryOp op) r)(ha:PE X a ta)(hb:PE X b tb):PE X (.BinOp a op b pos) (Me r ta tb):=by
 intro pins s σ H Q I h;exact wpAny_BinOp (Rg ha hb I h λv u s2 x y H2 I2 rx ry q=>ho pins s2 σ H2 x y v u Q I2 rx ry q)
theorem UQ{op:UnaryOp}{r:V->Hp->VK->Prop}(ho:Tu X (unaryOp op) r)(ha:PE X a ta):PE X (.UnaryOp op a pos) (Wi r ta):=by
 intro pins s σ H Q I h;exact UnaryOp_ (lQ (ha pins s σ H _ I h) λv s1=>qh λx H1 I1 r1 q1=>ho pins s1 σ H1 x v Q I1 r1 q1)
theorem VY{f:Value->Value->Sem Value}{C:Int->Int->Prop}{g:Int->Int->Int}
  (rule:∀(i j:Int) (t u:Tok) (s:Shared) (Q:Value->Shared->Prop) (E:Value->Shared->Prop),C i j->Q (.int (g i j) s.toks) {s with toks:=s.toks+1}->wpAny (model X.prog X.w) X.A (f (.int i t) (.int j u)) Q E s):
  nX X f (rI C λi j=> .int (g i j)):=by
 intro pins s σ H x y v u Q I rx ry h;obtain⟨i,j,rfl,rfl,hc,q⟩:=h;obtain⟨t,rfl⟩:=rx;obtain⟨t',rfl⟩:=ry;exact rule i j t t' s _ _ hc ⟨.int (g i j),H,I.tok _,⟨_,rfl⟩,q⟩
theorem UE{f:Value->Value->Sem Value}{g:Int->Int->Int}
  (rule:∀(i j:Int) (t u:Tok) (s:Shared) (Q:Value->Shared->Prop) (E:Value->Shared->Prop),Q (.int (g i j) s.toks) {s with toks:=s.toks+1}->wpAny (model X.prog X.w) X.A (f (.int i t) (.int j u)) Q E s):
  nX X f (QZ λi j=> .int (g i j)):=by
 intro pins s σ H x y v u Q I rx ry h;obtain⟨i,j,rfl,rfl,q⟩:=h;obtain⟨t,rfl⟩:=rx;obtain⟨t',rfl⟩:=ry;exact rule i j t t' s _ _ ⟨.int (g i j),H,I.tok _,⟨_,rfl⟩,q⟩
theorem Si{f:Value->Value->Sem Value}{g:Int->Int->Bool}
  (rule:∀(i j:Int) (t u:Tok) (s:Shared) (Q:Value->Shared->Prop) (E:Value->Shared->Prop),Q (.bool (g i j)) s->wpAny (model X.prog X.w) X.A (f (.int i t) (.int j u)) Q E s):
  nX X f (QZ λi j=> .bl (g i j)):=by
 intro pins s σ H x y v u Q I rx ry h;obtain⟨i,j,rfl,rfl,q⟩:=h;obtain⟨t,rfl⟩:=rx;obtain⟨t',rfl⟩:=ry;exact rule i j t t' s _ _ ⟨.bl (g i j),H,I,rfl,q⟩
def Q6(i j:Int):Prop:=0<j/\j<1073741824
def Mo(i j:Int):Prop:=(-(2^64)<i/\i<2^64)∨(-(2^64)<j/\j<2^64)
theorem Mo.ok{i j:Int}(h:Mo i j):IntMulOk i j:=by
 rcases h with ⟨h1,h2⟩|⟨h1,h2⟩
 ·exact .of_left (intBits_le_64 h1 h2)
 ·exact .of_right (intBits_le_64 h1 h2)
theorem Sj:nX X (binaryOp .Add) (QZ λi j=> .int (i+j)):=UE λ_ _ _ _ _ _ _ q=>add_int q
theorem Sq:nX X (binaryOp .Sub) (QZ λi j=> .int (i-j)):=UE λ_ _ _ _ _ _ _ q=>sub_int q
theorem Sn:nX X (binaryOp .Mult) (rI Mo λi j=> .int (i*j)):=VY λ_ _ _ _ _ _ _ hc q=>mul_int q hc.ok
theorem P_:nX X (binaryOp .FloorDiv) (rI Q6 λi j=> .int (i/j)):=VY λi j _ _ _ _ _ hc q=>by
 have h1:(0:Int)<j:=hc.1;have h2:j<1073741824:=hc.2;exact floordiv_int (by lia) (by rw[Int.fdiv_eq_ediv_of_nonneg i (by lia)];exact q) (.inl (PyProof.noPylong_small (by omega)))
theorem Sm:nX X (binaryOp .Mod) (rI (λ_ j=>0<j) λi j=> .int (i%j)):=VY λi j _ _ _ _ _ hc q=>by
 have h1:(0:Int)<j:=hc;exact mod_int' (by lia) (by rw[Int.fmod_eq_emod_of_nonneg i (by lia)];exact q)
theorem WT{f:Value->Sem Value}{g:Int->Int}
  (rule:∀(i:Int) (t:Tok) (s:Shared) (Q:Value->Shared->Prop) (E:Value->Shared->Prop),Q (.int (g i) s.toks) {s with toks:=s.toks+1}->wpAny (model X.prog X.w) X.A (f (.int i t)) Q E s):
  Tu X f (rU λi=> .int (g i)):=by
 intro pins s σ H x v Q I rx h;obtain⟨i,rfl,q⟩:=h;obtain⟨t,rfl⟩:=rx;exact rule i t s _ _ ⟨.int (g i),H,I.tok _,⟨_,rfl⟩,q⟩
theorem S_:Tu X (unaryOp .USub) (rU λi=> .int (-i)):=WT λ_ _ _ _ _ q=>neg_int q
end
noncomputable def SW:V->V->Bool
 | .kr,.kr=>true| .kr,.int _=>true| .int _,.kr=>true| .kr,.bl _=>true| .bl _,.kr=>true| .kr,.str _=>true| .str _,.kr=>true
 | .int _,.int _=>true| .bl _,.bl _=>true| .str _,.str _=>true| .byt _,.byt _=>true
 | .int _,.str _=>true| .str _,.int _=>true| .bl _,.str _=>true| .str _,.bl _=>true
 |_,_=>false
def WN:R2:=λx y H Q=>SW x y=true/\Q (.bl (decide (x=y))) H
def WO:R2:=λx y H Q=>SW x y=true/\Q (.bl (!decide (x=y))) H
theorem Ks{i j:Int}:decide (V.int i=V.int j)=(i==j):=by
 rw[eN];simp
theorem MY{i j:Bool}:decide (V.bl i=V.bl j)=(i==j):=by
 rw[eN];simp
theorem Kt{i j:Str}:decide (V.str i=V.str j)=(i==j):=by
 rw[eN];simp
theorem Kr{i j:Array UInt8}:decide (V.byt i=V.byt j)=(i.toList==j.toList):=by
 rw[eN]
 cases i
 cases j
 simp
section
variable{X:Cx}{a b c:Expr}{ta tb tc:TE}{pos:Pos}
theorem jT{pins:List (Addr×Obj)}{σ:St}{H:Hp}{s:Shared}{Q:VK}{k k':Bool}(I:Inv X pins σ H s)(q:Q (.bl k) H)(e:k=k'):EP X pins σ Q (.bool k') s:=by
 subst e;exact⟨.bl k,H,I,rfl,q⟩
theorem UG:nX X (compareOp .Eq) WN:=by
 intro pins s σ H x y v u Q I rx ry h;obtain⟨hs,q⟩:=h
 cases x with
 |kr=>
  cases rx
  cases y with
  |kr=>cases ry;exact PySem.EqNone.eq_none_none (jT I q (by simp))
  |bl j=>cases ry;exact PySem.EqNone.eq_none_bool (jT I q (by simp))
  |int j=>obtain⟨t',rfl⟩:=ry;exact PySem.EqNone.eq_none_int (jT I q (by simp))
  |str j=>obtain⟨t',rfl⟩:=ry;exact PySem.EqNone.eq_none_str (jT I q (by simp))
  |_=>exact absurd (show false=true from hs) aK
 |bl i=>
  cases rx
  cases y with
  |kr=>cases ry;exact PySem.EqNone.eq_bool_none (jT I q (by simp))
  |bl j=>cases ry;exact eq_bool (jT I q MY)
  |str j=>obtain⟨t',rfl⟩:=ry;exact PySem.EqMixed.eq_bool_str (jT I q (by simp))
  |_=>exact absurd (show false=true from hs) aK
 |int i=>
  obtain⟨t,rfl⟩:=rx
  cases y with
  |kr=>cases ry;exact PySem.EqNone.eq_int_none (jT I q (by simp))
  |int j=>obtain⟨t',rfl⟩:=ry;exact eq_int (jT I q Ks)
  |str j=>obtain⟨t',rfl⟩:=ry;exact PySem.EqMixed.eq_int_str (jT I q (by simp))
  |_=>exact absurd (show false=true from hs) aK
 |str i=>
  obtain⟨t,rfl⟩:=rx
  cases y with
  |kr=>cases ry;exact PySem.EqNone.eq_str_none (jT I q (by simp))
  |bl j=>cases ry;exact PySem.EqMixed.eq_str_bool (jT I q (by simp))
  |int j=>obtain⟨t',rfl⟩:=ry;exact PySem.EqMixed.eq_str_int (jT I q (by simp))
  |str j=>obtain⟨t',rfl⟩:=ry;exact eq_str (jT I q Kt)
  |_=>exact absurd (show false=true from hs) aK
 |byt i=>
  obtain⟨t,rfl⟩:=rx
  cases y with
  |byt j=>obtain⟨t',rfl⟩:=ry;exact PySem.W.eq_bytes (jT I q Kr)
  |_=>exact absurd (show false=true from hs) aK
 |_=>cases y<;>exact absurd (show false=true from hs) aK
theorem UK:nX X (compareOp .NotEq) WO:=by
 intro pins s σ H x y v u Q I rx ry h;obtain⟨hs,q⟩:=h
 cases x with
 |kr=>
  cases rx
  cases y with
  |kr=>cases ry;exact PySem.EqNone.ne_none_none (jT I q (by simp))
  |bl j=>cases ry;exact PySem.EqNone.ne_none_bool (jT I q (by simp))
  |int j=>obtain⟨t',rfl⟩:=ry;exact PySem.EqNone.ne_none_int (jT I q (by simp))
  |str j=>obtain⟨t',rfl⟩:=ry;exact PySem.EqNone.ne_none_str (jT I q (by simp))
  |_=>exact absurd (show false=true from hs) aK
 |bl i=>
  cases rx
  cases y with
  |kr=>cases ry;exact PySem.EqNone.ne_bool_none (jT I q (by simp))
  |bl j=>cases ry;exact ne_bool (jT I q (congrArg not MY))
  |str j=>obtain⟨t',rfl⟩:=ry;exact PySem.EqMixed.ne_bool_str (jT I q (by simp))
  |_=>exact absurd (show false=true from hs) aK
 |int i=>
  obtain⟨t,rfl⟩:=rx
  cases y with
  |kr=>cases ry;exact PySem.EqNone.ne_int_none (jT I q (by simp))
  |int j=>obtain⟨t',rfl⟩:=ry;exact ne_int (jT I q (congrArg not Ks))
  |str j=>obtain⟨t',rfl⟩:=ry;exact PySem.EqMixed.ne_int_str (jT I q (by simp))
  |_=>exact absurd (show false=true from hs) aK
 |str i=>
  obtain⟨t,rfl⟩:=rx
  cases y with
  |kr=>cases ry;exact PySem.EqNone.ne_str_none (jT I q (by simp))
  |bl j=>cases ry;exact PySem.EqMixed.ne_str_bool (jT I q (by simp))
  |int j=>obtain⟨t',rfl⟩:=ry;exact PySem.EqMixed.ne_str_int (jT I q (by simp))
  |str j=>obtain⟨t',rfl⟩:=ry;exact ne_str (jT I q (congrArg not Kt))
  |_=>exact absurd (show false=true from hs) aK
 |byt i=>
  obtain⟨t,rfl⟩:=rx
  cases y with
  |byt j=>obtain⟨t',rfl⟩:=ry;exact PySem.W.ne_bytes (jT I q (congrArg not Kr))
  |_=>exact absurd (show false=true from hs) aK
 |_=>cases y<;>exact absurd (show false=true from hs) aK
theorem UJ:nX X (compareOp .Lt) (QZ λi j=> .bl (decide (i<j))):=Si λ_ _ _ _ _ _ _ q=>lt_int q
theorem UI:nX X (compareOp .LtE) (QZ λi j=> .bl (decide (i<=j))):=Si λ_ _ _ _ _ _ _ q=>le_int q
theorem UH:nX X (compareOp .Gt) (QZ λi j=> .bl (decide (j<i))):=Si λ_ _ _ _ _ _ _ q=>gt_int q
theorem Sl:nX X (compareOp .Is) (λx y H Q=>y= .kr/\Q (.bl (decide (x= .kr))) H):=by
 intro pins s σ H x y v u Q I rx ry h;obtain⟨rfl,q⟩:=h
 cases ry
 refine is_none_gen (jT I q ?_)
 cases x<;>first
  |(cases rx;rfl)
  |(obtain⟨t,rfl⟩:=rx;rfl)
theorem Qa:nX X (compareOp .IsNot) (λx y H Q=>y= .kr/\Q (.bl (!decide (x= .kr))) H):=by
 intro pins s σ H x y v u Q I rx ry h;obtain⟨rfl,q⟩:=h
 cases ry
 refine isnot_none_gen (jT I q ?_)
 cases x<;>first
  |(cases rx;rfl)
  |(obtain⟨t,rfl⟩:=rx;rfl)
theorem jr(b:Expr){op:CmpOp}(h:op≠ .In:=by decide)(h2:op≠ .NotIn:=by decide):behindInMarks op b=false:=by
 have e1:(op==CmpOp.In)=false:=by cases op<;>first|rfl|exact absurd rfl h
 have e2:(op==CmpOp.NotIn)=false:=by cases op<;>first|rfl|exact absurd rfl h2
 cases b<;>simp[behindInMarks,e1,e2]
theorem Qd{op:CmpOp}{r:R2}(ho:nX X (compareOp op) r)(ha:PE X a ta)(hb:PE X b tb)(hm:behindInMarks op b=false):PE X (.Compare a [op] [b] pos) (Me r ta tb):=by
 intro pins s σ H Q I h;exact wpAny_Compare1 (Rg ha hb I h λv u s2 x y H2 I2 rx ry q=>ho pins s2 σ H2 x y v u Q I2 rx ry q) hm
def IC(t:TE):TT:=λσ H Q=>t σ H λx H'=>∃k,x= .bl k/\Q k H'
theorem Qo{op:CmpOp}{r:R2}(ho:nX X (compareOp op) r)(ha:PE X a ta)(hb:PE X b tb)(hm:behindInMarks op b=false):PT X (.Compare a [op] [b] pos) (IC (Me r ta tb)):=by
 intro pins s σ H Q I h;refine wpAny_isTrue_Compare1 (lQ (ha pins s σ H _ I h) λv s1=>qh λx H1 I1 r1 q1=>lQ (hb pins s1 σ H1 _ I1 q1) λu s2=>qh λy H2 I2 r2 q2=>
  lQ (ho pins s2 σ H2 x y v u _ I2 r1 r2 q2) λc s3 ⟨z,H3,I3,r3,k,e,q3⟩=> ?_) hm
 subst e
 cases r3
 exact wpAny_truthy_bool ⟨H3,I3,q3⟩
def J0(r r':R2)(ta tb tc:TE):TE:=λσ H Q=>ta σ H λx H1=>tb σ H1 λy H2=>r x y H2 λz H3=>∃k,z= .bl k/\
 (if k=true then tc σ H3 λw' H4=>r' y w' H4 Q else Q (.bl false) H3)
theorem NV{op op':CmpOp}{r r':R2}(ho:nX X (compareOp op) r)(ho':nX X (compareOp op') r')(ha:PE X a ta)(hb:PE X b tb)(hc:PE X c tc)
  (hm:lastMarks [op,op'] [b,c]=false:=by with_unfolding_all rfl):PE X (.Compare a [op,op'] [b,c] pos) (J0 r r' ta tb tc):=by
 intro pins s σ H Q I h;refine Compare_chain (lQ (ha pins s σ H _ I h) λv s1=>qh λx H1 I1 r1 q1=>chain_link (lQ (hb pins s1 σ H1 _ I1 q1) λu s2=>qh λy H2 I2 r2 q2=>
  lQ (ho pins s2 σ H2 x y v u _ I2 r1 r2 q2) λd s3 ⟨z,H3,I3,r3,k,e,q3⟩=> ?_)) hm
 subst e
 cases r3
 refine wpAny_truthy_bool ?_
 cases k with
 |false=>exact ite_ff ⟨.bl false,H3,I3,rfl,q3⟩
 |true=>exact ite_tt (chain_last (lQ (hc pins s3 σ H3 _ I3 q3) λw' s4=>qh λz' H4 I4 r4 q4=>ho' pins s4 σ H4 y z' u w' Q I4 r2 r4 q4))
def Mu(K:ah)(x:V)(H:Hp)(k:Bool):Prop:=
 match x with
 | .bl b=>k=b
 |_=>False
theorem Cs:(sizeLine:Nat)<2^63:=by rw[sizeLine_eq];decide
theorem S8:Vo X (λx H Q=>∃k,Mu X.K x H k/\Q k H):=by
 intro pins s σ H x v Q I rx h;obtain⟨k,e,q⟩:=h
 cases x with
 |bl b=>
  cases rx
  have e':k=b:=e;subst e';exact wpAny_truthy_bool ⟨H,I,q⟩
 |_=>exact(show False from e).elim
theorem Ob(ha:PE X a ta)(he:∀whole,isTrue a X.env whole=(do let v←whole;standAt a.pos;holding [v] (truthy v))):
  PT X a (λσ H Q=>ta σ H λx H'=>∃k,Mu X.K x H' k/\Q k H'):=by
 intro pins s σ H Q I h;exact isTrue_plain (lQ (ha pins s σ H _ I h) λv s1=>qh λx H1 I1 r1 q1=>S8 pins s1 σ H1 x v Q I1 r1 q1) (he _)
theorem vals1{x:V}{us:List Value}(r:Vals [x] us):∃u,us=[u]/\RelV x u:=by
 cases r with
 |cons r1 r2=>cases r2;exact⟨_,rfl,r1⟩
theorem vals2{x y:V}{us:List Value}(r:Vals [x,y] us):∃u w',us=[u,w']/\RelV x u/\RelV y w':=by
 cases r with
 |cons r1 r2=>
  cases r2 with
  |cons r3 r4=>cases r4;exact⟨_,_,rfl,r1,r3⟩
end
structure IJ(h:Heap)(x dx C:Addr)(mA:Str->Option Value):Prop where
 obj:h.get? x=some (ck C dx)
 ns:h.Ns1 dx mA
 ne:dx≠x
theorem LP{h:Heap}{dx:Addr}{mA:Str->Option Value}(n:h.Ns1 dx mA):∃od,h.get? dx=some od/\∀name,fk name od=some (mA name):=by
 obtain⟨o,es,ep,ho,hd,hk,_,hm⟩:=n;refine⟨o,ho,λname=> ?_⟩;have e:=hm name;unfold nsFind findBy at e;rw[←Array.find?_toList]at e;unfold fk;rw[hd];dsimp only
 split
 ·rename_i y q;rw[q]at e;exact congrArg some e
 ·rename_i q;rw[q]at e;have a:es.toList.any (·.refKey)=false:=by
   rw[List.any_eq_false];intro y hy;obtain⟨z,t,hkey⟩:=hk y (Array.mem_toList_iff.mp hy);simp[DictEntry.refKey,hkey]
  have a':¬es.toList.any (·.refKey)=true:=by rw[a];exact aK
  rw[if_neg a'];exact congrArg some e
theorem IJ.look{h:Heap}{x dx C:Addr}{mA:Str->Option Value}(I:IJ h x dx C mA):∃od,PySem.W.InstAt h x (ck C dx) C (some od)/\∀name,fk name od=some (mA name):=
 let ⟨od,ho,hl⟩:=LP I.ns
 ⟨od,⟨I.obj,rfl,rfl,ho⟩,hl⟩
section
variable{prog:Program}{w:World}{A:Around}{E:Value->Shared->Prop}{s:Shared}{K:ah}{x dx C f:Addr}{mA:Str->Option Value}{name:Str}{v:Value}
theorem get_map{expr:Bool}{Q:Value->Shared->Prop}(X:K.In s.heap)(I:IJ s.heap x dx C mA)(hg:bG K C name=true)(hh:bI K C=true)
  (ha:aB K (.ref C) name=some none) (hv:mA name=some v) (hv':iB v=true) (h:Q v {s with toks:=s.toks+1}):
  wpAny (model prog w) A (getAttr (.ref x) name expr) Q E s:=by
 obtain⟨od,J,hl⟩:=I.look;exact PySem.W.get_value X J (fc hg).1 (PySem.W.findObj_own hh ha rfl (by rw[hl,hv])) hv' h
theorem Nc{pl:Sem Bool}{Q:Value×List Value->Shared->Prop}(X:K.In s.heap)(I:IJ s.heap x dx C mA)(hg:bG K C name=true)
  (hf:aB K (.ref C) name=some (some (.ref f))) (ht:b_ K (.ref f)=true) (hv:mA name=none) (h:Q (.ref f,[.ref x]) s):
  wpAny (model prog w) A (getMethod (.ref x) name pl) Q E s:=by
 obtain⟨od,J,hl⟩:=I.look;exact PySem.W.method_fn X J (fc hg).1 (fc hg).2 hf (beq_iff_eq.mp ht) (by show(fk name od).map (·.isSome)=some false;rw[hl,hv];rfl) h
theorem QA{ns:List Str}{Q:Unit->Shared->Prop}(X:K.In s.heap)(I:IJ s.heap x dx C mA)
  (hs:aB K (.ref C) "__setattr__"=some (some (.builtin "object.__setattr__"))) (hp:bN K C=true) (ht:fY K C name=some none) (hh:bI K C=true)
  (hw:hV mA ns) (hsz:ns.length<=sizeLine)
  (h:∀h',IJ h' x dx C (λy=>if y=name then some v else mA y)->dY dx s.heap h'->Q () {s with heap:=h',toks:=s.toks+2}):
  wpAny (model prog w) A (setAttr (.ref x) name v) Q E s:=by
 obtain⟨od,J,hl⟩:=I.look;refine PySem.W.set_plain X J hs (PySem.W.osa_open (s:={s with toks:=s.toks+1}) (r:=none) X J hp ht λb=> ?_);obtain⟨cd,hc,hd'⟩:=PySem.W.any_some hh;have hx:s.heap.get? x=some ⟨.ref C,some dx,.plain,#[]⟩:=I.obj;refine wpAny_bind (wpAny_pure (wpAny_bind (wpAny_bind (wpAny_loadPart hx (wpAny_bind (PySem.W.Looks.here (s:={s with toks:=s.toks+1}) (PySem.W.looks_clsIn X hc) ?_))))));rw[hd'];refine wpAny_pure (a:=some dx) (wpAny_bind (wpAny_pure (wpAny_bind ?_)));refine wpAny_nsSet1 (s:={s with toks:=s.toks+1}) I.ns λh' hn2 hs2=> ?_;obtain⟨oD,esD,epD,hoD,hdD,hcD⟩:=hn2.count (PySem.Within.cons name v hw);refine wpAny_bind (wpAny_lookBehind hoD (by rw[hdD];exact pastItsLine_dict (av hcD (by rw[aR];lia))) ?_);exact wpAny_pure (h _ ⟨(hs2.2 _ (aj I.ne)).trans I.obj,hn2,I.ne⟩ hs2)
theorem NF{R:Result->Shared->Prop}{vs:List Value}{kw:List (Str×Value)}(X:K.In s.heap)(hm:bW K C=true)
  (hi:aB K (.ref C) "__init__"=some (some (.ref f))) (hf:PySem.W.typeIn K (.ref f)=some (.type "function"))
  (h:codeAny (model prog w) (A.under (.builtin "type.__call__" ⟨.ref C::vs,kw⟩)) (.call (.ref f) ⟨.ref (s.heap.objs.size+1)::vs,kw⟩) (PySem.W.InitBack (s.heap.objs.size+1) R)
   {s with heap:=(s.heap.push bM).push (ck C s.heap.objs.size)}):
  codeAny (model prog w) A (.call (.ref C) ⟨vs,kw⟩) R s:=by
 obtain⟨hh,g,d,t,os⟩:=s;exact PySem.W.make_core (PySem.W.makes_of X hm) (PySem.W.looks_findIn X hi) (λself=>PySem.W.bind_fn X self hf) (.inl rfl) h
end
noncomputable def j4 (f:Str) (v:V):List (Str×V)->List (Str×V)
 | []=>[(f,v)]
 |(g,x)::r=>if g=f then(g,v)::r else(g,x)::j4 f v r
theorem Ba(f g:Str)(v:V):∀fs:List (Str×V),(j4 f v fs).lookup g=if g=f then some v else fs.lookup g
 | []=>by
  show aU g [(f,v)]=_;by_cases h:g=f
  ·have hb:(g==f)=true:=beq_iff_eq.mpr h;simp only[aU,hb,if_pos h]
  ·have hb:(g==f)=false:=beq_eq_false_iff_ne.mpr h;simp only[aU,hb,if_neg h]
 |(k,x)::r=>by
  have ih:=Ba f g v r;rw[show j4 f v ((k,x)::r)=(if k=f then(k,v)::r else(k,x)::j4 f v r) from rfl];by_cases hk:k=f
  ·rw[if_pos hk];by_cases h:g=k
   ·have hb:(g==k)=true:=beq_iff_eq.mpr h;simp only[aU,hb,if_pos (h.trans hk)]
   ·have hb:(g==k)=false:=beq_eq_false_iff_ne.mpr h;simp only[aU,hb,if_neg (λe:g=f=>h (e.trans hk.symm))]
  ·rw[if_neg hk];by_cases h:g=k
   ·have hb:(g==k)=true:=beq_iff_eq.mpr h;simp only[aU,hb,if_neg (λe:g=f=>hk (h.symm.trans e))]
   ·have hb:(g==k)=false:=beq_eq_false_iff_ne.mpr h;simp only[aU,hb];exact ih
theorem AG(f:Str)(v:V):∀fs:List (Str×V),f∈(j4 f v fs).map (·.1)/\∀g,g∈fs.map (·.1)->g∈(j4 f v fs).map (·.1)
 | []=>⟨by simp[j4],λg h=>by simp at h⟩
 |(k,x)::r=>by
  obtain⟨i1,i2⟩:=AG f v r;rw[show j4 f v ((k,x)::r)=(if k=f then(k,v)::r else(k,x)::j4 f v r) from rfl];by_cases hk:k=f
  ·rw[if_pos hk];subst hk;exact⟨by simp,λg h=>by simpa using h⟩
  ·rw[if_neg hk];refine⟨?_,λg h=> ?_⟩
   ·rw[az];exact ai _ i1
   ·rw[az]at h⊢;rcases List.mem_cons.mp h with e|e
    ·exact List.mem_cons.mpr (.inl e)
    ·exact ai _ (i2 g e)
theorem A9(f:Str)(v:V):∀fs:List (Str×V),(j4 f v fs).length<=fs.length+1
 | []=>by simp[j4]
 |(k,x)::r=>by
  have ih:=A9 f v r;rw[show j4 f v ((k,x)::r)=(if k=f then(k,v)::r else(k,x)::j4 f v r) from rfl];by_cases hk:k=f
  ·rw[if_pos hk,aR,aR];lia
  ·rw[if_neg hk,aR,aR];lia
theorem ud.some_of{v:V}{o:Option Value}(r:ud (some v) o):∃u,o=some u/\RelV v u:=by
 cases o with
 |none=>exact(show False from r).elim
 |some u=>exact⟨u,rfl,r⟩
theorem ud.none_of{o:Option Value}(r:ud none o):o=none:=by
 cases o with
 |none=>rfl
 |some u=>exact(show False from r).elim
theorem LB{v:V}{u:Value}(r:RelV v u):iB u=true:=by
 cases v with
 |kr=>cases (show u=fb from r);rfl
 |bl b=>cases (show u=iJ b from r);rfl
 |int i=>obtain⟨t,e⟩:=(show∃t,u=dC i t from r);cases e;rfl
 |str x=>obtain⟨t,e⟩:=(show∃t,u=fZ x t from r);cases e;rfl
 |byt b=>obtain⟨t,e⟩:=(show∃t,u=Value.bytes b t from r);cases e;rfl
 |flt b=>obtain⟨t,e⟩:=(show∃t,u=Value.float b t from r);cases e;rfl
 |ref a=>cases (show u=aL a from r);rfl
 |ty n=>cases (show u=fI n from r);rfl
section
variable{P:Program}{w:World}{H H':Hp}{h h':Heap}{a C dx:Addr}{fs fs':List (Str×V)}
theorem Fz(j5:tZ P w H h)(e:H a=some (.ins C dx fs)):∃mA,IJ h a dx C mA/\(∀f,ud (fs.lookup f) (mA f))/\hV mA (fs.map (·.1))/\fs.length<=1000/\H dx=some (.own a):=by
 obtain⟨d,z,ne,ob,mA,n,r,q⟩:=(show kO P w H h a (.ins C dx fs) from j5 a _ e);exact⟨mA,⟨ob,n,ne⟩,r,q,z,d⟩
end
structure Ez(K:ah)(C:Addr):Prop where
 pg:bG K C dN=true
 hd:bI K C=true
 po:bN K C=true
 sa:aB K (.ref C) "__setattr__"=some (some (.builtin "object.__setattr__"))
theorem Ez.get{K:ah}{C:Addr}(c:Ez K C)(f:Str):bG K C f=true:=c.pg
def kF(K:ah)(C:Addr)(f:Str):Prop:=aB K (.ref C) f=some none
theorem kF.U1{K:ah}{C:Addr}{f:Str}(n:kF K C f):fY K C f=some none:=by
 unfold fY;rw[show aB K (.ref C) f=some none from n];rfl
structure Meth(K:ah)(C:Addr)(m:Str)(f:Addr):Prop where
 at_:aB K (.ref C) m=some (some (.ref f))
 fn:b_ K (.ref f)=true
 kp:bo K (.ref f)=true
section
variable{X:Cx}{pins:List (Addr×Obj)}{σ:St}{H:Hp}{s:Shared}{a C dx:Addr}{fs:List (Str×V)}{f:Str}{v:V}{A:Around}{E:Value->Shared->Prop}
theorem Jb{b:Bool}{Q:Value->Shared->Prop}(I:Inv X pins σ H s)(e:H a=some (.ins C dx fs))(c:Ez X.K C)(n:kF X.K C f)(l:fs.lookup f=some v)
  (h:∀u s',Inv X pins σ H s'->RelV v u->Q u s'):wpAny (model X.prog X.w) A (getAttr (.ref a) f b) Q E s:=by
 obtain⟨mA,O,r,_,_,_⟩:=Fz I.j5 e;obtain⟨u,hu,ru⟩:=ud.some_of (v:=v) (o:=mA f) (by rw[←l];exact r f);exact get_map I.GW O (c.get f) c.hd n hu (LB ru) (h u _ (I.tok _) ru)
theorem B4{m:Str}{g:Addr}{pl:Sem Bool}{Q:Value×List Value->Shared->Prop}(I:Inv X pins σ H s)(e:H a=some (.ins C dx fs))(c:Ez X.K C)(k:Meth X.K C m g)(l:fs.lookup m=none)
  (h:Q (.ref g,[.ref a]) s):wpAny (model X.prog X.w) A (getMethod (.ref a) m pl) Q E s:=by
 obtain⟨mA,O,r,_,_,_⟩:=Fz I.j5 e;have hn:mA m=none:=ud.none_of (by rw[←l];exact r m);exact Nc I.GW O (c.get m) k.at_ k.fn hn h
theorem JR{y:V}{u:Value}{Q:Unit->Shared->Prop}(I:Inv X pins σ H s)(e:H a=some (.ins C dx fs))(c:Ez X.K C)(n:kF X.K C f)(hl:fs.length<1000)(ry:RelV y u)
  (h:∀s',Inv X pins σ (upd H a (.ins C dx (j4 f y fs))) s'->Q () s'):wpAny (model X.prog X.w) A (setAttr (.ref a) f u) Q E s:=by
 obtain⟨mA,O,r,wi,_,ho⟩:=Fz I.j5 e;have hz:(fs.map (·.1)).length<=sizeLine:=by rw[ae,sizeLine_eq];lia
 refine QA I.GW O c.sa c.po n.U1 c.hd wi hz λh' O' sb=>h _ ?_;have hd:∃o,h'.get? dx=some o:=let ⟨o,_,_,e',_⟩:=O'.ns;⟨o,e'⟩
 refine I.write (x:=a) (e:=dx) (by rw[e];exact bB) (.inr ho) (λb q hb z=>(sb.2 b hb).trans z) hd ?_;refine⟨by rw[i4 O.ne];exact ho,?_,O.ne,O'.obj,_,O'.ns,λg=> ?_,λg hg=> ?_⟩
 ·have:=A9 f y fs;lia
 ·show ud ((j4 f y fs).lookup g) (if g=f then some u else mA g);rw[Ba];by_cases q:g=f
  ·rw[if_pos q,if_pos q];exact ry
  ·rw[if_neg q,if_neg q];exact r g
 ·by_cases q:g=f
  ·rw[q];exact(AG f y fs).1
  ·refine(AG f y fs).2 g (wi g λz=>hg ?_);show(if g=f then some u else mA g)=none;rw[if_neg q];exact z
theorem Inv.made(I:Inv X pins σ H s):Inv X pins σ (upd (upd H s.heap.objs.size (.own (s.heap.objs.size+1))) (s.heap.objs.size+1) (.ins C s.heap.objs.size []))
  {s with heap:=(s.heap.push bM).push (ck C s.heap.objs.size)}:=by
 have e1:(s.heap.push bM).get? s.heap.objs.size=some bM:=br s.heap rfl;have e2:((s.heap.push bM).push (ck C s.heap.objs.size)).get? (s.heap.objs.size+1)=some (ck C s.heap.objs.size):=by
  have:=br (s.heap.push bM) (o:=ck C s.heap.objs.size) rfl
  rwa[gv]at this
 have e3:(s.heap.push bM).Ns s.heap.objs.size (λ_=>none):=⟨bM,#[],_,e1,rfl,(λe he=>absurd he (by simp)),λ_=>rfl⟩;have I1:=I.laid (a:=s.heap.objs.size) (o:= .own (s.heap.objs.size+1)) (h':=s.heap.push bM) (t':=s.toks) (λb u q=>aE _ q) (au _) ⟨_,e1⟩;refine I1.laid (a:=s.heap.objs.size+1) (o:= .ins C s.heap.objs.size []) (t':=s.toks) (λb u q=>aE _ q) (Nat.le_of_eq (gv _ _)) ?_;have ne:s.heap.objs.size≠s.heap.objs.size+1:=aJ (fN _);refine⟨by rw[i4 ne,iZ],bh _,ne,e2,λ_=>none,(Heap.Ns1.of_empty e3).at λo q=>aE _ q,λ_=>bB,λy hy=>absurd rfl hy⟩
theorem OY{prog:Program}{w:World}{env:Env}{e:Expr}{f:Str}{pos:Pos}{s:Shared}{Q:Value->Shared->Prop}(hb:attributeBase e f env (eval e env)=eval e env)
  (h:wpAny (model prog w) A (eval e env) (λo s₁=>wpAny (model prog w) A (getAttr o f true) Q E s₁) E s):wpAny (model prog w) A (eval (.Attribute e f pos) env) Q E s:=
 Attribute_any_ h (by rw[arm_eval_Attribute,hb])
end
section
variable{X:Cx}{o e value:Expr}{f:Str}{pos pos' tpos:Pos}{ta tv:TE}
end
section
variable{X:Cx}{pins:List (Addr×Obj)}{σ:St}{H:Hp}{s:Shared}{A:Around}{E:Value->Shared->Prop}{Q:Value->Shared->Prop}{c:Value}{b:Bool}
inductive Mv (K:ah) (H:Hp):V->Value->Prop where
 |kr:Mv K H .kr (.type "NoneType")
 |int (i:Int):Mv K H (.int i) (.type "int")
 |lst {a:Addr} {xs:List V} (e:H a=some (.lst xs)):Mv K H (.ref a) (.type "list")
 |tup {a:Addr} {xs:List V} (e:H a=some (.tup xs)):Mv K H (.ref a) (.type "tuple")
theorem vh{x:V}{u t:Value}(I:Inv X pins σ H s)(rx:RelV x u)(ty:Mv X.K H x t)(e:bw X.K t c=some b)(h:∀tk,Q (.bool b) {s with toks:=tk}):
  wpAny (model X.prog X.w) A (call (.builtin "isinstance") [u,c]) Q E s:=by
 cases ty with
 |kr=>cases (show u=fb from rx);exact e_ PySem.W.kitx_none I.GW bB e (λz=>nomatch z) h
 | @lst a xs ea=>
  cases (show u=aL a from rx)
  obtain⟨_,_,n,_,h1⟩:=(show kO X.prog X.w H s.heap a (.lst xs) from I.j5 a _ ea);exact e_ PySem.W.kitx_list I.GW ⟨_,h1,rfl⟩ e (λz=>nomatch z) h
 |int i=>obtain⟨t,q⟩:=(show∃t,u=dC i t from rx);cases q;exact e_ PySem.W.kitx_int I.GW bB e (λz=>nomatch z) h
 | @tup a xs ea=>
  cases (show u=aL a from rx)
  obtain⟨_,_,_,p⟩:=(show kO X.prog X.w H s.heap a (.tup xs) from I.j5 a _ ea);obtain⟨o,h1,h2,_⟩:=p;exact e_ PySem.W.kitx_tuple I.GW ⟨o,h1,h2⟩ e (λz=>nomatch z) h
end
structure lO(ca:Bool)(k:Nat)(A:Around):Prop where
 hd:ca=true->A.handled=none
 dp:A.depth+3*k+5<recursionLimit
 un:A.units+16*k+200<cLine
theorem lO.mono{ca:Bool}{j k:Nat}{A:Around}(r:lO ca k A)(h:j<=k):lO ca j A:=⟨r.hd,by have:=r.dp;lia,by have:=r.un;lia⟩
theorem lO.deeper{ca:Bool}{k:Nat}{A:Around}(r:lO ca (k+1) A)(env:Env):lO ca k (A.deeper env):=
 ⟨r.hd,by have:=r.dp;show A.depth+1+3*k+5<_;lia,by have:=r.un;show A.units+3+16*k+200<_;lia⟩
theorem Js{A:Around}{C:Addr}{us:List Value}{kw:List (Str×Value)}:(A.under (.builtin "type.__call__" ⟨.ref C::us,kw⟩)).depth=A.depth+1:=by
 first|rfl|simp[gU,Code.weight,Code.isCreation,Code.isGuard,Code.isCaller,Code.frames,gY,guardIds]
theorem Jt{A:Around}{C:Addr}{us:List Value}{kw:List (Str×Value)}:(A.under (.builtin "type.__call__" ⟨.ref C::us,kw⟩)).units=A.units+1:=by
 first|rfl|simp[gU,Code.cUnits,Code.frames,gY]
theorem lO.make{ca:Bool}{k:Nat}{A:Around}(r:lO ca (k+1) A)(C:Addr)(us:List Value)(kw:List (Str×Value)):lO ca k (A.under (.builtin "type.__call__" ⟨.ref C::us,kw⟩)):=
 ⟨r.hd,by have:=r.dp;rw[Js];lia,by have:=r.un;rw[Jt];lia⟩
theorem lO.depth{ca:Bool}{k:Nat}{A:Around}(r:lO ca k A):A.depth<recursionLimit:=by have:=r.dp;lia
theorem lO.units{ca:Bool}{k:Nat}{A:Around}(r:lO ca k A):A.units+64<cLine:=by have:=r.un;lia
def IB:TA:=λ_ H Q=>Q [] H
def E1(ta:TE)(tr:TA):TA:=λσ H Q=>ta σ H λx H1=>tr σ H1 λxs H2=>Q (x::xs) H2
section
variable{X:Cx}{e:Expr}{es:List Expr}{te:TE}{t:TA}{pos:Pos}
theorem Sr:PA X [] IB:=λ_ _ _ _ H Q I h=>fD ⟨[],H,I,.nil,h⟩
theorem Qb(ha:PE X e te)(hr:PA X es t)(hs:starEach (e::es) X.env=(false,eval e X.env)::starEach es X.env:=by rfl):PA X (e::es) (E1 te t):=by
 intro pos pins s σ H Q I h;rw[hs];show wpAny _ _ (spliced ((false,eval e X.env)::backTo pos (starEach es X.env))) _ _ s;refine ft (lQ (ha pins s σ H _ I h) λu s1=>qh λx H1 I1 r1 q1=> ?_);exact lQ (hr pos pins s1 σ H1 _ I1 q1) λus s2=>qh λxs H2 I2 r2 q2=>⟨x::xs,H2,I2,.cons r1 r2,q2⟩
def S7(t:TA):TE:=λσ H Q=>t σ H λxs H1=>xs.length<=sizeLine/\∀p,H1 p=none->Q (.ref p) (upd H1 p (.tup xs))
def S4(t:TA):TE:=λσ H Q=>t σ H λxs H1=>xs.length<=sizeLine/\∀p,H1 p=none->Q (.ref p) (upd H1 p (.lst xs))
theorem SD{x1}(h:PA X es t):PE X (.Tuple es x1 pos) (S7 t):=by
 intro pins s σ H Q I hq;refine wpAny_Tuple_spliced (lQ (h pos pins s σ H _ I hq) λus s1 ⟨xs,H1,I1,r,z,q⟩=>⟨by rw[←r.length];exact z,?_⟩);have hf:H1 s1.heap.objs.size=none:=I1.j5.fresh (au _);refine⟨.ref s1.heap.objs.size,upd H1 s1.heap.objs.size (.tup xs),I1.laid (t':=s1.toks) (λb u e=>aE _ e) (au _) ?_,rfl,q _ hf⟩;exact⟨z,us,r,⟨_,br _ rfl,rfl,_,rfl⟩⟩
theorem Sw(h:PA X es t):PE X (.List es pos) (S4 t):=by
 intro pins s σ H Q I hq;refine wpAny_List_spliced (lQ (h pos pins s σ H _ I hq) λus s1 ⟨xs,H1,I1,r,z,q⟩=>⟨by rw[←r.length];exact z,?_⟩);have hf:H1 s1.heap.objs.size=none:=I1.j5.fresh (au _);refine⟨.ref s1.heap.objs.size,upd H1 s1.heap.objs.size (.lst xs),I1.laid (t':=s1.toks) (λb u e=>aE _ e) (au _) ?_,rfl,q _ hf⟩;exact⟨z,us,0,r,br _ rfl⟩
end
abbrev Sp:=List V->Hp->VK->XK->Prop
abbrev Mn:=List Env->Hp->Shared->XK->Value->Shared->Prop
structure II(P:Program)(w:World)(K:ah)(mg:Str->Option Value)(base:Heap)(A:Around)(outer:List Env)(s:Shared)(H:Hp):Prop where
 frames:A.frames=some outer
 mod:Mod K mg base
 bs:∀b o,base.get? b=some o->s.heap.get? b=some o/\H b=none
 OO:base.objs.size<=s.heap.objs.size
 wR:s.heap.FunFrames base outer
 PD:∀b∈B0 outer,H b=none
 j5:tZ P w H s.heap
 bare:AllBare s.gens
def CE(outer:List Env)(P:Program)(w:World)(H:Hp)(s:Shared)(Q:VK)(u:Value)(s':Shared):Prop:=
 ∃v H',s'.os=s.os/\AllBare s'.gens/\Un (B0 outer) [] H H' s.heap s'.heap/\tZ P w H' s'.heap/\RelV v u/\Q v H'
def CR(CX:Mn)(outer:List Env)(P:Program)(w:World)(H:Hp)(s:Shared)(Q:VK)(E:XK)(r:Result)(s':Shared):Prop:=
 match r with
 | .ok (.ret u)=>CE outer P w H s Q u s'
 | .ok _=>False
 | .error e=>CX outer H s E e s'
structure lZ(P:Program)(w:World)(K:ah)(mg:Str->Option Value)(base:Heap)(CX:Mn)(ca:Bool)(k:Nat)(f:Addr)(fd:FuncData)(ps:List Str)(sp:Sp):Prop where
 len:∀vs H Q E,sp vs H Q E->vs.length=ps.length
 run:∀(A:Around) (outer:List Env) (s:Shared) (H:Hp) (args:Args) (us:List Value) (vs:List V) (Q:VK) (E:XK),lO ca k A->II P w K mg base A outer s H->BindsTo s fd args (ps.zip us)->Vals vs us->sp vs H Q E->
  codeAny (model P w) A (.call (.ref f) args) (CR CX outer P w H s Q E) s
theorem lZ.mono{P:Program}{w:World}{K:ah}{mg:Str->Option Value}{base:Heap}{CX:Mn}{ca:Bool}{j k:Nat}{f:Addr}{fd:FuncData}{ps:List Str}{sp:Sp}(F:lZ P w K mg base CX ca j f fd ps sp)(h:j<=k:=by decide):
  lZ P w K mg base CX ca k f fd ps sp:=⟨F.len,λA outer s H args us vs Q E hr=>F.run A outer s H args us vs Q E (hr.mono h)⟩
theorem II.make{P:Program}{w:World}{K:ah}{mg:Str->Option Value}{base:Heap}{A:Around}{outer:List Env}{s:Shared}{H:Hp}(e:II P w K mg base A outer s H)(C:Addr)(us:List Value)(kw:List (Str×Value)):
  II P w K mg base (A.under (.builtin "type.__call__" ⟨.ref C::us,kw⟩)) outer s H:=⟨by first|exact e.frames|(simpa [gU,Code.envs,gY,pushEnvs] using e.frames),e.mod,e.bs,e.OO,e.wR,e.PD,e.j5,e.bare⟩
section
variable{X:Cx}{pins:List (Addr×Obj)}{σ:St}{H:Hp}{s s':Shared}
theorem Inv.Ud(I:Inv X pins σ H s):II X.prog X.w X.K X.mg X.base X.A X.stack s H:=
 ⟨I.ok.frames,I.ok.mod,I.bs,av I.ok.OO I.sz,I.stack,I.BL,I.j5,I.bare⟩
theorem Inv.after{Q:VK}{u:Value}(I:Inv X pins σ H s)(h:CE X.stack X.prog X.w H s Q u s'):EP X pins σ Q u s':=by
 obtain⟨v,H',os,bare,un,j5,r,q⟩:=h;obtain⟨hh,g,d,t,os'⟩:=s';obtain rfl:os'=s.os:=os;exact⟨v,H',I.call (h':=hh) (g':=g) (d':=d) (t':=t) (ch:=[]) un j5 bare (λb z=>absurd z (by simp)),r,q⟩
end
def Binds(K:ah)(fd:FuncData)(ps:List Str)(ds:List Value):Prop:=
 ∀(s:Shared) (us:List Value),K.In s.heap->(us++ds).length=ps.length->BindsTo s fd ⟨us,[]⟩ (ps.zip (us++ds))
theorem Binds.all{K:ah}{fd:FuncData}{ps:List Str}(h:∀us:List Value,us.length=ps.length->bindArgs fd ⟨us,[]⟩=pure (ps.zip us)):Binds K fd ps []:=λs us _ hl=>by
 rw[bg]at hl⊢;exact .of_eq (h us hl)
section
variable{X:Cx}{CX:Mn}{ca:Bool}{k:Nat}{f C:Addr}{fd:FuncData}{ps:List Str}{sp:Sp}{dvs:List V}{ds:List Value}{E:XK}{x m:Str}{p pos apos:Pos}{e o:Expr}{es:List Expr}{ta:TE}{t:TA}
structure Mk(K:ah)(C f:Addr):Prop where
 makes:bW K C=true
 init:aB K (.ref C) "__init__"=some (some (.ref f))
 fn:b_ K (.ref f)=true
 kp:bo K (.ref C)=true
end
section
variable{X:Cx}{CX:Mn}{ca:Bool}{k:Nat}{f C:Addr}{fd:FuncData}{ps ks:List Str}{sp:Sp}{E:XK}{x m:Str}{p pos apos kpos:Pos}{e o:Expr}{es:List Expr}{kws:List Keyword}{te ta:TE}{t tk:TA}{nm:Option Str}
variable{g:List Value->List Value->List Value}{gV:List V->List V->List V}
end
structure i8(N P:List Str)(sc:Scope):Prop where
 kind:sc.kind= .function
 co:sc.isCoroutine=false
 gen:sc.isGenerator=false
 nd:N.Nodup
 pre:N.take P.length=P
 par:∀x∈P,sc.names.lookup x=some .local∨sc.names.lookup x=some .cell
 Se:∀y∈sc.names,y.2≠ .free
theorem EF{kindOf:Str->Option NameKind}{x:Str}:∀{binds:List (Str×Value)} {m:Str->Option Value},(∀v,(x,v)∉binds)->bindL kindOf binds m x=m x
 | [],_,_=>rfl
 |(n,v)::r,m,h=>by
  unfold bindL;rw[EF λw hw=>h w (ai _ hw)]
  split
  ·have:x≠n:=by rintro rfl;exact h v aq
   simp[this]
  ·rfl
theorem ED{kindOf:Str->Option NameKind}{x:Str}:∀{binds:List (Str×Value)} {m:Str->Option Value},(∀v,(x,v)∉binds)->bindC kindOf binds m x=m x
 | [],_,_=>rfl
 |(n,v)::r,m,h=>by
  unfold bindC;rw[ED λw hw=>h w (ai _ hw)]
  split
  ·rfl
  ·have:x≠n:=by rintro rfl;exact h v aq
   simp[this]
theorem EE{kindOf:Str->Option NameKind}{x:Str}{v:Value}:∀{P:List Str} {vs:List Value} {i:Nat} {m:Str->Option Value},P.Nodup->P[i]? =some x->vs[i]? =some v->kindOf x=some .local->
  bindL kindOf (P.zip vs) m x=some v
 | [],_,_,_,_,h,_,_=>by simp at h
 |_::_,[],_,_,_,_,h,_=>by simp at h
 |p::P,w::vs,0,m,nd,h1,h2,hk=>by
  simp at h1 h2;subst h1;subst h2;show bindL kindOf ((p,w)::P.zip vs) m p=_;unfold bindL;rw[EF λv hv=>(List.nodup_cons.mp nd).1 (fV hv).1,if_pos hk];simp
 |p::P,w::vs,i+1,m,nd,h1,h2,hk=>by
  show bindL kindOf ((p,w)::P.zip vs) m x=_;unfold bindL;exact EE (i:=i) (List.nodup_cons.mp nd).2 (by simpa using h1) (by simpa using h2) hk
theorem EC{kindOf:Str->Option NameKind}{x:Str}{v:Value}:∀{P:List Str} {vs:List Value} {i:Nat} {m:Str->Option Value},P.Nodup->P[i]? =some x->vs[i]? =some v->kindOf x≠some .local->
  bindC kindOf (P.zip vs) m x=some v
 | [],_,_,_,_,h,_,_=>by simp at h
 |_::_,[],_,_,_,_,h,_=>by simp at h
 |p::P,w::vs,0,m,nd,h1,h2,hk=>by
  simp at h1 h2;subst h1;subst h2;show bindC kindOf ((p,w)::P.zip vs) m p=_;unfold bindC;rw[ED λv hv=>(List.nodup_cons.mp nd).1 (fV hv).1,if_neg hk];simp
 |p::P,w::vs,i+1,m,nd,h1,h2,hk=>by
  show bindC kindOf ((p,w)::P.zip vs) m x=_;unfold bindC;exact EC (i:=i) (List.nodup_cons.mp nd).2 (by simpa using h1) (by simpa using h2) hk
noncomputable def start (N:List Str) (vs:List V):St:=vs.map some++ao (N.length-vs.length) none
noncomputable def Hf (CX:Mn) (ca:Bool) (P:Program) (w:World) (K:ah) (mg:Str->Option Value) (base:Heap) (N:List Str) (qual:Str) (scope:Scope) (f:Addr) (cd:Value) (A:Around) (outer:List Env) (s:Shared) (H:Hp) (E:XK):Cx where
 prog:=P
 w:=w
 K:=K
 mg:=mg
 base:=base
 A:=A.deeper (envOfC qual scope s.heap.objs.size f cd)
 N:=N
 s₀:=s
 H₀:=H
 env:=envOfC qual scope s.heap.objs.size f cd
 outer:=outer
 stack:=envOfC qual scope s.heap.objs.size f cd::outer
 ex:=[]
 calm:=ca
 fn:=λ_=>true
 pn:=[]
 xe:=λe s'=>wpAny (model P w) (A.deeper (envOfC qual scope s.heap.objs.size f cd)) (leaving (envOfC qual scope s.heap.objs.size f cd) e) (λ_ s''=>CX outer H s E e s'') (λe' s''=>CX outer H s E e' s'') s'
theorem Hc{sc:Scope}{n:Nat}{x:Str}(h:sc.names.lookup x=some .cell):∃c,(cellsFrom n sc.names []).lookup x=some c:=by
 have q:=gp sc.names n [] (.inl h);exact Option.isSome_iff_exists.mp q
theorem LF{CX:Mn}{ca:Bool}{P:Program}{w:World}{K:ah}{mg:Str->Option Value}{base:Heap}{N ps:List Str}{qual:Str}{scope:Scope}{f:Addr}{cd:Value}{A:Around}{outer:List Env}{s s1:Shared}{H:Hp}{E:XK}{us:List Value}{vs:List V}
  (S:i8 N ps scope) (hd:ca=true->A.handled=none) (e0:II P w K mg base A outer s H) (hl:vs.length=ps.length) (r:Vals vs us)
  (x:InCallC s s.heap.objs.size (bindL (envOfC qual scope s.heap.objs.size f cd).kindOf (ps.zip us) λ_=>none) (cellsFrom (s.heap.objs.size+1) scope.names []) (bindC (envOfC qual scope s.heap.objs.size f cd).kindOf (ps.zip us) λ_=>none) s1):
  Inv (Hf CX ca P w K mg base N qual scope f cd A outer s H E) [] (start N vs) H s1:=by
 have hpl:ps.length<=N.length:=by have:=congrArg eB S.pre;rw[bP]at this;lia
 obtain⟨h1,tk,rfl,hk⟩:=x.done;have noA:∀b:Addr,b∉(Hf CX ca P w K mg base N qual scope f cd A outer s H E).ex:=λb z=>absurd (show b∈([]:List Addr) from z) (by simp);refine⟨⟨e0.mod,S.kind,rfl,rfl,au _,λy z c h1 h2=> ?_,λy hy=> ?_,λy c _ h=> ?_,λz=>hd z,Around.frames_deeper e0.frames,.inr ⟨rfl,rfl⟩,λb z=>absurd z (noA b),e0.bs,e0.OO,λb _ _=>noA b,λb z=>absurd z (noA b),e0.wR,e0.PD⟩,
  rfl,e0.bare,Un.kept hk,⟨_,x.toInCall.ns,λi y v h1 h2 h3=> ?_⟩,λy c h=>⟨_,x.cell y c h⟩,e0.j5.fresh (au _),λy c h=> ?_,λp hp=>absurd (show p∈([]:List (Addr×Obj)) from hp) (by simp),e0.j5.kept hk,?_⟩
 ·exact name_of_addr x.apart (dg h1) (dg h2)
 ·have hy:scope.names.lookup y=some .cell∨scope.names.lookup y=some .free:=hy;rcases hy with hy|hy
  ·exact Hc hy
  ·exact absurd rfl (S.Se _ (dg hy))
 ·exact dM (x.above y c (dg h))
 ·have hi:i<vs.length:=by
   unfold start at h2;by_cases hi:i<vs.length
   ·exact hi
   ·rw[bp (by simpa using hi)]at h2;rw[dj]at h2
    split at h2<;>cases h2
  have ha:vs[i]? =some v:=by
   unfold start at h2;rw[bj (by simpa using hi),ak]at h2
   cases e:vs[i]? with
   |none=>rw[e]at h2;cases h2
   |some a=>rw[e]at h2;cases h2;rfl
  obtain⟨u,hu,rv⟩:=r.get ha;have hp:ps[i]? =some y:=by
   rw[←S.pre,d8 (by lia)];exact h1
  have ndP:ps.Nodup:=by rw[←S.pre];exact S.nd.sublist (List.take_sublist _ _)
  refine⟨u,rv,?_⟩;rcases S.par y (ba hp) with k|k
  ·exact .inl ⟨k,EE ndP hp hu k⟩
  ·obtain⟨c,e⟩:=Hc (n:=s.heap.objs.size+1) k;refine .inr ⟨.inl k,c,e,?_⟩;have q:=x.cell y c e;rw[EC ndP hp hu (by show scope.names.lookup y≠_;rw[k];decide)]at q;exact q
 ·exact e0.j5.fresh (dM (x.above y c (dg h)))
 ·unfold start;show _=N.length;rw[ay,ae,bc];lia
theorem QR{CX:Mn}{ca:Bool}{P:Program}{w:World}{K:ah}{mg:Str->Option Value}{base:Heap}{k:Nat}{f:Addr}{name qual:Str}{params:Arguments}{body:List Stmt}{scope:Scope}{dV kV doc pm cdv ct oc:Value}{an od:Option Addr}
  {osl:Array (Option Value)} {N ps:List Str} {sp:Sp} (lk:K.lookup f=some ⟨oc,od,.func (cx name qual params body scope dV kV doc pm an cdv ct),osl⟩) (hcd:fj K cdv qual=true) (S:i8 N ps scope)
  (len:∀vs H Q E,sp vs H Q E->vs.length=ps.length)
  (hbody:∀(A:Around) (outer:List Env) (s:Shared) (H:Hp) (vs:List V) (Q:VK) (E:XK),lO ca k (A.deeper (envOfC qual scope s.heap.objs.size f cdv))->sp vs H Q E->
   ∃t,G1 (Hf CX ca P w K mg base N qual scope f cdv A outer s H E) body t/\t {nx:=λ_ H'=>Q .kr H',rt:=Q} (start N vs) H):
  lZ P w K mg base CX ca (k+1) f (cx name qual params body scope dV kV doc pm an cdv ct) ps sp:=by
 refine⟨len,λA outer s H args us vs Q E hr e0 hb r hsp=> ?_⟩;have hl:=len _ _ _ _ hsp;have KX:K.In s.heap:=e0.mod.Ul.keeps λb o e=>(e0.bs b o e).1;have lim:s.heap.NoLimit:=e0.mod.nolimit.keeps λb o e=>(e0.bs b o e).1;have hkind:∀y∈ps.zip us,scope.names.lookup y.1=some .local∨(scope.names.lookup y.1=some .cell/\((cellsFrom (s.heap.objs.size+1) scope.names []).lookup y.1).isSome=true):=λ⟨n,v⟩ hy=>by
  rcases S.par n (fV hy).1 with q|q
  ·exact .inl q
  ·exact .inr ⟨q,gp _ _ _ (.inl q)⟩
 refine codeAny_call_function hr.depth (KX _ _ lk) rfl S.co S.gen rfl (PySem.W.codeRec_of KX hcd) (hb _ _ _ _ ?_);refine wpAny_newFunctionEnv_cells S.kind hkind λenv he s1 x=> ?_;subst he;refine⟨lim.keeps x.toInCall.keep,codeAny_func ?_⟩;obtain⟨t,ht,hq⟩:=hbody A outer s H vs Q E (hr.deeper _) hsp;have I:Inv (Hf CX ca P w K mg base N qual scope f cdv A outer s H E) [] (start N vs) H s1:=LF S hr.hd e0 hl r x;refine wpAny_mono (ht [] s1 (start N vs) H _ I hq) (λfl s' hs=> ?_) λe s' hs=>hs;have fin:∀{σ':St} {H':Hp} {v:V} {u:Value},Inv (Hf CX ca P w K mg base N qual scope f cdv A outer s H E) [] σ' H' s'->RelV v u->Q v H'->CE outer P w H s Q u s':=
  λ{σ' H' v u} J rv q=>⟨v,H',J.os,J.bare,J.base,J.j5,rv,q⟩
 cases fl with
 |ret u=>
  obtain⟨v,σ',H',J,rv,q⟩:=hs;exact fin J rv q
 |next=>
  obtain⟨σ',H',J,q⟩:=hs;exact fin (v:=V.kr) (u:=fb) J rfl q
 |brk=>
  obtain⟨_,_,_,q⟩:=hs;exact cD q
 |cont=>
  obtain⟨_,_,_,q⟩:=hs;exact cD q
section
variable{X:Cx}{x:Str}{p pos:Pos}{e:Expr}{es:List Expr}{t:TA}{id T:String}{r:List V->Hp->VK->Prop}
def S0(r:List V->Hp->VK->Prop)(t:TA):TE:=λσ H Q=>t σ H λvs H1=>r vs H1 Q
theorem NT(hc:nB X (.builtin id) r)(hg:Gl X x)(hm:X.mg x=none)(hv:bootBuiltins x=some (.builtin id))(ha:PA X (e::es) t)(hn:x≠"__name__":=by decide)(hdb:(x==("__debug__":Str))=false:=by decide)
  (he:starEach (e::es) X.env=(false,eval e X.env)::starEach es X.env:=by rfl) (hpl:(backTo pos (starEach es X.env)).any (·.1)=false:=by rfl):PE X (.Call (.Name x p) (e::es) [] pos) (S0 r t):=by
 intro pins s σ H Q I h;refine wpAny_Call_Name_kw (r9 I hg hm hv ?_ hn hdb);exact PyProof.Rows.callWith_builtin1 (lQ (ha pos pins s σ H _ I h) λus s1=>qh λvs H1 I1 r1 q1=>hc pins s1 σ H1 vs us Q I1 r1 q1) he hpl
theorem LZ(hc:nB X (.type T) r)(hg:Gl X x)(hm:X.mg x=none)(hv:bootBuiltins x=some (.type T))(ha:PA X (e::es) t)(hn:x≠"__name__":=by decide)(hdb:(x==("__debug__":Str))=false:=by decide)
  (he:starEach (e::es) X.env=(false,eval e X.env)::starEach es X.env:=by rfl) (hpl:(backTo pos (starEach es X.env)).any (·.1)=false:=by rfl):PE X (.Call (.Name x p) (e::es) [] pos) (S0 r t):=by
 intro pins s σ H Q I h;refine wpAny_Call_Name_kw (r9 I hg hm hv ?_ hn hdb);exact bH (lQ (ha pos pins s σ H _ I h) λus s1=>qh λvs H1 I1 r1 q1=>hc pins s1 σ H1 vs us Q I1 r1 q1) he hpl
end
end Internal
namespace HT
open PySem PyProof.Rows
section
open PySem.SeqAt
open PySem.AutoSeq1 (wpAny_loadPart')
open PySem.MeetsSeq PySem.MeetsSeq2 PySem.MeetsSeq3
end
section
variable{prog:Program}{w:World}{A:Around}{E:Value->Shared->Prop}{s:Shared}
theorem Pt{t b:Addr}{vs ws:List Value}{Q:Value->Shared->Prop}(ht:IsTup s.heap t vs.toArray)(hb:IsTup s.heap b ws.toArray)(hv:vs≠ [])
  (h1:ws=[]->Q (.ref t) s) (h2:ws≠ []->Q (.ref s.heap.objs.size) {s with heap:=s.heap.push {cls:= .type "tuple",data:= .seq (vs++ws).toArray}})
  (hsz:vs.length+ws.length<=sizeLine):wpAny (model prog w) A (binaryOp .Add (.ref t) (.ref b)) Q E s:=by
 obtain⟨⟨cls,dd,data,sl⟩,ho,hc,n,hd⟩:=id ht;obtain⟨⟨cls2,dd2,data2,sl2⟩,ho2,hc2,n2,hd2⟩:=id hb;simp only at hc hd hc2 hd2;subst hc hd hc2 hd2;have e:vs.toArray++ws.toArray=(vs++ws).toArray:=by simp
 by_cases hw:ws=[]
 ·exact concat_meets ⟨_,ho,rfl⟩ ⟨_,ho2,rfl⟩ noFill_tuple_add seq_tuple_add gm fR (fO _ _)
   (tuple_addW1 t b vs.toArray ws.toArray n n2 dd dd2 sl sl2 (by simpa using hv) (by simp[hw])) ⟨ho,ho2,h1 hw⟩
 ·refine concat_meets ⟨_,ho,rfl⟩ ⟨_,ho2,rfl⟩ noFill_tuple_add seq_tuple_add gm fR (fO _ _)
   (tuple_addW2 t b vs.toArray ws.toArray n n2 dd dd2 sl sl2 (by simpa using hv) (by simpa using hw) (by rw[aH,aH];exact hsz)) ⟨ho,ho2,?_⟩
  rw[e];exact h2 hw
noncomputable def GX (n d:Nat):Option Int->Nat
 |none=>d
 |some v=>if v<0 then(v+(n:Int)).toNat else min v.toNat n
theorem Ga(n d k:Nat):GX n d (some (k:Int))=min k n:=by
 show(if (k:Int)<0 then((k:Int)+(n:Int)).toNat else min (k:Int).toNat n)=min k n;rw[if_neg (by lia),bf]
end
end HT
namespace Internal
open PySem PySem.Spec PyProof.Rows
abbrev TO:=St->Hp->(Option Int->Hp->Prop)->Prop
def PO(X:Cx)(e:Option Expr)(t:TO):Prop:=
 ∀(pins:List (Addr×Obj)) (s:Shared) (σ:St) (H:Hp) (Q:Option Int->Hp->Prop),Inv X pins σ H s->t σ H Q->
  wpAny (model X.prog X.w) X.A (evalPart e X.env) (λu s'=>∃o H',Inv X pins σ H' s'/\IsPart u o/\Q o H') X.xe s
def GP:TO:=λ_ H Q=>Q none H
section
variable{X:Cx}{e:Expr}{te:TE}{lo hi:Option Expr}{tl th:TO}{pos p2:Pos}
theorem Qj:PO X none GP:=by
 intro pins s σ H Q I h;rw[evalPart_none];exact wpAny_pure ⟨none,H,I,.none,h⟩
def Q7(X:Cx)(r:V->Option Int->Option Int->Hp->VK->Prop):Prop:=
 ∀(pins:List (Addr×Obj)) (s:Shared) (σ:St) (H:Hp) (x:V) (v vl vu:Value) (lo hi:Option Int) (sl:Addr) (Q:VK),Inv X pins σ H s->RelV x v->s.heap.IsSliceOf sl vl vu .none->IsPart vl lo->IsPart vu hi->r x lo hi H Q->
  ∃T id,typeLookup (.type T) "__getitem__"=pure (some (.builtin id))/\s.TypeIs v T/\wpAny (model X.prog X.w) X.A (getItem v (.ref sl)) (EP X pins σ Q) X.xe s
def Wg(r:V->Option Int->Option Int->Hp->VK->Prop)(te:TE)(tl th:TO):TE:=λσ H Q=>te σ H λx H1=>tl σ H1 λl H2=>th σ H2 λu H3=>r x l u H3 Q
theorem N3{r:V->Option Int->Option Int->Hp->VK->Prop}(hr:Q7 X r)(he:PE X e te)(hl:PO X lo tl)(hu:PO X hi th):PE X (.Subscript e (.Slice lo hi none p2) pos) (Wg r te tl th):=by
 intro pins s σ H Q I h;refine Subscript_ (lQ (he pins s σ H _ I h) λv s1=>qh λx H1 I1 r1 q1=> ?_);refine wpAny_Slice (lQ (hl pins s1 σ H1 _ I1 q1) λvl s2=>qh λl H2 I2 pl q2=>lQ (hu pins s2 σ H2 _ I2 q2) λvu s3=>qh λu H3 I3 pu q3=> ?_);rw[evalPart_none];refine wpAny_pure ?_;have I4:Inv X pins σ H3 {s3 with heap:=s3.heap.push {cls:= .type "slice",data:= .fields #[vl,vu,.none]}}:=I3.kept (t':=s3.toks) λb ob q=>aE _ q;obtain⟨T,id,hT,ht,hg⟩:=hr pins {s3 with heap:=s3.heap.push {cls:= .type "slice",data:= .fields #[vl,vu,.none]}} σ H3 x v vl vu l u s3.heap.objs.size Q I4 r1 (Heap.IsSliceOf.new ..) pl pu q3;show wpAny (model X.prog X.w) X.A (subscriptTail e (.Slice lo hi none p2) v (.ref s3.heap.objs.size)) (EP X pins σ Q) X.xe {s3 with heap:=s3.heap.push {cls:= .type "slice",data:= .fields #[vl,vu,.none]}};exact tail_any (ops:=[.ref s3.heap.objs.size,v]) ht hT hg (by with_unfolding_all rfl)
noncomputable def DI (xs:List V) (lo hi:Option Int):List V:=(xs.drop (HT.GX xs.length 0 lo)).take (HT.GX xs.length xs.length hi-HT.GX xs.length 0 lo)
theorem He(xs:List V)(lo hi:Option Int):(DI xs lo hi).length<=xs.length:=by
 unfold DI;rw[bP,eM];lia
def UT(K:ah):R2:=λx y H Q=>∃a b xs ys,x= .ref a/\y= .ref b/\Ke K H a xs/\Ke K H b ys/\xs≠ []/\xs.length+ys.length<=sizeLine/\
 (ys=[]->Q (.ref a) H)/\(ys≠ []->∀p,H p=none->Q (.ref p) (upd H p (.tup (xs++ys))))
theorem Vals.FQ{xs:List V}{us:List Value}(r:Vals xs us):us=[]↔xs=[]:=by
 cases r with
 |nil=>simp
 |cons _ _=>simp
theorem P9:nX X (binaryOp .Add) (UT X.K):=by
 intro pins s σ H x y v u Q I rx ry h;obtain⟨a,b,xs,ys,rfl,rfl,ha,hb,hx,hz,q1,q2⟩:=h
 cases rx
 cases ry
 obtain⟨its,r1,p1,_⟩:=I.tuple ha;obtain⟨its2,r2,p2,_⟩:=I.tuple hb;refine HT.Pt p1 p2 (λz=>hx (r1.FQ.mp z)) (λz=>⟨.ref a,H,I,rfl,q1 (r2.FQ.mp z)⟩) (λz=> ?_) (by rw[←r1.length,←r2.length];exact hz);refine⟨.ref s.heap.objs.size,_,I.laid (t':=s.toks) (o:= .tup (xs++ys)) (λb ob q=>aE _ q) (au _) ?_,rfl,q2 (λw=>z (r2.FQ.mpr w)) _ (I.j5.fresh (au _))⟩;exact⟨by rw[ay];exact hz,_,r1.append r2,IsTup.new _ _⟩
end
noncomputable def LH (n:Nat) (i:Int):Option Nat:=if 0<=i then(if i<n then some i.toNat else none) else if -(n:Int)<=i then some (i+n).toNat else none
noncomputable def Bm {α:Type} (xs:List α) (i:Int):Option α:=(LH xs.length i).bind λj=>xs[j]?
theorem KG{n:Nat}{i:Int}{j:Nat}(h:LH n i=some j):seqIndex? i n=some j/\j<n/\ -(n:Int)<=i/\i<n:=by
 unfold LH at h;by_cases h0:0<=i
 ·rw[if_pos h0]at h;by_cases h1:i<n
  ·rw[if_pos h1]at h;have e:i.toNat=j:=aM h;exact⟨by rw[seqIndex_of h0 h1,e],by lia,by lia,h1⟩
  ·rw[if_neg h1]at h;cases h
 ·rw[if_neg h0]at h;by_cases h1: -(n:Int)<=i
  ·rw[if_pos h1]at h;have e:(i+n).toNat=j:=aM h;exact⟨by rw[seqIndex_neg (by lia) h1,e],by lia,h1,by lia⟩
  ·rw[if_neg h1]at h;cases h
theorem Kh{α:Type}{xs:List α}{i:Int}{v:α}(h:Bm xs i=some v):∃j,seqIndex? i xs.length=some j/\xs[j]? =some v/\j<xs.length/\ -(xs.length:Int)<=i/\i<xs.length:=by
 unfold Bm at h
 cases e:LH xs.length i with
 |none=>rw[e]at h;cases h
 |some j=>
  rw[e]at h;obtain⟨h1,h2,h3,h4⟩:=KG e;exact⟨j,h1,h,h2,h3,h4⟩
theorem rP{α:Type}{xs:List α}{j:Nat}{v:α}(h:xs[j]? =some v):Bm xs (j:Int)=some v:=by
 have hj:j<xs.length:=(List.getElem?_eq_some_iff.mp h).1;have e:LH xs.length (j:Int)=some j:=by
  unfold LH;rw[if_pos (by lia),if_pos (by lia)];simp
 unfold Bm;rw[e];exact h
def Kc(b:Expr):Prop:=∀o i,subscripted b false o i=operate [o,i] (getItem o i)
def Te(X:Cx)(r:R2):Prop:=
 ∀(value slice:Expr) (pins:List (Addr×Obj)) (s:Shared) (σ:St) (H:Hp) (x y:V) (v u:Value) (Q:VK),Inv X pins σ H s->RelV x v->RelV y u->r x y H Q->
  subscripted slice false v u=operate [v,u] (getItem v u)->wpAny (model X.prog X.w) X.A (subscriptTail value slice v u) (EP X pins σ Q) X.xe s
def Vm(X:Cx)(id:String)(r:V->List V->Hp->VK->Prop):Prop:=
 ∀(pins:List (Addr×Obj)) (s:Shared) (σ:St) (H:Hp) (x:V) (xs:List V) (v:Value) (us:List Value) (Q:VK),Inv X pins σ H s->RelV x v->Vals xs us->r x xs H Q->
  wpAny (model X.prog X.w) X.A (call (.builtin id) (v::us)) (EP X pins σ Q) X.xe s
section
variable{X:Cx}{a b:Expr}{ta tb:TE}{pos:Pos}
theorem UN{r:R2}(hr:Te X r)(ha:PE X a ta)(hb:PE X b tb)(hs:Kc b):PE X (.Subscript a b pos) (Me r ta tb):=by
 intro pins s σ H Q I h;exact Subscript_ (Rg ha hb I h λv u s2 x y H2 I2 rx ry q=>hr a b pins s2 σ H2 x y v u Q I2 rx ry q (hs _ _))
def V1(K:ah):R2:=λx y H Q=>∃p xs i v,x= .ref p/\y= .int i/\jX K H p xs/\Bm xs i=some v/\Q v H
def V2(K:ah):R2:=λx y H Q=>∃p xs i v,x= .ref p/\y= .int i/\Ke K H p xs/\Bm xs i=some v/\Q v H
theorem KH:Te X (V1 X.K):=by
 intro value slice pins s σ H x y v u Q I rx ry h hs;obtain⟨p,xs,i,z,rfl,rfl,hq,he,q⟩:=h
 cases rx
 obtain⟨t,rfl⟩:=ry;obtain⟨its,r,pl,hz⟩:=I.list hq;obtain⟨j,h1,h2,h3,h4,h5⟩:=Kh he;obtain⟨w,ew,rw'⟩:=r.get h2;have hl:=r.length;have hn:=Cs;have fin:EP X pins σ Q w s:=⟨z,H,I,rw',q⟩;by_cases h0:0<=i
 ·have hj:i.toNat=j:=by
   rw[seqIndex_of h0 h5]at h1;exact aM h1
  exact item_listR pl.isList h0 (by lia) (by rw[hj];simpa using ew) fin hs
 ·have hj:(i+(its.toArray.size:Int)).toNat=j:=by
   rw[seqIndex_neg (by lia) h4]at h1;rw[aH,←hl];exact aM h1
  exact subscriptTail_builtinR (x:=w) pl.isList.typeIs slot_list_getitem.lookup
   (wpAny_getItem_list_neg (Q:=λr s'=>r=w/\EP X pins σ Q r s') pl.isList (by lia) (by rw[aH]<;>lia) (by lia) (by rw[hj];simpa using ew) ⟨rfl,fin⟩) hs
theorem RT:Te X (V2 X.K):=by
 intro value slice pins s σ H x y v u Q I rx ry h hs;obtain⟨p,xs,i,z,rfl,rfl,hq,he,q⟩:=h
 cases rx
 obtain⟨t,rfl⟩:=ry;obtain⟨its,r,pl,hz⟩:=I.tuple hq;obtain⟨j,h1,h2,h3,h4,h5⟩:=Kh he;obtain⟨w,ew,rw'⟩:=r.get h2;have hl:=r.length;have hn:=Cs;have fin:EP X pins σ Q w s:=⟨z,H,I,rw',q⟩;exact subscriptTail_builtinR (x:=w) pl.typeIs slot_tuple_getitem.lookup
  (getItem_tuple (j:=j) (Q:=λr s'=>r=w/\EP X pins σ Q r s') pl (by lia) (by lia) (by rw[aH,←hl];exact h1) (by simpa using ew) ⟨rfl,fin⟩) hs
theorem Ju(its:List Value)(n j:Nat)(u:Value):cZ (·.setIfInBounds j u) {cls:= .type "list",data:= .seq its.toArray n}={cls:= .type "list",data:= .seq (its.set j u).toArray n}:=by
 simp[cZ]
theorem Inv.lst{pins:List (Addr×Obj)}{σ:St}{H:Hp}{s:Shared}{p:Addr}{xs:List V}(I:Inv X pins σ H s)(h:H p=some (.lst xs)):
  ∃(its:List Value) (n:Nat),Vals xs its/\s.heap.get? p=some {cls:= .type "list",data:= .seq its.toArray n}/\xs.length<=sizeLine:=by
 obtain⟨z,its,n,r,e⟩:=I.j5 p _ h;exact⟨its,n,r,e,z⟩
theorem Inv.R6{pins:List (Addr×Obj)}{σ:St}{H:Hp}{s:Shared}{p:Addr}{xs ys:List V}{its its':List Value}{n n':Nat}{f:Obj->Obj}(I:Inv X pins σ H s)(h:H p=some (.lst xs))
  (ho:s.heap.get? p=some {cls:= .type "list",data:= .seq its.toArray n}) (hf:f {cls:= .type "list",data:= .seq its.toArray n}={cls:= .type "list",data:= .seq its'.toArray n'}) (r:Vals ys its') (hz:ys.length<=sizeLine) (t:Nat):
  Inv X pins σ (upd H p (.lst ys)) {s with heap:=s.heap.update p f,toks:=t}:=by
 have e:(s.heap.update p f).get? p=some {cls:= .type "list",data:= .seq its'.toArray n'}:=by
  rw[gu f ho (by rw[hf]<;>rfl),hf]
 refine I.write (x:=p) (e:=p) (by rw[h];trivial) (.inl rfl) (λb u hb q=>(eA _ _ (aj hb)).trans q) ⟨_,e⟩ ?_;exact⟨hz,its',n',r,e⟩
def UU:V->V->V->Hp->(Hp->Prop)->Prop:=λo i v H Q=>∃p xs k j,o= .ref p/\i= .int k/\H p=some (.lst xs)/\LH xs.length k=some j/\Q (upd H p (.lst (xs.set j v)))
theorem set_list:OT X UU:=by
 intro pins s σ H o i v ov iv u Q I ro ri rv h;obtain⟨p,xs,k,j,rfl,rfl,hp,hj,q⟩:=h
 cases ro
 obtain⟨t,rfl⟩:=ri;obtain⟨its,n,r,ho,hz⟩:=I.lst hp;obtain⟨h1,h2,h3,h4⟩:=KG hj;have hl:=r.length;have hn:=Cs;have I':Inv X pins σ (upd H p (.lst (xs.set j v))) {s with heap:=s.heap.update p (cZ (·.setIfInBounds j u))}:=
  I.R6 hp ho (Ju its n j u) (r.set rv j) (by rw[aT];exact hz) s.toks
 by_cases h0:0<=k
 ·have hk:k.toNat=j:=by
   rw[seqIndex_of h0 h4]at h1;exact aM h1
  exact PySem.W.ki_setAt ho h0 (by lia) (by rw[aH,←hl];exact h4) (by rw[hk];exact⟨_,I',q⟩)
 ·have hk:(k+(its.toArray.size:Int)).toNat=j:=by
   rw[seqIndex_neg (by lia) h3]at h1;rw[aH,←hl];exact aM h1
  exact PySem.W.ki_setBack ho (by lia) (by rw[aH,←hl];exact h3) (by lia) (by rw[hk];exact⟨_,I',q⟩)
theorem Gz(lo hi:Option Int)(n:Nat):(sliceBounds lo hi none n).1=((HT.GX n 0 lo:Nat):Int)/\(sliceBounds lo hi none n).2.1=((HT.GX n n hi:Nat):Int)/\(sliceBounds lo hi none n).2.2=1:=by
 refine⟨?_,?_,rfl⟩
 ·cases lo with
  |none=>simp[sliceBounds,HT.GX]
  |some i=>
   simp only[sliceBounds,HT.GX,iA,show(1:Int)>0 by decide,if_true];by_cases h:i<0
   ·simp only[h,if_true]<;>lia
   ·simp only[h,if_false]<;>lia
 ·cases hi with
  |none=>simp[sliceBounds,HT.GX]
  |some i=>
   simp only[sliceBounds,HT.GX,iA,show(1:Int)>0 by decide,if_true];by_cases h:i<0
   ·simp only[h,if_true]<;>lia
   ·simp only[h,if_false]<;>lia
theorem Eg(its:List Value)(lo hi:Option Int):slicePick its.toArray lo hi none=((its.drop (HT.GX its.length 0 lo)).take (HT.GX its.length its.length hi-HT.GX its.length 0 lo)).toArray:=by
 obtain⟨h1,h2,h3⟩:=Gz lo hi its.toArray.size;unfold slicePick;rw[h1,h2,h3];simp only[sliceRange_one,pick_run,aH]<;>rfl
def V4(K:ah):V->Option Int->Option Int->Hp->VK->Prop:=λx lo hi H Q=>∃a xs,x= .ref a/\jX K H a xs/\∀p,H p=none->Q (.ref p) (upd H p (.lst (DI xs lo hi)))
theorem QB:Q7 X (V4 X.K):=by
 intro pins s σ H x v vl vu lo hi sl Q I rx hs pl pu h;obtain⟨a,xs,rfl,hx,q⟩:=h
 cases rx
 obtain⟨its,r,ht,hz⟩:=I.list hx;have hlen:=r.length;refine⟨"list",_,slot_list_getitem.lookup,ht.isList.typeIs,?_⟩;refine wpAny_getItem_list_slice ht.isList hs pl pu .none (by simp) ?_ (by rw[aH]<;>lia);rw[Eg,←hlen];refine⟨.ref s.heap.objs.size,_,I.laid (t':=s.toks) (o:= .lst (DI xs lo hi)) (λb ob q=>aE _ q) (au _) ?_,rfl,q _ (I.j5.fresh (au _))⟩;exact⟨av (He xs lo hi) hz,_,0,(r.drop (HT.GX xs.length 0 lo)).take (HT.GX xs.length xs.length hi-HT.GX xs.length 0 lo),br _ rfl⟩
noncomputable def l7:V->Bool
 | .kr=>true
 | .int _=>true
 | .str _=>true
 |_=>false
noncomputable def IG:V->V->Bool
 | .kr,.kr=>true
 | .int a,.int b=>a==b
 | .str a,.str b=>a==b
 |_,_=>false
theorem IY{A:Around}{s:Shared}{y x:V}{u v:Value}(ry:RelV y u)(rx:RelV x v)(fy:l7 y=true)(fx:l7 x=true):iG A s u v (IG y x):=by
 cases y with
 |kr=>
  cases ry
  cases x with
  |kr=>cases rx;exact iH _
  |int b=>obtain⟨t,rfl⟩:=rx;exact SeqAt.EqAt.none_int b t
  |str b=>obtain⟨t,rfl⟩:=rx;exact SeqAt.EqAt.none_str b t
  |_=>exact absurd (show false=true from fx) aK
 |int a=>
  obtain⟨t',rfl⟩:=ry
  cases x with
  |kr=>cases rx;exact SeqAt.EqAt.int_none a t'
  |int b=>obtain⟨t,rfl⟩:=rx;exact SeqAt.EqAt.int_int a t' b t
  |str b=>obtain⟨t,rfl⟩:=rx;exact hZ a t' b t
  |_=>exact absurd (show false=true from fx) aK
 |str a=>
  obtain⟨t',rfl⟩:=ry
  cases x with
  |kr=>cases rx;exact SeqAt.EqAt.str_none a t'
  |int b=>obtain⟨t,rfl⟩:=rx;exact ia a t' b t
  |str b=>obtain⟨t,rfl⟩:=rx;exact SeqAt.EqAt.str_str a t' b t
  |_=>exact absurd (show false=true from fx) aK
 |_=>exact absurd (show false=true from fy) aK
noncomputable def PC (x:V) (u:Value):Bool:=match u with
 | .none=>IG .kr x
 | .int i _=>IG (.int i) x
 | .str z _=>IG (.str z) x
 |_=>false
theorem M5{x y:V}{u:Value}(r:RelV y u)(f:l7 y=true):PC x u=IG y x:=by
 cases y with
 |kr=>cases r;rfl
 |int i=>obtain⟨t,rfl⟩:=r;rfl
 |str z=>obtain⟨t,rfl⟩:=r;rfl
 |_=>exact absurd (show false=true from f) aK
theorem Kg{x:V}{xs:List V}{us:List Value}(h:Vals xs us)(f:xs.all l7=true):us.any (PC x)=xs.any λy=>IG y x:=by
 induction h with
 |nil=>rfl
 |cons r t ih=>
  rw[bA,aV]at f;rw[eK,eK,M5 r f.1,ih f.2]
theorem Ct{A:Around}{s:Shared}{x:V}{v:Value}(rx:RelV x v)(fx:l7 x=true):∀{xs:List V} {us:List Value},Vals xs us->xs.all l7=true->∀u∈us,iG A s u v (PC x u)
 |_,_,.nil,_=>λu hu=>by cases hu
 |y::xs,u::us,.cons r t,f=>λu' hu=>by
  rw[bA,aV]at f;rcases List.mem_cons.mp hu with rfl|hu
  ·rw[M5 r f.1];exact IY r rx f.1 fx
  ·exact Ct rx fx t f.2 u' hu
noncomputable def QU (x:V) (xs:List V):Bool:=xs.any λy=>IG y x
def WC(K:ah)(neg:Bool):R2:=λx y H Q=>∃p xs,y= .ref p/\(jX K H p xs∨Ke K H p xs)/\l7 x=true/\xs.all l7=true/\Q (.bl (if neg then !QU x xs else QU x xs)) H
theorem FZ:nX X (compareOp .NotIn) (WC X.K true):=by
 intro pins s σ H x y v u Q I rx ry h;obtain⟨p,xs,rfl,hq,fx,fs,q⟩:=h
 cases ry
 rcases hq with hq|hq
 ·obtain⟨its,r,pl,hz⟩:=I.list hq;refine SeqAt.notIn_listAt (PC x) pl.isList (λw hw=>Ct rx fx r fs w (by simpa using hw)) ⟨.bl _,H,I,rfl,?_⟩;rw[show its.toArray.any (PC x)=its.any (PC x) by simp,Kg r fs];exact q
 ·obtain⟨its,r,pl,hz⟩:=I.tuple hq;refine SeqAt.notIn_tupleAt (PC x) pl (λw hw=>Ct rx fx r fs w (by simpa using hw)) ⟨.bl _,H,I,rfl,?_⟩;rw[show its.toArray.any (PC x)=its.any (PC x) by simp,Kg r fs];exact q
theorem wO:nB X (.builtin "len") (λxs H Q=>∃p ys,xs=[.ref p]/\(jX X.K H p ys∨Ke X.K H p ys)/\Q (.int ys.length) H):=by
 intro pins s σ H xs us Q I r h;obtain⟨p,ys,rfl,hq,q⟩:=h;obtain⟨u,rfl,rx⟩:=vals1 r
 cases rx
 have hn:=Cs;rcases hq with hq|hq
 ·obtain⟨its,r',pl,hz⟩:=I.list hq;have hlen:=r'.length;exact Calls.call_len_list pl.isList (by simp only[aH]<;>lia) ⟨.int ys.length,H,I.tok _,⟨s.toks+1,by rw[aH,hlen]⟩,q⟩
 ·obtain⟨its,r',pl,hz⟩:=I.tuple hq;have hlen:=r'.length;exact len_tuple pl (by simp only[aH]<;>lia) ⟨.int ys.length,H,I.tok _,⟨s.toks+1,by rw[aH,hlen]⟩,q⟩
theorem Fe:nB X (.type "list") (λxs H Q=>∃p ys,xs=[.ref p]/\(jX X.K H p ys∨Ke X.K H p ys)/\∀l,H l=none->Q (.ref l) (upd H l (.lst ys))):=by
 intro pins s σ H xs us Q I r h;obtain⟨p,ys,rfl,hq,q⟩:=h;obtain⟨u,rfl,rx⟩:=vals1 r
 cases rx
 have fin:∀(its:List Value),Vals ys its->ys.length<=sizeLine->∀(h':Heap) (c':Nat),(∀b o',s.heap.get? b=some o'->h'.get? b=some o')->
   h'.get? s.heap.objs.size=some {cls:= .type "list",dict:=none,data:= .seq its.toArray c',slots:= #[]}->EP X pins σ Q (.ref s.heap.objs.size) {s with heap:=h'}:=λits r' hz h' c' kp e=>
  ⟨.ref s.heap.objs.size,_,I.laid (t':=s.toks) kp (au _) (show kO X.prog X.w _ h' _ (.lst ys) from⟨hz,its,c',r',e⟩),rfl,q _ (I.j5.fresh (au _))⟩
 rcases hq with hq|hq
 ·obtain⟨its,r',pl,hz⟩:=I.list hq;have hlen:=r'.length;obtain⟨o,ho,hc,n,hd⟩:=pl.isList;exact call_list_seq p (.inl rfl) ho hc hd (λh' c' kp e=>fin its r' hz h' c' kp e) (by simp only[aH]<;>lia)
 ·obtain⟨its,r',pl,hz⟩:=I.tuple hq;have hlen:=r'.length;obtain⟨o,ho,hc,n,hd⟩:=pl;exact call_list_seq p (.inr rfl) ho hc hd (λh' c' kp e=>fin its r' hz h' c' kp e) (by simp only[aH]<;>lia)
def WE(K:ah)(T:String)(x:V)(H:Hp):Prop:=match x with
 | .ref p=>(T="list"/\∃xs,jX K H p xs)∨(T="dict"/\∃kvs,H p=some (.dK kvs))
 |_=>False
theorem S9{pins:List (Addr×Obj)}{σ:St}{H:Hp}{s:Shared}{T:String}{x:V}{v:Value}(I:Inv X pins σ H s)(r:RelV x v)(ty:WE X.K T x H):
  s.TypeIs v T/\∀a,v= .ref a->∃ob,s.heap.get? a=some ob/\ob.dict=none:=by
 cases x with
 |ref p=>
  cases r
  rcases ty with ⟨rfl,xs,hq⟩|⟨rfl,kvs,hk⟩
  ·obtain⟨its,_,pl,_⟩:=I.list hq;refine⟨pl.isList.typeIs,λa e=> ?_⟩
   cases e
   obtain⟨o,n,e,c,hd,_⟩:=pl;exact⟨o,e,hd⟩
  ·obtain⟨_,_,_,_,o,_,_,e,ex,_⟩:=I.j5 p _ hk;refine⟨⟨o,e,ex.1⟩,λa e2=> ?_⟩
   cases e2
   exact⟨o,e,ex.2.1⟩
 |_=>exact cD ty
variable{o e:Expr}{es:List Expr}{to:TE}{t:TA}{name:Str}{apos cpos:Pos}{T id:String}{r:V->List V->Hp->VK->Prop}
end
def Va(X:Cx)(id:String)(r:V->List V->Hp->VK->Prop):Prop:=
 ∀(pins:List (Addr×Obj)) (s:Shared) (σ:St) (H:Hp) (x:V) (xs:List V) (v:Value) (us:List Value) (Q:VK),Inv X pins σ H s->RelV x v->Vals xs us->r x xs H Q->
  wpAny (model X.prog X.w) X.A (call (.builtin id) (v::us)) (EP X pins σ Q) X.xe s
theorem Vals.one{x:V}{us:List Value}(h:Vals [x] us):∃u,us=[u]/\RelV x u:=by
 cases h with|cons r h=>cases h;exact⟨_,rfl,r⟩
theorem Vals.rep{xs:List V}{us:List Value}(h:Vals xs us):∀k:Nat,Vals (ao k xs).flatten (ao k us).flatten
 |0=> .nil
 |k+1=>by
  rw[cq,cq,dF,dF];exact Vals.append h (Vals.rep h k)
theorem foldl_rep(its:List Value):∀(k:Nat) (acc:List Value),
  fH (λx1 x2=>x1++x2) acc.toArray (ao k its.toArray)=(acc++(ao k its).flatten).toArray
 |0,acc=>by simp
 |k+1,acc=>by
  have e:acc.toArray++its.toArray=(acc++its).toArray:=by simp
  have e2:(acc++its)++(ao k its).flatten=acc++(ao (k+1) its).flatten:=by
   rw[cq,dF,cf]
  rw[←e2,←foldl_rep its k (acc++its),←e,cq,iC]
section
variable{X:Cx}{pins:List (Addr×Obj)}{σ:St}{H:Hp}{s:Shared}{l b:Addr}{xs ys zs:List V}
theorem Inv.Us{its its':List Value}{n:Nat}{f:Array Value->Array Value}{t':Nat}(I:Inv X pins σ H s)(hH:H l=some (.lst xs))
  (e:s.heap.get? l=some {cls:= .type "list",data:= .seq its.toArray n}) (hf:f its.toArray=its'.toArray) (hv:Vals ys its') (hz:ys.length<=sizeLine):
  Inv X pins σ (upd H l (.lst ys)) {s with heap:=s.heap.update l (cZ f),toks:=t'}:=by
 have q:=PySem.IsL.update e f;rw[hf]at q;refine I.write (x:=l) (e:=l) (by rw[hH];exact trivial) (.inl rfl) (λb' u hb hu=>(eA s.heap (cZ f) (aj hb)).trans hu) ⟨_,q⟩ ?_;exact⟨hz,its',_,hv,q⟩
theorem Inv.Uq{its:List Value}{t':Nat}(I:Inv X pins σ H s)(hv:Vals ys its)(hz:ys.length<=sizeLine):
  Inv X pins σ (upd H s.heap.objs.size (.lst ys)) {s with heap:=s.heap.push {cls:= .type "list",data:= .seq its.toArray},toks:=t'}:=
 I.laid (λ_ _ q=>aE _ q) (au _) ⟨hz,its,0,hv,br _ rfl⟩
theorem Inv.fresh(I:Inv X pins σ H s):H s.heap.objs.size=none:=I.j5.fresh (au _)
theorem Inv.LQ(I:Inv X pins σ H s)(hH:H l=some (.lst xs)):xs.length<=sizeLine/\∃(its:List Value) (n:Nat),Vals xs its/\xs.length=its.length/\s.heap.get? l=some {cls:= .type "list",data:= .seq its.toArray n}:=by
 obtain⟨z,its,n,r,e⟩:=I.j5 l _ hH;exact⟨z,its,n,r,r.length,e⟩
theorem HM{n:Nat}(h:n<=sizeLine):c_ n=false:=by
 unfold c_;exact decide_eq_false (by lia)
end
section
variable{X:Cx}
def Qq:V->List V->Hp->VK->Prop:=λx vs H Q=>∃l xs y,x= .ref l/\vs=[y]/\H l=some (.lst xs)/\xs.length<sizeLine/\Q .kr (upd H l (.lst (xs++[y])))
theorem LR:Va X "list.append" Qq:=by
 intro pins s σ H x vs v us Q I rx rv h;obtain⟨l,xs,y,rfl,rfl,hH,hz,q⟩:=h
 cases rx
 obtain⟨u,rfl,ru⟩:=rv.one;obtain⟨z,its,n,r,hl,e⟩:=I.LQ hH;refine call_meets F.slot_list_append ⟨_,e,rfl⟩ F.entry_list_append (F.args_list_append_2 _ _) (PySem.list_append l its.toArray n u (by rw[aH];lia)) ⟨e,?_⟩;refine⟨.kr,_,I.Us (its':=its++[u]) hH e (by simp) (r.append (.cons ru .nil)) ?_,rfl,q⟩;rw[ay,dI];lia
def Qr:V->List V->Hp->VK->Prop:=λx vs H Q=>∃l b xs zs,x= .ref l/\vs=[.ref b]/\H l=some (.lst xs)/\H b=some (.lst zs)/\xs.length+zs.length<=sizeLine/\Q .kr (upd H l (.lst (xs++zs)))
theorem LS:Va X "list.extend" Qr:=by
 intro pins s σ H x vs v us Q I rx rv h;obtain⟨l,b,xs,zs,rfl,rfl,hH,hB,hz,q⟩:=h
 cases rx
 obtain⟨u,rfl,ru⟩:=rv.one
 cases ru
 obtain⟨z,its,n,r,hl,e⟩:=I.LQ hH;obtain⟨z2,its2,n2,r2,hl2,e2⟩:=I.LQ hB;have hsz:its.toArray.size+its2.toArray.size<=sizeLine:=by rw[aH,aH];lia
 have hlong:¬(!its.toArray.isEmpty&&c_ (its.toArray.size+its2.toArray.size))=true:=by
  rw[HM hsz,Bool.and_false];exact aK
 refine call_meets F.slot_list_extend ⟨_,e,rfl⟩ F.entry_list_extend (F.args_list_extend_2 _ _)
  (AutoSeq1.list_extend_list_list_0 l its.toArray n b its2.toArray n2 hlong (by rw[aH];lia) (by lia)) ⟨e,e2,?_⟩
 refine⟨.kr,_,I.Us (its':=its++its2) hH e (by simp) (r.append r2) ?_,rfl,q⟩;rw[ay];omega
def V0:R2:=λx y H Q=>∃l b xs zs,x= .ref l/\y= .ref b/\H l=some (.lst xs)/\H b=some (.lst zs)/\xs.length+zs.length<=sizeLine/\∀p,H p=none->Q (.ref p) (upd H p (.lst (xs++zs)))
theorem Sk:nX X (binaryOp .Add) V0:=by
 intro pins s σ H x y v u Q I rx ry h;obtain⟨l,b,xs,zs,rfl,rfl,hH,hB,hz,q⟩:=h
 cases rx
 cases ry
 obtain⟨z,its,n,r,hl,e⟩:=I.LQ hH;obtain⟨z2,its2,n2,r2,hl2,e2⟩:=I.LQ hB;refine PySem.P.add_list e e2 ?_ (by rw[aH,aH];lia);have ea:its.toArray++its2.toArray=(its++its2).toArray:=by simp
 rw[ea];exact⟨.ref _,_,I.Uq (t':=s.toks) (r.append r2) (by rw[ay];omega),rfl,q _ I.fresh⟩
def V3:R2:=λx y H Q=>∃l k xs,x= .ref l/\y= .int k/\H l=some (.lst xs)/\ -(2^63)<=k/\k<2^63/\xs.length*k.toNat<=sizeLine/\
 ∀p,H p=none->Q (.ref p) (upd H p (.lst (ao k.toNat xs).flatten))
theorem len_rep{α:Type}(xs:List α)(k:Nat):(ao k xs).flatten.length=k*xs.length:=by
 induction k with
 |zero=>simp
 |succ k ih=>rw[cq,dF,ay,ih,Nat.succ_mul,Nat.add_comm]
theorem So:nX X (binaryOp .Mult) V3:=by
 intro pins s σ H x y v u Q I rx ry h;obtain⟨l,k,xs,rfl,rfl,hH,h1,h2,hz,q⟩:=h
 cases rx
 obtain⟨t,rfl⟩:=ry;obtain⟨z,its,n,r,hl,e⟩:=I.LQ hH;have hlen:its.toArray.size*k.toNat<=sizeLine:=by rw[aH,←hl];exact hz
 have hcap:¬its.toArray.size*k.toNat>(2^63-1)/8:=by
  have:(sizeLine:Nat)<=(2^63-1)/8:=by decide
  lia
 have hfit:¬(!Builtin.List.listFitsIndex k)=true:=by
  rw[fitsIndex_both h1 h2];exact aK
 have hlong:¬c_ (its.toArray.size*k.toNat)=true:=by
  rw[HM hlen];exact aK
 have hnew:fH (λx1 x2=>x1++x2) #[] (ao (if its.toArray.isEmpty=true then 0 else k.toNat) its.toArray)=(ao k.toNat its).flatten.toArray:=by
  have f0:∀m:Nat,fH (λx1 x2=>x1++x2) #[] (ao m its.toArray)=(ao m its).flatten.toArray:=λm=>by
   have:=foldl_rep its m [];rw[eV]at this;exact this
  rw[f0]
  cases its with
  |nil=>simp
  |cons a r'=>rw[if_neg (by simp)]
 refine wpAny_binaryOp_repeat_ref (T:="list") (U:="int") (by decide) ⟨_,e,rfl⟩ (λs'=>typeIs_int s' k t) noFill_list_mul F.fills_int_mul F.slot_int_rmul repeat_list F.slot_int_index.lookup
  (call_meets F.slot_int_rmul (typeIs_int s k t) F.entry_int_rmul (F.args_int_rmul_2 _ _) (int___rmul___int_list k t l its.toArray n)
   ⟨e,rfl,⟨_,e,rfl⟩,call_meets F.slot_list_mul ⟨_,e,rfl⟩ F.entry_list_mul (F.args_list_mul_2 _ _) (AutoListH.list___mul___list_int_3 l its.toArray n k t hfit hcap hlong) ⟨e,?_⟩⟩)
 rw[hnew];exact⟨.ref _,_,I.Uq (t':=s.toks) (r.rep k.toNat) (by rw[len_rep,Nat.mul_comm];exact hz),rfl,q _ I.fresh⟩
end
section
variable{prog:Program}{w:World}{A:Around}{E:Value->Shared->Prop}{s:Shared}
set_option maxRecDepth 100000 in
end
section
variable{X:Cx}
end
section
variable{κ:Type} [DecidableEq κ]
noncomputable def mP (kvs:List (κ×V)) (k:κ):Option V:=(kvs.find? λkv=>decide (kv.1=k)).map (·.2)
noncomputable def putK (kvs:List (κ×V)) (k:κ) (v:V):List (κ×V):=
 if (kvs.any λkv=>decide (kv.1=k))=true then kvs.map (λkv=>if kv.1=k then(kv.1,v) else kv) else kvs++[(k,v)]
noncomputable def BY (kvs:List (κ×V)) (k:κ):List (κ×V):=kvs.filter λkv=>decide (kv.1≠k)
theorem oM{p:κ×V}{r:List (κ×V)}{k:κ}(e:p.1=k):mP (p::r) k=some p.2:=by simp[mP,cF,e]
theorem mQ{p:κ×V}{r:List (κ×V)}{k:κ}(e:¬p.1=k):mP (p::r) k=mP r k:=by simp[mP,cF,e]
theorem rN(k:κ):∀kvs:List (κ×V),(kvs.any λkv=>decide (kv.1=k))=(mP kvs k).isSome
 | []=>rfl
 |p::r=>by
  rw[eK];by_cases e:p.1=k
  ·simp only[oM e,decide_eq_true e,Bool.true_or,Option.isSome_some]
  ·rw[mQ e,decide_eq_false e,Bool.false_or];exact rN k r
theorem A_(kvs:List (κ×V))(k:κ)(v:V):(putK kvs k v).length<=kvs.length+1:=by
 unfold putK
 split
 ·rw[ae];lia
 ·rw[ay,aR,eQ];lia
theorem ud.rC{o:Option V}{u:Option Value}(r:ud o u):o.isSome=u.isSome:=by
 cases o with
 |none=>cases u with
  |none=>rfl
  |some _=>exact(show False from r).elim
 |some _=>cases u with
  |none=>exact(show False from r).elim
  |some _=>rfl
theorem KV.val{kvs:List (κ×V)}{vs:List (κ×Value)}(r:KV kvs vs)(k:κ):ud (mP kvs k) (valueAt vs k):=by
 unfold KV at r
 induction r with
 |nil=>exact bB
 | @cons p q ps qs h t ih=>
  obtain⟨h1,h2⟩:=h;by_cases e:p.1=k
  ·have e':q.1=k:=h1.symm.trans e;have b:valueAt (q::qs) k=some q.2:=by simp[valueAt,cF,e']
   rw[oM e,b];exact h2
  ·have e':¬q.1=k:=λz=>e (h1.trans z);have b:valueAt (q::qs) k=valueAt qs k:=by simp[valueAt,cF,e']
   rw[mQ e,b];exact ih
theorem KV.any{kvs:List (κ×V)}{vs:List (κ×Value)}(r:KV kvs vs)(k:κ):(kvs.any λkv=>decide (kv.1=k))=vs.any λkv=>decide (kv.1=k):=by
 unfold KV at r
 induction r with
 |nil=>rfl
 |cons h t ih=>rw[eK,eK,ih,h.1]
theorem KV.SS{kvs:List (κ×V)}{vs:List (κ×Value)}(r:KV kvs vs)(k:κ){y:V}{u:Value}(ry:RelV y u):
  KV (kvs.map λkv=>if kv.1=k then(kv.1,y) else kv) (vs.map λkv=>if kv.1=k then(kv.1,u) else kv):=by
 unfold KV at r⊢
 induction r with
 |nil=>exact .nil
 | @cons p q ps qs h t ih=>
  rw[az,az];refine .cons ?_ ih;obtain⟨h1,h2⟩:=h;by_cases e:p.1=k
  ·rw[if_pos e,if_pos (h1.symm.trans e)];exact⟨h1,ry⟩
  ·rw[if_neg e,if_neg (λz=>e (h1.trans z))];exact⟨h1,h2⟩
theorem KV.put{kvs:List (κ×V)}{vs:List (κ×Value)}(r:KV kvs vs)(k:κ){y:V}{u:Value}(ry:RelV y u):KV (putK kvs k y) (stored vs k u):=by
 unfold putK stored;rw[r.any k];by_cases e:(vs.any λkv=>decide (kv.1=k))=true
 ·rw[if_pos e,if_pos e];exact r.SS k ry
 ·rw[if_neg e,if_neg e];exact Paired.snoc r ⟨rfl,ry⟩
theorem KV.drop{kvs:List (κ×V)}{vs:List (κ×Value)}(r:KV kvs vs)(k:κ):KV (BY kvs k) (without vs k):=by
 unfold KV at r⊢;unfold BY without
 induction r with
 |nil=>exact .nil
 | @cons p q ps qs h t ih=>
  obtain⟨h1,h2⟩:=h;rw[iy,iy];by_cases e:p.1=k
  ·have a:¬decide (p.1≠k)=true:=by simp[e]
   have b:¬decide (q.1≠k)=true:=by simp[h1.symm.trans e]
   rw[if_neg a,if_neg b];exact ih
  ·have e':¬q.1=k:=λz=>e (h1.trans z);have a:decide (p.1≠k)=true:=by simp[e]
   have b:decide (q.1≠k)=true:=by simp[e']
   rw[if_pos a,if_pos b];exact .cons ⟨h1,h2⟩ ih
theorem KV.keys{kvs:List (κ×V)}{vs:List (κ×Value)}(r:KV kvs vs):kvs.map (·.1)=vs.map (·.1):=by
 unfold KV at r
 induction r with
 |nil=>rfl
 |cons h t ih=>rw[az,az,ih,h.1]
theorem KV.length{kvs:List (κ×V)}{vs:List (κ×Value)}(r:KV kvs vs):kvs.length=vs.length:=gL r
theorem M4(kvs:List (κ×V))(k:κ):(BY kvs k).length<=kvs.length:=dH _ _
end
theorem ER{P:Program}{w:World}{k:Key}{u:Value}(r:RelV (kV k) u):(j7 P w).is k u=true:=by
 cases k with
 |inl i=>obtain⟨t,e⟩:=(show∃t,u=dC i t from r);subst e;exact HG P w i t
 |inr x=>obtain⟨t,e⟩:=(show∃t,u=fZ x t from r);subst e;exact HH P w x t
theorem EN{P:Program}{w:World}:∀{ks:List Key} {us:List Value},Vals (ks.map kV) us->ItemsAre (j7 P w) ks us
 | [],_,r=>by rw[bY]at r;cases r;exact .nil
 |k::ks,_,r=>by
  rw[az]at r
  cases r with
  |cons h t=>exact .cons (ER h) (EN t)
abbrev KT(H:Hp):List (List Key×V)->List (List Key×Addr×Value)->Prop:=Paired λp q=>p.1=q.1/\H q.2.1=some (.tup (p.1.map kV))/\RelV p.2 q.2.2
theorem KT.val{H:Hp}{kvs:List (List Key×V)}{xs:List (List Key×Addr×Value)}(r:KT H kvs xs)(k:List Key):ud (mP kvs k) ((atKey xs k).map (·.2)):=by
 induction r with
 |nil=>exact bB
 | @cons p q ps qs h t ih=>
  obtain⟨h1,_,h2⟩:=h;by_cases e:p.1=k
  ·have e':q.1=k:=h1.symm.trans e;have b:atKey (q::qs) k=some q.2:=by simp[atKey,cF,e']
   rw[oM e,b];exact h2
  ·have e':¬q.1=k:=λz=>e (h1.trans z);have b:atKey (q::qs) k=atKey qs k:=by simp[atKey,cF,e']
   rw[mQ e,b];exact ih
theorem KT.SS{H:Hp}{kvs:List (List Key×V)}{xs:List (List Key×Addr×Value)}(r:KT H kvs xs)(k:List Key){y:V}{u:Value}(ry:RelV y u):
  KT H (kvs.map λkv=>if kv.1=k then(kv.1,y) else kv) (xs.map (putAt k u)):=by
 induction r with
 |nil=>exact .nil
 | @cons p q ps qs h t ih=>
  rw[az,az];refine .cons ?_ ih;obtain⟨h1,h2,h3⟩:=h;unfold putAt;by_cases e:p.1=k
  ·rw[if_pos e,if_pos (h1.symm.trans e)];exact⟨h1,h2,ry⟩
  ·rw[if_neg e,if_neg (λz=>e (h1.trans z))];exact⟨h1,h2,h3⟩
theorem KT.put{H:Hp}{kvs:List (List Key×V)}{xs:List (List Key×Addr×Value)}(r:KT H kvs xs)(k:List Key){b:Addr}{y:V}{u:Value}(hb:H b=some (.tup (k.map kV)))(ry:RelV y u):
  KT H (putK kvs k y) (storedH xs k b u):=by
 have e:(kvs.any λkv=>decide (kv.1=k))=(atKey xs k).isSome:=by
  rw[rN,(r.val k).rC,fE]
 unfold putK storedH;rw[e];by_cases q:(atKey xs k).isSome=true
 ·rw[if_pos q,if_pos q];exact r.SS k ry
 ·rw[if_neg q,if_neg q];exact Paired.snoc r ⟨rfl,hb,ry⟩
theorem KT.keeps{H H':Hp}{kvs:List (List Key×V)}{xs:List (List Key×Addr×Value)}(r:KT H kvs xs)(ht:∀b ys,H b=some (.tup ys)->H' b=some (.tup ys)):KT H' kvs xs:=
 Paired.Ut r λ_ _ z=>⟨z.1,ht _ _ z.2.1,z.2.2⟩
section
variable{P:Program}{w:World}{H:Hp}{h:Heap}{a:Addr}
theorem Q0{u:HO}(ok:tZ P w H h)(e:Rd H a u):kO P w H h a u:=e.ok ok
theorem BX{kvs:List (Key×V)}(ok:tZ P w H h)(e:Rd H a (.dK kvs)):kvs.length<=sizeLine/\(a==sysModules)=false/\∃vs,KV kvs vs/\h.DictOf (j7 P w) a vs:=
 show kO P w H h a (.dK kvs) from Q0 ok e
theorem BW{kvs:List (Key×V)}(ok:tZ P w H h)(e:H a=some (.dK kvs)):kvs.length<=sizeLine/\(a==sysModules)=false/\∃vs,KV kvs vs/\h.DictOf (j7 P w) a vs:=BX ok (.inl e)
theorem Co{ks:List Key}(ok:tZ P w H h)(e:H a=some (.tup (ks.map kV))):(tupleKind (j7 P w)).is h ks a:=by
 obtain⟨_,its,r,o,h1,h2,n,h3⟩:=(show kO P w H h a (.tup (ks.map kV)) from ok a _ e);exact⟨o,its.toArray,n,h1,h2,h3,by simpa using EN r⟩
theorem EI{kvs:List (List Key×V)}(ok:tZ P w H h)(e:Rd H a (.dT kvs)):kvs.length<=sizeLine/\(a==sysModules)=false/\
  ∃xs,KT H kvs xs/\h.DictOfH (tupleKind (j7 P w)) a xs:=by
 obtain⟨z,y,xs,r,o,es,ep,h1,h2,h3,h4,h5⟩:=(show kO P w H h a (.dT kvs) from Q0 ok e);refine⟨z,y,xs,r,o,es,ep,h1,h2,h3,h4,λx hx=> ?_,h5⟩;have all:∀{l:List (List Key×V)} {m:List (List Key×Addr×Value)},KT H l m->∀x∈m,(tupleKind (j7 P w)).is h x.1 x.2.1:=by
  intro l m q
  induction q with
  |nil=>intro x hx;exact nomatch hx
  | @cons p q ps qs hq t ih=>
   intro x hx;rcases List.mem_cons.mp hx with e|hx
   ·subst e;exact Co ok (by rw[←hq.1];exact hq.2.1)
   ·exact ih x hx
 exact all r x hx
theorem Ub{kvs:List (List Key×V)}(ok:tZ P w H h)(e:H a=some (.dT kvs)):kvs.length<=sizeLine/\(a==sysModules)=false/\
  ∃xs,KT H kvs xs/\h.DictOfH (tupleKind (j7 P w)) a xs:=EI ok (.inl e)
end
def BN(H:Hp)(a:Addr)(y:V)(r:Option V):Prop:=
 (∃kvs k,Rd H a (.dK kvs)/\y=kV k/\r=mP kvs k)∨∃kvs k b,Rd H a (.dT kvs)/\y= .ref b/\H b=some (.tup (k.map kV))/\r=mP kvs k
def OQ(H:Hp)(a:Addr)(y v:V)(H':Hp):Prop:=
 (∃kvs k,H a=some (.dK kvs)/\y=kV k/\kvs.length<sizeLine/\H'=upd H a (.dK (putK kvs k v)))∨
 ∃kvs k b,H a=some (.dT kvs)/\y= .ref b/\H b=some (.tup (k.map kV))/\kvs.length<sizeLine/\H'=upd H a (.dT (putK kvs k v))
theorem BN.k{H:Hp}{a:Addr}{kvs:List (Key×V)}{k:Key}(e:H a=some (.dK kvs)):BN H a (kV k) (mP kvs k):= .inl ⟨kvs,k,.inl e,rfl,rfl⟩
theorem OQ.k{H:Hp}{a:Addr}{kvs:List (Key×V)}{k:Key}{v:V}(e:H a=some (.dK kvs))(hl:kvs.length<sizeLine):OQ H a (kV k) v (upd H a (.dK (putK kvs k v))):= .inl ⟨kvs,k,e,rfl,hl,rfl⟩
section
variable{X:Cx}{pins:List (Addr×Obj)}{σ:St}{H:Hp}{s:Shared}{a:Addr}{y v:V}{u r:Value}{o:Option V}{A:Around}{E:Value->Shared->Prop}
theorem Inv.big(I:Inv X pins σ H s):sysModules<s.heap.objs.size:=by
 have h:mainGlobals<s.heap.objs.size:=(I.mod.glob.keeps I.bk).lt;exact Nat.lt_trans (by decide) h
theorem EH{Q:Value->Shared->Prop}(hu:A.units+1<cLine)(I:Inv X pins σ H s)(g:BN H a y (some v))(ry:RelV y u)(h:∀w' s',Inv X pins σ H s'->RelV v w'->Q w' s'):
  wpAny (model X.prog X.w) A (getItem (.ref a) u) Q E s:=by
 rcases g with ⟨kvs,k,e,ey,l⟩|⟨kvs,k,b,e,ey,eb,l⟩
 ·subst ey;obtain⟨z,hd,vs,rel,dd⟩:=BX I.j5 e;obtain⟨w',hw,rw'⟩:=ud.some_of (v:=v) (o:=valueAt vs k) (by rw[l];exact rel.val k);exact wpAny_getItem_of (ER ry) dd.mapOf hw (h w' _ (I.tok _) rw')
 ·subst ey
  cases (show u=aL b from ry)
  obtain⟨z,hd,xs,rel,dd⟩:=EI I.j5 e;obtain⟨w',hw,rw'⟩:=ud.some_of (v:=v) (o:=(atKey xs k).map (·.2)) (by rw[l];exact rel.val k);obtain⟨p,hp,hp2⟩:=Option.map_eq_some_iff.mp hw;refine wpAny_getItem_heap (tupleKind_room_in1 hu) (Co I.j5 eb) dd hp ?_;rw[hp2];exact h w' _ (I.tok _) rw'
theorem VE{Q:Value->Shared->Prop}(hu:A.units+1<cLine)(I:Inv X pins σ H s)(g:BN H a y o)(ry:RelV y u)(h:∀s',Inv X pins σ H s'->Q (.bool o.isSome) s'):
  wpAny (model X.prog X.w) A (compareOp .In u (.ref a)) Q E s:=by
 rcases g with ⟨kvs,k,e,ey,l⟩|⟨kvs,k,b,e,ey,eb,l⟩
 ·subst ey;obtain⟨z,hd,vs,rel,dd⟩:=BX I.j5 e;refine wpAny_in_of (ER ry) hd dd.mapOf ?_;rw[←(rel.val k).rC,←l];exact h _ (I.tok _)
 ·subst ey
  cases (show u=aL b from ry)
  obtain⟨z,hd,xs,rel,dd⟩:=EI I.j5 e;refine wpAny_in_heap (tupleKind_room_in1 hu) (Co I.j5 eb) hd dd ?_;have q:=(rel.val k).rC;rw[fE]at q;rw[←q,←l];exact h _ (I.tok _)
theorem Pz{Q:Value->Shared->Prop}(hu:A.units+1<cLine)(I:Inv X pins σ H s)(g:BN H a y o)(ry:RelV y u)(h:∀s',Inv X pins σ H s'->Q (.bool (!o.isSome)) s'):
  wpAny (model X.prog X.w) A (compareOp .NotIn u (.ref a)) Q E s:=by
 rcases g with ⟨kvs,k,e,ey,l⟩|⟨kvs,k,b,e,ey,eb,l⟩
 ·subst ey;obtain⟨z,hd,vs,rel,dd⟩:=BX I.j5 e;refine wpAny_notIn_of (ER ry) hd dd.mapOf ?_;rw[←(rel.val k).rC,←l];exact h _ (I.tok _)
 ·subst ey
  cases (show u=aL b from ry)
  obtain⟨z,hd,xs,rel,dd⟩:=EI I.j5 e;refine wpAny_notIn_heap (tupleKind_room_in1 hu) (Co I.j5 eb) hd dd ?_;have q:=(rel.val k).rC;rw[fE]at q;rw[←q,←l];exact h _ (I.tok _)
theorem Fh{h':Heap}{t':Nat}{ob:HO}(I:Inv X pins σ H s)(mu:Tq (H a))(hs:dY a s.heap h')(he:∃q,h'.get? a=some q)(new:kO X.prog X.w (upd H a ob) h' a ob):
  Inv X pins σ (upd H a ob) {s with heap:=h',toks:=t'}:=
 I.write (x:=a) (e:=a) mu (.inl rfl) (λb q hb z=>(hs.2 b hb).trans z) he new
theorem M3{P:Program}{w:World}{H':Hp}{h':Heap}{kvs:List (Key×V)}{vs:List (Key×Value)}(z:kvs.length<=sizeLine)(hd:(a==sysModules)=false)(rel:KV kvs vs)(dd:h'.DictOf (j7 P w) a vs):
  kO P w H' h' a (.dK kvs):=⟨z,hd,vs,rel,dd⟩
theorem Lx{H':Hp}{Q:Unit->Shared->Prop}(hu:A.units+1<cLine)(I:Inv X pins σ H s)(g:OQ H a y v H')(ry:RelV y u)(rv:RelV v r)(h:∀s',Inv X pins σ H' s'->Q () s'):
  wpAny (model X.prog X.w) A (setItem (.ref a) u r) Q E s:=by
 rcases g with ⟨kvs,k,e,ey,l,eH⟩|⟨kvs,k,b,e,ey,eb,l,eH⟩
 ·subst ey eH;obtain⟨z,hd,vs,rel,dd⟩:=BW I.j5 e;have hz:vs.length<=sizeLine:=by rw[←rel.length];exact z
  have hl:(putK kvs k v).length<=sizeLine:=by have:=A_ kvs k v;lia
  refine wpAny_setItem_pairs (hsz:=hz) (ER ry) dd λh' dd' hs=>h _ ?_;have he:∃q,h'.get? a=some q:=let ⟨q,_,_,hq,_⟩:=dd';⟨q,hq⟩
  exact Fh I (by rw[e];exact bB) hs he (M3 hl hd (rel.put k rv) dd')
 ·subst ey eH
  cases (show u=aL b from ry)
  obtain⟨z,hd,xs,rel,dd⟩:=Ub I.j5 e;have hz:xs.length<=sizeLine:=by rw[←gL rel];exact z
  have hl:(putK kvs k v).length<=sizeLine:=by have:=A_ kvs k v;lia
  refine wpAny_setItem_heap (hsz:=hz) (tupleKind_room_in1 hu) (Co I.j5 eb) dd λh' dd' hs=>h _ ?_;obtain⟨q,es,ep,hq,h2,h3,h4,_,h5⟩:=dd';refine Fh I (by rw[e];exact bB) hs ⟨q,hq⟩ ⟨hl,hd,_,(rel.put k eb rv).keeps λc ys ec=> ?_,q,es,ep,hq,h2,h3,h4,h5⟩;rw[i4 (UB ec e (λz=>nomatch z))];exact ec
end
section
variable{X:Cx}{pins:List (Addr×Obj)}{σ:St}{H:Hp}{s:Shared}{a:Addr}{kvs:List (Key×V)}{k:Key}{u:Value}{A:Around}{E:Value->Shared->Prop}
theorem Ua{v:V}{more:List Value}{Q:Value->Shared->Prop}(I:Inv X pins σ H s)(e:H a=some (.dK kvs))(ry:RelV (kV k) u)(l:mP kvs k=some v)(hm:more=[]∨∃x,more=[x])
  (h:∀w' s',Inv X pins σ (upd H a (.dK (BY kvs k))) s'->RelV v w'->Q w' s'):wpAny (model X.prog X.w) A (call (.builtin "dict.pop") (.ref a::u::more)) Q E s:=by
 obtain⟨z,hd,vs,rel,dd⟩:=BW I.j5 e;obtain⟨w',hw,rw'⟩:=ud.some_of (v:=v) (o:=valueAt vs k) (by rw[←l];exact rel.val k);have hp:(keyPart u).isSome=true:=by
  cases k with
  |inl i=>obtain⟨t,q⟩:=(show∃t,u=dC i t from ry);subst q;rfl
  |inr x=>obtain⟨t,q⟩:=(show∃t,u=fZ x t from ry);subst q;rfl
 have ha:argsOk "dict.pop" ⟨.ref a::u::more,[]⟩:=by
  rcases hm with q|⟨x,q⟩
  ·subst q;exact PySem.F.args_dict_pop_2 _ _
  ·subst q;exact PySem.F.args_dict_pop_3 _ _ _
 refine call_meetsIn gB dd.typeIs PySem.F.entry_dict_pop ha (meets_dict_pop_there (j7 X.prog X.w) a (ER ry) more hm hp)
  ⟨vs,w',dd,by rw[←rel.length];exact z,hw,λh' dd' hs=>h w' _ ?_ rw'⟩
 have he:∃q,h'.get? a=some q:=let ⟨q,_,_,hq,_⟩:=dd';⟨q,hq⟩
 exact Fh I (by rw[e];exact bB) hs he (M3 (av (M4 kvs k) z) hd (rel.drop k) dd')
theorem T_{Q:Value->Shared->Prop}(I:Inv X pins σ H s)(e:Rd H a (.dK kvs))(h:∀t s',Inv X pins σ H s'->Q (.int kvs.length t) s'):wpAny (model X.prog X.w) A (call (.builtin "len") [.ref a]) Q E s:=by
 obtain⟨z,hd,vs,rel,dd⟩:=BX I.j5 e;refine call_len_dict hd dd (by rw[←rel.length];rw[sizeLine_eq]at z;lia) ?_;rw[←rel.length];exact h _ _ (I.tok _)
end
def Ms(i:Expr):Prop:=∀ov iv,subscripted i false ov iv=operate [ov,iv] (getItem ov iv)
theorem Lf{prog:Program}{w:World}{A:Around}{E:Value->Shared->Prop}{s:Shared}{env:Env}{value slice:Expr}{pos:Pos}{T id:String}{Q:Value->Shared->Prop}
  (hl:typeLookup (.type T) "__getitem__"=pure (some (.builtin id))) (hs:Ms slice)
  (h:wpAny (model prog w) A (eval value env) (λo s₁=>wpAny (model prog w) A (eval slice env) (λi s₂=>s₂.TypeIs o T/\wpAny (model prog w) A (getItem o i) Q E s₂) E s₁) E s):
  wpAny (model prog w) A (eval (.Subscript value slice pos) env) Q E s:=by
 refine Subscript_ (wpAny_mono h (λo s₁ h₁=>wpAny_mono h₁ (λi s₂ h₂=> ?_) λ_ _ x=>x) λ_ _ x=>x);obtain⟨hT,h₂⟩:=h₂;unfold subscriptTail;refine wpAny_bind ?_;rw[getitemInPython_of_ne hT.not_modules];refine wpAny_bind (wpAny_specialOf hT hl ?_);have fin:wpAny (model prog w) A (subscripted slice false o i) (λr s₃=>wpAny (model prog w) A (letTemporaryGo value o r>>=λ_=>pure r) Q E s₃) E s₂:=by
  rw[hs o i];exact wpAny_operating (wpAny_mono h₂ (λr s₃ h₃=>wpAny_bind (wpAny_letTemporaryGo (wpAny_pure h₃))) λ_ _ x=>x)
 first
  |exact wpAny_pure (wpAny_bind fin)
  |exact wpAny_bind (wpAny_pure (wpAny_bind fin))
  |exact wpAny_bind fin
theorem A7{X:Cx}{pins:List (Addr×Obj)}{σ:St}{H:Hp}{s:Shared}{a:Addr}{y:V}{o:Option V}(I:Inv X pins σ H s)(g:BN H a y o):s.TypeIs (.ref a) "dict":=by
 rcases g with ⟨kvs,k,e,_,_⟩|⟨kvs,k,b,e,_,_,_⟩
 ·obtain⟨_,_,vs,_,dd⟩:=BX I.j5 e;exact dd.typeIs
 ·obtain⟨_,_,xs,_,dd⟩:=EI I.j5 e;exact dd.typeIs
section
variable{X:Cx}{o i e value:Expr}{pos pos' tpos:Pos}{td ty tv:TE}
end
theorem MZ{P:Program}{w:World}{H:Hp}(h:Heap)(hb:sysModules<h.objs.size):kO P w H (h.push {cls:= .type "dict",data:= .dict #[]}) h.objs.size (.dK []):=
 ⟨bh _,beq_eq_false_iff_ne.mpr (aj (aJ hb)),[],.nil,Heap.DictOf.new h⟩
def J4:TE:=λ_ H Q=>∀p,H p=none->Q (.ref p) (upd H p (.dK []))
section
variable{X:Cx}{pos:Pos}
theorem NX:PE X (.Dict [] [] pos) J4:=λpins s σ H Q I h=>
 wpAny_Dict_empty ⟨.ref s.heap.objs.size,_,I.laid (a:=s.heap.objs.size) (o:= .dK []) (t':=s.toks) (λ_ _ q=>aE _ q) (au _) (MZ s.heap I.big),rfl,h _ (I.j5.fresh (au _))⟩
end
structure M1(X:Cx)(o:Expr)(m:Str)(apos:Pos)(e:Expr)(cpos:Pos):Prop where
 base:attributeBase o m X.env (eval o X.env)=eval o X.env
 Ww:((backTo cpos (starEach [e] X.env)).all (λx=> !x.1)&&(backToKw cpos (keywordEach [] X.env)).all (λx=>x.1.isSome)
  &&decide (([e]:List Expr).length+([]:List Keyword).length+(if ([]:List Keyword).isEmpty then 0 else 1)<30))=true
 line:(apos.endLine==cpos.line)=true
 trees:backTo cpos (starEach [e] X.env)=[(false,eval e X.env)]
structure M2(X:Cx)(o:Expr)(m:Str)(apos:Pos)(e f:Expr)(cpos:Pos):Prop where
 base:attributeBase o m X.env (eval o X.env)=eval o X.env
 Ww:((backTo cpos (starEach [e,f] X.env)).all (λx=> !x.1)&&(backToKw cpos (keywordEach [] X.env)).all (λx=>x.1.isSome)
  &&decide (([e,f]:List Expr).length+([]:List Keyword).length+(if ([]:List Keyword).isEmpty then 0 else 1)<30))=true
 line:(apos.endLine==cpos.line)=true
 trees:backTo cpos (starEach [e,f] X.env)=[(false,eval e X.env),(false,eval f X.env)]
def Wn(H:Hp)(a:Addr):Prop:=(∃kvs,Rd H a (.dK kvs))∨∃kvs,Rd H a (.dT kvs)
theorem RQ{X:Cx}{pins:List (Addr×Obj)}{σ:St}{H:Hp}{s:Shared}{a:Addr}(I:Inv X pins σ H s)(d:Wn H a):
  s.TypeIs (.ref a) "dict"/\(∀b,aL a= .ref b->∃ob,s.heap.get? b=some ob/\ob.dict=none)/\(a==sysModules)=false:=by
 rcases d with ⟨kvs,e⟩|⟨kvs,e⟩
 ·obtain⟨_,hd,vs,_,dd⟩:=BX I.j5 e;refine⟨dd.typeIs,λb q=> ?_,hd⟩
  cases q
  obtain⟨ob,_,_,h1,h2,_⟩:=dd;exact⟨ob,h1,h2.2.1⟩
 ·obtain⟨_,hd,xs,_,dd⟩:=EI I.j5 e;refine⟨dd.typeIs,λb q=> ?_,hd⟩
  cases q
  obtain⟨ob,_,_,h1,h2,_⟩:=dd;exact⟨ob,h1,h2.2.1⟩
section
variable{X:Cx}{pins:List (Addr×Obj)}{σ:St}{H:Hp}{s:Shared}{a:Addr}{y d:V}{u r:Value}{o:Option V}{A:Around}{E:Value->Shared->Prop}
end
section
variable{X:Cx}{o e f:Expr}{apos cpos:Pos}{td ty tx:TE}
end
section
variable{X:Cx}{pins:List (Addr×Obj)}{σ:St}{H:Hp}{s:Shared}{a:Addr}{kvs:List (Key×V)}{A:Around}{E:Value->Shared->Prop}
end
section
variable{X:Cx}{pins:List (Addr×Obj)}{σ:St}{H:Hp}{s:Shared}{a:Addr}{y:V}{u:Value}{A:Around}{E:Value->Shared->Prop}
end
end Internal
namespace Att
open PySem PySem.W PySem.Calls PyProof.Rows
theorem Bo{P:Params}{h:Heap}:∀(ns:List Int) (vs:List Value),WellAll P h vs (ns.map WData.int)->IntsAre vs ns:=by
 intro ns
 induction ns with
 |nil=>
  intro vs w;rw[bY]at w
  cases w
  exact .nil
 |cons n ns ih=>
  intro vs w;rw[az]at w
  cases w with
  |cons a b=>
   cases a
   exact .cons _ _ (ih _ b)
theorem L_{l:OpenLaw}{n:Nat}(hn:l.most=some n){P:Params}{h:Heap}{args:List WData}{vals:List Value}
  (hpre:l.row.toRowW.claim.pre args=true) (hwl:WellAll P h vals args):
  ∃a vs ns,vals=[aL a]/\args=[WData.list (ns.map WData.int)]/\h.get? a=some {cls:= .type "list",data:= .seq vs.toArray}/\IntsAre vs ns/\ns.length<=n:=by
 have hsh:WShape.hasAll [] args [.list .int]=true:=(pre_splitW hpre).1;have hc:l.pre.holds [] {args:=args}=true:=(pre_splitW hpre).2;obtain⟨d,r,rfl,h1,h2⟩:=hasAllW_cons hsh;obtain rfl:=hasAllW_nil h2;obtain⟨xs,rfl,h3⟩:=hasW_list h1;obtain⟨ns,rfl⟩:=items_int h3;have hlen:ns.length<=n:=by
  unfold OpenLaw.pre at hc;have h4:(WTm.not (.lt (.lit (.int (n:Int))) (.len (.arg 0)))).holds [] {args:=[.list (ns.map .int)]}=true:=by
   have h4:=(holds_andW hc).1;rw[hn]at h4;exact h4
  have h5:=condW_of h4 (w_not (w_lt w_lit (w_len_list (w_arg rfl))));rw[ae]at h5;refine Nat.le_of_not_lt λq=> ?_;have q':(n:Int)<((ns.length:Nat):Int):=by omega
  first
   |(rw[decide_eq_true q']at h5;exact absurd h5 (by decide))
   |(simp at h5;omega)
 cases hwl with
 |cons w1 w2=>
  cases w2
  cases w1 with
  |list ho hall=>exact⟨_,_,ns,rfl,rfl,ho,Bo ns _ hall,hlen⟩
theorem L8(l:OpenLaw)(args:List WData):l.row.toRowW.claim.post args (.bool true) args=true:=
 postW_of (r:=l.row.toRowW) (X:=(true==true))
  (show WShape.has [] (.bool true) .bool=true by first|rfl|decide|simp[WShape.has,WShape.arms,WShape.armsAll])
  (show(WTm.eq .res (.lit (.bool true))).value [] {args:=args,res:=some (.bool true),after:=args}=some (.bool (true==true)) from w_eq_bool (w_res rfl) w_lit) rfl
theorem G5{l:OpenLaw}{n:Nat}{q:Program}{loose:List Str}{XP:(Str->Option Value)->Heap->Prop}{YP:World->Heap->Prop}{d:DefRec}
  (hn:l.most=some n) (hdf:d.params.defaults=[])
  (call:∀(w:World) (s₀ s₁:Shared) (mg mb:Str->Option Value) (fa:Addr) (o:Obj) (pm cd doc:Value) (a:Addr) (vs:List Value) (ns:List Int),
   Ground q loose [] XP w s₀ mg mb s₁.heap->YP w s₁.heap->
   s₁.heap.get? fa=some o->o.data= .func (docDef d.name d.params d.body d.scope pm cd doc)->s₁.heap.CodeRec cd d.name->mg d.name=some (.ref fa)->
   s₁.heap.get? a=some {cls:= .type "list",data:= .seq vs.toArray}->IntsAre vs ns->ns.length<=n->s₁.gens= #[]->
   codeAny (model l.prog w) callerA (.call (.ref fa) ⟨[.ref a],[]⟩) (λr s'=>r= .ok (.ret (.bool true))/\OldK s₁.heap s'.heap/\s'.os=s₁.os/\AllBare s'.gens) s₁):
  WalkO q loose XP YP l.row.toRowW d [] (λf vs=>iF f vs):=by
 intro w s₀ s₁ mg mb G Y fa o pm cd doc dV kV ho hd hcd hD hmg hg args vals as hpre hlay hrd hwl hlo;obtain rfl:dV= .none:=Dflts.none hD hdf;obtain rfl:kV= .none:=Dflts.noKw hD;obtain⟨a,vs,ns,rfl,rfl,hobj,hints,hlen⟩:=L_ hn hpre hwl;refine enter_call (codeAny_mono (call w s₀ s₁ mg mb fa o pm cd doc a vs ns G Y ho (fd_plain hd) hcd hmg hobj hints hlen hg) λr s' hq=> ?_);obtain⟨rfl,h2,h3,h4⟩:=hq;exact⟨.inl ⟨.bool true,.bool true,[],rfl,λ_=>rfl,.bool true,L8 l _,λ_=>⟨List.Pairwise.nil,λ_ hm=>(nomatch hm)⟩⟩,h2,h3,h4⟩
section
variable{prog:Program}{w:World}{A:Around}{E:Value->Shared->Prop}{s:Shared}{K:Frag}
noncomputable def ledger (h:Heap) (L d:Addr):List (Addr×Obj):=(aW h.objs.size).filterMap λa=>if a=L∨a=d then none else(h.get? a).map λo=>(a,o)
end
end Att
namespace Internal
open PySem PySem.Spec PyProof.Rows
theorem vt{vs:List Value}{ns:List Int}(h:IntsAre vs ns):Vals (ns.map V.int) vs:=by
 induction h with
 |nil=>exact .nil
 |cons n t h ih=>exact .cons ⟨t,rfl⟩ ih
noncomputable def inClass (s:Stmt) (j:Nat):Stmt:=match s with
 | .ClassDef _ _ _ body _ _ _ _ _ _ _=>body.getD j (.Pass ⟨0,0,0,0⟩)
 |_=> .Pass ⟨0,0,0,0⟩
noncomputable def o9 (s:Stmt):Arguments:=match s with
 | .FunctionDef _ a _ _ _ _ _ _ _ _=>a
 |_=>{posonlyargs:=[],args:=[],vararg:=none,kwonlyargs:=[],kw_defaults:=[],kwarg:=none,defaults:=[]}
noncomputable def mC (s:Stmt):List Stmt:=match s with
 | .FunctionDef _ _ b _ _ _ _ _ _ _=>b
 |_=>[]
noncomputable def i3 (s:Stmt):Scope:=match s with
 | .FunctionDef _ _ _ _ _ _ sc _ _ _=>sc
 |_=>{kind:= .function,names:=[],isGenerator:=false,isCoroutine:=false}
abbrev E0:XK:=λ_ _ _=>False
structure DC(K:ah)(x qual:Str)(st:Stmt)(f:Addr)(fd:FuncData):Prop where
 ex:∃(oc:Value) (od:Option Addr) (kV doc pm:Value) (an:Option Addr) (cdv ct:Value) (osl:Array (Option Value)),
  fd=cx x qual (o9 st) (mC st) (i3 st) .none kV doc pm an cdv ct/\K.lookup f=some ⟨oc,od,.func fd,osl⟩/\fj K cdv qual=true
 kp:bo K (.ref f)=true
section
variable{P:Program}{w:World}{K:ah}{mg:Str->Option Value}{base:Heap}
theorem DC.binds{x qual:Str}{st:Stmt}{f:Addr}{fd:FuncData}{ps:List Str}(F:DC K x qual st f fd)
  (h:∀(kV doc pm:Value) (an:Option Addr) (cdv ct:Value) (us:List Value),us.length=ps.length->bindArgs (cx x qual (o9 st) (mC st) (i3 st) .none kV doc pm an cdv ct) ⟨us,[]⟩=pure (ps.zip us)):Binds K fd ps []:=by
 obtain⟨oc,od,kV,doc,pm,an,cdv,ct,osl,rfl,lk,hcd⟩:=F.ex;exact .all (h kV doc pm an cdv ct)
theorem RK{x qual:Str}{st:Stmt}{f:Addr}{oc:Value}{od an:Option Addr}{osl:Array (Option Value)}{kV doc pm cdv ct:Value}(l:K.lookup f=some ⟨oc,od,.func (cx x qual (o9 st) (mC st) (i3 st) .none kV doc pm an cdv ct),osl⟩)
  (c:fj K cdv qual=true) (k:bo K (.ref f)=true):DC K x qual st f (cx x qual (o9 st) (mC st) (i3 st) .none kV doc pm an cdv ct):=⟨⟨oc,od,kV,doc,pm,an,cdv,ct,osl,rfl,l,c⟩,k⟩
end
theorem wW{ca:Bool}{A:Around}{k:Nat}(hr:lO ca k A):A.units+1<cLine:=bZ (gP (by decide:1<=64) _) hr.units
section
variable{X:Cx}
end
def ja(H H':Hp):Prop:=∀b o,H b=some o->H' b=some o
theorem ja.refl(H:Hp):ja H H:=λ_ _ h=>h
theorem ja.trans{H H1 H2:Hp}(a:ja H H1)(b:ja H1 H2):ja H H2:=λc o h=>b c o (a c o h)
theorem ja.free{H H':Hp}(e:ja H H'){l:Addr}(h:H' l=Option.none):H l=Option.none:=by
 cases q:H l with
 |none=>rfl
 |some o=>
  rw[e l o q]at h
  cases h
section
variable{X:Cx}
theorem Lu:nB X (.builtin "len") (λxs H Q=>∃a kvs,xs=[V.ref a]/\H a=some (.dK kvs)/\Q (.int kvs.length) H):=by
 intro pins s σ H xs us Q I r h;obtain⟨a,kvs,rfl,ha,q⟩:=h;obtain⟨u,rfl,ru⟩:=vals1 r
 cases ru
 exact T_ I (.inl ha) λt s' I'=>⟨.int kvs.length,H,I',⟨t,rfl⟩,q⟩
end
section
variable{κ:Type} [DecidableEq κ]
end
structure Tw(fs:List Addr)(H H':Hp)(h B:Heap):Prop where
 keep:∀b o,h.get? b=some o->H b=none->b∉fs->B.get? b=some o/\H' b=none
 fr:∀b∈fs,H' b=none
 there:∀b o,h.get? b=some o->b∈fs∨∃o',B.get? b=some o'
 vx:∀b xs,H b=some (.tup xs)->H' b=some (.tup xs)
 tV:∀b o u,H b=some (.rV o u)->H' b=some (.rV o u)
 vf:∀b ps,H b=some (.vN ps)->∃more,H' b=some (.vN (ps++more))
def Tx(fs:List Addr)(h h':Heap):Prop:=∀b o,h.get? b=some o->b∈fs->∃sl,h'.get? b=some {o with slots:=sl}
structure Tz(B:Heap)(l:List Env)(a:Addr)(h:Heap):Prop where
 stays:B.StaysIn h
 new:B.get? a=none
 wR:h.FunFrames B l
def Q8(h:Heap)(a:Addr)(cls:Value):Prop:=∃oe vs a0,h.get? a=some oe/\oe.cls=cls/\oe.data= .fields vs/\vs[0]? =some a0/\vs[1]? =some .none
abbrev Ts:=Heap->Addr->Value->Heap->Prop
def SG(fl:Value):Ts:=λB a cls h=>∃a0,Heap.TracedAtW h B a cls a0 fl
abbrev K2:Ts:=SG .none
abbrev F0(L:Addr):Ts:=SG (rawInt L)
def QX(L:Addr):Ts:=λB a cls h=>Q8 h a cls∨K2 B a cls h∨F0 L B a cls h
def tX(P:Program)(w:World):Mn:=λouter H s E e s'=>∃(a:Addr) (cls:Value) (H':Hp) (B:Heap),e= .ref a/\s'.os=s.os/\AllBare s'.gens/\Tz B outer a s'.heap/\K2 B a cls s'.heap/\
 tZ P w H' B/\Tw (B0 outer) H H' s.heap B/\Tx (B0 outer) s.heap s'.heap/\E cls none H'
inductive Av (X:Cx) (E:St->XK) (ph:Ts) (a:Addr) (cls:Value) (s':Shared):Prop
 |mk {pins:List (Addr×Obj)} {σ:St} {H H':Hp} {B:Heap} {s:Shared} (I:Inv X pins σ H s) (os:s'.os=s.os) (bare:AllBare s'.gens) (way:Tz B X.stack a s'.heap) (p:ph B a cls s'.heap)
   (j5:tZ X.prog X.w H' B) (rel:Tw (B0 X.stack) H H' s.heap B) (sl:Tx (B0 X.stack) s.heap s'.heap) (e:E σ cls none H'):Av X E ph a cls s'
def Vp(X:Cx)(E:St->XK)(L:Addr):Value->Shared->Prop:=λe s'=>∃a cls,e= .ref a/\Av X E (QX L) a cls s'
section
variable{l:List Env}{B h h1 h2:Heap}{P:Program}{w:World}{H:Hp}{fs:List Addr}
theorem Tx.up(sl:Tx (B0 l) h h1)(ff:h1.FunFrames B l)(k:h1.UpToSlots h2):Tx (B0 l) h h2:=λb o e hb=>by
 obtain⟨s1,q⟩:=sl b o e hb;obtain⟨_,o1,q1,nf⟩:=ff.mem hb;rw[q]at q1;cases q1
 obtain⟨s2,q2⟩:=k b _ q nf;exact⟨s2,q2⟩
theorem tZ.hide(ok:tZ P w H h)(hf:∀b∈fs,H b=none):tZ P w H (eZ h fs):=λa o e=>
 (ok a o e).vv (λb u hb q=>dU _ q λhm=>by
  have z:=hf b hm;rcases hb with rfl|hb
  ·rw[e]at z;cases z
  ·rw[hb]at z;cases z) (λ_ q=>q) λ_ _ q=>q
end
section
variable{X:Cx}{E:St->XK}{a L:Addr}{cls:Value}{s':Shared}{M:Model}{A:Around}{Q:Unit->Shared->Prop}{E':Value->Shared->Prop}
theorem Av.note(u:Av X E (QX L) a cls s')(hA:A.frames=X.A.frames)(hst:X.stack=X.env::X.outer)(hf:X.env.frame=some L)
  (hQ:∀h',Av X E (F0 L) a cls {s' with heap:=h'}->Q () {s' with heap:=h'}):wpAny M A (noteFrame (.ref a) X.env) Q E' s':=by
 obtain⟨I,os,bare,⟨w1,w2,w3⟩,p,j5,rel,sl,e⟩:=u;rename_i B s;have hfr:A.frames=some (X.env::X.outer):=by rw[hA,I.ok.frames,hst]
 have go:∀h' a0,Heap.NotedW B (X.env::X.outer) a cls a0 (rawInt L) s'.heap h'->Q () {s' with heap:=h'}:=λh' a0 ⟨k1,k2,k3,k4⟩=>
  hQ h' ⟨I,os,bare,⟨k1,w2,hst▸k2⟩,⟨a0,k3⟩,j5,rel,sl.up w3 k4,e⟩
 have w3':s'.heap.FunFrames B (X.env::X.outer):=hst▸w3;rcases p with ⟨oe,vs,a0,he,hc,hd,h0,h1⟩|⟨a0,p⟩|⟨a0,p⟩
 ·subst hc;unfold noteFrame;simp only[hf];refine wpAny_bind (wpAny_field he hd h1 ?_);rw[if_neg (by decide)];exact wpAny_entryW hfr w3' hf he w1 w2 hd (Array.getElem?_eq_some_iff.mp h1).1 h0 λh' N=>go h' a0 N
 ·exact wpAny_noteFrame_onW hfr w3' hf p w1 w2 λh' N=>go h' a0 N
 ·exact wpAny_noteFrame_againW hf p (hQ s'.heap ⟨I,os,bare,⟨w1,w2,w3⟩,⟨a0,p⟩,j5,rel,sl,e⟩)
theorem Av.Wy{fl:Value}(u:Av X E (SG fl) a cls s')(hQ:∀h',Av X E K2 a cls {s' with heap:=h'}->Q () {s' with heap:=h'}):wpAny M A (setFlight (.ref a) none) Q E' s':=by
 obtain⟨I,os,bare,⟨w1,w2,w3⟩,⟨a0,p⟩,j5,rel,sl,e⟩:=u;exact wpAny_setFlight_noneW w1 w3 p λh' k1 k2 k3 k4=>hQ h' ⟨I,os,bare,⟨k1,w2,k2⟩,⟨a0,k3⟩,j5,rel,sl.up w3 λb o hb hn=>⟨o.slots,k4 b o hb hn⟩,e⟩
theorem Av.hold(u:Av X E (F0 L) a cls s')(hQ:∀h',Av X E (F0 L) a cls {s' with heap:=h'}->Q () {s' with heap:=h'}):
  wpAny M A (do if (←field (.ref a) 1)== .none then unsupported "frame.own-activation:exception-without-traceback"
                setFlight (.ref a) (some L)) Q E' s':=by
 obtain⟨I,os,bare,⟨w1,w2,w3⟩,⟨a0,oe,vs,T,oT,ts,he,hcls,hd,h1,hnT,hTe,hT,hdT,h3⟩,j5,rel,sl,e⟩:=u;rename_i B s;have hsz:3<ts.size:=(Array.getElem?_eq_some_iff.mp h3).1;have oth:∀b,b≠T->(s'.heap.update T (Obj.mapFields (·.setIfInBounds 3 (rawInt L)))).get? b=s'.heap.get? b:=λb hb=>eA _ _ (aj hb);have nr:∀b o,s'.heap.get? b=some o->(∀vs,o.data≠ .fields vs)->b≠T:=λb o hb hnf q=>by
  subst q;rw[hT]at hb;cases hb;exact hnf ts hdT
 refine wpAny_bind (wpAny_field he hd h1 ?_);rw[if_neg (show¬((aL T==fb)=true) by simp)];unfold setFlight;refine wpAny_bind (wpAny_field he hd h1 ?_);rw[if_pos (show(aL T !=fb)=true by simp)];refine wpAny_setField hT hdT hsz (hQ _ ⟨I,os,bare,⟨λb o hb=>(oth b λq=>by subst q;rw[hnT]at hb;cases hb).trans (w1 b o hb),w2,
  w3.of_keeps λb o hb hn=>⟨o,(oth b (nr b o hb hn)).trans hb,rfl⟩⟩,⟨a0,oe,vs,T,_,_,(oth a (aj hTe)).trans he,hcls,hd,h1,hnT,hTe,
   gu _ hT (Obj.isFreed_of_fields (hU hdT _)),hU hdT _,by simp[hsz]⟩,j5,rel,sl.up w3 λb o hb hn=>⟨o.slots,(oth b (nr b o hb hn)).trans hb⟩,e⟩)
end
section
variable{X:Cx}{E:St->XK}{a L:Addr}{cls:Value}{s s':Shared}{pins:List (Addr×Obj)}{σ:St}{H H':Hp}{B:Heap}
theorem Inv.adopt{o:HO}(I:Inv X pins σ H s)(hn:H a=none)(new:kO X.prog X.w (upd H a o) s.heap a o)(h0:X.s₀.heap.get? a=none)(hL:a≠X.env.locals)
  (hc:∀x c,X.env.cells.lookup x=some c->c≠a) (hp:∀p∈X.pn++pins,p.1≠a):Inv X pins σ (upd H a o) s where
 ok:=I.ok
 os:=I.os
 bare:=I.bare
 base:={
  keep:=I.base.keep
  slot:=I.base.slot
  free:=λb ob e n hb=>by
   rw[i4 λz=>by subst z;rw[h0]at e;cases e]
   exact I.base.free b ob e n hb
  there:=I.base.there
  vx:=λb xs e=>by
   have q:=I.base.vx b xs e;rw[i4 (iY q hn)];exact q
  tV:=λb ob u e=>by
   have q:=I.base.tV b ob u e;rw[i4 (iY q hn)];exact q
  vf:=λb ps e=>by
   obtain⟨m,q⟩:=I.base.vf b ps e;exact⟨m,by rw[i4 (iY q hn)];exact q⟩}
 loc:=I.loc
 cell:=I.cell
 free:=by rw[i4 (aj hL)];exact I.free
 o6:=λx c e=>by rw[i4 (hc x c e)];exact I.o6 x c e
 pin:=λp m=>by
  obtain⟨p1,p2,p3⟩:=I.pin p m;exact⟨p1,by rw[i4 (hp p m)];exact p2,p3⟩
 j5:=λb u e=>by
  by_cases hb:b=a
  ·subst hb;rw[iZ]at e;cases e;exact new
  ·rw[i4 hb]at e;exact(I.j5 b u e).vv (λ_ _ _ q=>q) (λc q=>by rw[i4 (iY q hn)];exact q) λc xs q=>by rw[i4 (iY q hn)];exact q
 len:=I.len
theorem Av.out{E0:XK}(u:Av X (λ_=>E0) K2 a cls s')(hst:X.stack=X.env::X.outer)(hf:X.env.frame=some X.env.locals)(hex:X.ex=[]):
  tX X.prog X.w X.outer X.H₀ X.s₀ E0 (.ref a) s':=by
 obtain⟨I,os,bare,way,p,j5,rel,sl,e⟩:=u;rename_i pins σ H H' B s;have CC:∀b,b∉X.ex:=λb=>by rw[hex];simp
 have hfs:∀b,b∈B0 X.stack↔b=X.env.locals∨b∈X.fs:=λb=>by
  rw[hst];unfold B0;rw[dS,hf];exact a_
 have nloc:∀b o,X.s₀.heap.get? b=some o->b≠X.env.locals:=λb o q z=>by
  have:=aC q;have h2:=I.ok.above;rw[z]at this;exact absurd (ax this h2) (bD _)
 obtain⟨w1,w2,w3⟩:=way;have w3':s'.heap.FunFrames B X.outer:=by rw[hst]at w3;exact w3.2.2
 refine⟨a,cls,H',B,rfl,os.trans I.os,bare,⟨w1,w2,w3'⟩,p,j5,⟨λb o q n hb=> ?_,λb hb=>rel.fr b ((hfs b).mpr (.inr hb)),λb o q=> ?_,λb xs q=>rel.vx b xs (I.base.vx b xs q),
  λb o u q=>rel.tV b o u (I.base.tV b o u q),λb ps q=> ?_⟩,λb o q hb=> ?_,e⟩
 ·refine rel.keep b o (I.base.keep b o q n hb (CC b)) (I.base.free b o q n (CC b)) λz=> ?_;rcases (hfs b).mp z with z|z
  ·exact nloc b o q z
  ·exact hb z
 ·obtain⟨o1,q1⟩:=I.base.there b o q (CC b);rcases rel.there b o1 q1 with z|z
  ·rcases (hfs b).mp z with z|z
   ·exact absurd z (nloc b o q)
   ·exact .inl z
  ·exact .inr z
 ·obtain⟨m1,q1⟩:=I.base.vf b ps q;obtain⟨m2,q2⟩:=rel.vf b _ q1;exact⟨m1++m2,by rw[q2,gW]⟩
 ·obtain⟨s1,q1⟩:=I.base.slot b o q (I.ok.PD b hb) hb (CC b);obtain⟨s2,q2⟩:=sl b _ q1 ((hfs b).mpr (.inr hb));exact⟨s2,q2⟩
end
structure Exc(X:Cx)(E:St->XK):Prop where
 pass:∀(pins:List (Addr×Obj)) (σ:St) (H:Hp) (s:Shared) (e:Value) (s':Shared),Inv X pins σ H s->tX X.prog X.w X.stack H s (E σ) e s'->X.xe e s'
 V5:∀(pins:List (Addr×Obj)) (σ:St) (H:Hp) (s s':Shared) (a C:Addr) (args:List Value),Inv X pins σ H s->Heap.MadeExcOf s.heap s'.heap a (.ref C) args->s'.os=s.os->s'.gens=s.gens->
  E σ (.ref C) none H->X.xe (.ref a) s'
 own:PassesOwn (model X.prog X.w) X.A X.env X.xe
theorem M7{X:Cx}{E:St->XK}(hst:X.stack=X.env::X.outer)(hf:X.env.frame=some X.env.locals):Exc (X.vy (Vp X E X.env.locals)) E where
 pass:=λpins σ H s e s' I z=>by obtain⟨a,cls,H',B,ee,os,bare,way,p,j5,rel,sl,q⟩:=z;exact⟨a,cls,ee,⟨I.rk,os,bare,way,.inr (.inl p),j5,rel,sl,q⟩⟩
 V5:=λpins σ H s s' a C args I hm os hg q=>by
  have I:=I.rk;obtain⟨t,he,htn,ht⟩:=hm.there;have hB:(eZ s.heap (B0 X.stack)).get? a=none:=by
   cases z:(eZ s.heap (B0 X.stack)).get? a with
   |none=>rfl
   |some o=>have:=fz _ z;rw[hm.new]at this;cases this
  refine⟨a,.ref C,rfl,⟨I,os,by rw[hg];exact I.bare,⟨λb o z=>hm.keeps b o (fz _ z),hB,?_⟩,.inl ⟨_,_,_,he,rfl,rfl,rfl,rfl⟩,I.j5.hide I.BL,⟨λb o z n hb=>⟨dU _ z hb,n⟩,I.BL,
   λb o z=> ?_,λ_ _ z=>z,λ_ _ _ z=>z,λ_ ps z=>⟨#[],by rw[fq];exact z⟩⟩,λb o z _=>⟨o.slots,hm.keeps b o z⟩,q⟩⟩
  ·exact(PySem.W.funFrames_hide I.stack λenv he b hb=>List.mem_filterMap.mpr ⟨env,he,hb⟩).of_keeps λb o z _=>⟨o,hm.keeps b o z,rfl⟩
  ·by_cases hb:b∈B0 X.stack
   ·exact .inl hb
   ·exact .inr ⟨o,dU _ z hb⟩
 own:=λe s'=>Uc λa cls ee u=>by
  subst ee;refine u.note rfl hst hf λh' u'=> ?_;unfold cameBackBy;rw[show(X.vy (Vp X E X.env.locals)).env.frame=some X.env.locals from hf];refine u'.hold λh2 u2=> ?_;obtain⟨I,os,bare,way,p,j5,rel,sl,q⟩:=u2;exact⟨a,cls,rfl,⟨I,os,bare,way,.inr (.inr p),j5,rel,sl,q⟩⟩
theorem G1.vy{X:Cx}{st:List Stmt}{t:TS}{E:Value->Shared->Prop}(h:G1 (X.vy E) st t)(he:∀e s,E e s->X.xe e s):G1 X st t:=λpins s σ H D I hw=>
 wpAny_mono (h pins s σ H D (I.vy E) hw) (λ_ _ z=>SP.rk z) he
noncomputable abbrev QP (ca:Bool) (P:Program) (w:World) (K:ah) (mg:Str->Option Value) (base:Heap) (N:List Str) (qual:Str) (scope:Scope) (f:Addr) (cd:Value) (A:Around) (outer:List Env) (s:Shared) (H:Hp) (E:XK):Cx:=
 (Hf (tX P w) ca P w K mg base N qual scope f cd A outer s H E).vy (Vp (Hf (tX P w) ca P w K mg base N qual scope f cd A outer s H E) (λ_=>E) s.heap.objs.size)
section
variable{P:Program}{w:World}{K:ah}{mg:Str->Option Value}{base:Heap}
theorem DC.NO{x qual:Str}{st:Stmt}{f:Addr}{fd:FuncData}{N ps:List Str}{ca:Bool}{k:Nat}{sp:Sp}(F:DC K x qual st f fd)(S:i8 N ps (i3 st))(len:∀vs H Q E,sp vs H Q E->vs.length=ps.length)
  (hbody:∀(cdv:Value) (A:Around) (outer:List Env) (s:Shared) (H:Hp) (vs:List V) (Q:VK) (E:XK),lO ca k (A.deeper (envOfC qual (i3 st) s.heap.objs.size f cdv))->
   Exc (QP ca P w K mg base N qual (i3 st) f cdv A outer s H E) (λ_=>E)->sp vs H Q E->
   ∃t,G1 (QP ca P w K mg base N qual (i3 st) f cdv A outer s H E) (mC st) t/\t {nx:=λ_ H'=>Q .kr H',rt:=Q} (start N vs) H):lZ P w K mg base (tX P w) ca (k+1) f fd ps sp:=by
 obtain⟨oc,od,kV,doc,pm,an,cdv,ct,osl,rfl,lk,hcd⟩:=F.ex;refine QR (CX:=tX P w) lk hcd S len λA outer s H vs Q E hr hsp=> ?_;obtain⟨t,h,q⟩:=hbody cdv A outer s H vs Q E hr (M7 rfl rfl) hsp;refine⟨t,h.vy λe s2=>Uc λa cls ee u=> ?_,q⟩;subst ee;show wpAny _ _ (leaving _ _) _ _ _;unfold leaving;exact wpAny_bind (u.note rfl rfl rfl λh' u'=>u'.Wy λh'' u''=>u''.out rfl rfl rfl)
end
noncomputable def rm (H:Hp) (p:Addr):Hp:=λb=>if b=p then none else H b
section
variable{X:Cx}{pins:List (Addr×Obj)}{σ:St}{H:Hp}{s:Shared}
end
def A3(sp:Sp)(E:St->XK)(t:TA):TE:=λσ H Q=>t σ H λvs H1=>sp vs H1 Q (E σ)
def A4(C:Addr)(sp:Sp)(E:St->XK)(t:TA):TE:=λσ H Q=>t σ H λvs H1=>∀x dx,H1 x=none->H1 dx=none->dx≠x->
 sp (.ref x::vs) (upd (upd H1 dx (.own x)) x (.ins C dx [])) (λv H2=>v= .kr/\Q (.ref x) H2) (E σ)
section
variable{X:Cx}{ca:Bool}{k:Nat}{f C:Addr}{fd:FuncData}{ps:List Str}{sp:Sp}{E:St->XK}{x m:Str}{p pos apos:Pos}{e o:Expr}{es:List Expr}{ta:TE}{t:TA}
theorem F_{pins:List (Addr×Obj)}{σ:St}{H:Hp}{s:Shared}{Q:VK}{us:List Value}{vs:List V}(F:lZ X.prog X.w X.K X.mg X.base (tX X.prog X.w) ca k f fd ps sp)(hr:lO ca k X.A)(hb:Binds X.K fd ps [])(hx:Exc X E)
  (I:Inv X pins σ H s) (r:Vals vs us) (h:sp vs H Q (E σ)):wpAny (model X.prog X.w) X.A (call (.ref f) us) (EP X pins σ Q) X.xe s:=by
 have hl:(us++[]).length=ps.length:=by rw[bg,←r.length];exact F.len _ _ _ _ h
 have hb':=hb s us I.GW hl;rw[bg]at hb';refine wpAny_call (codeAny_mono (F.run X.A X.stack s H ⟨us,[]⟩ us vs Q (E σ) hr I.Ud hb' r h) λr s' hq=> ?_)
 cases r with
 |error e=>exact hx.pass pins σ H s e s' I hq
 |ok fl=>
  cases fl with
  |ret u=>exact I.after hq
  |next=>exact cD hq
  |brk=>exact cD hq
  |cont=>exact cD hq
theorem NU(F:lZ X.prog X.w X.K X.mg X.base (tX X.prog X.w) ca k f fd ps sp)(hr:lO ca k X.A)(hg:Gl X x)(hm:X.mg x=some (.ref f))(hk:bo X.K (.ref f)=true)(hb:Binds X.K fd ps [])(hx:Exc X E)
  (ha:PA X (e::es) t) (hdb:(x==("__debug__":Str))=false:=by decide) (he:starEach (e::es) X.env=(false,eval e X.env)::starEach es X.env:=by rfl) (hpl:(backTo pos (starEach es X.env)).any (·.1)=false:=by rfl):
  PE X (.Call (.Name x p) (e::es) [] pos) (A3 sp E t):=by
 intro pins s σ H Q I h;refine wpAny_Call_Name_kw (BG I hg hm ?_ hdb);refine fw (h₀:=X.base) I.ok.mod.Ul hk (lQ (ha pos pins s σ H _ I h) λus s1=>qh λvs H1 I1 r q=>⟨I1.GW,?_⟩) he hpl;exact F_ F hr hb hx I1 r q
theorem EX{pins:List (Addr×Obj)}{σ:St}{H:Hp}{s:Shared}{Q:VK}{us:List Value}{vs:List V}(M:Mk X.K C f)(F:lZ X.prog X.w X.K X.mg X.base (tX X.prog X.w) ca k f fd ps sp)(hr:lO ca (k+1) X.A)(hb:Binds X.K fd ps [])
  (hx:Exc X E) (I:Inv X pins σ H s) (r:Vals vs us)
  (h:∀x dx,H x=none->H dx=none->dx≠x->sp (.ref x::vs) (upd (upd H dx (.own x)) x (.ins C dx [])) (λv H2=>v= .kr/\Q (.ref x) H2) (E σ)):
  wpAny (model X.prog X.w) X.A (call (.ref C) us) (EP X pins σ Q) X.xe s:=by
 have hq:=h (s.heap.objs.size+1) s.heap.objs.size (I.j5.fresh (fm _)) (I.j5.fresh (au _)) (aJ (fN _));have I2:=Inv.made (C:=C) I;have r2:Vals (V.ref (s.heap.objs.size+1)::vs) (aL (s.heap.objs.size+1)::us):= .cons rfl r;have hl:(aL (s.heap.objs.size+1)::us++[]).length=ps.length:=by rw[bg,←r2.length];exact F.len _ _ _ _ hq
 have hb':=hb {s with heap:=(s.heap.push bM).push (ck C s.heap.objs.size)} (aL (s.heap.objs.size+1)::us) I2.GW hl;rw[bg]at hb';refine wpAny_call (NF (f:=f) I.GW M.makes M.init (beq_iff_eq.mp M.fn) (codeAny_mono (F.run _ X.stack _ _ ⟨aL (s.heap.objs.size+1)::us,[]⟩ (aL (s.heap.objs.size+1)::us) _ _ (E σ) (hr.make C us [])
  (I2.Ud.make C us []) hb' r2 hq) λr s' hq'=> ?_))
 cases r with
 |error e=>exact hx.pass pins σ _ _ e s' I2 hq'
 |ok fl=>
  cases fl with
  |ret u=>
   obtain⟨v,H',I3,rv,ev,q3⟩:=I2.after hq';subst ev;exact⟨rv,⟨V.ref (s.heap.objs.size+1),H',I3,rfl,q3⟩⟩
  |next=>exact cD hq'
  |brk=>exact cD hq'
  |cont=>exact cD hq'
theorem NZ(M:Mk X.K C f)(F:lZ X.prog X.w X.K X.mg X.base (tX X.prog X.w) ca k f fd ps sp)(hr:lO ca (k+1) X.A)(hg:Gl X x)(hm:X.mg x=some (.ref C))(hb:Binds X.K fd ps [])(hx:Exc X E)
  (ha:PA X (e::es) t) (hdb:(x==("__debug__":Str))=false:=by decide) (he:starEach (e::es) X.env=(false,eval e X.env)::starEach es X.env:=by rfl) (hpl:(backTo pos (starEach es X.env)).any (·.1)=false:=by rfl):
  PE X (.Call (.Name x p) (e::es) [] pos) (A4 C sp E t):=by
 intro pins s σ H Q I h;refine wpAny_Call_Name_kw (BG I hg hm ?_ hdb);refine fw (h₀:=X.base) I.ok.mod.Ul M.kp (lQ (ha pos pins s σ H _ I h) λus s1=>qh λvs H1 I1 r q=>⟨I1.GW,?_⟩) he hpl;exact EX M F hr hb hx I1 r q
theorem L0(M:Mk X.K C f)(F:lZ X.prog X.w X.K X.mg X.base (tX X.prog X.w) ca k f fd ps sp)(hr:lO ca (k+1) X.A)(hg:Gl X x)(hm:X.mg x=some (.ref C))(hb:Binds X.K fd ps [])(hx:Exc X E)
  (hdb:(x==("__debug__":Str))=false:=by decide):PE X (.Call (.Name x p) [] [] pos) (A4 C sp E IB):=by
 intro pins s σ H Q I h;refine wpAny_Call_Name_kw (BG I hg hm ?_ hdb);exact gR I.GW M.kp (EX (us:=[]) M F hr hb hx I .nil h)
end
section
variable{X:Cx}{C:Addr}{E:St->XK}{x:Str}{np cpos pos:Pos}{e:Expr}{es:List Expr}{t:TA}
end
section
variable{X:Cx}{pins pins':List (Addr×Obj)}{σ:St}{H:Hp}{s:Shared}{a:Addr}{E:Value->Shared->Prop}
end
abbrev TH:=Ends->St->Hp->Value->Prop
section
variable{X:Cx}{c:Value}{i:Nat}{x n:Str}{np pos:Pos}{b₀:Stmt}{suite:List Stmt}{th:TS}{tr:TH}{rest:List ExceptHandler}
end
section
variable{X:Cx}
theorem PE.mono{e:Expr}{t t':TE}(h:PE X e t)(k:∀σ H Q,t' σ H Q->t σ H Q):PE X e t':=λpins s σ H Q I q=>h pins s σ H Q I (k _ _ _ q)
theorem nX.mono{f:Value->Value->Sem Value}{r r':R2}(h:nX X f r)(k:∀x y H Q,r' x y H Q->r x y H Q):nX X f r':=λpins s σ H x y v u Q I rx ry q=>h pins s σ H x y v u Q I rx ry (k _ _ _ _ q)
theorem nB.mono{f:Value}{r r':List V->Hp->VK->Prop}(h:nB X f r)(k:∀xs H Q,r' xs H Q->r xs H Q):nB X f r':=λpins s σ H xs us Q I rx q=>h pins s σ H xs us Q I rx (k _ _ _ q)
end
def Fd(i:Nat):TE:=λσ H Q=>match σ[i]? with
 |some (some v)=>Q v H
 |_=>False
section
variable{X:Cx}
theorem cv(i:Nat){x:Str}{pos:Pos}(hN:X.N[i]? =some x:=by rfl)(hv:Vb X.env.scope x:=by first|exact Or.inl rfl|exact gA (Or.inl rfl)|exact gA (gA rfl))(hd:(x==("__debug__":Str))=false:=by decide)
  (hcd:(x==("__classdict__":Str))=false:=by decide):PE X (.Name x pos) (Fd i):=(SE hN hv hd hcd).mono λσ H Q h=>by
 unfold Fd at h
 split at h
 ·rename_i v e;exact⟨v,e,h⟩
 ·exact h.elim
def Gv(mg:Str->Option Value)(x:Str)(v:V):Prop:=∃u,mg x=some u/\RelV v u
theorem UM{x:Str}{v:V}{pos:Pos}(h:Gv X.mg x v)(hg:Gl X x:=by rfl)(hd:(x==("__debug__":Str))=false:=by decide):PE X (.Name x pos) (tC v):=by
 obtain⟨u,hm,r⟩:=h;exact Qf hg hm r hd
theorem UP{x:Str}{T:String}{pos:Pos}(hm:X.mg x=none)(hv:bootBuiltins x=some (.type T))(hg:Gl X x:=by rfl)(hn:x≠"__name__":=by decide)(hd:(x==("__debug__":Str))=false:=by decide):
  PE X (.Name x pos) (tC (.ty T)):=Qc hg hm hv rfl hn hd
end
def O8:R2:=λx y H Q=>match x,y with
 | .int i,.int j=>Q (.int (i+j)) H
 |_,_=>False
def Pn:R2:=λx y H Q=>match x,y with
 | .int i,.int j=>Q (.int (i-j)) H
 |_,_=>False
def Ph:R2:=λx y H Q=>match x,y with
 | .int i,.int j=>Mo i j/\Q (.int (i*j)) H
 |_,_=>False
def G9:R2:=λx y H Q=>match x,y with
 | .int i,.int j=>Q6 i j/\Q (.int (i/j)) H
 |_,_=>False
def MI:R2:=λx y H Q=>match x,y with
 | .int i,.int j=>0<j/\Q (.int (i%j)) H
 |_,_=>False
def Ln(p:Int->Int->Bool):R2:=λx y H Q=>match x,y with
 | .int i,.int j=>Q (.bl (p i j)) H
 |_,_=>False
abbrev Vv:R2:=Ln λi j=>decide (i<j)
abbrev Vu:R2:=Ln λi j=>decide (i<=j)
abbrev Vd:R2:=Ln λi j=>decide (j<i)
noncomputable def eqv:V->V->Option Bool
 | .int i,.int j=>some (decide (i=j))
 | .str i,.str j=>some (decide (i=j))
 | .kr,.kr=>some true
 | .kr,.int _=>some false| .int _,.kr=>some false
 |_,_=>none
theorem RD{i j:Int}:eqv (.int i) (.int j)=some (decide (i=j)):=rfl
theorem RH{i j:Str}:eqv (.str i) (.str j)=some (decide (i=j)):=rfl
theorem RG:eqv .kr .kr=some true:=rfl
theorem RF{i:Int}:eqv .kr (.int i)=some false:=rfl
theorem RE{i:Int}:eqv (.int i) .kr=some false:=rfl
def TJ:R2:=λx y H Q=>match eqv x y with
 |some b=>Q (.bl b) H
 |none=>False
def TK:R2:=λx y H Q=>match eqv x y with
 |some b=>Q (.bl (!b)) H
 |none=>False
noncomputable def Hn:V->Bool
 | .kr=>true
 |_=>false
def Ve:R2:=λx y H Q=>match y with
 | .kr=>Q (.bl (Hn x)) H
 |_=>False
def IQ:R2:=λx y H Q=>match y with
 | .kr=>Q (.bl (!Hn x)) H
 |_=>False
def Pl:V->Hp->VK->Prop:=λx H Q=>match x with
 | .int i=>Q (.int (-i)) H
 |_=>False
theorem Hh{x y:V}{b:Bool}(h:eqv x y=some b):SW x y=true/\decide (x=y)=b:=by
 cases x<;>cases y<;>first
  |exact⟨rfl,(decide_eq_decide.mpr ⟨λz=>by cases z;rfl,λz=>by cases z;rfl⟩).trans (aM h)⟩
  |exact⟨rfl,(decide_eq_false λz=>by cases z).trans (aM h)⟩
  |exact⟨rfl,(decide_eq_true rfl).trans (aM h)⟩
  |exact nomatch h
section
variable{X:Cx}
theorem TL:nX X (binaryOp .Add) O8:=Sj.mono λx y H Q h=>by
 unfold O8 at h
 split at h
 ·exact⟨_,_,rfl,rfl,h⟩
 ·exact h.elim
theorem T8:nX X (binaryOp .Sub) Pn:=Sq.mono λx y H Q h=>by
 unfold Pn at h
 split at h
 ·exact⟨_,_,rfl,rfl,h⟩
 ·exact h.elim
theorem T1:nX X (binaryOp .Mult) Ph:=Sn.mono λx y H Q h=>by
 unfold Ph at h
 split at h
 ·exact⟨_,_,rfl,rfl,h.1,h.2⟩
 ·exact h.elim
theorem Rn:nX X (binaryOp .FloorDiv) G9:=P_.mono λx y H Q h=>by
 unfold G9 at h
 split at h
 ·exact⟨_,_,rfl,rfl,h.1,h.2⟩
 ·exact h.elim
theorem TZ:nX X (binaryOp .Mod) MI:=Sm.mono λx y H Q h=>by
 unfold MI at h
 split at h
 ·exact⟨_,_,rfl,rfl,h.1,h.2⟩
 ·exact h.elim
theorem MM{op:CmpOp}{p:Int->Int->Bool}(h:nX X (compareOp op) (QZ λi j=> .bl (p i j))):nX X (compareOp op) (Ln p):=h.mono λx y H Q h=>by
 unfold Ln at h
 split at h
 ·exact⟨_,_,rfl,rfl,h⟩
 ·exact h.elim
theorem VC:nX X (compareOp .Lt) Vv:=MM UJ
theorem VB:nX X (compareOp .LtE) Vu:=MM UI
theorem Vy:nX X (compareOp .Gt) Vd:=MM UH
theorem TN:nX X (compareOp .Eq) TJ:=UG.mono λx y H Q h=>by
 unfold TJ at h
 split at h
 ·rename_i b e;obtain⟨e1,e2⟩:=Hh e;exact⟨e1,by rw[e2];exact h⟩
 ·exact h.elim
theorem T2:nX X (compareOp .NotEq) TK:=UK.mono λx y H Q h=>by
 unfold TK at h
 split at h
 ·rename_i b e;obtain⟨e1,e2⟩:=Hh e;exact⟨e1,by rw[e2];exact h⟩
 ·exact h.elim
theorem EL(x:V):decide (x= .kr)=Hn x:=by cases x<;>simp[Hn]
theorem Vz:nX X (compareOp .Is) Ve:=Sl.mono λx y H Q h=>by
 unfold Ve at h
 split at h
 ·exact⟨rfl,by rw[EL];exact h⟩
 ·exact h.elim
theorem Pp:nX X (compareOp .IsNot) IQ:=Qa.mono λx y H Q h=>by
 unfold IQ at h
 split at h
 ·exact⟨rfl,by rw[EL];exact h⟩
 ·exact h.elim
theorem T5:Tu X (unaryOp .USub) Pl:=λpins s σ H x v Q I rx h=>by
 unfold Pl at h
 split at h
 ·exact S_ pins s σ H _ v Q I rx ⟨_,rfl,h⟩
 ·exact h.elim
end
section
variable{X:Cx}{es:List Expr}{e:Expr}{t:TA}{ti:TE}{pos p2:Pos}
end
def Vf:R2:=λx y H Q=>match x,y with
 | .ref p,.int i=>(match H p with
  |some (.lst xs)=>(match Bm xs i with
   |some v=>Q v H
   |none=>False)
  |some (.tup xs)=>(match Bm xs i with
   |some v=>Q v H
   |none=>False)
  |_=>False)
 |_,_=>False
def Pg:List V->Hp->VK->Prop:=λxs H Q=>match xs with
 | [.ref p]=>(match H p with
  |some (.lst ys)=>Q (.int ys.length) H
  |some (.tup ys)=>Q (.int ys.length) H
  |_=>False)
 |_=>False
def Pf(K:ah):R2:=λx y H Q=>match x,y with
 | .ref p,.int i=>∃xs,jX K H p xs/\(match Bm xs i with
   |some v=>Q v H
   |none=>False)
 |_,_=>False
def Kk(K:ah):List V->Hp->VK->Prop:=λxs H Q=>match xs with
 | [.ref p]=>∃ys,jX K H p ys/\Q (.int ys.length) H
 |_=>False
section
variable{X:Cx}
theorem VA:Te X Vf:=by
 intro value slice pins s σ H x y v u Q I rx ry h hsub;unfold Vf at h
 cases x<;>try exact h.elim
 rename_i p
 cases y<;>try exact h.elim
 rename_i i;dsimp only at h
 cases hp:H p<;>rw[hp]at h<;>try exact h.elim
 rename_i o
 cases o<;>try exact h.elim
 ·rename_i xs;dsimp only at h
  split at h
  case h_2=>exact h.elim
  rename_i v' ha;exact KH value slice pins s σ H _ _ v u Q I rx ry ⟨_,xs,_,v',rfl,rfl,jX.of hp,ha,h⟩ hsub
 ·rename_i xs;dsimp only at h
  split at h
  case h_2=>exact h.elim
  rename_i v' ha;exact RT value slice pins s σ H _ _ v u Q I rx ry ⟨_,xs,_,v',rfl,rfl,Ke.of hp,ha,h⟩ hsub
theorem TX:Te X (Pf X.K):=by
 intro value slice pins s σ H x y v u Q I rx ry h hsub;unfold Pf at h
 split at h
 case h_2=>exact h.elim
 obtain⟨xs,hp,h⟩:=h
 split at h
 case h_2=>exact h.elim
 rename_i v' ha;exact KH value slice pins s σ H _ _ v u Q I rx ry ⟨_,xs,_,v',rfl,rfl,hp,ha,h⟩ hsub
theorem TY:nB X (.builtin "len") Pg:=wO.mono λxs H Q h=>by
 unfold Pg at h;rcases xs with _|⟨x,xs⟩<;>try exact h.elim
 cases x<;>try exact h.elim
 rename_i p;rcases xs with _|⟨y,xs⟩<;>try exact h.elim
 dsimp only at h
 cases hp:H p<;>rw[hp]at h<;>try exact h.elim
 rename_i o
 cases o<;>try exact h.elim
 ·exact⟨_,_,rfl,.inl (jX.of hp),h⟩
 ·exact⟨_,_,rfl,.inr (Ke.of hp),h⟩
theorem Rq:nB X (.builtin "len") (Kk X.K):=wO.mono λxs H Q h=>by
 unfold Kk at h
 split at h
 case h_2=>exact h.elim
 obtain⟨ys,hp,h⟩:=h;exact⟨_,ys,rfl,.inl hp,h⟩
end
theorem Rz{CX:Mn}{ca:Bool}{P:Program}{w:World}{K:ah}{mg:Str->Option Value}{base:Heap}{N:List Str}{qual:Str}{scope:Scope}{f:Addr}{cd:Value}{A:Around}{outer:List Env}{s:Shared}{H:Hp}{E:XK}:
  (Hf CX ca P w K mg base N qual scope f cd A outer s H E).K=K:=rfl
section
open Builtin Builtin.ObjectAttr Builtin.Getset_descriptor
variable{prog:Program}{w:World}{A:Around}{E:Value->Shared->Prop}{s:Shared}{K:ah}{a C:Addr}
end
noncomputable def Q4 (H:Hp):V->Option Value
 | .kr=>some (.type "NoneType")
 | .int _=>some (.type "int")
 | .ref a=>match H a with
  |some (.lst _)=>some (.type "list")
  |some (.tup _)=>some (.type "tuple")
  |_=>none
 |_=>none
def IK(_:ah)(_:Hp)(_:V):Prop:=True
noncomputable def Um (K:ah) (t:Value):V->Option Bool
 | .ty n=>bw K t (.type n)
 | .ref C=>bw K t (.ref C)
 |_=>none
def Qs(K:ah):List V->Hp->VK->Prop:=λxs H Q=>match xs with
 | [x,c]=>(match Q4 H x with
  |some t=>IK K H x/\(match Um K t c with
   |some b=>Q (.bl b) H
   |none=>False)
  |none=>False)
 |_=>False
theorem MT{X:Cx}:nB X (.builtin "isinstance") (Qs X.K):=by
 intro pins s σ H xs us Q I r h;unfold Qs at h
 split at h
 case h_2=>exact h.elim
 rename_i x c;obtain⟨u,w',rfl,rx,rc⟩:=vals2 r
 split at h
 case h_2=>exact h.elim
 rename_i t ht;obtain⟨ok,h⟩:=h
 split at h
 case h_2=>exact h.elim
 rename_i b hk;have q:=h;have hc:bw X.K t w'=some b:=by
  cases c<;>first|(cases (show w'=fI _ from rc);exact hk)|(cases (show w'=aL _ from rc);exact hk)|cases hk
 have fin:∀tk,EP X pins σ Q (.bool b) {s with toks:=tk}:=λtk=>⟨.bl b,H,I.tok tk,rfl,q⟩
 cases x with
 |kr=>cases ht;exact vh I rx .kr hc fin
 |int i=>cases ht;exact vh I rx (.int i) hc fin
 |ref a=>
  unfold Q4 at ht;dsimp only at ht
  cases e:H a with
  |none=>rw[e]at ht;cases ht
  |some o=>
   rw[e]at ht
   cases o with
   |lst xs=>cases ht;exact vh I rx (.lst e) hc fin
   |tup xs=>cases ht;exact vh I rx (.tup e) hc fin
   |_=>cases ht
 |_=>cases ht
theorem WQ:(0<=sizeLine)=True:=eq_true (by decide)
theorem WR:(1<=sizeLine)=True:=eq_true (by decide)
theorem WS:(2<=sizeLine)=True:=eq_true (by decide)
theorem P6{a b:String}:(aP a=aP b)=(a=b):=by
 refine propext ⟨λh=> ?_,λh=>by rw[h]⟩;rw[gq,gq]at h;have h1:(a.toList.map gH).toArray=(b.toList.map gH).toArray:=congrArg Str.cps h;have h2:a.toList.map gH=b.toList.map gH:=congrArg Array.toList h1;have h3:a.toList=b.toList:=by
  refine(List.map_inj_right λx y e=> ?_).mp h2;exact Char.ext (UInt32.toNat_inj.mp e)
 exact String.toList_inj.mp h3
noncomputable def notStar:Expr->Bool
 | .Starred _ _=>false
 |_=>true
theorem oB{e:Expr}{rest:List Expr}{env:Env}(h:notStar e=true):starEach (e::rest) env=(false,eval e env)::starEach rest env:=by
 cases e<;>first|rfl|cases h
theorem oK{env:Env}{pos:Pos}:∀{es:List Expr},es.all notStar=true->(backTo pos (starEach es env)).any (·.1)=false
 | [],_=>rfl
 |e::es,h=>by
  rw[bA,aV]at h;rw[oB h.1];show(false ||(backTo pos (starEach es env)).any (·.1))=false;rw[oK h.2];rfl
section
variable{X:Cx}{ca:Bool}{k:Nat}{f C:Addr}{fd:FuncData}{ps:List Str}{sp:Sp}{E:St->XK}{x m:Str}{p pos apos np cpos:Pos}{e o:Expr}{es:List Expr}{te ta:TE}{t:TA}{id T:String}{r:List V->Hp->VK->Prop}
theorem VZ(ha:PE X e te)(hr:PA X es t)(h:notStar e=true:=by rfl):PA X (e::es) (E1 te t):=Qb ha hr (oB h)
theorem HV(F:lZ X.prog X.w X.K X.mg X.base (tX X.prog X.w) ca k f fd ps sp)(hr:lO ca k X.A)(hg:Gl X x)(hm:X.mg x=some (.ref f))(hk:bo X.K (.ref f)=true)(hb:Binds X.K fd ps [])(hx:Exc X E)
  (ha:PA X (e::es) t) (hdb:(x==("__debug__":Str))=false:=by decide) (h:(e::es).all notStar=true:=by rfl):PE X (.Call (.Name x p) (e::es) [] pos) (A3 sp E t):=
 NU F hr hg hm hk hb hx ha hdb (oB (by rw[bA,aV]at h;exact h.1)) (oK (by rw[bA,aV]at h;exact h.2))
theorem N0(M:Mk X.K C f)(F:lZ X.prog X.w X.K X.mg X.base (tX X.prog X.w) ca k f fd ps sp)(hr:lO ca (k+1) X.A)(hg:Gl X x)(hm:X.mg x=some (.ref C))(hb:Binds X.K fd ps [])(hx:Exc X E)
  (ha:PA X (e::es) t) (hdb:(x==("__debug__":Str))=false:=by decide) (h:(e::es).all notStar=true:=by rfl):PE X (.Call (.Name x p) (e::es) [] pos) (A4 C sp E t):=
 NZ M F hr hg hm hb hx ha hdb (oB (by rw[bA,aV]at h;exact h.1)) (oK (by rw[bA,aV]at h;exact h.2))
theorem LY(hc:nB X (.builtin id) r)(hg:Gl X x)(hm:X.mg x=none)(hv:bootBuiltins x=some (.builtin id))(ha:PA X (e::es) t)(hn:x≠"__name__":=by decide)(hdb:(x==("__debug__":Str))=false:=by decide)
  (h:(e::es).all notStar=true:=by rfl):PE X (.Call (.Name x p) (e::es) [] pos) (S0 r t):=
 NT hc hg hm hv ha hn hdb (oB (by rw[bA,aV]at h;exact h.1)) (oK (by rw[bA,aV]at h;exact h.2))
theorem Jy(hc:nB X (.type T) r)(hg:Gl X x)(hm:X.mg x=none)(hv:bootBuiltins x=some (.type T))(ha:PA X (e::es) t)(hn:x≠"__name__":=by decide)(hdb:(x==("__debug__":Str))=false:=by decide)
  (h:(e::es).all notStar=true:=by rfl):PE X (.Call (.Name x p) (e::es) [] pos) (S0 r t):=
 LZ hc hg hm hv ha hn hdb (oB (by rw[bA,aV]at h;exact h.1)) (oK (by rw[bA,aV]at h;exact h.2))
end
def j8(J:It)(g:TG)(tb:TS)(D:Ends)(σ:St)(H1:Hp):Prop:=∃W:Nat->Nat->St->Hp->Prop,(∃m,W 0 m σ H1)/\∀i m σ H,W i m σ H->
 (J.stop i H/\D.nx σ H)∨(J.go i H/\∃N:St->Hp->Prop,(∀σ' H',N σ' H'->∃m',m'<m/\W (i+1) m' σ' H')/\∀x H',J.Q5 i H x H'->g x σ H' λσ2 H2=>tb {D with nx:=N,ct:=N,bk:=D.nx} σ2 H2)
theorem QJ{wi:TI}{g:TG}{tb:TS}:S1 wi g tb=λD σ H=>wi σ H λJ H1=>j8 J g tb D σ H1:=rfl
theorem j8.range{lo:Int}{n:Nat}{g:TG}{tb:TS}{D:Ends}{σ:St}{H:Hp}(Pv:Nat->St->Hp->Prop)(h0:Pv 0 σ H)
  (hs:∀i σ H,i<n->Pv i σ H->g (.int (lo+i)) σ H λσ2 H2=>tb {D with nx:=Pv (i+1),ct:=Pv (i+1),bk:=D.nx} σ2 H2) (hd:∀σ H,Pv n σ H->D.nx σ H):j8 (OK lo n) g tb D σ H:=
 Ly Pv h0 hs hd
theorem j8.list{K:ah}{a:Addr}{xs:List V}{g:TG}{tb:TS}{D:Ends}{σ:St}{H:Hp}(Pv:Nat->St->Hp->Prop)(h0:Pv 0 σ H)(hl:∀i σ H,i<=xs.length->Pv i σ H->jX K H a xs)
  (hs:∀i x σ H,xs[i]? =some x->Pv i σ H->g x σ H λσ2 H2=>tb {D with nx:=Pv (i+1),ct:=Pv (i+1),bk:=D.nx} σ2 H2) (hd:∀σ H,Pv xs.length σ H->D.nx σ H):j8 (Mp K a) g tb D σ H:=
 Na Pv h0 hl hs hd
theorem wL{α:Type}{xs:List α}{j:Nat}:Bm xs (j:Int)=xs[j]? :=by
 cases h:xs[j]? with
 |some v=>exact rP h
 |none=>
  have hl:xs.length<=j:=List.getElem?_eq_none_iff.mp h;unfold Bm LH;rw[if_pos (by lia),if_neg (by lia)];rfl
theorem TC{α:Type}{xs:List α}:Bm xs 0=xs[0]? :=wL (j:=0)
theorem TF{α:Type}{xs:List α}:Bm xs 1=xs[1]? :=wL (j:=1)
theorem Jf{n:Nat}{i:Int}(h0:0<=i)(h1:i<n):LH n i=some i.toNat:=by
 unfold LH;rw[if_pos h0,if_pos h1]
theorem Rb{α:Type}{xs:List α}{i:Int}(h0:0<=i)(h1:i<xs.length):Bm xs i=xs[i.toNat]? :=by
 unfold Bm;rw[Jf h0 h1];rfl
def Lp(K:ah)(ta:TE)(f:Str):TE:=λσ H Q=>ta σ H λx H1=>match x with
 | .ref a=>(match H1 a with
  |some (.ins C _ fs)=>Ez K C/\kF K C f/\(match fs.lookup f with
   |some v=>Q v H1
   |none=>False)
  |_=>False)
 |_=>False
def MK(K:ah)(ta tv:TE)(f:Str):TS:=λD σ H=>tv σ H λy H1=>ta σ H1 λx H2=>match x with
 | .ref a=>(match H2 a with
  |some (.ins C dx fs)=>Ez K C/\kF K C f/\fs.length<1000/\D.nx σ (upd H2 a (.ins C dx (j4 f y fs)))
  |_=>False)
 |_=>False
def Aw(C:Addr)(m:Str)(sp:Sp)(E:St->XK)(ta:TE)(t:TA):TE:=λσ H Q=>ta σ H λx H1=>match x with
 | .ref a=>(match H1 a with
  |some (.ins C' _ fs)=>C'=C/\fs.lookup m=none/\t σ H1 λvs H2=>sp (x::vs) H2 Q (E σ)
  |_=>False)
 |_=>False
def Km:Lm:=λo i v H Q=>match o,i with
 | .ref p,.int k=>(match H p with
  |some (.lst xs)=>(match LH xs.length k with
   |some j=>Q (upd H p (.lst (xs.set j v)))
   |none=>False)
  |_=>False)
 |_,_=>False
def Pm:R2:=λx y H Q=>match x,y with
 | .ref l,.int k=>(match H l with
  |some (.lst xs)=> -(2^63)<=k/\k<2^63/\xs.length*k.toNat<=sizeLine/\∀p,H p=none->Q (.ref p) (upd H p (.lst (ao k.toNat xs).flatten))
  |_=>False)
 |_,_=>False
def Vh:V->Option Int->Option Int->Hp->VK->Prop:=λx lo hi H Q=>match x with
 | .ref a=>(match H a with
  |some (.lst xs)=>∀p,H p=none->Q (.ref p) (upd H p (.lst (DI xs lo hi)))
  |_=>False)
 |_=>False
def MJ(t:TE):TO:=λσ H Q=>t σ H λx H1=>match x with
 | .int i=>Q (some i) H1
 |_=>False
def Bw:V->List V->Hp->VK->Prop:=λx vs H Q=>match x,vs with
 | .ref l,[y]=>(match H l with
  |some (.lst xs)=>xs.length<sizeLine/\Q .kr (upd H l (.lst (xs++[y])))
  |_=>False)
 |_,_=>False
def Vt(r:V->List V->Hp->VK->Prop)(to:TE)(t:TA):TE:=λσ H Q=>to σ H λx H1=>match x with
 | .ref a=>(match H1 a with
  |some (.lst _)=>t σ H1 λxs H2=>r x xs H2 Q
  |_=>False)
 |_=>False
noncomputable def Hv:V->Option Key
 | .int n=>some (.inl n)
 | .str x=>some (.inr x)
 |_=>none
def MD(td ty:TE):TE:=λσ H Q=>td σ H λx H1=>ty σ H1 λy H2=>match x with
 | .ref a=>(match H2 a,Hv y with
  |some (.dK kvs),some k=>(match mP kvs k with
   |some v=>Q v H2
   |none=>False)
  |_,_=>False)
 |_=>False
def MF(td ty tv:TE):TS:=λD σ H=>tv σ H λv H1=>td σ H1 λx H2=>ty σ H2 λy H3=>match x with
 | .ref a=>(match H3 a,Hv y with
  |some (.dK kvs),some k=>kvs.length<sizeLine/\D.nx σ (upd H3 a (.dK (putK kvs k v)))
  |_,_=>False)
 |_=>False
theorem vk{y:V}{k:Key}(h:Hv y=some k):y=kV k:=by
 cases y<;>cases h<;>rfl
section
variable{X:Cx}{e o i f' value:Expr}{f m:Str}{pos pos' apos cpos p2:Pos}{ta tv td ty tx te:TE}{t:TA}{lo hi:Option Expr}{tl th:TO}
theorem Q7.mono{r r':V->Option Int->Option Int->Hp->VK->Prop}(h:Q7 X r)(k:∀x lo hi H Q,r' x lo hi H Q->r x lo hi H Q):Q7 X r':=λpins s σ H x v vl vu lo hi sl Q I rx hs pl pu q=>h pins s σ H x v vl vu lo hi sl Q I rx hs pl pu (k _ _ _ _ _ q)
theorem QO(he:PE X e ta)(hb:attributeBase e f X.env (eval e X.env)=eval e X.env):PE X (.Attribute e f pos) (Lp X.K ta f):=by
 intro pins s σ H Q I h;refine OY hb (lQ (he pins s σ H _ I h) λu s1=>qh λx H1 I1 rx q=> ?_)
 try dsimp only at q
 cases x<;>try exact q.elim
 rename_i a;dsimp only at q
 cases ea:H1 a<;>rw[ea]at q<;>try exact q.elim
 rename_i o
 cases o<;>try exact q.elim
 rename_i C dx fs;obtain⟨c,n,q⟩:=q
 try dsimp only at q
 split at q
 case h_2=>exact q.elim
 rename_i v l;obtain rfl:u=aL a:=rx;exact Jb I1 ea c n l λu' s2 I2 ru=>⟨v,H1,I2,ru,q⟩
theorem Rv(ha:PE X o ta)(hv:PE X value tv)(hs:swapsWith value (some (.Attribute o f pos')) pos.line X.env=pure false):PS X (.Assign [.Attribute o f pos'] value pos) (MK X.K ta tv f):=by
 intro pins s σ H D I h;refine plainObj_wpAny_Assign_Attribute (lQ (hv pins s σ H _ I h) λu s1=>qh λy H1 I1 ry q=>lQ (ha pins s1 σ H1 _ I1 q) λov s2=>qh λx H2 I2 rx q2=> ?_) hs
 try dsimp only at q2
 split at q2
 case h_2=>exact q2.elim
 rename_i a
 split at q2
 case h_2=>exact q2.elim
 rename_i C dx fs ea;obtain⟨c,n,l,q2⟩:=q2;obtain rfl:ov=aL a:=rx;exact JR I2 ea c n l ry λs3 I3=>⟨σ,_,I3,q2⟩
theorem T7:OT X Km:=by
 intro pins s σ H o i v ov iv u Q I ro ri rv h;unfold Km at h
 split at h
 case h_2=>exact h.elim
 split at h
 case h_2=>exact h.elim
 rename_i xs hp
 split at h
 case h_2=>exact h.elim
 rename_i j hj;exact set_list pins s σ H _ _ v ov iv u Q I ro ri rv ⟨_,xs,_,j,rfl,rfl,hp,hj,h⟩
theorem T6:nX X (binaryOp .Mult) Pm:=So.mono λx y H Q h=>by
 unfold Pm at h
 split at h
 case h_2=>exact h.elim
 split at h
 case h_2=>exact h.elim
 rename_i xs hp;exact⟨_,_,xs,rfl,rfl,hp,h.1,h.2.1,h.2.2.1,h.2.2.2⟩
theorem VD:Q7 X Vh:=QB.mono λx lo hi H Q h=>by
 unfold Vh at h
 split at h
 case h_2=>exact h.elim
 split at h
 case h_2=>exact h.elim
 rename_i xs hp;exact⟨_,xs,rfl,jX.of hp,h⟩
theorem Ru(h:PE X e te):PO X (some e) (MJ te):=by
 intro pins s σ H Q I hw;rw[evalPart_some];refine lQ (h pins s σ H _ I hw) λu s1=>qh λx H1 I1 r1 q1=> ?_
 try dsimp only at q1
 split at q1
 case h_2=>exact q1.elim
 rename_i i;obtain⟨t,rfl⟩:=r1;exact⟨some i,H1,I1,.int i t,q1⟩
theorem ML:Va X "list.append" Bw:=λpins s σ H x xs v us Q I rx rxs h=>by
 unfold Bw at h
 cases x<;>try exact h.elim
 rename_i l;rcases xs with _|⟨y,xs⟩<;>try exact h.elim
 rcases xs with _|⟨z,xs⟩<;>try exact h.elim
 dsimp only at h
 cases hp:H l<;>rw[hp]at h<;>try exact h.elim
 rename_i o
 cases o<;>try exact h.elim
 rename_i ys;exact LR pins s σ H _ _ v us Q I rx rxs ⟨_,ys,_,rfl,rfl,hp,h.1,h.2⟩
theorem RR{H:Hp}{a:Addr}{kvs:List (Key×V)}(e:H a=some (.dK kvs)):Wn H a:= .inl ⟨kvs,.inl e⟩
theorem Rk(hu:X.A.units+1<cLine)(ho:PE X o td)(hi:PE X i ty)(hs:Ms i):PE X (.Subscript o i pos) (MD td ty):=by
 intro pins s σ H Q I h;refine Lf PySem.F.slot_dict_getitem.lookup hs (lQ (ho pins s σ H _ I h) λu s1 ⟨x,H1,I1,rx,q1⟩=>lQ (hi pins s1 σ H1 _ I1 q1) λiv s2 ⟨y,H2,I2,ry,q2⟩=> ?_)
 try dsimp only at q2
 split at q2
 case h_2=>exact q2.elim
 rename_i a _
 split at q2
 case h_2=>exact q2.elim
 rename_i kvs k ea ek
 split at q2
 case h_2=>exact q2.elim
 rename_i v ev;have ey:=vk ek;subst ey;obtain rfl:u=aL a:=rx;have g:BN H2 a (kV k) (some v):=ev▸BN.k ea;exact⟨A7 I2 g,EH hu I2 g ry λw' s3 I3 rw'=>⟨v,H2,I3,rw',q2⟩⟩
theorem Rm(hu:X.A.units+1<cLine)(ho:PE X o td)(hi:PE X i ty)(hv:PE X value tv)(hs:swapsWith value (some (.Subscript o i pos')) pos.line X.env=pure false):
  PS X (.Assign [.Subscript o i pos'] value pos) (MF td ty tv):=by
 intro pins s σ H D I h;refine wpAny_Assign_Subscript (lQ (hv pins s σ H _ I h) λr s1 ⟨v,H1,I1,rv,q1⟩=>lQ (ho pins s1 σ H1 _ I1 q1) λu s2 ⟨x,H2,I2,rx,q2⟩=>lQ (hi pins s2 σ H2 _ I2 q2) λiv s3 ⟨y,H3,I3,ry,q3⟩=> ?_) hs
 try dsimp only at q3
 split at q3
 case h_2=>exact q3.elim
 rename_i a _
 split at q3
 case h_2=>exact q3.elim
 rename_i kvs k ea ek;have ey:=vk ek;subst ey;obtain rfl:u=aL a:=rx;exact Lx hu I3 (OQ.k ea q3.1) ry rv λs4 I4=>⟨σ,_,I4,q3.2⟩
end
section
variable{X:Cx}{e o:Expr}{es:List Expr}{to:TE}{t:TA}{apos cpos:Pos}{r:V->List V->Hp->VK->Prop}
theorem Vx{id:String}{name:Str}(slot:Slot "list" name id)(hty:typeOf (.builtin id)=pure (.type "method_descriptor"))(hm:Vm X id r)(ho:PE X o to)(ha:PA X (e::es) t)(hns:(e::es).all notStar=true:=by rfl)
  (hbase:attributeBase o name X.env (eval o X.env)=eval o X.env:=by rfl)
  (hfew:((backTo cpos (starEach (e::es) X.env)).all (λx=> !x.1)&&(backToKw cpos (keywordEach [] X.env)).all (λx=>x.1.isSome)
   &&decide ((e::es).length+([]:List Keyword).length+(if ([]:List Keyword).isEmpty then 0 else 1)<30))=true:=by rfl)
  (hline:(apos.endLine==cpos.line)=true:=by rfl):PE X (.Call (.Attribute o name apos) (e::es) [] cpos) (Vt r to t):=by
 intro pins s σ H Q I h;have hs:starEach (e::es) X.env=(false,eval e X.env)::starEach es X.env:=oB (by rw[bA,aV]at hns;exact hns.1);have hplain:(backTo cpos (starEach es X.env)).any (·.1)=false:=oK (by rw[bA,aV]at hns;exact hns.2);refine wpAny_Call_method_late hbase hfew hline rfl (lQ (ho pins s σ H _ I h) λv s1=>qh λx H1 I1 r1 q1=> ?_)
 try dsimp only at q1
 split at q1
 case h_2=>exact q1.elim
 rename_i a
 split at q1
 case h_2=>exact q1.elim
 rename_i ys ea;have ty:WE X.K "list" (.ref a) H1:= .inl ⟨rfl,ys,jX.of ea⟩;obtain⟨h1,h2⟩:=S9 I1 r1 ty;refine⟨"list",id,PySem.F.plainAttrs_list,slot,hty,h1,h2,?_⟩;have hA:=ha cpos pins s1 σ H1 _ I1 q1;rw[hs]at hA⊢;refine f_ (by show(false ||(backTo cpos (starEach es X.env)).any (·.1))=false;rw[hplain]<;>rfl) (gG ?_);exact lQ hA λus s2=>qh λvs H2 I2 r2 q2=>hm pins s2 σ H2 _ vs v us Q I2 r1 r2 q2
end
section
variable{X:Cx}{ca:Bool}{k:Nat}{f C:Addr}{fd:FuncData}{ps:List Str}{sp:Sp}{E:St->XK}{m:Str}{pos apos:Pos}{e o:Expr}{es:List Expr}{ta:TE}{t:TA}
theorem Rt{pl:Sem Bool}(he:PE X o ta)(c:Ez X.K C)(hm:Meth X.K C m f)(F:lZ X.prog X.w X.K X.mg X.base (tX X.prog X.w) ca k f fd ps sp)(hr:lO ca k X.A)(hb:Binds X.K fd ps [])(hx:Exc X E)(ha:PA X (e::es) t)
  (hns:(e::es).all notStar=true:=by rfl)
  (ht:eval (.Call (.Attribute o m apos) (e::es) [] pos) X.env=(do
   let ov←eval o X.env
   standAt apos.atName
   let (f,first)←holding [ov] (getMethod ov m pl)
   callWith pos f first (backTo pos (starEach (e::es) X.env)) (backToKw pos (keywordEach [] X.env))):=by rfl):
  PE X (.Call (.Attribute o m apos) (e::es) [] pos) (Aw C m sp E ta t):=by
 intro pins s σ H Q I h;have hst:starEach (e::es) X.env=(false,eval e X.env)::starEach es X.env:=oB (by rw[bA,aV]at hns;exact hns.1);have hpl:(backTo pos (starEach es X.env)).any (·.1)=false:=oK (by rw[bA,aV]at hns;exact hns.2);refine gC (pl:=pl) (lQ (he pins s σ H _ I h) λu s1=>qh λx H1 I1 rx q=> ?_) ht
 try dsimp only at q
 split at q
 case h_2=>exact q.elim
 rename_i a
 split at q
 case h_2=>exact q.elim
 rename_i C' dx fs ea;obtain⟨rfl,l,q⟩:=q;obtain rfl:u=aL a:=rx;refine B4 I1 ea c hm l ?_;refine fw (first:=[.ref a]) (h₀:=X.base) I.ok.mod.Ul hm.kp (lQ (ha pos pins s1 σ H1 _ I1 q) λus s2=>qh λvs H2 I2 r q2=>⟨I2.GW,?_⟩) hst hpl;exact F_ (us:= .ref a::us) (vs:= .ref a::vs) F hr hb hx I2 (.cons rfl r) q2
theorem Pq{pl:Sem Bool}(he:PE X o ta)(c:Ez X.K C)(hm:Meth X.K C m f)(F:lZ X.prog X.w X.K X.mg X.base (tX X.prog X.w) ca k f fd ps sp)(hr:lO ca k X.A)(hb:Binds X.K fd ps [])(hx:Exc X E)
  (ht:eval (.Call (.Attribute o m apos) [] [] pos) X.env=(do
   let ov←eval o X.env
   standAt apos.atName
   let (f,first)←holding [ov] (getMethod ov m pl)
   callWith pos f first (backTo pos (starEach [] X.env)) (backToKw pos (keywordEach [] X.env))):=by rfl):
  PE X (.Call (.Attribute o m apos) [] [] pos) (Aw C m sp E ta IB):=by
 intro pins s σ H Q I h;refine gC (pl:=pl) (lQ (he pins s σ H _ I h) λu s1=>qh λx H1 I1 rx q=> ?_) ht
 try dsimp only at q
 split at q
 case h_2=>exact q.elim
 rename_i a
 split at q
 case h_2=>exact q.elim
 rename_i C' dx fs ea;obtain⟨rfl,l,q⟩:=q;obtain rfl:u=aL a:=rx;refine B4 I1 ea c hm l ?_;exact gR (first:=[.ref a]) I1.GW hm.kp (F_ (us:=[.ref a]) (vs:=[.ref a]) F hr hb hx I1 (.cons rfl .nil) q)
end
theorem ja.upd{H:Hp}{p:Addr}{o:HO}(h:H p=none):ja H (Internal.upd H p o):=λb u e=>by rw[i4 (iY e h)];exact e
theorem kC{H:Hp}{p b:Addr}{o:HO}(h:Internal.upd H p o b=none):b≠p/\H b=none:=by
 by_cases z:b=p
 ·subst z;rw[iZ]at h;cases h
 ·exact⟨z,by rw[i4 z]at h;exact h⟩
theorem Hk(n:Nat)(x:V):(ao n [x]).flatten=ao n x:=by
 induction n with
 |zero=>rfl
 |succ n ih=>rw[cq,dF,ih,cq];rfl
theorem MX{ws:List Int}{i k:Int}(h0:0<=i)(h1:0<=k)(h2:i+k<=ws.length):DI (ws.map V.int) (some i) (some (i+k))=((ws.drop i.toNat).take k.toNat).map V.int:=by
 obtain⟨a,rfl⟩:∃a:Nat,i=a:=⟨i.toNat,by lia⟩;obtain⟨b,rfl⟩:∃b:Nat,k=b:=⟨k.toNat,by lia⟩;have e:((a:Int)+(b:Int))=((a+b:Nat):Int):=by lia
 unfold DI;rw[e,HT.Ga,HT.Ga,ae,iE (by lia),iE (by lia),bf,bf,List.map_take,List.map_drop,show a+b-a=b by lia]
theorem Rc{ks:List Int}{t:Nat}(h:t<ks.length):Bm (ks.map V.int) (t:Int)=some (.int (ks.getD t 0)):=by
 rw[wL,ak,ab h,af,ab h];rfl
theorem ja.put{H H':Hp}{q:Addr}{o:HO}(s:ja H H')(h:H q=none):ja H (Internal.upd H' q o):=λb u e=>by rw[i4 (iY e h)];exact s b u e
section
variable{prog:Program}{w:World}{A:Around}{R:Result->Shared->Prop}{s:Shared}
theorem ug{elt target iter:Expr}{ifs:List Expr}{scope:Scope}{pos:Pos}{it acc:Value}{env:Env}(I:Nat->Shared->Prop)
  (turn:∀n s,I n s->wpAny (model prog w) A (pyNext it) (λr s₁=>match r with
   |none=>R (.ok .next) s₁
   |some v=>wpAny (model prog w) A (letOwnedTupleGo target it v) (λ_ s₁'=>wpAny (model prog w) A (assign target env v) (λ_ s₂=>
     wpAny (model prog w) A (forIn ifs true λc r=>if r=true then do let ok←isTrue c env (eval c env);pure (dv ok) else pure (dv r)) (λok s₃=>
      if ok=true then wpAny (model prog w) A (eval elt env) (λx s₄=>
       wpAny (model prog w) A (call (.builtin "list.append") [acc,x]) (λ_ s₅=>∃m,m<n/\I m s₅) (λ_ _=>False) s₄) (λ_ _=>False) s₃
      else∃m,m<n/\I m s₃) (λ_ _=>False) s₂) (λ_ _=>False) s₁') (λ_ _=>False) s₁) (λ_ _=>False) s)
  (n:Nat) (h:I n s):
  codeAny (model prog w) A (.compLoop (.ListComp elt [⟨target,iter,ifs,0⟩] scope pos) 0 it acc env) R s:=by
 refine codeAny_loop rfl I (λn s hI=> ?_) n h;show wpAny _ A ((compTurn (.ListComp elt [⟨target,iter,ifs,0⟩] scope pos) 0 it acc env).onRaise (λx=>do noteFrame x env;theTreesLotGoes x)) _ _ s;refine wpAny_noted ?_;rw[compTurn_list];refine wpAny_bind (wpAny_standAt (wpAny_bind (wpAny_mono (turn n s hI) (λr s₁ h₁=> ?_) λ_ _ h'=>h'.elim)))
 cases r with
 |none=>exact wpAny_pure h₁
 |some v=>
  refine wpAny_bind (wpAny_mono h₁ (λ_ s₁' h₁'=> ?_) λ_ _ h'=>h'.elim);refine wpAny_bind (wpAny_mono h₁' (λ_ s₂ h₂=>wpAny_bind (wpAny_mono h₂ (λok s₃ h₃=> ?_) λ_ _ h'=>h'.elim)) λ_ _ h'=>h'.elim)
  cases ok with
  |false=>exact wpAny_pure ⟨rfl,h₃⟩
  |true=>
   exact wpAny_bind (wpAny_bind (wpAny_mono h₃ (λx s₄ h₄=>wpAny_bind (wpAny_mono h₄ (λ_ s₅ h₅=>wpAny_pure (wpAny_pure ⟨rfl,h₅⟩)) λ_ _ h'=>h'.elim)) λ_ _ h'=>h'.elim))
end
noncomputable def BS (env:Env) (cs:List (Str×Addr)):List (Str×NameKind)->List (Str×Addr)
 | []=>cs
 |(n,k)::r=>BS env (if k== .free then(n,(env.cells.lookup n).getD 0)::cs else cs) r
noncomputable abbrev IW (scope:Scope) (env:Env):List (Str×Addr):=BS env [] scope.names
theorem BU{scope:Scope}{env:Env}(h:∀y∈scope.names,y.2= .free->∃c,env.cells.lookup y.1=some c):closureFor scope env=pure (IW scope env):=by
 have go:∀(l:List (Str×NameKind)) (cs:List (Str×Addr)),(∀y∈l,y.2= .free->∃c,env.cells.lookup y.1=some c)->
   (forIn l cs λ(x:Str×NameKind) (r:List (Str×Addr))=>match x with
    |(name,kind)=>if (kind== .free)=true then do let c←cellOf env name;pure (dv ((name,c)::r)) else pure (dv r):Sem (List (Str×Addr)))=pure (BS env cs l):=by
  intro l
  induction l with
  |nil=>intro cs _;rfl
  |cons y l ih=>
   intro cs hy;obtain⟨n,k⟩:=y;rw[List.forIn_cons]
   cases hk:(k==cy) with
   |true=>
    obtain⟨c,hc⟩:=hy (n,k) aq (by simpa using hk);have e:cellOf env n=pure c:=by unfold cellOf;rw[show env.cells.lookup n=some c from hc]
    simp only[if_true,e,pure_bind,BS,hk,show env.cells.lookup n=some c from hc,dP];exact ih _ λz hz=>hy z (ai _ hz)
   |false=>
    simp only[if_false,du,pure_bind,BS,hk];exact ih _ λz hz=>hy z (ai _ hz)
 unfold closureFor;have:=go scope.names [] h;simp only[bind_pure_comp,pure_bind]at this⊢
 first|exact this|(rw[this];rfl)|(simpa using this)
theorem vO{env:Env}{y:Str}{c:Addr}:∀{l:List (Str×NameKind)} {cs:List (Str×Addr)},(BS env cs l).lookup y=some c->cs.lookup y=some c∨((y,cy)∈l/\c=(env.cells.lookup y).getD 0)
 | [],cs,h=> .inl h
 |(n,k)::r,cs,h=>by
  rcases vO (l:=r) h with h1|⟨h1,e⟩
  ·cases hk:(k==cy) with
   |true=>
    rw[hk,if_pos rfl,cz]at h1
    cases hy:y==n with
    |true=>
     rw[hy]at h1;have e1:y=n:=by simpa using hy
     have e2:k= .free:=by simpa using hk
     subst e1 e2;exact .inr ⟨aq,(aM h1).symm⟩
    |false=>rw[hy]at h1;exact .inl h1
   |false=>rw[hk]at h1;exact .inl (by simpa using h1)
  ·exact .inr ⟨ai _ h1,e⟩
theorem Az{env:Env}{y:Str}:∀{l:List (Str×NameKind)} {cs:List (Str×Addr)},((y,cy)∈l∨∃c,cs.lookup y=some c)->∃c,(BS env cs l).lookup y=some c
 | [],cs,h=>h.elim (λz=>by cases z) id
 |(n,k)::r,cs,h=>by
  refine Az (l:=r) ?_;rcases h with h|⟨c,h⟩
  ·rcases List.mem_cons.mp h with e|h
   ·cases e
    exact .inr ⟨(env.cells.lookup y).getD 0,by rw[if_pos (by decide),cz];simp⟩
   ·exact .inl h
  ·refine .inr ?_
   cases hk:(k==cy) with
   |false=>exact⟨c,by simpa using h⟩
   |true=>
    rw[if_pos rfl,cz]
    cases hy:y==n with
    |true=>exact⟨_,rfl⟩
    |false=>exact⟨c,h⟩
theorem lookup_mem{y:Str}{k:NameKind}:∀{l:List (Str×NameKind)},l.lookup y=some k->(y,k)∈l
 | [],h=>by cases h
 |(n,k')::r,h=>by
  rw[cz]at h
  cases hy:y==n with
  |true=>
   rw[hy]at h;have e1:y=n:=by simpa using hy
   subst e1
   cases h
   exact aq
  |false=>rw[hy]at h;exact ai _ (lookup_mem h)
structure nW(fsc scope:Scope)(x:List Str)(N2:List Str):Prop where
 kind:scope.kind= .function
 Ug:fsc.kind= .function
 own:∀z∈x,scope.names.lookup z=some .local
 NN:∀y∈scope.names,y.2≠ .cell
 locs:∀y∈scope.names,y.2= .local->scope.names.lookup y.1=some .local
 U3:∀y∈scope.names,y.2= .free->¬y.1∈x
 cells:∀y∈scope.names,y.2= .free->fsc.names.lookup y.1=some .cell
 nd:(x++N2).Nodup
 ua:∀y∈N2,scope.names.lookup y=some .free
theorem Ag{env:Env}(hk:env.scope.kind= .function):∀{names:List (Str×NameKind)} {y:Str},names.lookup y=some .free->env.kindOf y=some .cell->
  (names.map λ(n,k)=>if (k==cy&&env.scope.kind== .function&&env.kindOf n==some .cell) then(n,iM) else(n,k)).lookup y=some .cell
 | [],_,h,_=>by simp at h
 |(n,k)::r,y,h,hc=>by
  have ih:= @Ag env hk r y;show aU y ((if (k==cy&&env.scope.kind== .function&&env.kindOf n==some .cell)=true then(n,iM) else(n,k))::_)=_
  cases hy:y==n with
  |true=>
   have e1:y=n:=by simpa using hy
   subst e1;simp only[cz,hy]at h
   cases h
   simp[hk,hc]
  |false=>
   simp only[cz,hy]at h;by_cases hq:(k==cy&&env.scope.kind== .function&&env.kindOf n==some .cell)=true
   ·rw[if_pos hq];simp only[cz,hy];exact ih h hc
   ·rw[if_neg hq];simp only[cz,hy];exact ih h hc
theorem HX{scope:Scope}{env:Env}{y:Str}(hn:∀z∈scope.names,z.2≠ .cell)(h:(relabel scope env).names.lookup y=some .cell∨(relabel scope env).names.lookup y=some .free):(y,cy)∈scope.names:=by
 have go:∀{k:NameKind},(y,k)∈(relabel scope env).names->k= .cell∨k= .free->(y,cy)∈scope.names:=λ{k} hm hk=>by
  obtain⟨⟨n,k0⟩,hz,e⟩:=List.mem_map.mp hm;dsimp only at e
  split at e
  ·rename_i hq;have e1:n=y:=congrArg aD e;rw[aV,aV]at hq;have e2:k0= .free:=by simpa using hq.1.1
   rw[←e1,←e2];exact hz
  ·have e1:n=y:=congrArg aD e;have e2:k0=k:=congrArg dE e;rcases hk with rfl|rfl
   ·exact absurd e2 (hn _ hz)
   ·rw[←e1,←e2];exact hz
 rcases h with h|h
 ·exact go (lookup_mem h) (.inl rfl)
 ·exact go (lookup_mem h) (.inr rfl)
noncomputable def Ay (σ:St) (js:List Nat):St:=js.map λj=>(σ[j]?).join
noncomputable abbrev Cx.wI (X:Cx) (scope:Scope) (N:List Str) (x:List Str) (s:Shared) (H:Hp) (C:Addr) (ex:List Addr):Cx:=
 {X with N:=N,s₀:=s,H₀:=H,env:=compEnvC scope (IW scope X.env) C X.env,outer:=X.stack,ex:=ex,fn:=λy=>x.contains y,pn:=[],xe:=λ_ _=>False}
def pM(J:It)(ua:St)(tt:TT)(te:TE)(H1:Hp)(Q:VK):Prop:=
 ∃W:Nat->Nat->List V->Hp->Prop,(∃m,W 0 m [] H1)/\∀i m ys H,W i m ys H->ys.length<=sizeLine/\
  ((J.stop i H/\∀p,H p=none->Q (.ref p) (upd H p (.lst ys)))∨
   (J.go i H/\∀x H',J.Q5 i H x H'->tt (some x::ua) H' λb H2=>if b=true then te (some x::ua) H2 λy H3=>∃m',m'<m/\W (i+1) m' (ys++[y]) H3 else∃m',m'<m/\W (i+1) m' ys H2))
def Iz(js:List Nat)(wi:TI)(tt:TT)(te:TE):TE:=λσ H Q=>wi σ H λJ H1=>pM J (Ay σ js) tt te H1 Q
def E4(X:Cx)(ifs:List Expr)(tt:TT):Prop:=
 ∀(pins:List (Addr×Obj)) (s:Shared) (σ:St) (H:Hp) (Q:Bool->Hp->Prop),Inv X pins σ H s->tt σ H Q->
  wpAny (model X.prog X.w) X.A (forIn ifs true λc r=>if r=true then do let ok←isTrue c X.env (eval c X.env);pure (dv ok) else pure (dv r)) (TP X pins σ Q) X.xe s
def QK:TT:=λ_ H Q=>Q true H
theorem N7{X:Cx}:E4 X [] QK:=λpins s σ H Q I h=>wpAny_tests_nil ⟨H,I,h⟩
theorem N8{X:Cx}{c:Expr}{tt:TT}(h:PT X c tt):E4 X [c] tt:=λpins s σ H Q I q=>wpAny_tests_one (h pins s σ H Q I q)
section
variable{X:Cx}{pins:List (Addr×Obj)}{σ:St}{H:Hp}{s:Shared}{scope fsc:Scope}{x:List Str}{N2:List Str}{js:List Nat}{fp:List Addr}{C:Addr}
theorem vP(S:nW fsc scope x N2)(hf:X.env.scope=fsc)(ok:X.Ok){y:Str}{c:Addr}(e:(IW scope X.env).lookup y=some c):X.env.cells.lookup y=some c:=by
 rcases vO e with z|⟨z,e2⟩
 ·cases z
 ·obtain⟨c',hc⟩:=ok.has y (.inl (show X.env.scope.names.lookup y=some .cell by rw[hf];exact S.cells _ z rfl));rw[hc]at e2;rw[hc,e2];rfl
theorem Rh(S:nW fsc scope x N2)(hf:X.env.scope=fsc)(I:Inv X pins σ H s)(hC:s.heap.objs.size<=C)(f:∀b∈fp,wK X pins H b)(ho:∀b∈fp,∃o,s.heap.get? b=some o):(X.wI scope (x++N2) x s H C fp).Ok where
 mod:=I.ok.mod
 kind:=S.kind
 glob:=I.ok.glob
 blt:=I.ok.blt
 above:=hC
 inj:=λy z c e1 e2=>I.ok.inj y z c (vP S hf I.ok e1) (vP S hf I.ok e2)
 has:=λy h=>Az (.inl (HX S.NN h))
 Tf:=λy c h e=>by
  have ey:y∈x:=by simpa using h
  rcases vO e with z|⟨z,_⟩
  ·cases z
  ·exact absurd ey (S.U3 _ z rfl)
 hd:=I.ok.hd
 frames:=I.ok.frames
 UY:= .inl rfl
 VF:=λb hb=>by
  obtain⟨o,e⟩:=ho b hb;exact⟨aJ (ax (aC e) hC),λy c ec=>(f b hb).2.2.2.2.1 y c (vP S hf I.ok ec)⟩
 bs:=I.bs
 OO:=av I.ok.OO I.sz
 CC:=λb o e hb=>by
  rcases (f b hb).2.2.2.1 with z|z
  ·exact I.ok.CC b o e z
  ·exact absurd (ax (aC e) (av I.ok.OO z)) (bD _)
 M_:=λb hb hm=>by
  rcases List.mem_cons.mp (I.GN b hm) with z|z
  ·exact(f b hb).2.1 z
  ·exact(f b hb).2.2.1 z
 wR:=I.stack
 PD:=I.BL
theorem O7(S:nW fsc scope x N2)(hf:X.env.scope=fsc)(hjs:js.map (λj=>X.N[j]?)=N2.map some)(I:Inv X pins σ H s)(hC:s.heap.objs.size<=C)(f:∀b∈fp,wK X pins H b)(ho:∀b∈fp,∃o,s.heap.get? b=some o)
  {h':Heap} {t':Nat} {m:Str->Option Value} (hm:h'.Ns C m) (k:∀b o,s.heap.get? b=some o->h'.get? b=some o):Inv (X.wI scope (x++N2) x s H C fp) [] (ao x.length none++Ay σ js) H {s with heap:=h',toks:=t'} where
 ok:=Rh S hf I hC f ho
 os:=rfl
 bare:=I.bare
 base:=Un.kept k
 loc:=⟨m,hm,λi y v e1 e2 e3=>by
  by_cases hi:i<x.length
  ·have e2:(ao x.length none++Ay σ js)[i]? =some (some v):=e2;rw[bj (by rw[bc];exact hi),dj,if_pos hi]at e2
   cases e2
  ·have e1:(x++N2)[i]? =some y:=e1;have e2:(ao x.length none++Ay σ js)[i]? =some (some v):=e2;rw[bp (by lia)]at e1;rw[bp (by rw[bc];lia),bc]at e2;generalize i-x.length=i at e1 e2;unfold Ay at e2;rw[ak]at e2;obtain⟨j,hj,e2⟩:=Option.map_eq_some_iff.mp e2;have e4:X.N[j]? =some y:=by
    have q:=congrArg (λl=>l[i]?) hjs;simp only[ak,hj,e1,bE]at q;exact aM q
   have hy:y∈N2:=ba e1;have hfree:=S.ua y hy;have hcell:X.env.scope.names.lookup y=some .cell:=by rw[hf];exact S.cells _ (lookup_mem hfree) rfl
   have e5:σ[j]? =some (some v):=by
    cases q:σ[j]? with
    |none=>rw[q]at e2;cases e2
    |some o=>rw[q]at e2;have:o=some v:=e2;rw[this]
   obtain⟨m0,_,hl⟩:=I.loc;obtain⟨u,r,l⟩:=hl j y v e4 e5 (.inr (.inl hcell));refine⟨u,r,.inr ⟨.inl (Ag (by rw[hf];exact S.Ug) hfree hcell),?_⟩⟩;rcases l with ⟨z,_⟩|⟨_,c,ec,o,eo,ed⟩
   ·have z':X.env.scope.names.lookup y=some .local:=z;rw[hcell]at z';cases z'
   ·obtain⟨c',hc'⟩:=Az (env:=X.env) (cs:=[]) (.inl (lookup_mem hfree));have e6:=vP S hf I.ok hc';rw[ec]at e6;cases e6
    exact⟨c,hc',o,k _ _ eo,ed⟩⟩
 cell:=λy c e=>by
  obtain⟨v,o,eo,ed⟩:=I.cell y c (vP S hf I.ok e);exact⟨v,o,k _ _ eo,ed⟩
 free:=I.j5.fresh hC
 o6:=λy c e=>I.o6 y c (vP S hf I.ok e)
 pin:=λp hp=>by simp at hp
 j5:=I.j5.kept k
 len:=by
  have q:=congrArg eB hjs;simp only[ae]at q;simp[Ay,q]
def E3(J:It)(k:Nat)(g:TG)(ua:St)(tt:TT)(te:TE)(H1:Hp)(Q:VK):Prop:=
 ∃W:Nat->Nat->List V->Hp->Prop,(∃m,W 0 m [] H1)/\∀i m ys H,W i m ys H->ys.length<=sizeLine/\
  ((J.stop i H/\∀p,H p=none->Q (.ref p) (upd H p (.lst ys)))∨
   (J.go i H/\∀x H',J.Q5 i H x H'->∀os:St,os.length=k->g x (os++ua) H' λσ2 H2=>(∃os':St,os'.length=k/\σ2=os'++ua)/\
    tt σ2 H2 λb H3=>if b=true then te σ2 H3 λy H4=>∃m',m'<m/\W (i+1) m' (ys++[y]) H4 else∃m',m'<m/\W (i+1) m' ys H3))
theorem Kn{J:It}{ua:St}{tt:TT}{te:TE}{H1:Hp}{Q:VK}(h:pM J ua tt te H1 Q):E3 J 1 (oE 0) ua tt te H1 Q:=by
 obtain⟨W,w0,turn⟩:=h;refine⟨W,w0,λi m ys H hw=> ?_⟩;obtain⟨hz,alt⟩:=turn i m ys H hw;refine⟨hz,alt.imp id λ⟨go,step⟩=>⟨go,λx H' hy os ho=> ?_⟩⟩
 match os,ho with
 | [o],_=>exact⟨⟨[some x],rfl,rfl⟩,step x H' hy⟩
def IH(K:ah)(J:It)(ua:St)(tt:TT)(te:TE)(H1:Hp)(Q:VK):Prop:=
 ∃W:Nat->Nat->List V->Hp->Prop,(∃m,W 0 m [] H1)/\∀i m ys H,W i m ys H->ys.length<=sizeLine/\
  ((J.stop i H/\∀p,H p=none->Q (.ref p) (upd H p (.lst ys)))∨
   (J.go i H/\∀x H',J.Q5 i H x H'->∃a u v,x= .ref a/\Ke K H' a [u,v]/\
    tt (some u::some v::ua) H' λb H3=>if b=true then te (some u::some v::ua) H3 λy H4=>∃m',m'<m/\W (i+1) m' (ys++[y]) H4 else∃m',m'<m/\W (i+1) m' ys H3))
abbrev g2(K:ah):TG:=PF K 2 (A8 (oE 0) (A8 (oE 1) Nb))
theorem MU{K:ah}{J:It}{ua:St}{tt:TT}{te:TE}{H1:Hp}{Q:VK}(h:IH K J ua tt te H1 Q):E3 J 2 (g2 K) ua tt te H1 Q:=by
 obtain⟨W,w0,turn⟩:=h;refine⟨W,w0,λi m ys H hw=> ?_⟩;obtain⟨hz,alt⟩:=turn i m ys H hw;refine⟨hz,alt.imp id λ⟨go,step⟩=>⟨go,λx H' hy os ho=> ?_⟩⟩;obtain⟨a,u,v,ex,sq,st⟩:=step x H' hy
 match os,ho with
 | [o,o'],_=>exact⟨a,[u,v],ex,sq,rfl,u,[v],rfl,v,[],rfl,rfl,⟨[some u,some v],rfl,rfl⟩,st⟩
def J3(K:ah)(js:List Nat)(wi:TI)(tt:TT)(te:TE):TE:=λσ H Q=>wi σ H λJ H1=>IH K J (Ay σ js) tt te H1 Q
theorem Aj{C:Addr}{h h':Heap}(hs:dY C h h'){b:Addr}{o:Obj}(hb:b≠C)(e:h.get? b=some o):h'.get? b=some o:=(hs.2 b hb).trans e
theorem Fb{Y:Cx}{pl:List (Addr×Obj)}{σ':St}{H3:Hp}{s4:Shared}{h':Heap}{D:Addr}{ys:List V}{its:List Value}{n:Nat}(I:Inv X pins σ H s)(f:∀b∈fp,wK X pins H b)
  (hY:Y=X.wI scope (x++N2) x s H C fp) (hC:s.heap.objs.size<=C) (hD:s.heap.objs.size<=D) (hDC:D≠C) (I4:Inv Y pl σ' H3 s4) (hs:dY C s4.heap h') (hD3:H3 D=none)
  (eD:s4.heap.get? D=some {cls:= .type "list",data:= .seq its.toArray n}) (rv:Vals ys its) (hz:ys.length<=sizeLine):Inv X pins σ (upd H3 D (.lst ys)) {s4 with heap:=h'}:=by
 subst hY;have ne:∀b o,s.heap.get? b=some o->b≠C:=λb o e=>aJ (ax (aC e) hC);have neD:∀b o,s.heap.get? b=some o->b≠D:=λb o e=>aJ (ax (aC e) hD);have fC:H3 C=none:=I4.free;have un:Un (B0 X.stack) fp H H3 s.heap h':=⟨λb o e n hb hx=>Aj hs (ne b o e) (I4.base.keep b o e n hb hx),λb o e n hb hx=>by
   obtain⟨sl,e1⟩:=I4.base.slot b o e n hb hx;exact⟨sl,Aj hs (ne b o e) e1⟩,I4.base.free,λb o e hx=>by
   obtain⟨o',e1⟩:=I4.base.there b o e hx;exact⟨o',Aj hs (ne b o e) e1⟩,I4.base.vx,I4.base.tV,I4.base.vf⟩
 have j5:tZ X.prog X.w H3 h':=λb ob e=>(I4.j5 b ob e).vv (λc w' hc q=>by
  refine(hs.2 c ?_).trans q;rintro rfl;rcases hc with rfl|hc
  ·rw[fC]at e;cases e
  ·rw[fC]at hc;cases hc) (λ_ q=>q) λ_ _ q=>q
 have I6:Inv X pins σ H3 {s4 with heap:=h'}:=I.T9 (ch:=fp) I4.os un j5 I4.bare λb hb=>⟨(f b hb).2.2.2.1,(f b hb).2.1,(f b hb).2.2.2.2.1,(f b hb).2.2.2.2.2⟩;have h0:X.s₀.heap.get? D=none:=by
  cases z:X.s₀.heap.get? D with
  |none=>rfl
  |some o=>exact absurd (ax (aC z) (av I.sz hD)) (bD _)
 exact I6.adopt (a:=D) (o:= .lst ys) hD3 ⟨hz,its,n,rv,Aj hs hDC eD⟩ h0 (aj (aJ (ax I.lt hD))) (λy c ec z=>by
  obtain⟨v,o,eo,_⟩:=I.cell y c ec;exact neD c o eo z) λp hp z=>neD p.1 p.2 (I.pin p hp).1 z
theorem AA{elt iter tg:Expr}{pos p0:Pos}{g:TG}{CW:It->Hp->Prop}{ifs:List Expr}{wi:TI}{tt:TT}{te:TE}{use:Option (Value->Sem Unit)}{R:Value->Shared->Prop}{Q:VK}(S:nW fsc scope x N2)(hf:X.env.scope=fsc)(hjs:js.map (λj=>X.N[j]?)=N2.map some)(hc:X.calm=true)(hi:PI X tg iter wi)(hg:∀s H C ex,PG (X.wI scope (x++N2) x s H C ex) tg g)
  (ht:∀s H C ex,E4 (X.wI scope (x++N2) x s H C ex) ifs tt) (he:∀s H C ex,PE (X.wI scope (x++N2) x s H C ex) elt te) (hs:∀v,foldedSetIterable iter X.env v=pure v) (I:Inv X pins σ H s) (hCW:∀J H1,CW J H1->E3 J x.length g (Ay σ js) tt te H1 Q) (h:wi σ H CW)
  (fin:∀(fp:List Addr) (s2 s4:Shared) (H2 H3:Hp) (C D:Addr) (Y:Cx) (pl:List (Addr×Obj)) (σ':St) (ys:List V) (its:List Value) (n:Nat),Inv X pins σ H2 s2->(∀b∈fp,wK X pins H2 b)->Y=X.wI scope (x++N2) x s2 H2 C fp->s2.heap.objs.size<=C->s2.heap.objs.size<=D->D≠C->
   Inv Y pl σ' H3 s4->H3 D=none->s4.heap.get? D=some {cls:= .type "list",data:= .seq its.toArray n}->Vals ys its->ys.length<=sizeLine->Q (.ref D) (upd H3 D (.lst ys))->compPost (model X.prog X.w) X.A X.xe use R (.ref D) C (.ok .next) s4):
  wpAny (model X.prog X.w) X.A (comprehension (.ListComp elt [⟨tg,iter,ifs,0⟩] scope pos) scope X.env p0 (newList []) false (eval iter X.env) use) R X.xe s:=by
 refine wpAny_comprehension_free (use:=use) (cl:=IW scope X.env) rfl hs (BU λy hy e=>I.ok.has y.1 (.inl (show X.env.scope.names.lookup y.1=some .cell by rw[hf];exact S.cells y hy e))) S.kind S.locs ?_;refine wpAny_mono (hi pins s σ H _ I h) (λv s1 h1=>wpAny_mono h1 (λitv s2 h2=> ?_) λ_ _ z=>z) λ_ _ z=>z;obtain⟨it,fp,tn,J,H2,e,I2,T,st2,f2,hcw⟩:=h2;obtain⟨W,⟨m0,w0⟩,turn⟩:=hCW _ _ hcw;subst e;have ho2:∀b∈fp,∃o,s2.heap.get? b=some o:=λb hb=>let ⟨o,e,_⟩:=T.obj _ _ st2 b hb;⟨o,e⟩
 refine wpAny_newObj_type (wpAny_newFunctionEnv S.NN (by intro y hy;simp at hy) (λh₁ hns₁ hsb₁=> ?_) S.kind);dsimp only at hns₁ hsb₁⊢;generalize hH2:s2.heap.push {cls:= .type "list",dict:=none,data:= .seq ([]:List Value).toArray}=G at hns₁ hsb₁⊢;have hGs:G.objs.size=s2.heap.objs.size+1:=by rw[←hH2,gv]
 generalize hCe:G.objs.size=C at hns₁ hsb₁⊢;have hCs:C=s2.heap.objs.size+1:=hCe.symm.trans hGs;generalize hDe:s2.heap.objs.size=D at*;have hC:s2.heap.objs.size<=C:=by lia
 have hDC:D≠C:=by lia
 have leDC:D<=C:=by lia
 have old:∀b o,s2.heap.get? b=some o->h₁.get? b=some o:=λb o e=>by
  have hb:b<D:=hDe▸aC e;exact hsb₁.extBut b o (aJ (ax hb leDC)) (aE _ (hH2▸aE _ e))
 have eD1:h₁.get? D=some {cls:= .type "list",data:= .seq ([]:List Value).toArray}:=by
  refine hsb₁.extBut _ _ hDC (aE _ ?_);rw[←hH2,←hDe];exact br _ rfl
 have I4:=O7 (C:=C) (h':=h₁) (t':=s2.toks+([]:List (Str×Value)).length) S hf hjs I2 hC f2 ho2 hns₁ old;generalize hY:X.wI scope (x++N2) x s2 H2 C fp=Y at I4;have hYA:Y.A=X.A:=by rw[←hY]
 have hYp:Y.prog=X.prog:=by rw[←hY]
 have hYw:Y.w=X.w:=by rw[←hY]
 have hYK:Y.K=X.K:=by rw[←hY]
 have hYc:Y.calm=true:=by rw[←hY];exact hc
 have hYL:Y.env.locals=C:=hY▸rfl;have hYx:Y.xe=λ_ _=>False:=by rw[←hY]
 have hYe:Y.env=compEnvC scope (IW scope X.env) C X.env:=by rw[←hY]
 have hYs:Y.s₀.heap.objs.size=D:=by rw[←hY];exact hDe
 have hYpn:Y.pn=[]:=by rw[←hY]
 have fpD:∀b∈fp,b<D:=λb hb=>by
  obtain⟨o,e⟩:=ho2 b hb;exact hDe▸aC e
 have cel:∀y c,Y.env.cells.lookup y=some c->X.env.cells.lookup y=some c:=λy c e=>by
  rw[hYe]at e;exact vP S hf I2.ok e
 have celD:∀y c,Y.env.cells.lookup y=some c->c≠D:=λy c e z=>by
  obtain⟨v,o,eo,_⟩:=I2.cell y c (cel y c e);have q:=aC eo;rw[hDe,z]at q;exact bD _ q
 have Dfs:D∉Y.fs:=by
  rw[←hY];intro hm;obtain⟨_,o,eo,_⟩:=I2.stack.mem hm;have q:=aC eo;rw[hDe]at q;exact bD _ q
 have stat:∀{H':Hp} {pl:List (Addr×Obj)},(∀b∈fp,H' b=none)->(∀p∈pl,p.1=D)->∀b∈fp,wK Y pl H' b:=λ{H' pl} hn hp b hb=>by
  refine⟨hn b hb,by rw[hYL];exact aJ (ax (fpD b hb) leDC),?_,.inl (by rw[←hY];exact hb),λy c e=>(f2 b hb).2.2.2.2.1 y c (cel y c e),λp hm=> ?_⟩
  ·rw[←hY];intro hm;rcases List.mem_cons.mp (I2.GN b hm) with z|z
   ·exact(f2 b hb).2.1 z
   ·exact(f2 b hb).2.2.1 z
  ·rw[hYpn,eV]at hm;rw[hp p hm];exact(aJ (fpD b hb)).symm
 have pinD:∀{σ':St} {H':Hp} {s':Shared} {o:Obj},Inv Y [] σ' H' s'->s'.heap.get? D=some o->(∀v,o.data≠ .cell v)->H' D=none->Inv Y [(D,o)] σ' H' s':=λ{σ' H' s' o} Iy e d n=>
  Iy.Af λp hp=>by
   rw[aA]at hp;subst hp;exact⟨e,n,by rw[hYL];exact hDC,Dfs,d⟩
 have pg:PG Y tg g:=by rw[←hY];exact hg _ _ _ _
 have ht':E4 Y ifs tt:=by rw[←hY];exact ht _ _ _ _
 have he':PE Y elt te:=by rw[←hY];exact he _ _ _ _
 have loop:∀s₃:Shared,s₃={s2 with heap:=h₁,toks:=s2.toks+([]:List (Str×Value)).length}->
   codeAny (model X.prog X.w) X.A (.compLoop (.ListComp elt [⟨tg,iter,ifs,0⟩] scope pos) 0 (.ref it) (.ref D) (compEnvC scope (IW scope X.env) C X.env))
    (compPost (model X.prog X.w) X.A X.xe use R (.ref D) C) s₃:=by
  rintro s₃ rfl;refine ug (λn s'=>∃i ys os its k H',eB os=x.length/\Inv Y [] (os++Ay σ js) H' s'/\tn i s'.heap/\(∀b∈fp,H' b=none)/\H' D=none/\s'.heap.get? D=some {cls:= .type "list",data:= .seq (its:List Value).toArray k}/\Vals ys its/\W i n ys H') ?_ m0
   ⟨0,[],ao x.length none,[],0,H2,bc,I4,T.keep _ _ _ st2 λb _ o e=>old b o e,λb hb=>(f2 b hb).1,I2.j5.fresh (by lia),eD1,.nil,w0⟩
  rintro n s3 ⟨i,ys,os,its,k,H3,hos,I3,st3,fr3,hD3,eD3,rv3,w3⟩;obtain⟨hz,alt⟩:=turn i n ys H3 w3;have I3p:=pinD I3 eD3 (λv z=>by cases z) hD3;rcases alt with ⟨stop,q⟩|⟨go,step⟩
  ·have h4:=T.done Y hYp hYw hYK hYc i _ s3 _ H3 (λ_ _=>False) I3p (stat fr3 λp hp=>by rw[aA]at hp;subst hp;rfl) st3 stop;rw[hYA]at h4;refine wpAny_mono h4 (λr s4=>gE λhr I4'=> ?_) λ_ _ z=>z;subst hr;have pD:=I4'.pin (D,{cls:= .type "list",data:= .seq its.toArray k}) (aN _ (List.mem_singleton.mpr rfl));exact fin fp s2 s4 H2 H3 C D Y _ _ ys its k I2 f2 hY.symm hC (by lia) hDC I4' pD.2.1 pD.1 rv3 hz (q D pD.2.1)
  ·have h4:=T.item Y hYp hYw hYK hYc i _ s3 _ H3 (λ_ _=>False) I3p (stat fr3 λp hp=>by rw[aA]at hp;subst hp;rfl) st3 go;rw[hYA]at h4;refine wpAny_mono h4 (λr s4 zq=> ?_) λ_ _ z=>z;obtain⟨u,hr,h4'⟩:=zq;subst hr;refine wpAny_mono h4' (λ_ s5 zq=> ?_) λ_ _ z=>z;obtain⟨xv,H5,I5,r5,y5,st5,fr5⟩:=zq;have I5':=I5.pinned (stat fr5 λp hp=>by rw[aA]at hp;subst hp;rfl) (T.obj _ _ st5);have keepT:∀{σ7:St} {H7:Hp} {s7:Shared},Inv Y ([(D,{cls:= .type "list",data:= .seq its.toArray k})]++CO fp s5.heap) σ7 H7 s7->tn (i+1) s7.heap/\(∀b∈fp,H7 b=none)/\H7 D=none/\
     s7.heap.get? D=some {cls:= .type "list",data:= .seq its.toArray k}:=λ{σ7 H7 s7} I7=>by
    have pD:=I7.pin (D,{cls:= .type "list",data:= .seq its.toArray k}) (aN _ (aZ _ (List.mem_singleton.mpr rfl)));refine⟨T.keep _ _ _ st5 λb hb o e=>(I7.pin (b,o) (aN _ (aN _ (r_ hb e)))).1,λb hb=> ?_,pD.2.1,pD.1⟩;obtain⟨o,e,d⟩:=T.obj _ _ st5 b hb;exact(I7.pin (b,o) (aN _ (aN _ (r_ hb e)))).2.1
   have h6:=pg _ s5 _ H5 xv u _ I5' r5 (step xv H5 y5 os hos);rw[hYA,hYe,hYp,hYw,hYx]at h6;refine wpAny_mono h6 (λ_ s6 zq=> ?_) λ_ _ z=>z;obtain⟨σ6,H6,I6,⟨os',hos',e6⟩,q6⟩:=zq;subst e6;have h7:=ht' _ s6 _ H6 _ I6 q6;rw[hYA,hYe,hYp,hYw,hYx]at h7;refine wpAny_mono h7 (λb s7 zq=> ?_) λ_ _ z=>z;obtain⟨H7,I7,q7⟩:=zq
   cases b with
   |false=>
    rw[if_neg aK]at q7⊢;obtain⟨m',hm,w7⟩:=q7;obtain⟨k1,k2,k3,k4⟩:=keepT I7;exact⟨m',hm,i+1,ys,os',its,k,H7,hos',I7.Af λp hp=>by simp at hp,k1,k2,k3,k4,rv3,w7⟩
   |true=>
    rw[if_pos rfl]at q7⊢;have h8:=he' _ s7 _ H7 _ I7 q7;rw[hYA,hYe,hYp,hYw,hYx]at h8;refine wpAny_mono h8 (λy s8 zq=> ?_) λ_ _ z=>z;obtain⟨yv,H8,I8,r8,m',hm,w8⟩:=zq;obtain⟨k1,k2,k3,k4⟩:=keepT I8;refine wpAny_list_append_plain (l:=D) (items:=its.toArray) ⟨k,k4⟩ (λh9 pl9 sb9=> ?_) (by rw[aH,←rv3.length];exact hz);obtain⟨k9,e9⟩:=pl9;have I9:Inv Y [] (os'++Ay σ js) H8 {s8 with heap:=h9}:=(I8.Af (pins':=[]) λp hp=>by simp at hp).turned (it:=D) (t':=s8.toks) (λb o hb e=>(sb9.2 b hb).trans e) k3 (by rw[hYL];exact hDC)
     (.inr (by rw[hYs];exact au _)) celD (by rw[hYpn];intro p hp;simp at hp)
    exact⟨m',hm,i+1,ys++[yv],os',its++[y],k9,H8,hos',I9,T.keep _ _ _ k1 λb hb o e=>(sb9.2 b (aJ (fpD b hb))).trans e,k2,k3,by rw[e9,List.push_toArray],rv3.snoc r8,w8⟩
 exact codeAny_compStart_list (loop _ rfl) (T.self _ 0 _ _ _ (T.keep _ _ _ st2 λb _ o e=>old b o e) (loop _ rfl))
theorem N4{x:Str}{px:Pos}(S:nW fsc scope [x] N2){s:Shared}{H:Hp}{C:Addr}{ex:List Addr}:PG (X.wI scope (x::N2) [x] s H C ex) (.Name x px) (oE 0):=
 BI (i:=0) S.nd rfl (.inl (lookup_relabel_local (S.own x aq))) (.inl (by show [x].contains x=true;simp))
theorem Qe{x:Str}{elt iter:Expr}{px pos:Pos}{ifs:List Expr}{wi:TI}{tt:TT}{te:TE}(S:nW fsc scope [x] N2)(hf:X.env.scope=fsc)(hjs:js.map (λj=>X.N[j]?)=N2.map some)(hc:X.calm=true)(hi:PI X (.Name x px) iter wi)
  (ht:∀s H C ex,E4 (X.wI scope (x::N2) [x] s H C ex) ifs tt) (he:∀s H C ex,PE (X.wI scope (x::N2) [x] s H C ex) elt te) (hs:∀v,foldedSetIterable iter X.env v=pure v:=by intro _;rfl):
  PE X (.ListComp elt [⟨.Name x px,iter,ifs,0⟩] scope pos) (Iz js wi tt te):=by
 intro pins s σ H Q I h;rw[eval_ListComp];refine AA (x:=[x]) (g:=oE 0) (use:=none) S hf hjs hc hi (λ_ _ _ _=>N4 S) ht he hs I (λ_ _=>Kn) h λfp s2 s4 H2 H3 C D Y pl σ' ys its n I2 f2 hY hC hD hDC I4 hD3 eD rv hz q=> ?_;obtain⟨m,hn,_⟩:=I4.loc;rw[show Y.env.locals=C from hY▸rfl]at hn;exact⟨m,hn,λh' hs'=>⟨.ref D,_,Fb (scope:=scope) (x:=[x]) (N2:=N2) I2 f2 hY hC hD hDC I4 hs' hD3 eD rv hz,rfl,q⟩⟩
theorem Qg{x1 x2:Str}{p1 p2 pt:Pos}{k:Nat}(hc:X.calm=true)(S:nW fsc scope [x1,x2] N2){s:Shared}{H:Hp}{C:Addr}{ex:List Addr}:PG (X.wI scope (x1::x2::N2) [x1,x2] s H C ex) (.Tuple [.Name x1 p1,.Name x2 p2] k pt) (g2 X.K):=
 N5 (X:=X.wI scope (x1::x2::N2) [x1,x2] s H C ex) hc
  (CN (BI (i:=0) S.nd rfl (.inl (lookup_relabel_local (S.own x1 aq))) (.inl (by show [x1,x2].contains x1=true;simp)))
   (CN (BI (i:=1) S.nd rfl (.inl (lookup_relabel_local (S.own x2 (ai _ aq)))) (.inl (by show [x1,x2].contains x2=true;simp))) K0))
theorem NW{x1 x2:Str}{elt iter:Expr}{p1 p2 pt pos:Pos}{k:Nat}{ifs:List Expr}{wi:TI}{tt:TT}{te:TE}(S:nW fsc scope [x1,x2] N2)(hf:X.env.scope=fsc)(hjs:js.map (λj=>X.N[j]?)=N2.map some)(hc:X.calm=true)(hi:PI X (.Tuple [.Name x1 p1,.Name x2 p2] k pt) iter wi)
  (ht:∀s H C ex,E4 (X.wI scope (x1::x2::N2) [x1,x2] s H C ex) ifs tt) (he:∀s H C ex,PE (X.wI scope (x1::x2::N2) [x1,x2] s H C ex) elt te) (hs:∀v,foldedSetIterable iter X.env v=pure v:=by intro _;rfl):
  PE X (.ListComp elt [⟨.Tuple [.Name x1 p1,.Name x2 p2] k pt,iter,ifs,0⟩] scope pos) (J3 X.K js wi tt te):=by
 intro pins s σ H Q I h;rw[eval_ListComp];refine AA (x:=[x1,x2]) (g:=g2 X.K) (use:=none) S hf hjs hc hi (λ_ _ _ _=>Qg hc S) ht he hs I (λ_ _=>MU) h λfp s2 s4 H2 H3 C D Y pl σ' ys its n I2 f2 hY hC hD hDC I4 hD3 eD rv hz q=> ?_;obtain⟨m,hn,_⟩:=I4.loc;rw[show Y.env.locals=C from hY▸rfl]at hn;exact⟨m,hn,λh' hs'=>⟨.ref D,_,Fb (scope:=scope) (x:=[x1,x2]) (N2:=N2) I2 f2 hY hC hD hDC I4 hs' hD3 eD rv hz,rfl,q⟩⟩
theorem N9{x:List Str}{elt iter tg:Expr}{py pos spos:Pos}{g:TG}{CW:St->VK->It->Hp->Prop}{ifs:List Expr}{wi:TI}{tt:TT}{te:TE}{i:Nat}{y:Str}(hN:X.N.Nodup)(hy:X.N[i]? =some y)(hl:Loc X.env.scope y)
  (S:nW fsc scope x N2) (hf:X.env.scope=fsc) (hjs:js.map (λj=>X.N[j]?)=N2.map some) (hc:X.calm=true) (hi:PI X tg iter wi) (hg:∀s H C ex,PG (X.wI scope (x++N2) x s H C ex) tg g)
  (ht:∀s H C ex,E4 (X.wI scope (x++N2) x s H C ex) ifs tt) (he:∀s H C ex,PE (X.wI scope (x++N2) x s H C ex) elt te) (hCW:∀{σ:St} (Q:VK) J H1,CW σ Q J H1->E3 J x.length g (Ay σ js) tt te H1 Q) (hs:∀v,foldedSetIterable iter X.env v=pure v)
  (hsw:swapsWith (.ListComp elt [⟨tg,iter,ifs,0⟩] scope pos) (some (.Name y py)) spos.line X.env=pure true) (hfn:X.fn y=true∨X.env.scope.names.lookup y=some .local):
  PS X (.Assign [.Name y py] (.ListComp elt [⟨tg,iter,ifs,0⟩] scope pos) spos) (Iw (λσ H Q=>wi σ H (CW σ Q)) (oE i)):=by
 intro pins s σ H Dn I h;rw[exec_Assign_Name_used _ _ _ _ hsw];refine wpAny_bind (wpAny_standAt (wpAny_bind ?_));show wpAny _ _ (do let _←comprehension (.ListComp elt [⟨tg,iter,ifs,0⟩] scope pos) scope X.env _ (newList []) false (eval iter X.env) (some (assign (.Name y py) X.env))) _ _ s;refine wpAny_bind (wpAny_mono (AA (x:=x) (g:=g) (use:=some (assign (.Name y py) X.env)) (R:=λ_ s'=>SP X pins Dn .next s') S hf hjs hc hi hg ht he hs I (hCW _) h λfp s2 s4 H2 H3 C D Y pl σ' ys its n I2 f2 hY hC hD hDC I4 hD3 eD rv hz q=> ?_)
  (λ_ s' hq=>wpAny_pure (wpAny_pure hq)) λ_ _ e=>e)
 show wpAny _ _ (assign (.Name y py) X.env (.ref D)) _ _ s4;have I7:Inv X pins σ (upd H3 D (.lst ys)) s4:=Fb (scope:=scope) (x:=x) (N2:=N2) (h':=s4.heap) I2 f2 hY hC hD hDC I4 (Heap.SameBut.refl ..) hD3 eD rv hz;have nC:∀b o,s2.heap.get? b=some o->b≠C:=λb o e=>aJ (ax (aC e) hC);have cC:∀z c,X.env.cells.lookup z=some c->c≠C:=λz c e=>by
  obtain⟨v,o,eo,_⟩:=I2.cell z c e;exact nC c o eo
 have lC:X.env.locals≠C:=aJ (ax I2.lt hC);obtain⟨m,hn,_⟩:=I4.loc;have eL:Y.env.locals=C:=hY▸rfl;have fC:upd H3 D (HO.lst ys) C=none:=by rw[i4 (aj hDC)];exact eL▸I4.free
 rw[eL]at hn;refine wpAny_assign_Name (EZ I7 hN hy hl (v:= .ref D) rfl (λs'' I8 zq=> ?_) hfn);obtain⟨a,sb,ha⟩:=zq;have na:C≠a:=by
  rcases ha with rfl|ha
  ·exact aj lC
  ·exact aj (cC _ _ ha)
 refine⟨m,hn.sameBut sb na,λh' hs'=>⟨_,_,I8.turned (it:=C) (t':=s''.toks) (λb o hb e=>(hs'.2 b hb).trans e) fC (aj lC) (.inr (av I2.sz hC)) cC λp hp=> ?_,q⟩⟩;exact nC p.1 p.2 (I2.pin p hp).1
theorem Jz{x:Str}{elt iter:Expr}{px py pos spos:Pos}{ifs:List Expr}{wi:TI}{tt:TT}{te:TE}{i:Nat}{y:Str}(hN:X.N.Nodup)(hy:X.N[i]? =some y)(hl:Loc X.env.scope y)
  (S:nW fsc scope [x] N2) (hf:X.env.scope=fsc) (hjs:js.map (λj=>X.N[j]?)=N2.map some) (hc:X.calm=true) (hi:PI X (.Name x px) iter wi)
  (ht:∀s H C ex,E4 (X.wI scope (x::N2) [x] s H C ex) ifs tt) (he:∀s H C ex,PE (X.wI scope (x::N2) [x] s H C ex) elt te) (hs:∀v,foldedSetIterable iter X.env v=pure v:=by intro _;rfl)
  (hsw:swapsWith (.ListComp elt [⟨.Name x px,iter,ifs,0⟩] scope pos) (some (.Name y py)) spos.line X.env=pure true:=by rfl)
  (hfn:X.fn y=true∨X.env.scope.names.lookup y=some .local:=by first|exact .inl rfl|exact .inr rfl|assumption):
  PS X (.Assign [.Name y py] (.ListComp elt [⟨.Name x px,iter,ifs,0⟩] scope pos) spos) (Iw (Iz js wi tt te) (oE i)):=N9 (x:=[x]) (g:=oE 0) (CW:=λσ Q J H1=>pM J (Ay σ js) tt te H1 Q) hN hy hl S hf hjs hc hi (λ_ _ _ _=>N4 S) ht he (λ_ _ _=>Kn) hs hsw hfn
end
section
variable{X:Cx}{tg:Expr}
end
noncomputable def tT:List (Option Bool)->Option Bool
 | []=>some true
 |none::_=>none
 |some b::r=>(tT r).map λc=>b&&c
noncomputable def tU (H:Hp):Nat->V->V->Option Bool
 |0,x,y=>if l7 x=true/\l7 y=true then some (IG x y) else none
 |d+1,x,y=>match x,y with
  | .ref a,.ref b=>(match H a,H b with
   |some (.lst xs),some (.lst ys)=>if xs.length=ys.length then tT (cI (tU H d) xs ys) else some false
   |some (.tup xs),some (.tup ys)=>if xs.length=ys.length then tT (cI (tU H d) xs ys) else none
   |_,_=>none)
  |x,y=>if l7 x=true/\l7 y=true then some (IG x y) else none
theorem qi{l:List (Option Bool)}{b:Bool}:tT l=some b->∃e:Nat->Bool,(∀j o,l[j]? =some o->o=some (e j))/\(aW l.length).all e=b:=by
 induction l generalizing b with
 |nil=>intro h;cases h;exact⟨λ_=>true,λj o z=>by simp at z,rfl⟩
 |cons o r ih=>
  intro h
  cases o with
  |none=>cases h
  |some b0=>
   obtain⟨c,hc,rfl⟩:=Option.map_eq_some_iff.mp h;obtain⟨e,h1,h2⟩:=ih hc;refine⟨λj=>match j with|0=>b0|j+1=>e j,λj o z=> ?_,?_⟩
   ·cases j with
    |zero=>simp at z;exact z.symm
    |succ j=>exact h1 j o (by simpa using z)
   ·rw[aR,gf,bA,List.all_map,←h2];rfl
theorem Hg{x:V}(h:l7 x=true):IG x x=true:=by
 cases x<;>first|rfl|exact decide_eq_true rfl|exact nomatch h
theorem BV{H:Hp}:∀(d:Nat) {x:V} {b:Bool},tU H d x x=some b->b=true
 |0,x,b,h=>by
  unfold tU at h
  split at h
  ·rename_i z;cases h;exact Hg z.1
  ·cases h
 |d+1,x,b,h=>by
  unfold tU at h
  split at h
  ·split at h
   ·rename_i xs ys e1 e2;rw[e1]at e2
    cases e2
    rw[if_pos rfl]at h;obtain⟨e,h1,h2⟩:=qi h;rw[←h2,fL];intro j hj;rw[gx,bU,cJ]at hj;have z:=h1 j (tU H d xs[j] xs[j]) (by rw[bx,ab hj]);exact BV d z
   ·rename_i xs ys e1 e2;rw[e1]at e2
    cases e2
    rw[if_pos rfl]at h;obtain⟨e,h1,h2⟩:=qi h;rw[←h2,fL];intro j hj;rw[gx,bU,cJ]at hj;have z:=h1 j (tU H d xs[j] xs[j]) (by rw[bx,ab hj]);exact BV d z
   ·cases h
  ·split at h
   ·rename_i z;cases h;exact Hg z.1
   ·cases h
section
variable{X:Cx}
theorem rA{pins:List (Addr×Obj)}{σ:St}{H:Hp}{s:Shared}(I:Inv X pins σ H s):∀(d:Nat) (A:Around) {x y:V} {u v:Value} {b:Bool},A.units+d<cLine->RelV x u->RelV y v->tU H d x y=some b->iG A s u v b
 |0,A,x,y,u,v,b,hu,rx,ry,h=>by
  unfold tU at h
  split at h
  ·rename_i z;cases h;exact IY rx ry z.1 z.2
  ·cases h
 |d+1,A,x,y,u,v,b,hu,rx,ry,h=>by
  by_cases hs:∃a,x= .ref a/\y= .ref a
  ·obtain⟨a,rfl,rfl⟩:=hs
   cases (show u=aL a from rx)
   cases (show v=aL a from ry)
   rw[BV (d+1) h];exact iH _
  ·unfold tU at h
   split at h
   ·rename_i a c
    split at h
    ·rename_i xs ys e1 e2
     cases (show u=aL a from rx)
     cases (show v=aL c from ry)
     have hne:a≠c:=λz=>hs ⟨a,rfl,by rw[z]⟩;obtain⟨i1,r1,p1,_⟩:=I.list (jX.of e1);obtain⟨i2,r2,p2,_⟩:=I.list (jX.of e2);refine h_ hne ?_;have l1:=r1.length;have l2:=r2.length
     split at h
     ·rename_i hl;obtain⟨e,h1,h2⟩:=qi h;rw[bU,←hl,cJ]at h2;have z:=SeqAt.RcAt.lists (A:=A) (s:=s) (e:=e) p1.isList p2.isList (by simp;lia) (by lia) λj j1 j2=> ?_
      ·have e3:i1.toArray.size=xs.length:=by simp[l1]
       rw[e3,h2]at z;exact z
      ·simp only[aH]at j1 j2;have k1:j<xs.length:=by lia
       have k2:j<ys.length:=by lia
       obtain⟨w1,g1,q1⟩:=r1.get (ab k1);obtain⟨w2,g2,q2⟩:=r2.get (ab k2);have z:=h1 j (tU H d xs[j] ys[j]) (by rw[bx,ab k1,ab k2]);have e4:i1.toArray[j]=w1:=by simpa [j1] using g1
       have e5:i2.toArray[j]=w2:=by simpa [j2] using g2
       rw[e4,e5];exact rA I d A.in1 (by rw[c9];lia) q1 q2 z
     ·rename_i hl
      cases h
      exact SeqAt.RcAt.lists_lengths p1.isList p2.isList (by simp;lia) (by lia)
    ·rename_i xs ys e1 e2
     cases (show u=aL a from rx)
     cases (show v=aL c from ry)
     have hne:a≠c:=λz=>hs ⟨a,rfl,by rw[z]⟩;obtain⟨i1,r1,p1,_⟩:=I.tuple (.inl (.inl e1));obtain⟨i2,r2,p2,_⟩:=I.tuple (.inl (.inl e2));refine h_ hne ?_;have l1:=r1.length;have l2:=r2.length
     split at h
     ·rename_i hl;obtain⟨e,h1,h2⟩:=qi h;rw[bU,←hl,cJ]at h2;have z:=SeqAt.RcAt.tuples (A:=A) (s:=s) (e:=e) p1 p2 (by lia) λj j1 j2=> ?_
      ·have e3:i1.toArray.size=xs.length:=by simp[l1]
       have e4:i2.toArray.size=xs.length:=by simp[←l2,hl]
       rw[e3,e4,cJ,h2,beq_self_eq_true,gK]at z;exact z
      ·simp only[aH]at j1 j2;have k1:j<xs.length:=by lia
       have k2:j<ys.length:=by lia
       obtain⟨w1,g1,q1⟩:=r1.get (ab k1);obtain⟨w2,g2,q2⟩:=r2.get (ab k2);have z:=h1 j (tU H d xs[j] ys[j]) (by rw[bx,ab k1,ab k2]);have e4:i1.toArray[j]=w1:=by simpa [j1] using g1
       have e5:i2.toArray[j]=w2:=by simpa [j2] using g2
       rw[e4,e5];exact rA I d A.in1 (by rw[c9];lia) q1 q2 z
     ·cases h
    ·cases h
   ·split at h
    ·rename_i z;cases h;exact IY rx ry z.1 z.2
    ·cases h
def Pc:R2:=λx y H Q=>match x,y with
 | .ref a,.ref b=>(match H a,H b with
  |some (.lst xs),some (.lst ys)=>if xs.length=ys.length then(match tT (cI (tU H 2) xs ys) with
    |some k=>Q (.bl k) H
    |none=>False) else Q (.bl false) H
  |_,_=>False)
 |_,_=>False
def Pj:R2:=λx y H Q=>match x,y with
 | .ref a,.ref b=>(match H a,H b with
  |some (.lst xs),some (.lst ys)=>if xs.length=ys.length then(match tT (cI (tU H 2) xs ys) with
    |some k=>Q (.bl (!k)) H
    |none=>False) else Q (.bl true) H
  |_,_=>False)
 |_,_=>False
theorem TU(hu:X.A.units+8<cLine):nX X (compareOp .Eq) Pc:=by
 intro pins s σ H x y v u Q I rx ry h;unfold Pc at h
 cases x<;>try exact h.elim
 rename_i a
 cases y<;>try exact h.elim
 rename_i b;dsimp only at h
 cases e1:H a<;>rw[e1]at h<;>try exact h.elim
 rename_i o
 cases o<;>try exact h.elim
 rename_i xs
 cases e2:H b<;>rw[e2]at h<;>try exact h.elim
 rename_i o
 cases o<;>try exact h.elim
 rename_i ys;dsimp only at h
 cases (show v=aL a from rx)
 cases (show u=aL b from ry)
 obtain⟨i1,r1,p1,_⟩:=I.list (jX.of e1);obtain⟨i2,r2,p2,_⟩:=I.list (jX.of e2);have l1:=r1.length;have l2:=r2.length
 split at h
 ·rename_i hl
  split at h
  case h_2=>exact h.elim
  rename_i k hk;obtain⟨e,h1,h2⟩:=qi hk;rw[bU,←hl,cJ]at h2;refine iI (e:=e) p1.isList p2.isList (by simp;lia) (by lia) (λj j1 j2=> ?_) ⟨.bl k,H,I,?_,h⟩
  ·simp only[aH]at j1 j2;have k1:j<xs.length:=by lia
   have k2:j<ys.length:=by lia
   obtain⟨w1,g1,q1⟩:=r1.get (ab k1);obtain⟨w2,g2,q2⟩:=r2.get (ab k2);have z:=h1 j (tU H 2 xs[j] ys[j]) (by rw[bx,ab k1,ab k2]);have e4:i1.toArray[j]=w1:=by simpa [j1] using g1
   have e5:i2.toArray[j]=w2:=by simpa [j2] using g2
   rw[e4,e5];exact rA I 2 X.A.in1 (by rw[c9];lia) q1 q2 z
  ·have e3:i1.toArray.size=xs.length:=by simp[l1]
   rw[e3,h2];exact rfl
 ·exact fT p1.isList p2.isList (by simp;lia) (by lia) ⟨.bl false,H,I,rfl,h⟩
end
section
variable{X:Cx}
theorem T3(hu:X.A.units+8<cLine):nX X (compareOp .NotEq) Pj:=by
 intro pins s σ H x y v u Q I rx ry h;unfold Pj at h
 cases x<;>try exact h.elim
 rename_i a
 cases y<;>try exact h.elim
 rename_i b;dsimp only at h
 cases e1:H a<;>rw[e1]at h<;>try exact h.elim
 rename_i o
 cases o<;>try exact h.elim
 rename_i xs
 cases e2:H b<;>rw[e2]at h<;>try exact h.elim
 rename_i o
 cases o<;>try exact h.elim
 rename_i ys;dsimp only at h
 cases (show v=aL a from rx)
 cases (show u=aL b from ry)
 obtain⟨i1,r1,p1,_⟩:=I.list (jX.of e1);obtain⟨i2,r2,p2,_⟩:=I.list (jX.of e2);have l1:=r1.length;have l2:=r2.length
 split at h
 ·rename_i hl
  split at h
  case h_2=>exact h.elim
  rename_i k hk;obtain⟨e,h1,h2⟩:=qi hk;rw[bU,←hl,cJ]at h2;refine SeqAt.RcNeAt.lists (e:=e) p1.isList p2.isList (by simp;lia) (by lia) (λj j1 j2=> ?_) X.prog X.w X.xe _ ⟨.bl (!k),H,I,?_,h⟩
  ·simp only[aH]at j1 j2;have k1:j<xs.length:=by lia
   have k2:j<ys.length:=by lia
   obtain⟨w1,g1,q1⟩:=r1.get (ab k1);obtain⟨w2,g2,q2⟩:=r2.get (ab k2);have z:=h1 j (tU H 2 xs[j] ys[j]) (by rw[bx,ab k1,ab k2]);have e4:i1.toArray[j]=w1:=by simpa [j1] using g1
   have e5:i2.toArray[j]=w2:=by simpa [j2] using g2
   rw[e4,e5];exact rA I 2 X.A.in1 (by rw[c9];lia) q1 q2 z
  ·have e3:i1.toArray.size=xs.length:=by simp[l1]
   rw[e3,h2];exact rfl
 ·exact SeqAt.RcNeAt.lists_lengths p1.isList p2.isList (by simp;lia) (by lia) X.prog X.w X.xe _ ⟨.bl true,H,I,rfl,h⟩
end
theorem pM.Hj{K:ah}{a:Addr}{xs:List V}{ua:St}{tt:TT}{te:TE}{H:Hp}{Q:VK}(p:V->Bool)(f:V->V)(hS:jX K H a xs)(hz:xs.length<=sizeLine)
  (ht:∀x∈xs,∀K':Bool->Hp->Prop,K' (p x) H->tt (some x::ua) H K') (he:∀x∈xs,p x=true->∀K':VK,K' (f x) H->te (some x::ua) H K')
  (q:∀l,H l=none->Q (.ref l) (upd H l (.lst ((xs.filter p).map f)))):pM (Mp K a) ua tt te H Q:=by
 refine⟨λi m ys H'=>H'=H/\i<=xs.length/\m=xs.length-i/\ys=((xs.take i).filter p).map f,⟨xs.length,rfl,bh _,rfl,by simp⟩,λi m ys H' zq=> ?_⟩;obtain⟨e1,hi,em,ey⟩:=zq;subst e1 ey;refine⟨av (by rw[ae];exact av (dH _ _) (by rw[bP];lia)) hz,?_⟩;by_cases z:i<xs.length
 ·have hx:xs[i]? =some xs[i]:=ab z;refine .inr ⟨⟨xs,xs[i],hS,hx⟩,λx H2=>gE λe2 e3=> ?_⟩;have ex:x=xs[i]:=by have:=e3 xs hS;rw[hx]at this;exact(aM this).symm
  rw[e2,ex];have tk:xs.take (i+1)=xs.take i++[xs[i]]:=by rw[cg,hx];rfl
  refine ht _ (aG z) _ ?_
  cases hp:p xs[i] with
  |true=>
   rw[if_pos rfl];refine he _ (aG z) hp _ ⟨xs.length-(i+1),by lia,rfl,z,rfl,?_⟩;rw[tk,d7,aF];simp[hp]
  |false=>
   rw[if_neg aK];refine⟨xs.length-(i+1),by lia,rfl,z,rfl,?_⟩;rw[tk,d7,aF];simp[hp]
 ·have e:i=xs.length:=by lia
  subst e;rw[bt];exact .inl ⟨⟨xs,hS,au _⟩,q⟩
theorem lI{X:Cx}{scope:Scope}{N:List Str}{x:List Str}{s:Shared}{H:Hp}{C:Addr}{ex:List Addr}:Exc (X.wI scope N x s H C ex) (λ_ _ _ _=>False):=
 ⟨λ_ _ _ _ _ _ _ z=>by obtain⟨_,_,_,_,_,_,_,_,_,_,_,_,h⟩:=z;exact h,λ_ _ _ _ _ _ _ _ _ _ _ _ h=>h,PassesOwn.never⟩
noncomputable def bools:List V->Option (List Bool)
 | []=>some []
 | .bl b::r=>(bools r).map λbs=>b::bs
 |_::_=>none
def Kl:List V->Hp->VK->Prop:=λxs H Q=>match xs with
 | [.ref a]=>(match H a with
  |some (.lst ys)=>∀l,H l=none->Q (.ref l) (upd H l (.lst ys))
  |_=>False)
 |_=>False
def Fc:R2:=λx y H Q=>match eqv x y with
 |some b=>Q (.bl b) H
 |none=>Pc x y H Q
def Lq:R2:=λx y H Q=>match eqv x y with
 |some b=>Q (.bl (!b)) H
 |none=>Pj x y H Q
section
variable{X:Cx}
theorem Rr:nB X (.type "list") Kl:=Fe.mono λxs H Q h=>by
 unfold Kl at h
 split at h
 case h_2=>exact h.elim
 split at h
 case h_2=>exact h.elim
 rename_i ys e;exact⟨_,ys,rfl,.inl (jX.of e),h⟩
theorem G_(hu:X.A.units+8<cLine):nX X (compareOp .Eq) Fc:=by
 intro pins s σ H x y v u Q I rx ry h;unfold Fc at h
 split at h
 ·rename_i b e;exact TN pins s σ H x y v u Q I rx ry (by unfold TJ;rw[e];exact h)
 ·exact TU hu pins s σ H x y v u Q I rx ry h
theorem MP(hu:X.A.units+8<cLine):nX X (compareOp .NotEq) Lq:=by
 intro pins s σ H x y v u Q I rx ry h;unfold Lq at h
 split at h
 ·rename_i b e;exact T2 pins s σ H x y v u Q I rx ry (by unfold TK;rw[e];exact h)
 ·exact T3 hu pins s σ H x y v u Q I rx ry h
theorem Ky{ca:Bool}{k:Nat}{A:Around}(hr:lO ca k A):A.units+8<cLine:=bZ (gP (by decide:8<=64) _) hr.units
end
theorem mX{K:ah}{a:Addr}{xs:List V}{ua:St}{tt:TT}{te:TE}{H:Hp}{Q:VK}(P:Nat->List V->Hp->Prop)(h0:P 0 [] H)(hS:∀i ys H',P i ys H'->jX K H' a xs)(hz:xs.length<=sizeLine)(hlen:∀i ys H',P i ys H'->ys.length<=i)
  (step:∀i x ys H',xs[i]? =some x->P i ys H'->∀K1:List V->Hp->Prop,(∀ys' H3,P (i+1) ys' H3->K1 ys' H3)->tt (some x::ua) H' λb H2=>if b=true then te (some x::ua) H2 (λy H3=>K1 (ys++[y]) H3) else K1 ys H2)
  (q:∀ys H',P xs.length ys H'->∀l,H' l=none->Q (.ref l) (upd H' l (.lst ys))):pM (Mp K a) ua tt te H Q:=by
 refine⟨λi m ys H'=>P i ys H'/\i<=xs.length/\m=xs.length-i,⟨xs.length,h0,bh _,rfl⟩,λi m ys H' zq=> ?_⟩;obtain⟨hP,hi,em⟩:=zq;refine⟨av (av (hlen _ _ _ hP) hi) hz,?_⟩;have hS':=hS _ _ _ hP;by_cases z:i<xs.length
 ·have hx:xs[i]? =some xs[i]:=ab z;refine .inr ⟨⟨xs,xs[i],hS',hx⟩,λx H2=>gE λe2 e3=> ?_⟩;have ex:x=xs[i]:=by have:=e3 xs hS';rw[hx]at this;exact(aM this).symm
  rw[e2,ex];exact step i _ ys H' hx hP (λys' H3=>∃m',m'<m/\(P (i+1) ys' H3/\i+1<=xs.length/\m'=xs.length-(i+1))) λys' H3 h=>⟨_,by omega,h,z,rfl⟩
 ·have e:i=xs.length:=by lia
  subst e;exact .inl ⟨⟨xs,hS',au _⟩,q _ _ hP⟩
theorem EY:∀{l1 l2:List Int},l1.Perm l2->l1.Pairwise (·<=·)->l2.Pairwise (·<=·)->l1=l2
 | [],l2,p,_,_=>(List.Perm.nil_eq p)
 |a::r,[],p,_,_=>absurd p.length_eq (by simp)
 |a::r,b::r2,p,h1,h2=>by
  have ha:a∈b::r2:=p.mem_iff.mp aq;have hb:b∈a::r:=p.mem_iff.mpr aq;rw[cQ]at h1 h2;have e:a=b:=by
   rcases List.mem_cons.mp ha with e|ha
   ·exact e
   ·rcases List.mem_cons.mp hb with e|hb
    ·exact e.symm
    ·have:=h2.1 a ha;have:=h1.1 b hb;lia
  subst e;rw[EY ((List.perm_cons a).mp p) h1.2 h2.2]
noncomputable def jS (ns:List Int):List Int:=ns.mergeSort (λa b=>decide (a<=b))
theorem ko(ns:List Int):(jS ns).Perm ns:=List.mergeSort_perm ns _
theorem rY(ns:List Int):(jS ns).Pairwise (·<=·):=by
 have h:=List.pairwise_mergeSort (le:=λ(a b:Int)=>decide (a<=b)) (λa b c=>by simp;lia) (λa b=>by simp;lia) ns;exact h.imp (by simp)
theorem wY{ns ns':List Int}(p:ns'.Perm ns)(h:ns'.Pairwise (·<=·)):ns'=jS ns:=EY (p.trans (ko ns).symm) h (rY ns)
noncomputable def Hl:List V->Option (List Int)
 | []=>some []
 | .int i::r=>(Hl r).map λns=>i::ns
 |_::_=>none
theorem AE:∀ns:List Int,Hl (ns.map V.int)=some ns
 | []=>rfl
 |n::r=>by simp only[az,Hl,AE r,bE]
theorem Hm:∀{ys:List V} {ns:List Int},Hl ys=some ns->ys=ns.map V.int
 | [],ns,h=>by cases h;rfl
 |y::r,ns,h=>by
  cases y with
  |int i=>
   obtain⟨cs,hc,rfl⟩:=Option.map_eq_some_iff.mp h;rw[az,←Hm hc]
  |_=>cases h
section
variable{X:Cx}
def BA:List V->Hp->VK->Prop:=λxs H Q=>match xs with
 | [.ref a]=>(match H a with
  |some (.lst ys)=>(match Hl ys with
   |some ns=>ns.length<64/\∀l,H l=none->Q (.ref l) (upd H l (.lst ((jS ns).map V.int)))
   |none=>False)
  |_=>False)
 |_=>False
theorem LD{ns:List Int}{vs:List Value}(h:Vals (ns.map V.int) vs):IntsAre vs ns:=by
 induction ns generalizing vs with
 |nil=>cases h;exact .nil
 |cons n r ih=>cases h with|cons h t=>obtain⟨k,rfl⟩:=h;exact .cons n k (ih t)
theorem MS:nB X (.builtin "sorted") BA:=by
 intro pins s σ H xs us Q I r h;unfold BA at h
 split at h
 case h_2=>exact h.elim
 rename_i a;obtain⟨u,rfl,rx⟩:=vals1 r
 cases (show u=aL a from rx)
 split at h
 case h_2=>exact h.elim
 rename_i ys ea
 split at h
 case h_2=>exact h.elim
 rename_i ns hb;have ey:=Hm hb;subst ey;obtain⟨hl,h⟩:=h;obtain⟨its,rv,pl,hz⟩:=I.list (jX.of ea);have hlen:=rv.length;rw[ae]at hlen;refine sorted_ints pl.isList (LD rv) (by lia) λout ns' h1 h2 h3=> ?_;have e:=wY h2 h3;subst e;have hln:=h2.length_eq;have hf:H (s.heap.objs.size+1)=none:=I.j5.fresh (fm _);refine⟨.ref (s.heap.objs.size+1),_,I.laid (t':=s.toks) (λb o e=>sortedAll_old e) (fm _) (show kO X.prog X.w _ _ _ (.lst ((jS ns).map V.int)) from ?_),rfl,h _ hf⟩;obtain⟨en,he⟩:=sortedAll_at s.heap its out;exact⟨by rw[ae,hln];exact av (dM hl) (by decide),out.toList,en,vt h1,by simpa using he⟩
noncomputable def B6:List (Key×V)->Option (List Int)
 | []=>some []
 |(.inl i,_)::r=>(B6 r).map λns=>i::ns
 |_::_=>none
theorem B7:∀{kvs:List (Key×V)} {ns:List Int},B6 kvs=some ns->kvs.map (·.1)=ns.map aQ
 | [],ns,h=>by cases h;rfl
 |(k,v)::r,ns,h=>by
  cases k with
  |inl i=>
   obtain⟨cs,hc,rfl⟩:=Option.map_eq_some_iff.mp h;rw[az,az,←B7 hc]
  |inr x=>cases h
def wM:List V->Hp->VK->Prop:=λxs H Q=>match xs with
 | [.ref a]=>(match H a with
  |some (.dK kvs)=>(match B6 kvs with
   |some ns=>ns.length<64/\∀l,H l=none->Q (.ref l) (upd H l (.lst ((jS ns).map V.int)))
   |none=>False)
  |_=>False)
 |_=>False
theorem vQ:∀{l:List Value} {ns:List Int},l.length=ns.length->(∀(j:Nat) (v:Value),l[j]? =some v->∃t,v= .int (ns.getD j 0) t)->IntsAre l ns
 | [],[],_,_=> .nil
 |v::r,n::m,hl,h=>by
  obtain⟨t,e⟩:=h 0 v rfl;rw[e];exact .cons n t (vQ (by simpa using hl) λj w hw=>h (j+1) w (by simpa using hw))
theorem ET{i:Int}{v:Value}(h:uq (.inl i) v=true):∃t,v= .int i t:=by
 rcases kf h with ⟨k,t,e,rfl⟩|⟨x,t,e,_⟩
 ·cases e;exact⟨t,rfl⟩
 ·cases e
theorem Lr(hc:X.calm=true):nB X (.builtin "sorted") wM:=by
 intro pins s σ H xs us Q I r h;unfold wM at h
 split at h
 case h_2=>exact h.elim
 rename_i a;obtain⟨u,rfl,rx⟩:=vals1 r
 cases (show u=aL a from rx)
 split at h
 case h_2=>exact h.elim
 rename_i kvs ea
 split at h
 case h_2=>exact h.elim
 rename_i ns hb;obtain⟨hl,h⟩:=h;obtain⟨z,hd,vs,rel,o,es,ep,hat⟩:=BW I.j5 ea;have da:ei (j7 X.prog X.w) s.heap a vs ep:=⟨o,es,hat⟩;have hk1:=B7 hb;have hk2:=rel.keys;have hlen:vs.length=ns.length:=by
  have:=congrArg eB (hk2.symm.trans hk1);simpa using this
 have h64:64<=sizeLine:=by decide
 refine fG kind_sorted plain_sorted entry_sorted (args_sorted1 _) ?_;refine wpAny_bind (wpAny_pure ?_);refine wpAny_bind (gT (fP hd) (by show X.A.handled=none;exact I.ok.hd hc) da (by lia) λh' tk acc hk hi=> ?_);have hal:acc.toList.length=ns.length:=by rw[←hlen];simpa using hi.1
 have hints:IntsAre acc.toList ns:=vQ hal λj v hv=>by
  obtain⟨k,x,e1,e2⟩:=hi.2 j v (by simpa using hv);have e3:(vs.map (·.1))[j]? =some k:=by rw[ak,e1];rfl
  rw[←hk2,hk1,ak]at e3;obtain⟨n,e4,rfl⟩:=Option.map_eq_some_iff.mp e3;obtain⟨t,rfl⟩:=ET (show uq (.inl n) v=true from e2);exact⟨t,by rw[af,e4];rfl⟩
 refine wpAny_bind (wpAny_newList ?_ (by lia));have hgt:(h'.push {cls:= .type "list",data:= .seq acc.toList.toArray}).get? h'.objs.size=some (seqObj "list" acc.toList.toArray 0):=br _ rfl;refine wpAny_bind (wpAny_holding (wpAny_call_entry slot_list_sort ⟨_,hgt,rfl⟩ entry_list_sort (list_sort_tree hgt hints (by lia) λout ns' h1 h2 h3=> ?_) (args_list_sort _)));refine⟨_,rfl,wpAny_pure ⟨_,rfl,?_⟩⟩;have e:=wY h2 h3;subst e;have hln:=h2.length_eq;have I2:Inv X pins σ H {s with heap:=h',toks:=tk}:=I.kept λb o e=>hk b o e;have hf:H h'.objs.size=none:=I2.j5.fresh (au _);obtain⟨en,he⟩:=sortedHeap_at (h:=h'.push {cls:= .type "list",data:= .seq acc.toList.toArray}) (a:=h'.objs.size) (vs:=acc.toList) (out:=out) hgt;refine⟨.ref h'.objs.size,_,I2.laid (t':=tk) (λb o e=>(sortedHeap_old (aJ (aC e)) (aC (aE _ e))).trans (aE _ e)) (au _) (show kO X.prog X.w _ _ _ (.lst ((jS ns).map V.int)) from ?_),rfl,h _ hf⟩;exact⟨by rw[ae,hln];exact av (dM hl) (by decide),out.toList,en,vt h1,by simpa using he⟩
def O9:R2:=λx y H Q=>match x,y with
 | .ref l,.ref b=>(match H l,H b with
  |some (.lst xs),some (.lst zs)=>xs.length+zs.length<=sizeLine/\∀p,H p=none->Q (.ref p) (upd H p (.lst (xs++zs)))
  |_,_=>False)
 |_,_=>False
theorem TM:nX X (binaryOp .Add) O9:=Sk.mono λx y H Q h=>by
 unfold O9 at h
 split at h
 case h_2=>exact h.elim
 split at h
 case h_2=>exact h.elim
 rename_i xs zs e1 e2;exact⟨_,_,xs,zs,rfl,rfl,e1,e2,h.1,h.2⟩
def Bx:V->List V->Hp->VK->Prop:=λx vs H Q=>match x,vs with
 | .ref l,[.ref b]=>(match H l,H b with
  |some (.lst xs),some (.lst zs)=>l≠b/\xs.length+zs.length<=sizeLine/\Q .kr (upd H l (.lst (xs++zs)))
  |_,_=>False)
 |_,_=>False
theorem MN:Va X "list.extend" Bx:=λpins s σ H x xs v us Q I rx rxs h=>by
 unfold Bx at h
 cases x<;>try exact h.elim
 rename_i l;rcases xs with _|⟨y,xs⟩<;>try exact h.elim
 cases y<;>try exact h.elim
 rename_i b;rcases xs with _|⟨y,xs⟩<;>try exact h.elim
 dsimp only at h
 cases e1:H l<;>rw[e1]at h<;>try exact h.elim
 rename_i o
 cases o<;>try exact h.elim
 rename_i ys
 cases e2:H b<;>rw[e2]at h<;>try exact h.elim
 rename_i o
 cases o<;>try exact h.elim
 rename_i zs;exact LS pins s σ H _ _ v us Q I rx rxs ⟨_,_,ys,zs,rfl,rfl,e1,e2,h.2.1,h.2.2⟩
def Pd:R2:=λx y H Q=>match y with
 | .ref a=>(match H a,Hv x with
  |some (.dK kvs),some k=>Q (.bl (mP kvs k).isSome) H
  |_,_=>False)
 |_=>False
def Bz:R2:=λx y H Q=>match y with
 | .ref a=>(match H a,Hv x with
  |some (.dK kvs),some k=>Q (.bl (!(mP kvs k).isSome)) H
  |_,_=>False)
 |_=>False
theorem TV(hu:X.A.units+1<cLine):nX X (compareOp .In) Pd:=by
 intro pins s σ H x y v u Q I rx ry h;unfold Pd at h
 split at h
 case h_2=>exact h.elim
 rename_i a
 split at h
 case h_2=>exact h.elim
 rename_i kvs k ea ek;have ey:=vk ek;subst ey
 cases (show u=aL a from ry)
 exact VE hu I (BN.k ea) rx λs' I'=>⟨.bl _,H,I',rfl,h⟩
theorem MQ(hu:X.A.units+1<cLine):nX X (compareOp .NotIn) Bz:=by
 intro pins s σ H x y v u Q I rx ry h;unfold Bz at h
 split at h
 case h_2=>exact h.elim
 rename_i a
 split at h
 case h_2=>exact h.elim
 rename_i kvs k ea ek;have ey:=vk ek;subst ey
 cases (show u=aL a from ry)
 exact Pz hu I (BN.k ea) rx λs' I'=>⟨.bl _,H,I',rfl,h⟩
def Kj:List V->Hp->VK->Prop:=λxs H Q=>match xs with
 | [.ref a]=>(match H a with
  |some (.dK kvs)=>Q (.int kvs.length) H
  |_=>False)
 |_=>False
theorem Rp:nB X (.builtin "len") Kj:=Lu.mono λxs H Q h=>by
 unfold Kj at h
 split at h
 case h_2=>exact h.elim
 split at h
 case h_2=>exact h.elim
 rename_i kvs e;exact⟨_,kvs,rfl,e,h⟩
end
def ME(td ty:TE):TE:=λσ H Q=>td σ H λx H1=>match x with
 | .ref a=>(match H1 a with
  |some (.dK _)=>ty σ H1 λy H2=>(match H2 a,Hv y with
   |some (.dK kvs),some k=>(match mP kvs k with
    |some v=>Q v (upd H2 a (.dK (BY kvs k)))
    |none=>False)
   |_,_=>False)
  |_=>False)
 |_=>False
section
variable{X:Cx}{o e:Expr}{td ty:TE}{apos cpos:Pos}
theorem Rl(ho:PE X o td)(he:PE X e ty)(m:M1 X o "pop" apos e cpos):PE X (.Call (.Attribute o "pop" apos) [e] [] cpos) (ME td ty):=by
 intro pins s σ H Q I h;refine wpAny_Call_method m.base m.Ww m.line PySem.F.plainAttrs_dict gB PySem.F.type_dict_pop (lQ (ho pins s σ H _ I h) λu s1=>qh λx H1 I1 rx q1=> ?_)
 try dsimp only at q1
 split at q1
 case h_2=>exact q1.elim
 rename_i a
 split at q1
 case h_2=>exact q1.elim
 rename_i kvs0 ea0;obtain rfl:u=aL a:=rx;obtain⟨t1,t2,_⟩:=RQ I1 (RR ea0);refine⟨t1,t2,?_⟩;rw[m.trees];refine f_ rfl (gG (ft (lQ (he pins s1 σ H1 _ I1 q1) λiv s2=>qh λy H2 I2 ry q2=>fD ?_)))
 try dsimp only at q2
 split at q2
 case h_2=>exact q2.elim
 rename_i kvs k ea ek
 split at q2
 case h_2=>exact q2.elim
 rename_i v l;have ey:=vk ek;subst ey;exact Ua I2 ea ry l (.inl rfl) λw' s3 I3 rw'=>⟨v,_,I3,rw',q2⟩
end
def IT(ta:TA):TE:=λσ H Q=>ta σ H λvs H1=>match vs with
 | [.int i,.int j]=> -(2^62)<=i/\i<2^62/\ -(2^62)<=j/\j<2^62/\(j-i).toNat<=sizeLine/\∀p,H1 p=none->Q (.ref p) (upd H1 p (.lst ((aW (j-i).toNat).map λt:Nat=>V.int (i+(t:Int)))))
 |_=>False
theorem ID:∀(l:List Value) (a:Int),(∀(j:Nat) (v:Value),l[j]? =some v->∃t,v= .int (a+j) t)->Vals ((aW l.length).map λt:Nat=>V.int (a+(t:Int))) l
 | [],_,_=> .nil
 |v::r,a,h=>by
  rw[aR,gf,az,bQ];obtain⟨t,e⟩:=h 0 v rfl;refine .cons ⟨t,e⟩ ?_;have z:=ID r (a+1) λj w hw=>by
   obtain⟨t,e⟩:=h (j+1) w (by simpa using hw);exact⟨t,by rw[e];congr 1;lia⟩
  have ef:((λt:Nat=>V.int (a+t))∘Nat.succ)=λt:Nat=>V.int (a+1+t):=by
   funext t;show V.int (a+((t+1:Nat):Int))=_;congr 1;lia
  rw[ef];exact z
section
variable{X:Cx}{a b:Expr}{ta:TA}{p pos p2 pos2:Pos}
theorem NY(hc:X.calm=true)(hgl:Gl X "list")(hml:X.mg "list"=none)(hgr:Gl X "range")(hmr:X.mg "range"=none)(ha:PA X [a,b] ta)(hs:starEach [a,b] X.env=[(false,eval a X.env),(false,eval b X.env)]:=by rfl)(hs2:starEach [b] X.env=[(false,eval b X.env)]:=by rfl):
  PE X (.Call (.Name "list" p) [.Call (.Name "range" p2) [a,b] [] pos2] [] pos) (IT ta):=by
 intro pins s σ H Q I h;refine wpAny_Call_Name_kw (r9 I hgl hml ζt ?_ (by decide) (by decide));refine bH ?_ (oB rfl) (oK rfl);rw[oB (e:= .Call (.Name "range" p2) [a,b] [] pos2) (rest:=[]) rfl];show wpAny _ _ (spliced ((false,eval (.Call (.Name "range" p2) [a,b] [] pos2) X.env)::backTo pos (starEach [] X.env))) _ _ s;refine ft (Call_ (r9 I hgr hmr boot_range (bH (lQ (ha pos2 pins s σ H _ I h) λus s1=>qh λvs H1 I1 r1 q1=> ?_) (by rw[hs,hs2]) (by rw[hs2];rfl))))
 try dsimp only at q1
 rcases vs with _|⟨x,vs⟩<;>try exact q1.elim
 cases x<;>try exact q1.elim
 rename_i i;rcases vs with _|⟨y,vs⟩<;>try exact q1.elim
 cases y<;>try exact q1.elim
 rename_i j;rcases vs with _|⟨z,vs⟩<;>try exact q1.elim
 obtain⟨q1,q2,q3,q4,q5,q⟩:=q1
 cases r1 with
 |cons r rr=>
  cases rr with
  |cons r' rr=>
   cases rr
   obtain⟨t,rfl⟩:=r;obtain⟨t',rfl⟩:=r';refine call_range_2 (fD ?_);refine call_list_range (I1.ok.hd hc) (iP ..) (small_one q1 q2 q3 q4) (n:=(j-i).toNat) (by rw[rangeSize_one];split<;>lia) (av q5 (by decide)) λh' tk acc' c' hk he hi=> ?_;have I2:=I1.kept (h':=s1.heap.push {cls:= .type "range",data:= .fields #[.int i t,.int j t',.int 1 s1.toks]}) (t':=s1.toks+1) λb o e=>aE _ e;have hl:acc'.toList.length=(j-i).toNat:=by simpa using hi.1
   have vr:=ID acc'.toList i λk v hv=>by
    obtain⟨tt,e⟩:=hi.2 k v (by simpa using hv);exact⟨tt,by rw[e];congr 1;lia⟩
   rw[hl]at vr;have fr:=I2.j5.fresh (au _);exact⟨.ref _,_,I2.laid (t':=tk) hk (au _) (show kO X.prog X.w _ h' _ (.lst ((aW (j-i).toNat).map λt:Nat=>V.int (i+(t:Int)))) from⟨by rw[ae,aY];exact q5,acc'.toList,c',vr,by simpa using he⟩),rfl,q _ fr⟩
end
section
variable{X:Cx}{pins:List (Addr×Obj)}{σ:St}{H:Hp}{s:Shared}{h':Heap}
theorem Inv.QM{t':Nat}{it jt:Addr}(I:Inv X pins σ H s)(k:∀b o,b≠it->b≠jt->s.heap.get? b=some o->h'.get? b=some o)(f:wK X pins H it)(g:wK X pins H jt):Inv X pins σ H {s with heap:=h',toks:=t'}:=by
 obtain⟨hn,hL,_,h1,h2,h3⟩:=f;obtain⟨hn',hL',_,h1',h2',h3'⟩:=g;have nit:∀b u,H b=some u->b≠it:=λb u e z=>by rw[z,hn]at e;cases e
 have njt:∀b u,H b=some u->b≠jt:=λb u e z=>by rw[z,hn']at e;cases e
 have k':∀b o,b∉ [it,jt]->s.heap.get? b=some o->h'.get? b=some o:=λb o hc e=>k b o (λz=>hc (by simp[z])) (λz=>hc (by simp[z])) e;refine I.step (g':=s.gens) (d':=s.drawn) (ch:=[it,jt]) (λb hb=> ?_) (λb o _ _ hc e _=>k' b o hc e) (λb o _ _ hc e _=>⟨o.slots,k' b o hc e⟩) (λ_ _ _ _ n=>n)
  (λb o hc e=>⟨o,k' b o hc e⟩) (λ_ _ e=>e) (λ_ _ _ e=>e) (λb ps e=>⟨#[],by rw[e];simp⟩) (λm hm=> ?_) (λb u e=> ?_) I.bare
 ·rcases List.mem_cons.mp hb with rfl|hb
  ·exact⟨h1,hL,h2,h3⟩
  ·rw[aA]at hb;subst hb;exact⟨h1',hL',h2',h3'⟩
 ·obtain⟨o,es,ep,ho,r⟩:=hm;exact⟨o,es,ep,k _ o (aj hL) (aj hL') ho,r⟩
 ·refine(I.j5 b u e).vv (λc v hc q=>k c v ?_ ?_ q) (λ_ q=>q) λ_ _ q=>q
  ·rcases hc with z|z
   ·rw[z];exact nit b u e
   ·exact nit c _ z
  ·rcases hc with z|z
   ·rw[z];exact njt b u e
   ·exact njt c _ z
end
noncomputable def U6 (K:ah) (a:Addr):It:=
 ⟨λi H=>∃xs x,jX K H a xs/\xs[i]? =some x,λi H x H'=>∃p y,H p=none/\x= .ref p/\H'=upd H p (.tup [.int i,y])/\∀xs,jX K H a xs->xs[i]? =some y,λi H=>∃xs,jX K H a xs/\xs.length<=i⟩
theorem Mh{P:Program}{w:World}{K:ah}{elts:List Expr}{k:Nat}{pos:Pos}(a e it:Addr)(ne:e≠it):Turn P w K (.Tuple elts k pos) (U6 K a) [e,it] e (λi h=>(∃old,IsEnum h e it (i:Int) old)/\h.IsListIter it a i) where
 mem:=by simp
 obj:=λi h st b hb=>by
  obtain⟨⟨old,en⟩,li⟩:=st;rcases List.mem_cons.mp hb with rfl|hb
  ·exact⟨_,en,λv z=>by cases z⟩
  ·rw[aA]at hb;subst hb;obtain⟨o,e,c,d⟩:=li;exact⟨o,e,λv z=>by rw[d]at z;cases z⟩
 keep:=λi h h' st k=>by
  obtain⟨⟨old,en⟩,li⟩:=st;exact⟨⟨old,k e (by simp) _ en⟩,li.at λo e=>k it (by simp) o e⟩
 item:=by
  intro X hP hw hK hc i pins s σ H E I hf st hg;subst hP hw hK;obtain⟨xs,x,hq,hx⟩:=hg;obtain⟨its,rv,p,hz⟩:=I.list hq;obtain⟨u,hu,ru⟩:=rv.get hx;obtain⟨⟨old,en⟩,li⟩:=st;have fe:=hf e (by simp);have fi:=hf it (by simp);refine wpAny_pyNext_enum_item en li p.isList (x:=u) (by simpa using hu) ne λh' out li' tup sz kp=> ?_;refine⟨_,rfl,wpAny_letOwnedTupleGo_enum out λh2 en2 sb2=> ?_⟩;have hT:∀b o,s.heap.get? b=some o->s.heap.objs.size≠b:=λb o eb=>cK (aC eb);obtain⟨oe,eE⟩:∃o,s.heap.get? e=some o:=⟨_,en⟩;obtain⟨oi,eI,_⟩:=id li;have I1:Inv X pins σ H {s with heap:=h2,toks:=s.toks+1}:=I.QM (λb o n1 n2 eb=>(sb2.2 b n1).trans (kp b o n1 n2 eb)) fe fi;have hf0:H s.heap.objs.size=none:=I.j5.fresh (au _);have tup2:h2.get? s.heap.objs.size=some {cls:=fI "tuple",data:=iw #[dC (↑i) s.toks,u]}:=(sb2.2 _ (hT e oe eE)).trans tup;have h0:X.s₀.heap.get? s.heap.objs.size=none:=by
   cases z:X.s₀.heap.get? s.heap.objs.size with
   |none=>rfl
   |some o=>exact absurd (ax (aC z) I.sz) (bD _)
  have I2:=I1.adopt (a:=s.heap.objs.size) (o:= .tup [.int i,x]) hf0 ⟨show 2<=sizeLine by decide,[dC (↑i) s.toks,u],.cons ⟨_,rfl⟩ (.cons ru .nil),⟨_,tup2,rfl,_,rfl⟩⟩ h0 (cK I.lt) (λy c ec z=>by
    obtain⟨v,o,eo,_⟩:=I.cell y c ec;exact hT c o eo z.symm) λp hp z=>hT p.1 p.2 (I.pin p hp).1 z.symm
  refine⟨.ref s.heap.objs.size,_,I2,rfl,⟨_,x,hf0,rfl,rfl,λys hy=>by rw[I.y_ hy hq];exact hx⟩,⟨⟨_,by exact_mod_cast en2⟩,?_⟩,λb hb=> ?_⟩
  ·exact li'.at λo eo=>(sb2.2 it (aj ne)).trans eo
  ·have nb:b≠s.heap.objs.size:=by
    rcases List.mem_cons.mp hb with rfl|hb
    ·exact aj (hT _ oe eE)
    ·rw[aA]at hb;subst hb;exact aj (hT _ oi eI)
   rw[i4 nb];exact(hf b hb).1
 done:=by
  intro X hP hw hK hc i pins s σ H E I hf st hg;subst hP hw hK;obtain⟨xs,hq,hx⟩:=hg;obtain⟨its,rv,p,hz⟩:=I.list hq;obtain⟨⟨old,en⟩,li⟩:=st;obtain⟨f0,f1,f2,f3,f4,f5⟩:=hf it (by simp);have hl:=rv.length;exact wpAny_pyNext_enum_end (I.ok.hd hc) en li p.isList (by simp;lia) λh' eb=>⟨rfl,I.turned (t':=s.toks) (λb o hb e=>eb b o hb e) f0 f1 f3 f4 f5⟩
 self:=λ_ _ _ _ _ st h=>let ⟨⟨_,en⟩,_⟩:=st;wpAny_pyIter_enum en h
def Nj(K:ah)(ta:TA):TI:=λσ H R=>ta σ H λvs H1=>match vs with
 | [.ref a]=>(∃xs,jX K H1 a xs)/\R (U6 K a) H1
 |_=>False
section
variable{X:Cx}
theorem Qh{elts:List Expr}{k:Nat}{tpos:Pos}{a:Expr}{ta:TA}{p pos:Pos}(hg:Gl X "enumerate")(hm:X.mg "enumerate"=none)(ha:PA X [a] ta)(hs:starEach [a] X.env=[(false,eval a X.env)]:=by rfl):
  PI X (.Tuple elts k tpos) (.Call (.Name "enumerate" p) [a] [] pos) (Nj X.K ta):=by
 intro pins s σ H R I h;refine Call_ (r9 I hg hm boot_enumerate (bH (lQ (ha pos pins s σ H _ I h) λus s1=>qh λvs H1 I1 r1 q1=> ?_) hs rfl))
 try dsimp only at q1
 split at q1
 case h_2=>exact q1.elim
 rename_i l;obtain⟨⟨xs,hq⟩,q⟩:=q1
 cases r1 with
 |cons r rr=>
  cases rr
  cases r
  obtain⟨its,rv,pl,hz⟩:=I1.list hq;refine call_enumerate_list pl.isList λh' en li sz kp=> ?_;have I2:Inv X pins σ H1 {s1 with heap:=h'}:=I1.kept (t':=s1.toks) kp;refine wpAny_pyIter_enum en ?_;refine⟨s1.heap.objs.size+1,[s1.heap.objs.size+1,s1.heap.objs.size],_,_,H1,rfl,I2,Mh l _ _ (cK (fN _)),⟨⟨_,by exact_mod_cast en⟩,li⟩,λb hb=> ?_,q⟩;rcases List.mem_cons.mp hb with rfl|hb
  ·exact I1.LA (fm _) (I1.j5.fresh (fm _))
  ·rw[aA]at hb;subst hb;exact I1.LA (au _) (I1.j5.fresh (au _))
end
theorem Ff{K:ah}{a:Addr}{xs:List V}{ua:St}{tt:TT}{te:TE}{H:Hp}{Q:VK}(P:Nat->List V->Hp->Prop)(h0:P 0 [] H)(hS:∀i ys H',P i ys H'->jX K H' a xs)(hz:xs.length<=sizeLine)(hlen:∀i ys H',P i ys H'->ys.length<=i)
  (step:∀(i:Nat) x ys H',xs[i]? =some x->P i ys H'->∀p,H' p=none->∀K1:List V->Hp->Prop,(∀ys' H3,P (i+1) ys' H3->K1 ys' H3)->tt (some (.int i)::some x::ua) (upd H' p (.tup [.int i,x])) λb H2=>if b=true then te (some (.int i)::some x::ua) H2 (λy H3=>K1 (ys++[y]) H3) else K1 ys H2)
  (q:∀ys H',P xs.length ys H'->∀l,H' l=none->Q (.ref l) (upd H' l (.lst ys))):IH K (U6 K a) ua tt te H Q:=by
 refine⟨λi m ys H'=>P i ys H'/\i<=xs.length/\m=xs.length-i,⟨xs.length,h0,bh _,rfl⟩,λi m ys H' zq=> ?_⟩;obtain⟨hP,hi,em⟩:=zq;refine⟨av (av (hlen _ _ _ hP) hi) hz,?_⟩;have hS':=hS _ _ _ hP;by_cases z:i<xs.length
 ·have hx:xs[i]? =some xs[i]:=ab z;refine .inr ⟨⟨xs,xs[i],hS',hx⟩,λx H2 zq=> ?_⟩;obtain⟨p,y,hp,ex,eH,hy⟩:=zq;have ey:y=xs[i]:=by have:=hy xs hS';rw[hx]at this;exact(aM this).symm
  subst ex eH ey;refine⟨p,_,_,rfl,.inl (.inl iZ),?_⟩;exact step i _ ys H' hx hP p hp (λys' H3=>∃m',m'<m/\(P (i+1) ys' H3/\i+1<=xs.length/\m'=xs.length-(i+1))) λys' H3 h=>⟨_,by omega,h,z,rfl⟩
 ·have e:i=xs.length:=by lia
  subst e;exact .inl ⟨⟨xs,hS',au _⟩,q _ _ hP⟩
theorem rR{lo:Int}{n:Nat}{ua:St}{tt:TT}{te:TE}{H:Hp}{Q:VK}(P:Nat->List V->Hp->Prop)(h0:P 0 [] H)(hz:n<=sizeLine)(hlen:∀i ys H',P i ys H'->ys.length<=i)
  (step:∀(i:Nat) ys H',i<n->P i ys H'->∀K1:List V->Hp->Prop,(∀ys' H3,P (i+1) ys' H3->K1 ys' H3)->tt (some (.int (lo+i))::ua) H' λb H2=>if b=true then te (some (.int (lo+i))::ua) H2 (λy H3=>K1 (ys++[y]) H3) else K1 ys H2)
  (q:∀ys H',P n ys H'->∀l,H' l=none->Q (.ref l) (upd H' l (.lst ys))):pM (OK lo n) ua tt te H Q:=by
 refine⟨λi m ys H'=>P i ys H'/\i<=n/\m=n-i,⟨n,h0,bh _,rfl⟩,λi m ys H' zq=> ?_⟩;obtain⟨hP,hi,em⟩:=zq;refine⟨av (av (hlen _ _ _ hP) hi) hz,?_⟩;by_cases z:i<n
 ·refine .inr ⟨z,λx H2=>gE λe2 e3=> ?_⟩;rw[e2,e3];exact step i ys H' z hP (λys' H3=>∃m',m'<m/\(P (i+1) ys' H3/\i+1<=n/\m'=n-(i+1))) λys' H3 h=>⟨_,by omega,h,z,rfl⟩
 ·have e:i=n:=by lia
  subst e;exact .inl ⟨au _,q _ _ hP⟩
section
variable{X:Cx}
def MC:R2:=λx y H Q=>match x,y with
 | .ref a,.ref b=>(match H a,H b with
  |some (.tup xs),some (.tup ys)=>xs≠ []/\ys≠ []/\xs.length+ys.length<=sizeLine/\∀p,H p=none->Q (.ref p) (upd H p (.tup (xs++ys)))
  |_,_=>False)
 |_,_=>False
theorem Rj:nX X (binaryOp .Add) MC:=P9.mono λx y H Q h=>by
 unfold MC at h
 cases x<;>try exact h.elim
 rename_i a
 cases y<;>try exact h.elim
 rename_i b;dsimp only at h
 cases e1:H a<;>rw[e1]at h<;>try exact h.elim
 rename_i o
 cases o<;>try exact h.elim
 rename_i xs
 cases e2:H b<;>rw[e2]at h<;>try exact h.elim
 rename_i o
 cases o<;>try exact h.elim
 rename_i zs;exact⟨_,_,xs,zs,rfl,rfl,.of e1,.of e2,h.1,h.2.2.1,λz=>absurd z h.2.1,λ_=>h.2.2.2⟩
theorem Ro{K:ah}{e:Expr}{f:Str}{pos:Pos}{ta:TE}(hK:X.K=K)(he:PE X e ta)(hb:attributeBase e f X.env (eval e X.env)=eval e X.env):PE X (.Attribute e f pos) (Lp K ta f):=hK▸QO he hb
end
structure JE(X:Cx)(e:Expr)(t:TE):Prop where
 run:PE X e t
structure JT(X:Cx)(e:Expr)(t:TT):Prop where
 run:PT X e t
structure JW(X:Cx)(e:Expr)(t:TT):Prop where
 run:PW X e t
structure JA(X:Cx)(e:List Expr)(t:TA):Prop where
 run:PA X e t
structure JS(X:Cx)(e:Stmt)(t:TS):Prop where
 run:PS X e t
structure kN(X:Cx)(e:List Stmt)(t:TS):Prop where
 run:G1 X e t
structure JG(X:Cx)(e:Expr)(t:TG):Prop where
 run:PG X e t
structure U8(X:Cx)(e:List Expr)(t:OL):Prop where
 run:Tr X e t
structure JI(X:Cx)(tg e:Expr)(t:TI):Prop where
 run:PI X tg e t
structure JO(X:Cx)(e:Option Expr)(t:TO):Prop where
 run:PO X e t
structure Mq(X:Cx)(e:List Expr)(t:TT):Prop where
 run:E4 X e t
structure Aq(X:Cx)(f:Value->Value->Sem Value)(r:R2):Prop where
 run:nX X f r
structure Wq(X:Cx)(f:Value->Sem Value)(r:V->Hp->VK->Prop):Prop where
 run:Tu X f r
structure uc(X:Cx)(f:Value)(r:List V->Hp->VK->Prop):Prop where
 run:nB X f r
structure Vl(X:Cx)(r:R2):Prop where
 run:Te X r
structure Wo(X:Cx)(r:V->Option Int->Option Int->Hp->VK->Prop):Prop where
 run:Q7 X r
structure Tp(X:Cx)(t:Lm):Prop where
 run:OT X t
structure U9(X:Cx)(id:String)(r:V->List V->Hp->VK->Prop):Prop where
 run:Vm X id r
section
variable{X:Cx}{rest:List Expr}{lo hi:Option Expr}{id T:String}{op:Operator}{st:Stmt}{srest:List Stmt}{hrest:List ExceptHandler}
theorem iU(i:Nat){x:Str}{pos:Pos}(hN:X.N[i]? =some x:=by rfl)(hv:Vb X.env.scope x:=by first|exact Or.inl rfl|exact gA (Or.inl rfl)|exact gA (gA rfl))(hd:(x==("__debug__":Str))=false:=by decide)(hcd:(x==("__classdict__":Str))=false:=by decide):JE X (.Name x pos) (Fd i):=⟨cv i hN hv hd hcd⟩
theorem kE{x:Str}{v:V}{pos:Pos}(h:Gv X.mg x v)(hg:Gl X x:=by rfl)(hd:(x==("__debug__":Str))=false:=by decide):JE X (.Name x pos) (tC v):=⟨UM h hg hd⟩
theorem qm{x:Str}{T:String}{pos:Pos}(hm:X.mg x=none)(hv:bootBuiltins x=some (.type T))(hg:Gl X x:=by rfl)(hn:x≠"__name__":=by decide)(hd:(x==("__debug__":Str))=false:=by decide):JE X (.Name x pos) (tC (.ty T)):=⟨UP hm hv hg hn hd⟩
theorem nG{j pos}:JE X (.Constant .none j pos) (tC .kr):=⟨Sx⟩
theorem mD{b j pos}:JE X (.Constant (.bool b) j pos) (tC (.bl b)):=⟨UL⟩
theorem iX{i j pos}:JE X (.Constant (.int i) j pos) (tC (.int i)):=⟨Su⟩
theorem j3{x j pos}:JE X (.Constant (.str x) j pos) (tC (.str x)):=⟨SA⟩
theorem i5{op:Operator}{r:R2}(ho:Aq X (binaryOp op) r)(ha:JE X a ta)(hb:JE X b tb):JE X (.BinOp a op b pos) (Me r ta tb):=⟨UO ho.run ha.run hb.run⟩
theorem w_{op:UnaryOp}{r:V->Hp->VK->Prop}(ho:Wq X (unaryOp op) r)(ha:JE X a ta):JE X (.UnaryOp op a pos) (Wi r ta):=⟨UQ ho.run ha.run⟩
theorem Nv(ha:JE X a ta):JE X (.UnaryOp .Not a pos) (OB ta):=⟨Sy ha.run⟩
theorem rD(ha:JE X a ta)(hb:JE X (.BoolOp .And (b::rest) pos) tb):JE X (.BoolOp .And (a::b::rest) pos) (Oy ta tb):=⟨Ss ha.run hb.run⟩
theorem uo{op}{t:TE}(h:JE X a t):JE X (.BoolOp op [a] pos) t:=⟨Sz h.run⟩
theorem rE{op:CmpOp}{r:R2}(ho:Aq X (compareOp op) r)(ha:JE X a ta)(hb:JE X b tb)(hm:behindInMarks op b=false):JE X (.Compare a [op] [b] pos) (Me r ta tb):=⟨Qd ho.run ha.run hb.run hm⟩
theorem Jk{op op':CmpOp}{r r':R2}(ho:Aq X (compareOp op) r)(ho':Aq X (compareOp op') r')(ha:JE X a ta)(hb:JE X b tb)(hc:JE X c tc)(hm:lastMarks [op,op'] [b,c]=false:=by with_unfolding_all rfl):JE X (.Compare a [op,op'] [b,c] pos) (J0 r r' ta tb tc):=⟨NV ho.run ho'.run ha.run hb.run hc.run hm⟩
theorem kP(h:JA X es t):JE X (.List es pos) (S4 t):=⟨Sw h.run⟩
theorem oF{x1}(h:JA X es t):JE X (.Tuple es x1 pos) (S7 t):=⟨SD h.run⟩
theorem ma  :JE X (.Dict [] [] pos) J4:=⟨NX⟩
theorem Cj{r:V->Option Int->Option Int->Hp->VK->Prop}(hr:Wo X r)(he:JE X e te)(hl:JO X lo tl)(hu:JO X hi th):JE X (.Subscript e (.Slice lo hi none p2) pos) (Wg r te tl th):=⟨N3 hr.run he.run hl.run hu.run⟩
theorem nD(ho:JE X o td)(hi:JE X i ty)(hu:X.A.units+1<cLine:=by exact wW hr)(hs:Ms i:=by exact λ_ _=>rfl):JE X (.Subscript o i pos) (MD td ty):=⟨Rk hu ho.run hi.run hs⟩
theorem jH{r:R2}(hr:Vl X r)(ha:JE X a ta)(hb:JE X b tb)(hs:Kc b:=by exact λ_ _=>rfl):JE X (.Subscript a b pos) (Me r ta tb):=⟨UN hr.run ha.run hb.run hs⟩
theorem Cg(F:lZ X.prog X.w X.K X.mg X.base (tX X.prog X.w) ca k f fd ps sp)(hr:lO ca k X.A)(hg:Gl X x)(hm:X.mg x=some (.ref f))(hk:bo X.K (.ref f)=true)(hb:Binds X.K fd ps [])(hx:Exc X E)(ha:JA X (e::es) t)(hdb:(x==("__debug__":Str))=false:=by decide)(h:(e::es).all notStar=true:=by rfl):JE X (.Call (.Name x p) (e::es) [] pos) (A3 sp E t):=⟨HV F hr hg hm hk hb hx ha.run hdb h⟩
theorem mT(M:Mk X.K C f)(F:lZ X.prog X.w X.K X.mg X.base (tX X.prog X.w) ca k f fd ps sp)(hr:lO ca (k+1) X.A)(hg:Gl X x)(hm:X.mg x=some (.ref C))(hb:Binds X.K fd ps [])(hx:Exc X E)(ha:JA X (e::es) t)(hdb:(x==("__debug__":Str))=false:=by decide)(h:(e::es).all notStar=true:=by rfl):JE X (.Call (.Name x p) (e::es) [] pos) (A4 C sp E t):=⟨N0 M F hr hg hm hb hx ha.run hdb h⟩
theorem um(M:Mk X.K C f)(F:lZ X.prog X.w X.K X.mg X.base (tX X.prog X.w) ca k f fd ps sp)(hr:lO ca (k+1) X.A)(hg:Gl X x)(hm:X.mg x=some (.ref C))(hb:Binds X.K fd ps [])(hx:Exc X E)(hdb:(x==("__debug__":Str))=false:=by decide):JE X (.Call (.Name x p) [] [] pos) (A4 C sp E IB):=⟨L0 M F hr hg hm hb hx hdb⟩
theorem jo(hc:uc X (.builtin id) r)(hg:Gl X x)(hm:X.mg x=none)(hv:bootBuiltins x=some (.builtin id))(ha:JA X (e::es) t)(hn:x≠"__name__":=by decide)(hdb:(x==("__debug__":Str))=false:=by decide)(h:(e::es).all notStar=true:=by rfl):JE X (.Call (.Name x p) (e::es) [] pos) (S0 r t):=⟨LY hc.run hg hm hv ha.run hn hdb h⟩
theorem nE(hc:uc X (.type T) r)(hg:Gl X x)(hm:X.mg x=none)(hv:bootBuiltins x=some (.type T))(ha:JA X (e::es) t)(hn:x≠"__name__":=by decide)(hdb:(x==("__debug__":Str))=false:=by decide)(h:(e::es).all notStar=true:=by rfl):JE X (.Call (.Name x p) (e::es) [] pos) (S0 r t):=⟨Jy hc.run hg hm hv ha.run hn hdb h⟩
theorem AF{id:String}{name:Str}(slot:Slot "list" name id)(hty:typeOf (.builtin id)=pure (.type "method_descriptor"))(hm:U9 X id r)(ho:JE X o to)(ha:JA X (e::es) t)(hns:(e::es).all notStar=true:=by rfl)(hbase:attributeBase o name X.env (eval o X.env)=eval o X.env:=by rfl)(hfew:((backTo cpos (starEach (e::es) X.env)).all (λx=> !x.1)&&(backToKw cpos (keywordEach [] X.env)).all (λx=>x.1.isSome)
   &&decide ((e::es).length+([]:List Keyword).length+(if ([]:List Keyword).isEmpty then 0 else 1)<30))=true:=by rfl) (hline:(apos.endLine==cpos.line)=true:=by rfl):JE X (.Call (.Attribute o name apos) (e::es) [] cpos) (Vt r to t):=⟨Vx slot hty hm.run ho.run ha.run hns hbase hfew hline⟩
theorem jd(he:JE X e ta)(hb:attributeBase e f X.env (eval e X.env)=eval e X.env):JE X (.Attribute e f pos) (Lp X.K ta f):=⟨QO he.run hb⟩
theorem B9{K:ah}{e:Expr}{f:Str}{pos:Pos}{ta:TE}(hK:X.K=K)(he:JE X e ta)(hb:attributeBase e f X.env (eval e X.env)=eval e X.env):JE X (.Attribute e f pos) (Lp K ta f):=⟨Ro hK he.run hb⟩
theorem LK  :JO X none GP:=⟨Qj⟩
theorem Ce(h:JE X e te):JO X (some e) (MJ te):=⟨Ru h.run⟩
theorem iS  :JA X [] IB:=⟨Sr⟩
theorem iR(ha:JE X e te)(hr:JA X es t)(h:notStar e=true:=by rfl):JA X (e::es) (E1 te t):=⟨VZ ha.run hr.run h⟩
theorem jE(ha:JT X a tA):JT X (.UnaryOp .Not a pos) (S5 tA):=⟨SO ha.run⟩
theorem lJ{X:Cx}{e:Expr}{t:TT}(h:JW X e t):JT X e t:=⟨PW.pt h.run⟩
theorem jf{op:CmpOp}{r:R2}(ho:Aq X (compareOp op) r)(ha:JE X a ta)(hb:JE X b tb)(hm:behindInMarks op b=false):JT X (.Compare a [op] [b] pos) (IC (Me r ta tb)):=⟨Qo ho.run ha.run hb.run hm⟩
theorem jj(ha:JE X a ta)(he:∀whole,isTrue a X.env whole=(do let v←whole;standAt a.pos;holding [v] (truthy v))):JT X a (λσ H Q=>ta σ H λx H'=>∃k,Mu X.K x H' k/\Q k H'):=⟨Ob ha.run he⟩
theorem m7(ha:JT X a tA):JW X (.BoolOp .And [a] pos) tA:=⟨Qp ha.run⟩
theorem pR(ha:JT X a tA):JW X (.BoolOp .Or [a] pos) tA:=⟨SR ha.run⟩
theorem mN(ha:JT X a tA)(hb:JW X (.BoolOp .And (b::rest) pos) tB'):JW X (.BoolOp .And (a::b::rest) pos) (QI tA tB'):=⟨SQ ha.run hb.run⟩
theorem pe(ha:JT X a tA)(hb:JW X (.BoolOp .Or (b::rest) pos) tB'):JW X (.BoolOp .Or (a::b::rest) pos) (Wf tA tB'):=⟨US ha.run hb.run⟩
theorem jc  :kN X [] OA:=⟨Qm⟩
theorem iV(h1:JS X st t):kN X [st] t:=⟨Qn h1.run⟩
theorem iT(h1:JS X st t)(h2:kN X srest u):kN X (st::srest) (oj t u):=⟨Oa h1.run h2.run⟩
theorem ju{i:Nat}{x:Str}(hN:X.N.Nodup)(hi:X.N[i]? =some x)(hx:Loc X.env.scope x)(hf:X.fn x=true∨X.env.scope.names.lookup x=some .local:=by first|exact .inl rfl|exact .inr rfl|assumption):JG X (.Name x pos) (oE i):=⟨BI hN hi hx hf⟩
theorem i6(he:JE X e te):JS X (.Return (some e) pos) (S6 te):=⟨SM he.run⟩
theorem i9(he:JE X e te)(hs:swapsWith e none pos.line X.env=pure false:=by rfl):JS X (.Expr e pos) (Oz te):=⟨Qk he.run hs⟩
theorem jm{c:Expr}{a b:List Stmt}{tc:TT}(hc:JT X c tc)(ha:kN X a t)(hb:kN X b u):JS X (.If c a b pos) (IA tc t u):=⟨UR hc.run ha.run hb.run⟩
theorem je{i:Nat}{x:Str}{e:Expr}{te:TE}{pos':Pos}(hN:X.N.Nodup)(hi:X.N[i]? =some x)(hx:Loc X.env.scope x)(he:JE X e te)(hs:swapsWith e (some (.Name x pos')) pos.line X.env=pure false:=by rfl)(hf:X.fn x=true∨X.env.scope.names.lookup x=some .local:=by first|exact .inl rfl|exact .inr rfl|assumption):JS X (.Assign [.Name x pos'] e pos) (Iw te (oE i)):=⟨SN hN hi hx he.run hs hf⟩
theorem jP(ha:JE X o ta)(hv:JE X value tv)(hs:swapsWith value (some (.Attribute o f pos')) pos.line X.env=pure false):JS X (.Assign [.Attribute o f pos'] value pos) (MK X.K ta tv f):=⟨Rv ha.run hv.run hs⟩
theorem uk(hu:X.A.units+1<cLine)(ho:JE X o td)(hi:JE X i ty)(hv:JE X value tv)(hs:swapsWith value (some (.Subscript o i pos')) pos.line X.env=pure false):JS X (.Assign [.Subscript o i pos'] value pos) (MF td ty tv):=⟨Rm hu ho.run hi.run hv.run hs⟩
theorem rG{tg e:Expr}{te:TE}{g:TG}(he:JE X e te)(hg:JG X tg g)(hs:swapsWithSole [tg] e pos.line X.env=pure false:=by rfl)(hw:swappedStores [tg] e X.env=pure none:=by rfl)(h1:(assignEach [tg] X.env).map (·.2)=[assign tg X.env]:=by rfl):JS X (.Assign [tg] e pos) (Iw te g):=⟨SJ he.run hg.run hs hw h1⟩
theorem rF{o i:Expr}{to ti:TE}{t:Lm}(ho:JE X o to)(hi:JE X i ti)(hs:Tp X t)(ha:∀v,assign (.Subscript o i pos) X.env v=(do
   let ov←holding [v] (eval o X.env)
   let iv←holding [v,ov] (eval i X.env)
   standAt pos
   holding [v,ov,iv] (setItem ov iv v)
   release [v,ov,iv] []):=by intro _;rfl):JG X (.Subscript o i pos) (RL to ti t):=⟨SF ho.run hi.run hs.run ha⟩
theorem lG{a:Expr}{ta:TA}{p pos:Pos}(hg:Gl X "range")(hm:X.mg "range"=none)(ha:JA X [a] ta)(hs:starEach [a] X.env=[(false,eval a X.env)]:=by rfl):JI X tg (.Call (.Name "range" p) [a] [] pos) (Nl ta):=⟨L6 hg hm ha.run hs⟩
theorem Ht{a b:Expr}{ta:TA}{p pos:Pos}(hg:Gl X "range")(hm:X.mg "range"=none)(ha:JA X [a,b] ta)(hs:starEach [a,b] X.env=[(false,eval a X.env),(false,eval b X.env)]:=by rfl)(hs2:starEach [b] X.env=[(false,eval b X.env)]:=by rfl):JI X tg (.Call (.Name "range" p) [a,b] [] pos) (Nm ta):=⟨L7 hg hm ha.run hs hs2⟩
theorem nZ  :U8 X [] Nb:=⟨K0⟩
theorem jY{e:Expr}{es:List Expr}{t:TG}{u:OL}(h1:JG X e t)(h2:U8 X es u)(hs:(assignEach (e::es) X.env).map (·.2)=assign e X.env::(assignEach es X.env).map (·.2):=by rfl):U8 X (e::es) (A8 t u):=⟨CN h1.run h2.run hs⟩
theorem jD{l:Expr}{tl:TE}(hl:JE X l tl):JI X tg l (Nk X.K tl):=⟨Qi hl.run⟩
theorem vj{elts:List Expr}{k:Nat}{tpos:Pos}{a:Expr}{ta:TA}{p pos:Pos}(hg:Gl X "enumerate")(hm:X.mg "enumerate"=none)(ha:JA X [a] ta)(hs:starEach [a] X.env=[(false,eval a X.env)]:=by rfl):JI X (.Tuple elts k tpos) (.Call (.Name "enumerate" p) [a] [] pos) (Nj X.K ta):=⟨Qh hg hm ha.run hs⟩
theorem jR{iter:Expr}{body:List Stmt}{wi:TI}{g:TG}{tb:TS}{pos:Pos}(hp:PassesOwn (model X.prog X.w) X.A X.env X.xe)(hc:X.calm=true)(hi:JI X tg iter wi)(hg:JG X tg g)(hb:kN X body tb)(hs:∀x,foldedSetIterable iter X.env x=pure x:=by intro _;rfl):JS X (.For tg iter body [] pos) (S1 wi g tb):=⟨SK hp hc hi.run hg.run hb.run hs⟩
theorem lz{x:Str}{elt iter:Expr}{px pos:Pos}{ifs:List Expr}{wi:TI}{tt:TT}{te:TE}(S:nW fsc scope [x] N2)(hf:X.env.scope=fsc)(hjs:js.map (λj=>X.N[j]?)=N2.map some)(hc:X.calm=true)(hi:JI X (.Name x px) iter wi)(ht:∀s H C ex,Mq (X.wI scope (x::N2) [x] s H C ex) ifs tt)(he:∀s H C ex,JE (X.wI scope (x::N2) [x] s H C ex) elt te)(hs:∀v,foldedSetIterable iter X.env v=pure v:=by intro _;rfl):JE X (.ListComp elt [⟨.Name x px,iter,ifs,0⟩] scope pos) (Iz js wi tt te):=⟨Qe S hf hjs hc hi.run (λs H C ex=>(ht s H C ex).run) (λs H C ex=>(he s H C ex).run) hs⟩
theorem Jm{x1 x2:Str}{elt iter:Expr}{p1 p2 pt pos:Pos}{k:Nat}{ifs:List Expr}{wi:TI}{tt:TT}{te:TE}(S:nW fsc scope [x1,x2] N2)(hf:X.env.scope=fsc)(hjs:js.map (λj=>X.N[j]?)=N2.map some)(hc:X.calm=true)(hi:JI X (.Tuple [.Name x1 p1,.Name x2 p2] k pt) iter wi)(ht:∀s H C ex,Mq (X.wI scope (x1::x2::N2) [x1,x2] s H C ex) ifs tt)(he:∀s H C ex,JE (X.wI scope (x1::x2::N2) [x1,x2] s H C ex) elt te)(hs:∀v,foldedSetIterable iter X.env v=pure v:=by intro _;rfl):JE X (.ListComp elt [⟨.Tuple [.Name x1 p1,.Name x2 p2] k pt,iter,ifs,0⟩] scope pos) (J3 X.K js wi tt te):=⟨NW S hf hjs hc hi.run (λs H C ex=>(ht s H C ex).run) (λs H C ex=>(he s H C ex).run) hs⟩
theorem mE{x:Str}{elt iter:Expr}{px py pos spos:Pos}{ifs:List Expr}{wi:TI}{tt:TT}{te:TE}{i:Nat}{y:Str}(hN:X.N.Nodup)(hy:X.N[i]? =some y)(hl:Loc X.env.scope y)(S:nW fsc scope [x] N2)(hf:X.env.scope=fsc)(hjs:js.map (λj=>X.N[j]?)=N2.map some)(hc:X.calm=true)(hi:JI X (.Name x px) iter wi)(ht:∀s H C ex,Mq (X.wI scope (x::N2) [x] s H C ex) ifs tt)(he:∀s H C ex,JE (X.wI scope (x::N2) [x] s H C ex) elt te)(hs:∀v,foldedSetIterable iter X.env v=pure v:=by intro _;rfl)(hsw:swapsWith (.ListComp elt [⟨.Name x px,iter,ifs,0⟩] scope pos) (some (.Name y py)) spos.line X.env=pure true:=by rfl)(hfn:X.fn y=true∨X.env.scope.names.lookup y=some .local:=by first|exact .inl rfl|exact .inr rfl|assumption):JS X (.Assign [.Name y py] (.ListComp elt [⟨.Name x px,iter,ifs,0⟩] scope pos) spos) (Iw (Iz js wi tt te) (oE i)):=⟨Jz hN hy hl S hf hjs hc hi.run (λs H C ex=>(ht s H C ex).run) (λs H C ex=>(he s H C ex).run) hs hsw hfn⟩
theorem pQ{es:List Expr}{k:Nat}{t:OL}{n:Nat}(hc:X.calm=true)(h:U8 X es t)(hn:(assignEach es X.env).length=n:=by rfl)(hst:(assignEach es X.env).findIdx? (·.1)=none:=by rfl):JG X (.Tuple es k pos) (PF X.K n t):=⟨N5 hc h.run hn hst⟩
theorem lq{X:Cx}:Mq X [] QK:=⟨N7⟩
theorem me{X:Cx}{c:Expr}{tt:TT}(h:JT X c tt):Mq X [c] tt:=⟨N8 h.run⟩
theorem jy  :Aq X (binaryOp .Add) O8:=⟨TL⟩
theorem oo  :Aq X (binaryOp .Sub) Pn:=⟨T8⟩
theorem qk  :Aq X (binaryOp .Mult) Ph:=⟨T1⟩
theorem jU  :Aq X (binaryOp .FloorDiv) G9:=⟨Rn⟩
theorem j6  :Aq X (binaryOp .Mod) MI:=⟨TZ⟩
theorem Cc  :Aq X (compareOp .Lt) Vv:=⟨VC⟩
theorem Ca  :Aq X (compareOp .LtE) Vu:=⟨VB⟩
theorem B_  :Aq X (compareOp .Gt) Vd:=⟨Vy⟩
theorem l9  :Aq X (compareOp .Eq) TJ:=⟨TN⟩
theorem Cd  :Aq X (compareOp .NotEq) TK:=⟨T2⟩
theorem FD  :Aq X (compareOp .Is) Ve:=⟨Vz⟩
theorem LJ  :Aq X (compareOp .IsNot) IQ:=⟨Pp⟩
theorem wZ  :Wq X (unaryOp .USub) Pl:=⟨T5⟩
theorem KJ  :Aq X (binaryOp .Mult) Pm:=⟨T6⟩
theorem jV  :Vl X Vf:=⟨VA⟩
theorem PN  :Vl X (Pf X.K):=⟨TX⟩
theorem kU  :uc X (.builtin "len") Pg:=⟨TY⟩
theorem Nt  :uc X (.builtin "len") (Kk X.K):=⟨Rq⟩
theorem l_{X:Cx}:uc X (.builtin "isinstance") (Qs X.K):=⟨MT⟩
theorem Nu  :Wo X Vh:=⟨VD⟩
theorem vi  :Tp X Km:=⟨T7⟩
theorem rZ  :U9 X "list.append" Bw:=⟨ML⟩
theorem Cb  :uc X (.type "list") Kl:=⟨Rr⟩
theorem FA(hu:X.A.units+8<cLine):Aq X (compareOp .Eq) Fc:=⟨G_ hu⟩
theorem FE(hu:X.A.units+8<cLine):Aq X (compareOp .NotEq) Lq:=⟨MP hu⟩
theorem vR{c:Expr}{body:List Stmt}{tc:TT}{tb:TS}(hp:PassesOwn (model X.prog X.w) X.A X.env X.xe)(hc:JT X c tc)(hb:kN X body tb):JS X (.While c body [] pos) (OC tc tb):=⟨N_ hp hc.run hb.run⟩
theorem PL  :Aq X (binaryOp .Add) O9:=⟨TM⟩
theorem Jn(hc:X.calm=true)(hgl:Gl X "list")(hml:X.mg "list"=none)(hgr:Gl X "range")(hmr:X.mg "range"=none)(ha:JA X [a,b] ta)(hs:starEach [a,b] X.env=[(false,eval a X.env),(false,eval b X.env)]:=by rfl)(hs2:starEach [b] X.env=[(false,eval b X.env)]:=by rfl):JE X (.Call (.Name "list" p) [.Call (.Name "range" p2) [a,b] [] pos2] [] pos) (IT ta):=⟨NY hc hgl hml hgr hmr ha.run hs hs2⟩
theorem PM(hu:X.A.units+1<cLine):Aq X (compareOp .In) Pd:=⟨TV hu⟩
theorem Ji(hu:X.A.units+1<cLine):Aq X (compareOp .NotIn) Bz:=⟨MQ hu⟩
theorem Nq(ho:JE X o td)(he:JE X e ty)(m:M1 X o "pop" apos e cpos):JE X (.Call (.Attribute o "pop" apos) [e] [] cpos) (ME td ty):=⟨Rl ho.run he.run m⟩
theorem Nr  :uc X (.builtin "len") Kj:=⟨Rp⟩
theorem Jg  :U9 X "list.extend" Bx:=⟨MN⟩
theorem Cf  :uc X (.builtin "sorted") BA:=⟨MS⟩
theorem Ho(hc:X.calm=true):uc X (.builtin "sorted") wM:=⟨Lr hc⟩
theorem Np  :Aq X (binaryOp .Add) MC:=⟨Rj⟩
end
section
variable{X:Cx}{scope:Scope}{N2:List Str}{x:List Str}{s:Shared}{Hb:Hp}{C:Addr}{ex:List Addr}
theorem Nw{a:Expr}{ta:TE}(ha:JE (X.wI scope N2 x s Hb C ex) a ta)(he:∀whole,isTrue a (X.wI scope N2 x s Hb C ex).env whole=(do let v←whole;standAt a.pos;holding [v] (truthy v))):JT (X.wI scope N2 x s Hb C ex) a (λσ H Q=>ta σ H λx H'=>∃k,Mu X.K x H' k/\Q k H'):=jj ha he
end
variable{X:Cx}
section
variable{X:Cx}{pins:List (Addr×Obj)}{σ:St}{H:Hp}{s:Shared}{h':Heap}
theorem Inv.Li{t':Nat}{ch:List Addr}(I:Inv X pins σ H s)(k:∀b o,b∉ch->s.heap.get? b=some o->h'.get? b=some o)(f:∀b∈ch,wK X pins H b):Inv X pins σ H {s with heap:=h',toks:=t'}:=by
 have nit:∀b u,H b=some u->b∉ch:=λb u e z=>by rw[(f b z).1]at e;cases e
 refine I.step (g':=s.gens) (d':=s.drawn) (ch:=ch) (λb hb=> ?_) (λb o _ _ hc e _=>k b o hc e) (λb o _ _ hc e _=>⟨o.slots,k b o hc e⟩) (λ_ _ _ _ n=>n)
  (λb o hc e=>⟨o,k b o hc e⟩) (λ_ _ e=>e) (λ_ _ _ e=>e) (λb ps e=>⟨#[],by rw[e];simp⟩) (λm hm=> ?_) (λb u e=> ?_) I.bare
 ·obtain⟨hn,hL,_,h1,h2,h3⟩:=f b hb;exact⟨h1,hL,h2,h3⟩
 ·obtain⟨o,es,ep,ho,r⟩:=hm;exact⟨o,es,ep,k _ o (λz=>(f _ z).2.1 rfl) ho,r⟩
 ·refine(I.j5 b u e).vv (λc v hc q=>k c v ?_ q) (λ_ q=>q) λ_ _ q=>q;rcases hc with z|z
  ·rw[z];exact nit b u e
  ·exact nit c _ z
end
noncomputable def U7 (K:ah) (a b:Addr):It:=
 ⟨λi H=>∃xs x ys y,jX K H a xs/\xs[i]? =some x/\jX K H b ys/\ys[i]? =some y,λi H x H'=>∃p u v,H p=none/\x= .ref p/\H'=upd H p (.tup [u,v])/\(∀xs,jX K H a xs->xs[i]? =some u)/\∀ys,jX K H b ys->ys[i]? =some v,
  λi H=>∃xs ys,jX K H a xs/\jX K H b ys/\(xs.length<=i∨ys.length<=i)⟩
theorem OD{P:Program}{w:World}{K:ah}{elts:List Expr}{k:Nat}{pos:Pos}(a b z TI TO i1 i2:Addr)(D:ZipApart z TI TO i1 i2 a b):
  Turn P w K (.Tuple elts k pos) (U7 K a b) [z,TI,TO,i1,i2] z (λi h=>IsZip h z TI TO .none/\IsPair h TI (.ref i1) (.ref i2)/\(∃c d,IsPair h TO c d)/\h.IsListIter i1 a i/\h.IsListIter i2 b i) where
 mem:=by simp
 obj:=λi h st c hc=>by
  obtain⟨hz,hTI,⟨_,_,hTO⟩,l1,l2⟩:=st;simp only[a_,aI,or_false]at hc;rcases hc with rfl|rfl|rfl|rfl|rfl
  ·exact⟨_,hz,λv z=>by cases z⟩
  ·exact⟨_,hTI,λv z=>by cases z⟩
  ·exact⟨_,hTO,λv z=>by cases z⟩
  ·obtain⟨o,e,c,d⟩:=l1;exact⟨o,e,λv z=>by rw[d]at z;cases z⟩
  ·obtain⟨o,e,c,d⟩:=l2;exact⟨o,e,λv z=>by rw[d]at z;cases z⟩
 keep:=λi h h' st k=>by
  obtain⟨hz,hTI,⟨c,d,hTO⟩,l1,l2⟩:=st;exact⟨k z (by simp) _ hz,k TI (by simp) _ hTI,⟨c,d,k TO (by simp) _ hTO⟩,l1.at λo e=>k i1 (by simp) o e,l2.at λo e=>k i2 (by simp) o e⟩
 item:=by
  intro X hP hw hK hc i pins s σ H E I hf st hg;subst hP hw hK;obtain⟨xs,x,ys,y,hq,hx,hq2,hy⟩:=hg;obtain⟨its,rv,p,hzl⟩:=I.list hq;obtain⟨u,hu,ru⟩:=rv.get hx;obtain⟨its2,rv2,p2,hzl2⟩:=I.list hq2;obtain⟨v,hv,rv'⟩:=rv2.get hy;obtain⟨hz,hTI,⟨c0,d0,hTO⟩,l1,l2⟩:=st;refine wpAny_pyNext_zip_item D hz hTI hTO l1 l2 p.isList p2.isList (x:=u) (y:=v) (by simpa using hu) (by simpa using hv) λh' z1 to1 l1' l2' tup sz kp=> ?_;refine⟨_,rfl,wpAny_letOwnedTupleGo_zip z1 λh2 z2 sb2=> ?_⟩;have hT:∀b o,s.heap.get? b=some o->s.heap.objs.size≠b:=λb o eb=>cK (aC eb);have nT:∀b∈ [z,TI,TO,i1,i2],b≠s.heap.objs.size:=λb hb=>by
   simp only[a_,aI,or_false]at hb;rcases hb with rfl|rfl|rfl|rfl|rfl
   ·exact aj (hT _ _ hz)
   ·exact aj (hT _ _ hTI)
   ·exact aj (hT _ _ hTO)
   ·obtain⟨o,e,_⟩:=l1;exact aj (hT _ _ e)
   ·obtain⟨o,e,_⟩:=l2;exact aj (hT _ _ e)
  have I1:Inv X pins σ H {s with heap:=h2,toks:=s.toks}:=I.Li (ch:=[z,TI,TO,i1,i2]) (λb o nb eb=>(sb2.2 b (λq=>nb (by rw[q];simp))).trans (kp b o (λq=>nb (by rw[q];simp)) (λq=>nb (by rw[q];simp)) (λq=>nb (by rw[q];simp)) (λq=>nb (by rw[q];simp)) eb)) hf;have hf0:H s.heap.objs.size=none:=I.j5.fresh (au _);have tup2:h2.get? s.heap.objs.size=some {cls:=fI "tuple",data:=iw #[u,v]}:=(sb2.2 _ (aj (nT z (by simp)))).trans tup;have h0:X.s₀.heap.get? s.heap.objs.size=none:=by
   cases e:X.s₀.heap.get? s.heap.objs.size with
   |none=>rfl
   |some o=>exact absurd (ax (aC e) I.sz) (bD _)
  have I2:=I1.adopt (a:=s.heap.objs.size) (o:= .tup [x,y]) hf0 ⟨show 2<=sizeLine by decide,[u,v],.cons ru (.cons rv' .nil),⟨_,tup2,rfl,_,rfl⟩⟩ h0 (cK I.lt) (λq c ec zq=>by
    obtain⟨v',o,eo,_⟩:=I.cell q c ec;exact hT c o eo zq.symm) λp hp zq=>hT p.1 p.2 (I.pin p hp).1 zq.symm
  refine⟨.ref s.heap.objs.size,_,I2,rfl,⟨_,x,y,hf0,rfl,rfl,λzs hzs=>by rw[I.y_ hzs hq];exact hx,λzs hzs=>by rw[I.y_ hzs hq2];exact hy⟩,⟨z2,(sb2.2 TI D.TIz).trans (kp TI _ D.TIz D.TITO D.TIi1 D.TIi2 hTI),⟨u,v,(sb2.2 TO D.TOz).trans to1⟩,l1'.at λo eo=>(sb2.2 i1 D.i1z).trans eo,l2'.at λo eo=>(sb2.2 i2 D.i2z).trans eo⟩,λb hb=> ?_⟩;rw[i4 (nT b hb)];exact(hf b hb).1
 done:=by
  intro X hP hw hK hc i pins s σ H E I hf st hg;subst hP hw hK;obtain⟨xs,ys,hq,hq2,hx⟩:=hg;obtain⟨its,rv,p,hzl⟩:=I.list hq;obtain⟨its2,rv2,p2,hzl2⟩:=I.list hq2;obtain⟨hz,hTI,⟨c0,d0,hTO⟩,l1,l2⟩:=st;have e1:=rv.length;have e2:=rv2.length;refine wpAny_pyNext_zip_end (I.ok.hd hc) D hz hTI hTO l1 l2 p.isList p2.isList (by
   rcases hx with hx|hx
   ·left;simp;lia
   ·right;simp;lia) λh' kp=>⟨rfl,?_⟩
  exact I.Li (t':=s.toks) (ch:=[z,TI,TO,i1,i2]) (λb o nb eb=>kp b o (λq=>nb (by rw[q];simp)) (λq=>nb (by rw[q];simp)) (λq=>nb (by rw[q];simp)) (λq=>nb (by rw[q];simp)) eb) hf
 self:=λ_ _ _ _ _ st h=>wpAny_pyIter_zip st.1 h
def RN(K:ah)(ta:TA):TI:=λσ H R=>ta σ H λvs H1=>match vs with
 | [.ref a,.ref b]=>(∃xs,jX K H1 a xs)/\(∃xs,jX K H1 b xs)/\R (U7 K a b) H1
 |_=>False
section
variable{X:Cx}
theorem SH{elts:List Expr}{k:Nat}{tpos:Pos}{a b:Expr}{ta:TA}{p pos:Pos}(hg:Gl X "zip")(hm:X.mg "zip"=none)(ha:PA X [a,b] ta)(hs:starEach [a,b] X.env=(false,eval a X.env)::starEach [b] X.env:=by rfl)(hs2:(backTo pos (starEach [b] X.env)).any (·.1)=false:=by rfl):
  PI X (.Tuple elts k tpos) (.Call (.Name "zip" p) [a,b] [] pos) (RN X.K ta):=by
 intro pins s σ H R I h;refine Call_ (r9 I hg hm PyProof.Rows.Boot.«zip» (bH (lQ (ha pos pins s σ H _ I h) λus s1=>qh λvs H1 I1 r1 q1=> ?_) hs hs2))
 try dsimp only at q1
 rcases vs with _|⟨x,vs⟩<;>try exact q1.elim
 cases x<;>try exact q1.elim
 rename_i l1;rcases vs with _|⟨y,vs⟩<;>try exact q1.elim
 cases y<;>try exact q1.elim
 rename_i l2;rcases vs with _|⟨z,vs⟩<;>try exact q1.elim
 obtain⟨⟨xs,hq⟩,⟨ys,hq2⟩,q⟩:=q1
 cases r1 with
 |cons r rr=>
  cases rr with
  |cons r' rr'=>
   cases rr'
   cases r
   cases r'
   obtain⟨its,rv,pl,hz⟩:=I1.list hq;obtain⟨its2,rv2,pl2,hz2⟩:=I1.list hq2;refine call_zip_2 pl.isList pl2.isList λh' z1 ti to li1 li2 sz kp=> ?_;have I2:Inv X pins σ H1 {s1 with heap:=h'}:=I1.kept (t':=s1.toks) kp;refine wpAny_pyIter_zip z1 ?_;have n1:l1<s1.heap.objs.size:=by obtain⟨o,e,_⟩:=pl.isList;exact aC e
   have n2:l2<s1.heap.objs.size:=by obtain⟨o,e,_⟩:=pl2.isList;exact aC e
   have D:∀n:Nat,l1<n->l2<n->ZipApart (n+4) (n+2) (n+3) n (n+1) l1 l2:=λn h1 h2=>
    ⟨aJ (by lia),aJ (by lia),aJ (by lia),aJ (by lia),aJ (by lia),cK (by lia),cK (by lia),cK (by lia),cK (by lia),aJ (by lia),
     aJ (ax h1 (bF n 4)),aJ (ax h1 (bF n 3)),aJ (ax h1 (bF n 0)),aJ (ax h1 (bF n 1)),aJ (ax h2 (bF n 4)),aJ (ax h2 (bF n 3)),aJ (ax h2 (bF n 0)),aJ (ax h2 (bF n 1))⟩
   refine⟨s1.heap.objs.size+4,[s1.heap.objs.size+4,s1.heap.objs.size+2,s1.heap.objs.size+3,s1.heap.objs.size,s1.heap.objs.size+1],_,_,H1,rfl,I2,OD l1 l2 (s1.heap.objs.size+4) (s1.heap.objs.size+2) (s1.heap.objs.size+3) s1.heap.objs.size (s1.heap.objs.size+1) (D _ n1 n2),⟨z1,ti,⟨_,_,to⟩,li1,li2⟩,λb hb=> ?_,q⟩;have hb':s1.heap.objs.size<=b:=by
    simp only[a_,aI,or_false]at hb;rcases hb with rfl|rfl|rfl|rfl|rfl
    ·exact bF _ _
    ·exact bF _ _
    ·exact bF _ _
    ·exact au _
    ·exact bF _ _
   exact I1.LA hb' (I1.j5.fresh hb')
end
theorem Hu{X:Cx}{elts:List Expr}{k:Nat}{tpos:Pos}{a b:Expr}{ta:TA}{p pos:Pos}(hg:Gl X "zip")(hm:X.mg "zip"=none)(ha:JA X [a,b] ta)(hs:starEach [a,b] X.env=(false,eval a X.env)::starEach [b] X.env:=by rfl)(hs2:(backTo pos (starEach [b] X.env)).any (·.1)=false:=by rfl):JI X (.Tuple elts k tpos) (.Call (.Name "zip" p) [a,b] [] pos) (RN X.K ta):=⟨SH hg hm ha.run hs hs2⟩
theorem j8.zip{K:ah}{a b:Addr}{xs ys:List V}{g:TG}{tb:TS}{D:Ends}{σ:St}{H:Hp}(Pv:Nat->St->Hp->Prop)(hlen:xs.length=ys.length)(h0:Pv 0 σ H)(hl:∀i σ H,i<=xs.length->Pv i σ H->jX K H a xs/\jX K H b ys)
  (hs:∀i x y σ H p,xs[i]? =some x->ys[i]? =some y->Pv i σ H->H p=none->g (.ref p) σ (upd H p (.tup [x,y])) λσ2 H2=>tb {D with nx:=Pv (i+1),ct:=Pv (i+1),bk:=D.nx} σ2 H2) (hd:∀σ H,Pv xs.length σ H->D.nx σ H):j8 (U7 K a b) g tb D σ H:=by
 refine⟨λi m σ H=>Pv i σ H/\i<=xs.length/\m=xs.length-i,⟨_,h0,bh _,rfl⟩,λi m σ H zq=> ?_⟩;obtain⟨hP,hi,hm⟩:=zq;obtain⟨sa,sb⟩:=hl i σ H hi hP;by_cases z:i<xs.length
 ·have ex:xs[i]? =some xs[i]:=ab z;have ey:ys[i]? =some (ys[i]'(by omega)):=ab (by omega);refine .inr ⟨⟨xs,_,ys,_,sa,ex,sb,ey⟩,Pv (i+1),λσ' H' hN=>⟨xs.length-(i+1),by lia,hN,z,rfl⟩,?_⟩;rintro x H' ⟨p,u,v,hp,rfl,rfl,hu,hv⟩;exact hs i u v σ H p (hu xs sa) (hv ys sb) hP hp
 ·have e:i=xs.length:=by lia
  subst e;exact .inl ⟨⟨xs,ys,sa,sb,.inl (au _)⟩,hd σ H hP⟩
noncomputable def Pb:R2:=λx y H Q=>match x,y with
 | .ref a,.ref b=>(match H a,H b with
  |some (.dK ka),some (.dK [])=>Q (.bl ka.isEmpty) H
  |_,_=>Fc (.ref a) (.ref b) H Q)
 | .bl a,.int b=>Q (.bl ((if a then 1 else 0)==b)) H
 |x,y=>Fc x y H Q
theorem TR{X:Cx}(hu:X.A.units+8<cLine):nX X (compareOp .Eq) Pb:=by
 intro pins s σ H x y v u Q I rx ry h;unfold Pb at h
 split at h
 ·rename_i a b
  split at h
  ·rename_i ka ea eb
   cases (show v=aL a from rx)
   cases (show u=aL b from ry)
   obtain⟨z,hd,vs,rel,dd⟩:=BW I.j5 ea;obtain⟨z2,hd2,vs2,rel2,dd2⟩:=BW I.j5 eb;have l1:=rel.length;have l2:=rel2.length;have e2:vs2=[]:=List.length_eq_zero_iff.mp l2.symm;subst e2;refine PySem.W.keq_eq (r:=true) hd hd2 dd dd2 (by lia) (λe=> ?_) ⟨.bl _,H,I,rfl,?_⟩
   ·have:vs=[]:=List.length_eq_zero_iff.mp e;subst this;exact .nil
   ·have e:(vs.length==([]:List (Key×Value)).length&&true)=ka.isEmpty:=by
     rw[←l1,gK];cases ka<;>rfl
    rw[e];exact h
  ·exact G_ hu pins s σ H _ _ v u Q I rx ry h
 ·obtain⟨t,rfl⟩:=ry
  cases rx
  exact iL ⟨.bl _,H,I,rfl,h⟩
 ·exact G_ hu pins s σ H _ _ v u Q I rx ry h
theorem FC{X:Cx}(hu:X.A.units+8<cLine):Aq X (compareOp .Eq) Pb:=⟨TR hu⟩
section
variable{X:Cx}{pins:List (Addr×Obj)}{σ:St}{H:Hp}{s:Shared}{d:Addr}{kvs:List (Key×V)}
theorem Ta{fs ex:List Addr}{H0 H:Hp}{h h':Heap}{u v:HO}(n:Un fs ex H0 H h h')(e:H d=some u)(h1:∀xs,u≠ .tup xs)(h2:∀o x,H0 d≠some (.rV o x))(h3:∀ps,u≠ .vN ps):Un fs ex H0 (upd H d v) h h' where
 keep:=n.keep
 slot:=n.slot
 there:=n.there
 free:=λb o e1 e2 e3=>by
  have:=n.free b o e1 e2 e3;rw[i4 (aj (iY e this))];exact this
 vx:=λb xs e1=>by
  have:=n.vx b xs e1;rw[i4 (λz=>by subst z;rw[e]at this;exact h1 _ (aM this))];exact this
 tV:=λb o x e1=>by
  have:=n.tV b o x e1;rw[i4 (λz=>by subst z;exact h2 _ _ e1)];exact this
 vf:=λb ps e1=>by
  obtain⟨m,this⟩:=n.vf b ps e1;exact⟨m,by rw[i4 (λz=>by subst z;rw[e]at this;exact h3 _ (aM this))];exact this⟩
theorem KD{u v:HO}(I:Inv X pins σ H s)(e:H d=some u)(h1:∀xs,u≠ .tup xs)(h2:∀o x,X.H₀ d≠some (.rV o x))(h3:∀ps,u≠ .vN ps)(h4:∀a,u≠ .own a)
  (ok:kO X.prog X.w (upd H d v) s.heap d v):Inv X pins σ (upd H d v) s where
 ok:=I.ok
 os:=I.os
 bare:=I.bare
 base:=Ta I.base e h1 h2 h3
 loc:=I.loc
 cell:=I.cell
 free:=by rw[i4 (aj (iY e I.free))];exact I.free
 o6:=λx c hc=>by rw[i4 (aj (iY e (I.o6 x c hc)))];exact I.o6 x c hc
 pin:=λp hp=>by
  obtain⟨a1,a2,a3⟩:=I.pin p hp;exact⟨a1,by rw[i4 (aj (iY e a2))];exact a2,a3⟩
 len:=I.len
 j5:=λb o eb=>by
  by_cases z:b=d
  ·subst z;rw[iZ]at eb;cases eb;exact ok
  ·rw[i4 z]at eb;exact(I.j5 b o eb).vv (λ_ _ _ q=>q) (λc q=>by rw[i4 (λz=>by subst z;rw[e]at q;exact h4 _ (aM q))];exact q) λc xs q=>by rw[i4 (λz=>by subst z;rw[e]at q;exact h1 _ (aM q))];exact q
theorem PK(I:Inv X pins σ H s)(e:H d=some (.dK kvs)):(∀o x,X.H₀ d≠some (.rV o x))/\∃o,Inv X pins σ (upd H d (.rV o (.dK kvs))) s:=by
 have h2:∀o x,X.H₀ d≠some (.rV o x):=λo x z=>by have:=I.base.tV d o x z;rw[e]at this;cases this
 have ok:kO X.prog X.w H s.heap d (.dK kvs):=I.j5 d _ e;obtain⟨z,y,vs,r,ob,es,ep,q0⟩:=id ok;refine⟨h2,ob,KD I e (λ_ z=>by cases z) h2 (λ_ z=>by cases z) (λ_ z=>by cases z) ⟨q0.1,?_⟩⟩;exact ok.vv (λ_ _ _ q=>q) (λc q=>by rw[i4 (λz=>by subst z;rw[e]at q;cases q)];exact q) λc xs q=>by rw[i4 (λz=>by subst z;rw[e]at q;cases q)];exact q
theorem wX{o:Obj}(I:Inv X pins σ H s)(h2:∀o x,X.H₀ d≠some (.rV o x))(e:H d=some (.rV o (.dK kvs))):Inv X pins σ (upd H d (.dK kvs)) s:=by
 have ok:=(I.j5 d _ e).2;exact KD I e (λ_ z=>by cases z) h2 (λ_ z=>by cases z) (λ_ z=>by cases z) (ok.vv (λ_ _ _ q=>q) (λc q=>by rw[i4 (λz=>by subst z;rw[e]at q;cases q)];exact q) λc xs q=>by rw[i4 (λz=>by subst z;rw[e]at q;cases q)];exact q)
end
section
variable{X:Cx}
noncomputable def Vk (d:Addr) (o:Obj) (kvs:List (Key×V)):It:=
 ⟨λi H=>H d=some (.rV o (.dK kvs))/\i<kvs.length,λi H x H'=>H'=H/\∃kv,kvs[i]? =some kv/\x=kV kv.1,λi H=>H d=some (.rV o (.dK kvs))/\kvs.length<=i⟩
theorem RS{P:Program}{w:World}{k:Key}{u:Value}(h:(j7 P w).is k u=true):RelV (kV k) u:=by
 rcases kf (show uq k u=true from h) with ⟨i,t,rfl,rfl⟩|⟨x,t,rfl,rfl⟩
 ·exact⟨t,rfl⟩
 ·exact⟨t,rfl⟩
theorem Mg{P:Program}{w:World}{K:ah}{tg:Expr}{o:Obj}{kvs:List (Key×V)}{n ep:Nat}(d it:Addr)(hn:n=kvs.length)(hep:∃es,o.data= .dict es ep):Turn P w K tg (Vk d o kvs) [it] it (λi h=>h.IsKeyIter it d i n ep) where
 mem:=by simp
 obj:=λi h st b hb=>by
  have e:b=it:=by simpa using hb
  subst e;obtain⟨o,e,c,d⟩:=st;exact⟨o,e,λv z=>by rw[d]at z;cases z⟩
 keep:=λi h h' st k=>by
  obtain⟨o,e,c⟩:=st;exact⟨o,k it (by simp) o e,c⟩
 item:=by
  intro X hP hw hK hc i pins s σ H E I hf st hg;subst hP hw hK;obtain⟨e,hi⟩:=hg;obtain⟨g0,z,y,vs,r,ob,es,ep',g1,g2,g3,g4⟩:=I.j5 d _ e;rw[g0]at g1
  cases g1
  obtain⟨es0,he0⟩:=hep;rw[he0]at g3
  cases g3
  have hl:=r.length;have da:ei (j7 X.prog X.w) s.heap d vs ep:=⟨o,_,g0,g2,he0,g4⟩;obtain⟨f0,f1,f2,f3,f4,f5⟩:=hf it (by simp);have ev:vs[i]? =some (vs[i]'(by lia)):=ab (by lia);have ek:kvs[i]? =some (kvs[i]'(by omega)):=ab (by omega);have hk:(kvs[i]'(by omega)).1=(vs[i]'(by lia)).1:=by
   have:=congrArg (λl=>l[i]?) r.keys;simp only[ak,ev,ek,bE]at this;exact aM this
  refine wpAny_pyNext_dict_item (knd:=j7 X.prog X.w) (k:=(vs[i]'(by lia)).1) (v:=(vs[i]'(by lia)).2) (by rw[←hl,←hn];exact st) da ev λkey h' hkey st' sb=> ?_;have I1:Inv X pins σ H {s with heap:=h'}:=I.turned (t':=s.toks) (λb o hb e=>(sb.2 b hb).trans e) f0 f1 f3 f4 f5;obtain⟨o',e',c',d'⟩:=id st';exact⟨key,rfl,Nf (s:={s with heap:=h'}) e' c' d' (by decide) ⟨_,H,I1,RS (P:=X.prog) (w:=X.w) hkey,⟨rfl,_,ek,by rw[hk]⟩,by rw[hn,hl];exact st',λb hb=>(hf b hb).1⟩⟩
 done:=by
  intro X hP hw hK hc i pins s σ H E I hf st hg;subst hP hw hK;obtain⟨e,hi⟩:=hg;obtain⟨g0,z,y,vs,r,ob,es,ep',g1,g2,g3,g4⟩:=I.j5 d _ e;rw[g0]at g1
  cases g1
  obtain⟨es0,he0⟩:=hep;rw[he0]at g3
  cases g3
  have hl:=r.length;have da:ei (j7 X.prog X.w) s.heap d vs ep:=⟨o,_,g0,g2,he0,g4⟩;obtain⟨f0,f1,f2,f3,f4,f5⟩:=hf it (by simp);exact wpAny_pyNext_dict_end (knd:=j7 X.prog X.w) (I.ok.hd hc) (by rw[←hl,←hn];exact st) da (aS (by lia)) λh' eb=>⟨rfl,I.turned (t':=s.toks) (λb o hb e=>eb b o hb e) f0 f1 f3 f4 f5⟩
 self:=λ_ _ _ _ _ st h=>wpAny_pyIter_keyiter st h
noncomputable def Jd (tl:TE):TI:=λσ H R=>tl σ H λx H1=>match x with
 | .ref d=>(match H1 d with
  |some (.rV o (.dK kvs))=>R (Vk d o kvs) H1
  |_=>False)
 |_=>False
theorem N6{tg l:Expr}{tl:TE}(hl:PE X l tl):PI X tg l (Jd tl):=by
 intro pins s σ H R I h;refine lQ (hl pins s σ H _ I h) λv s1=>qh λx H1 I1 r1 q1=> ?_
 try dsimp only at q1
 split at q1
 case h_2=>exact q1.elim
 rename_i d
 split at q1
 case h_2=>exact q1.elim
 rename_i o kvs e
 cases (show v=aL d from r1)
 obtain⟨g0,z,y,vs,r,ob,es,ep,g1,g2,g3,g4⟩:=I1.j5 d _ e;rw[g0]at g1
 cases g1
 have hl':=r.length;have da:ei (j7 X.prog X.w) s1.heap d vs ep:=⟨o,es,g0,g2,g3,g4⟩;refine wpAny_pyIter_dict (knd:=j7 X.prog X.w) y da ?_;refine⟨s1.heap.objs.size,[s1.heap.objs.size],_,_,H1,rfl,I1.kept (t':=s1.toks) λb o e=>aE _ e,Mg (n:=vs.length) d _ hl'.symm ⟨es,g3⟩,⟨_,br _ rfl,rfl,rfl⟩,λb hb=> ?_,q1⟩;have e:b=s1.heap.objs.size:=by simpa using hb
 subst e;exact I1.LA (au _) (I1.j5.fresh (au _))
noncomputable def IP (td ty:TE):TE:=λσ H Q=>td σ H λx H1=>ty σ H1 λy H2=>match x with
 | .ref a=>(match H2 a,Hv y with
  |some (.rV _ (.dK kvs)),some k=>(match mP kvs k with
   |some v=>Q v H2
   |none=>False)
  |_,_=>False)
 |_=>False
theorem Po{o i:Expr}{td ty:TE}{pos:Pos}(hu:X.A.units+1<cLine)(ho:PE X o td)(hi:PE X i ty)(hs:Ms i):PE X (.Subscript o i pos) (IP td ty):=by
 intro pins s σ H Q I h;refine Lf PySem.F.slot_dict_getitem.lookup hs (lQ (ho pins s σ H _ I h) λu s1 ⟨x,H1,I1,rx,q1⟩=>lQ (hi pins s1 σ H1 _ I1 q1) λiv s2 ⟨y,H2,I2,ry,q2⟩=> ?_)
 try dsimp only at q2
 split at q2
 case h_2=>exact q2.elim
 rename_i a _
 split at q2
 case h_2=>exact q2.elim
 rename_i ob kvs k ea ek
 split at q2
 case h_2=>exact q2.elim
 rename_i v ev;have ey:=vk ek;subst ey;obtain rfl:u=aL a:=rx;have g:BN H2 a (kV k) (some v):= .inl ⟨kvs,k,.inr ⟨_,ea⟩,rfl,ev.symm⟩;exact⟨A7 I2 g,EH hu I2 g ry λw' s3 I3 rw'=>⟨v,H2,I3,rw',q2⟩⟩
theorem LI{o i:Expr}{td ty:TE}{pos:Pos}(hu:X.A.units+1<cLine)(ho:JE X o td)(hi:JE X i ty)(hs:Ms i):JE X (.Subscript o i pos) (IP td ty):=⟨Po hu ho.run hi.run hs⟩
theorem Jo{tg l:Expr}{tl:TE}(hl:JE X l tl):JI X tg l (Jd tl):=⟨N6 hl.run⟩
end
section
variable{X:Cx}
end
def Pk:R2:=λx y H Q=>match x,y with
 | .ref a,.ref b=>(match H a,H b with
  |some (.tup xs),some (.tup ys)=>xs.length=ys.length/\(match tT (cI (tU H 2) xs ys) with
    |some k=>Q (.bl (!k)) H
    |none=>False)
  |_,_=>Lq (.ref a) (.ref b) H Q)
 |x,y=>Lq x y H Q
theorem T4{X:Cx}(hu:X.A.units+8<cLine):nX X (compareOp .NotEq) Pk:=by
 intro pins s σ H x y v u Q I rx ry h;unfold Pk at h
 split at h
 case h_2=>exact MP hu pins s σ H _ _ v u Q I rx ry h
 rename_i a b
 split at h
 case h_2=>exact MP hu pins s σ H _ _ v u Q I rx ry h
 rename_i xs ys e1 e2;obtain⟨hl,h⟩:=h
 cases (show v=aL a from rx)
 cases (show u=aL b from ry)
 obtain⟨i1,r1,p1,_⟩:=I.tuple (.inl (.inl e1));obtain⟨i2,r2,p2,_⟩:=I.tuple (.inl (.inl e2));have l1:=r1.length;have l2:=r2.length
 split at h
 case h_2=>exact h.elim
 rename_i k hk;obtain⟨e,h1,h2⟩:=qi hk;rw[bU,←hl,cJ]at h2;refine SeqAt.RcNeAt.tuples (e:=e) p1 p2 (by lia) (λj j1 j2=> ?_) X.prog X.w X.xe _ ⟨.bl (!k),H,I,?_,h⟩
 ·simp only[aH]at j1 j2;have k1:j<xs.length:=by lia
  have k2:j<ys.length:=by lia
  obtain⟨w1,g1,q1⟩:=r1.get (ab k1);obtain⟨w2,g2,q2⟩:=r2.get (ab k2);have z:=h1 j (tU H 2 xs[j] ys[j]) (by rw[bx,ab k1,ab k2]);have e4:i1.toArray[j]=w1:=by simpa [j1] using g1
  have e5:i2.toArray[j]=w2:=by simpa [j2] using g2
  rw[e4,e5];exact rA I 2 X.A.in1 (by rw[c9];lia) q1 q2 z
 ·have e3:i1.toArray.size=xs.length:=by simp[l1]
  have e4:i2.toArray.size=xs.length:=by simp[←l2,hl]
  rw[e3,e4,cJ,h2,beq_self_eq_true,gK];exact rfl
theorem FF{X:Cx}(hu:X.A.units+8<cLine):Aq X (compareOp .NotEq) Pk:=⟨T4 hu⟩
section
variable{X:Cx}
end
section
variable{X:Cx}
def MG(neg:Bool):R2:=λx y H Q=>match y with
 | .ref p=>(match H p with
  |some (.lst xs)=>l7 x=true/\xs.all l7=true/\Q (.bl (if neg then !QU x xs else QU x xs)) H
  |some (.tup xs)=>l7 x=true/\xs.all l7=true/\Q (.bl (if neg then !QU x xs else QU x xs)) H
  |_=>False)
 |_=>False
theorem Pe{K:ah}{neg:Bool}{x y:V}{H:Hp}{Q:VK}(h:MG neg x y H Q):WC K neg x y H Q:=by
 unfold MG at h
 split at h
 case h_2=>exact h.elim
 split at h
 ·rename_i xs e;exact⟨_,xs,rfl,.inl (jX.of e),h⟩
 ·rename_i xs e;exact⟨_,xs,rfl,.inr (Ke.of e),h⟩
 ·exact h.elim
theorem MR:nX X (compareOp .NotIn) (MG true):=FZ.mono λ_ _ _ _=>Pe
abbrev g3(K:ah):TG:=PF K 3 (A8 (oE 0) (A8 (oE 1) (A8 (oE 2) Nb)))
section
variable{fsc scope:Scope}{N2:List Str}{js:List Nat}
end
theorem Jj:Aq X (compareOp .NotIn) (MG true):=⟨MR⟩
end
theorem j8.EV{K:ah}{a:Addr}{xs:List V}{g:TG}{tb:TS}{D:Ends}{σ:St}{H:Hp}(Pv:Nat->St->Hp->Prop)(h0:Pv 0 σ H)(hl:∀i σ H,i<=xs.length->Pv i σ H->jX K H a xs)
  (hs:∀i x σ H,xs[i]? =some x->Pv i σ H->∀R:St->Hp->Prop,(∀σ' H',Pv (i+1) σ' H'->R σ' H')->g x σ H λσ2 H2=>tb {D with nx:=R,ct:=R,bk:=D.nx} σ2 H2) (hd:∀σ H,Pv xs.length σ H->D.nx σ H):j8 (Mp K a) g tb D σ H:=
 j8.list Pv h0 hl (λi x σ H hx hp=>hs i x σ H hx hp _ λ_ _ h=>h) hd
theorem j8.JJ{lo:Int}{n:Nat}{g:TG}{tb:TS}{D:Ends}{σ:St}{H:Hp}(Pv:Nat->St->Hp->Prop)(h0:Pv 0 σ H)
  (hs:∀i σ H,i<n->Pv i σ H->∀R:St->Hp->Prop,(∀σ' H',Pv (i+1) σ' H'->R σ' H')->g (.int (lo+i)) σ H λσ2 H2=>tb {D with nx:=R,ct:=R,bk:=D.nx} σ2 H2) (hd:∀σ H,Pv n σ H->D.nx σ H):j8 (OK lo n) g tb D σ H:=
 j8.range Pv h0 (λi σ H hi hp=>hs i σ H hi hp _ λ_ _ h=>h) hd
theorem ints_get{ks:List Int}{i:Nat}{x:V}(h:(ks.map V.int)[i]? =some x):∃hi:i<ks.length,x= .int ks[i]/\ks.take (i+1)=ks.take i++[ks[i]]:=by
 have hi:i<ks.length:=by have:=(List.getElem?_eq_some_iff.mp h).1;rw[ae]at this;exact this
 rw[ak,ab hi]at h;exact⟨hi,(aM h).symm,bu hi⟩
theorem EJ{l:List Int}:(l.map V.int).all l7=true:=List.all_eq_true.mpr λx hx=>by obtain⟨_,_,rfl⟩:=List.mem_map.mp hx;rfl
theorem fsc{N P:List Str}{sc:Scope}(a:sc.kind= .function:=by rfl)(b:sc.isCoroutine=false:=by rfl)(c:sc.isGenerator=false:=by rfl)(d:N.Nodup:=by decide+kernel)(e:N.take P.length=P:=by rfl)(f:∀x∈P,sc.names.lookup x=some .local∨sc.names.lookup x=some .cell:=by decide+kernel)(g:∀y∈sc.names,y.2≠ .free:=by decide+kernel):i8 N P sc:=⟨a,b,c,d,e,f,g⟩
theorem lo{sc:Scope}{x:Str}(h:Loc sc x:=by first|exact Or.inl rfl|exact gA rfl):Loc sc x:=h
def VN(C:Addr)(m:Str)(x:V)(H:Hp):Prop:=match x with
 | .ref a=>(match H a with
  |some (.ins C' _ fs)=>C'=C/\fs.lookup m=none
  |_=>False)
 |_=>False
theorem MH{C:Addr}{m:Str}{sp:Sp}{E:St->XK}{ta:TE}{t:TA}{σ:St}{H:Hp}{Q:VK}:Aw C m sp E ta t σ H Q=ta σ H λx H1=>VN C m x H1/\t σ H1 λvs H2=>sp (x::vs) H2 Q (E σ):=by
 unfold Aw;congr;funext x H1;unfold VN
 cases x with
 |ref a=>
  dsimp only;rcases H1 a with _|o
  ·simp
  ·cases o<;>dsimp only<;>try simp
   simp[and_assoc]
 |_=>simp
theorem Ue{b:Bool}{P:Bool->Prop}:(∃k,V.bl b=V.bl k/\P k)=P b:=propext ⟨λ⟨_,e,p⟩=>by cases e;exact p,λp=>⟨b,rfl,p⟩⟩
noncomputable def RI (f:Str) (x:V) (H:Hp):Option V:=match x with
 | .ref a=>(match H a with
  |some (.ins _ _ fs)=>fs.lookup f
  |_=>none)
 |_=>none
def VG(K:ah)(f:Str)(x:V)(H:Hp):Prop:=match x with
 | .ref a=>(match H a with
  |some (.ins C _ _)=>Ez K C/\kF K C f
  |_=>False)
 |_=>False
theorem Ri{K:ah}{ta:TE}{f:Str}{σ:St}{H:Hp}{Q:VK}:Lp K ta f σ H Q=ta σ H λx H1=>VG K f x H1/\(match RI f x H1 with
  |some v=>Q v H1
  |none=>False):=by
 unfold Lp;congr;funext x H1;unfold RI VG
 cases x with
 |ref a=>
  dsimp only;rcases H1 a with _|o
  ·simp
  ·cases o<;>dsimp only<;>try simp
   rename_i C dx fs
   cases aU f fs<;>simp[and_assoc]
 |_=>simp
theorem WG{a0 a1 q:Prop}(h:a0/\a1/\q):q/\a0/\a1:=⟨h.2.2,h.1,h.2.1⟩
theorem Wt{a0 a1 a2 a3 q:Prop}(h:a0/\a1/\a2/\a3/\q):q/\a0/\a1/\a2/\a3:=⟨h.2.2.2.2,h.1,h.2.1,h.2.2.1,h.2.2.2.1⟩
theorem WH{a0 a1 a2 a3 a4 a5 a6 q:Prop}(h:a0/\a1/\a2/\a3/\a4/\a5/\a6/\q):q/\a0/\a1/\a2/\a3/\a4/\a5/\a6:=⟨h.2.2.2.2.2.2.2,h.1,h.2.1,h.2.2.1,h.2.2.2.1,h.2.2.2.2.1,h.2.2.2.2.2.1,h.2.2.2.2.2.2.1⟩
theorem Vq{a0 a1 a2 a3 a4 a5 a6 a7 a8 a9 a10 q:Prop}(h:a0/\a1/\a2/\a3/\a4/\a5/\a6/\a7/\a8/\a9/\a10/\q):q/\a0/\a1/\a2/\a3/\a4/\a5/\a6/\a7/\a8/\a9/\a10:=⟨h.2.2.2.2.2.2.2.2.2.2.2,h.1,h.2.1,h.2.2.1,h.2.2.2.1,h.2.2.2.2.1,h.2.2.2.2.2.1,h.2.2.2.2.2.2.1,h.2.2.2.2.2.2.2.1,h.2.2.2.2.2.2.2.2.1,h.2.2.2.2.2.2.2.2.2.1,h.2.2.2.2.2.2.2.2.2.2.1⟩
theorem Vr{a0 a1 a2 a3 a4 a5 a6 a7 a8 a9 a10 a11 a12 q:Prop}(h:a0/\a1/\a2/\a3/\a4/\a5/\a6/\a7/\a8/\a9/\a10/\a11/\a12/\q):q/\a0/\a1/\a2/\a3/\a4/\a5/\a6/\a7/\a8/\a9/\a10/\a11/\a12:=⟨h.2.2.2.2.2.2.2.2.2.2.2.2.2,h.1,h.2.1,h.2.2.1,h.2.2.2.1,h.2.2.2.2.1,h.2.2.2.2.2.1,h.2.2.2.2.2.2.1,h.2.2.2.2.2.2.2.1,h.2.2.2.2.2.2.2.2.1,h.2.2.2.2.2.2.2.2.2.1,h.2.2.2.2.2.2.2.2.2.2.1,h.2.2.2.2.2.2.2.2.2.2.2.1,h.2.2.2.2.2.2.2.2.2.2.2.2.1⟩
theorem As{α:Type}{C:List α->Prop}(h:∀a0,C [a0]):∀us:List α,us.length=1->C us
 | [a0],_=>h a0
theorem rz{α:Type}{C:List α->Prop}(h:∀a0 a1,C [a0,a1]):∀us:List α,us.length=2->C us
 | [a0,a1],_=>h a0 a1
theorem DJ{α:Type}{C:List α->Prop}(h:∀a0 a1 a2,C [a0,a1,a2]):∀us:List α,us.length=3->C us
 | [a0,a1,a2],_=>h a0 a1 a2
theorem Tg{α:Type}{C:List α->Prop}(h:∀a0 a1 a2 a3,C [a0,a1,a2,a3]):∀us:List α,us.length=4->C us
 | [a0,a1,a2,a3],_=>h a0 a1 a2 a3
theorem WI{α:Type}{C:List α->Prop}(h:∀a0 a1 a2 a3 a4 a5,C [a0,a1,a2,a3,a4,a5]):∀us:List α,us.length=6->C us
 | [a0,a1,a2,a3,a4,a5],_=>h a0 a1 a2 a3 a4 a5
section
variable{X:Cx}{r:V->List V->Hp->VK->Prop}{o:Expr}{to:TE}{apos cpos:Pos}
end
section
variable{X:Cx}
end
end Internal
namespace Internal
open PySem PySem.Spec PyProof.Rows
section
variable{P:Program}{w:World}{A:Around}{E:Value->Shared->Prop}{s:Shared}
end
end Internal
namespace Internal
open PySem PySem.Spec PyProof.Rows
section
variable{P:Program}{w:World}{A:Around}{E:Value->Shared->Prop}{s:Shared}{z TI TO i1 i2 l1 l2:Addr}{k1 k2:Nat}{xs ys:Array Value}{x y a b:Value}{J1 J2:Heap->Nat->Prop}
end
end Internal
namespace Internal
open PySem PySem.Spec PyProof.Rows
end Internal
namespace Internal
open PySem PySem.Spec PyProof.Rows
section
variable{X:Cx}{pins:List (Addr×Obj)}{σ:St}{H:Hp}{s:Shared}{k:Bool}{a:Addr}{xs ys:List V}
end
section
variable{X:Cx}
end
section
variable{X:Cx}{r:V->List V->Hp->VK->Prop}{o i:Expr}{to td ty:TE}{apos cpos pos:Pos}
end
noncomputable def Q3:TE:=λ_ _ _=>False
theorem N1{X:Cx}{e:Expr}:PE X e Q3:=by
 intro pins s σ H Q I h;exact h.elim
theorem Ci{X:Cx}{e:Expr}:JE X e Q3:=⟨N1⟩
section
variable{X:Cx}{E:St->XK}{a L:Addr}{cls:Value}{s':Shared}{M:Model}{A:Around}{Q:Unit->Shared->Prop}{E':Value->Shared->Prop}
end
section
variable{M:Model}{A:Around}{E:Value->Shared->Prop}{s:Shared}{env:Env}
end
section
variable{prog:Program}{w:World}{A:Around}{R:Result->Shared->Prop}{s:Shared}
end
section
variable{X:Cx}{pins:List (Addr×Obj)}{σ:St}{H:Hp}{s:Shared}{scope fsc:Scope}{x:List Str}{N2:List Str}{js:List Nat}{fp:List Addr}{C:Addr}
noncomputable def IS:List V->Hp->VK->Prop:=λxs H Q=>match xs with
 | [.ref a]=>(match H a with
  |some (.dK kvs)=>∀l,H l=none->Q (.ref l) (upd H l (.lst (kvs.map λp=>kV p.1)))
  |_=>False)
 |_=>False
theorem E2:∀{ks:List Key} {us:List Value},us.length=ks.length->(∀(j:Nat) (k:Key) (v:Value),ks[j]? =some k->us[j]? =some v->uq k v=true)->Vals (ks.map kV) us
 | [],[],_,_=> .nil
 |k::ks,u::us,h,f=>by
  refine .cons ?_ (E2 (by simpa using h) λj k' v h1 h2=>f (j+1) k' v (by simpa using h1) (by simpa using h2));rcases kf (f 0 k u rfl rfl) with ⟨i,t,rfl,rfl⟩|⟨x,t,rfl,rfl⟩
  ·exact⟨t,rfl⟩
  ·exact⟨t,rfl⟩
 | [],_::_,h,_=>by cases h
 |_::_,[],h,_=>by cases h
theorem EO(hc:X.calm=true):uc X (.type "list") IS:=⟨by
 intro pins s σ H xs us Q I r h;unfold IS at h
 split at h
 case h_2=>exact h.elim
 rename_i a;obtain⟨u,rfl,rx⟩:=vals1 r
 cases (show u=aL a from rx)
 split at h
 case h_2=>exact h.elim
 rename_i kvs ea;obtain⟨z,hd,vs,rel,o,es,ep,hat⟩:=BW I.j5 ea;have da:ei (j7 X.prog X.w) s.heap a vs ep:=⟨o,es,hat⟩;have hk2:=rel.keys;have hlen:vs.length=kvs.length:=by
  have:=congrArg eB hk2;simpa using this.symm
 refine PySem.W.kdl_call (fP hd) (by show X.A.handled=none;exact I.ok.hd hc) da (by lia) λh' tk acc c' hk hS hi=> ?_;have hal:acc.toList.length=kvs.length:=by rw[←hlen];simpa using hi.1
 have hf:H s.heap.objs.size=none:=I.j5.fresh (au _);refine⟨.ref s.heap.objs.size,_,I.laid (t':=tk) hk (au _) (show kO X.prog X.w _ h' _ (.lst (kvs.map λp=>kV p.1)) from ?_),rfl,h _ hf⟩;refine⟨by rw[ae];omega,acc.toList,c',?_,by simpa using hS⟩;have e:(kvs.map λp=>kV p.1)=(kvs.map (·.1)).map kV:=by rw[bQ];rfl
 rw[e];refine E2 (by rw[ae];exact hal) λj k v h1 h2=> ?_;obtain⟨k',x,e1,e2⟩:=hi.2 j v (by simpa using h2);have e3:(vs.map (·.1))[j]? =some k':=by rw[ak,e1];rfl
 rw[←hk2,h1]at e3
 cases e3
 exact e2⟩
end
noncomputable def S2 (P:Addr):TE:=λ_ H Q=>∃ps,H P=some (.vN ps)/\TriplesOk ps.toList/\∀l ps',H l=none->TriplesOk ps'.toList->Q (.ref l) (upd H P (.vN ps'))
section
variable{X:Cx}{pins:List (Addr×Obj)}{σ:St}{H:Hp}{s:Shared}
theorem Inv.tabs{P:Addr}{ps more:Array Value}{h':Heap}{t':Nat}(I:Inv X pins σ H s)(hP:H P=some (.vN ps))(ext:∀b o,b≠P->s.heap.get? b=some o->h'.get? b=some o)(hP':h'.get? P=some {cls:= .none,data:= .fields (ps++more)}):
  Inv X pins σ (upd H P (.vN (ps++more))) {s with heap:=h',toks:=t'}:=by
 have ne:∀b,H b=none->b≠P:=λb n z=>by rw[z,hP]at n;cases n
 refine I.step (g':=s.gens) (d':=s.drawn) (ch:=[]) (λ_ z=>nomatch z) (λb o _ _ _ e n=>ext b o (ne b n) e) (λb o _ _ _ e n=>⟨o.slots,ext b o (ne b n) e⟩) (λb o _ e n=>by rw[i4 (ne b n)];exact n) (λb o _ e=> ?_) (λb xs e=>by rw[i4 λz=>by rw[z,hP]at e;cases e];exact e) (λb o u e=>by rw[i4 λz=>by rw[z,hP]at e;cases e];exact e) (λb qs e=> ?_) (λm hm=> ?_) (λb u e=> ?_) I.bare
 ·by_cases hb:b=P
  ·exact⟨_,by rw[hb];exact hP'⟩
  ·exact⟨o,ext b o hb e⟩
 ·by_cases hb:b=P
  ·subst hb;rw[hP]at e;cases e
   exact⟨more,iZ⟩
  ·exact⟨#[],by rw[i4 hb,e];simp⟩
 ·obtain⟨o,es,ep,e,r⟩:=hm;exact⟨o,es,ep,ext _ o (ne _ I.free) e,r⟩
 ·by_cases hb:b=P
  ·subst hb;rw[iZ]at e;cases e
   exact hP'
  ·rw[i4 hb]at e;refine(I.j5 b u e).vv (λc v hc q=>ext c v ?_ q) (λc q=>by rw[i4 λz=>by rw[z,hP]at q;cases q];exact q) (λc xs q=>by rw[i4 λz=>by rw[z,hP]at q;cases q];exact q);rcases hc with rfl|hc
   ·exact hb
   ·exact λz=>by rw[z,hP]at hc;cases hc
theorem Sv{c P:Addr}{params:Arguments}{body:Expr}{scope:Scope}{pos:Pos}(hcode:X.env.code= .ref c)(hK:b7 X.K c P=true){fsc:Scope}(hf:X.env.scope=fsc)(hcl:∀y∈scope.names,y.2= .free->fsc.names.lookup y.1=some .cell)
  (hdef:defaultsOf params X.env=([],[])):PE X (.Lambda params body scope pos) (S2 P):=by
 intro pins s σ H Q I h;obtain⟨ps,hP,ht,q⟩:=h;have hPs:s.heap.get? P=some (PySem.W.tabObj ps):=I.j5 P _ hP;have C:PySem.W.CodeHd s.heap c P:=gS I.GW hK;have hg:s.heap.Ns mainGlobals X.mg:=I.mod.glob.keeps I.bk;have hgP:mainGlobals≠P:=λz=>by
  obtain⟨o,es,ep,e,d,_⟩:=hg;rw[z,hPs]at e;cases e;cases d
 obtain⟨bm,ob,b1,b2,b3,b4,b5,b6⟩:=I.mod.bmain;have b3:=I.bk _ _ b3;have hb:s.heap.BuiltinsAt X.mg P:=⟨bm,ob,b1,b2,(λz=>by
   obtain⟨o,es,ep,e,d,_⟩:=hg;rw[z,e]at b3;cases b3;rw[d]at b6;cases b6),(λz=>by rw[z,hPs]at b3;cases b3;cases b4),b3,b4,b5,b6⟩
 have hclo:=BU (scope:=scope) (env:=X.env) λy hy e=>I.ok.has y.1 (.inl (show X.env.scope.names.lookup y.1=some .cell by rw[hf];exact hcl y hy e));refine PySem.W.kla_eval hdef ?_
 cases hnf:codeAmong pos ps.toList with
 |none=>
  refine PySem.W.kla_makeFunction hclo I.ok.glob hg hcode C hPs ht hnf hgP hb λc' ctv h' tk ext hge hlt hrec htab=> ?_;have hn:H h'.objs.size=none:=I.j5.fresh (by lia);have hle:P<h'.objs.size:=aC htab;refine⟨.ref h'.objs.size,_,I.tabs (more:= #[rawInt pos.line,rawInt pos.col,.ref c']) (t':=tk) hP (λb o hb e=>aE _ (ext b o hb e)) (aE _ htab),rfl,q _ _ hn ?_⟩;rw[Array.toList_append];exact TriplesOk_snoc _ _ _ _ ht
 |some cv=>
  refine PySem.W.kla_makeFunctionHit hclo I.ok.glob hg hcode C hPs ht hnf hb λctv h' tk ext hge=> ?_;have hn:H h'.objs.size=none:=I.j5.fresh hge;have I':=I.tabs (more:= #[]) (t':=tk) hP (λb o _ e=>aE {cls:= .type "function",data:= .func (PySem.W.kla_fn "<lambda>" (X.env.qual++"<lambda>") params body scope (IW scope X.env) ((X.mg "__name__").getD .none) cv ctv)} (ext b o e)) (by rw[fq];exact aE _ (ext _ _ hPs));rw[fq]at I';exact⟨.ref h'.objs.size,_,I',rfl,q _ _ hn ht⟩
theorem Hr{c P:Addr}{params:Arguments}{body:Expr}{scope:Scope}{pos:Pos}(hcode:X.env.code= .ref c)(hK:b7 X.K c P=true){fsc:Scope}(hf:X.env.scope=fsc)(hcl:∀y∈scope.names,y.2= .free->fsc.names.lookup y.1=some .cell)
  (hdef:defaultsOf params X.env=([],[])):JE X (.Lambda params body scope pos) (S2 P):=⟨Sv hcode hK hf hcl hdef⟩
end
def Ka(ts:List Addr)(H:Hp):Prop:=(∀b,b∉ts->H b=none∨∃o xs,H b=some (.rV o (.lst xs)))/\∀b∈ts,H b=some (.vN #[])
theorem LO{ts:List Addr}{P:Program}{w:World}{K:ah}{mg mb:Str->Option Value}{CX:Mn}{ca:Bool}{k:Nat}{fa a:Addr}{fd:FuncData}{x:Str}{sp:Sp}{s₁:Shared}{vs:List Value}{ns:List Int}
  (KX:K.In s₁.heap) (hns:s₁.heap.Ns mainGlobals mg) (hb:s₁.heap.Ns builtinsNs mb) (hbb:∀x:Str,x≠"__name__"->mb x=bootBuiltins x) (hlim:s₁.heap.NoLimit) (hbm:BMain mg s₁.heap) (hts:∀p∈ts,s₁.heap.get? p=some {cls:= .none,data:= .fields #[]}) (hKt:∀p∈ts,K.lookup p=none) (hct:∀p∈ts,isCodeTable s₁.heap p) (hg:s₁.gens= #[])
  (ha:s₁.heap.get? a=some {cls:= .type "list",data:= .seq vs.toArray}) (hi:IntsAre vs ns) (hl:ns.length<=sizeLine) (hr:lO ca k callerA)
  (F:∀base:Heap,K.In base->base.Ns mainGlobals mg->lZ P w K mg base CX ca k fa fd [x] sp) (hbind:∀(s:Shared) (u:Value),BindsTo s fd ⟨[u],[]⟩ [(x,u)])
  (hsp:∀H:Hp,Ka ts H->jX K H a (ns.map V.int)->sp [.ref a] H (λv _=>v= .bl true) λ_ _ _=>False)
  (hCX:∀H e s',CX [] H s₁ (λ_ _ _=>False) e s'->False):
  codeAny (model P w) callerA (.call (.ref fa) ⟨[.ref a],[]⟩) (λr s'=>r= .ok (.ret (.bool true))/\OldK s₁.heap s'.heap/\s'.os=s₁.os/\AllBare s'.gens) s₁:=by
 have rv:=vt hi;have lenV:=hi.length;have hat:a∉ts:=λh=>by
  have:=hts a h;rw[ha]at this;injection this with this
  injection this with h1
  cases h1
 have core:∀H:Hp,Ka ts H->jX K H a (ns.map V.int)->tZ P w H s₁.heap->(∀b,H b≠none->b=a∨b∈ts)->(a∉ts->H a≠none->K.lookup a=none)->
   codeAny (model P w) callerA (.call (.ref fa) ⟨[.ref a],[]⟩) (λr s'=>r= .ok (.ret (.bool true))/\OldK s₁.heap s'.heap/\s'.os=s₁.os/\AllBare s'.gens) s₁:=by
  intro H hO hS j5 hA hK;have base_of:∀{b:Addr} {o:Obj},s₁.heap.get? b=some o->H b=none->(Fx s₁.heap H).get? b=some o:=λe n=>Ni e n;have noA:∀{b:Addr} {o:Obj} {es:Array DictEntry} {ep:Nat},s₁.heap.get? b=some o->o.data= .dict es ep->H b=none:=λ{b o es ep} e d=>by
   cases q:H b with
   |none=>rfl
   |some u=>
    rcases hA b (by rw[q];simp) with e'|e'
    ·subst e';rw[ha]at e;cases e
     have d':iw vs.toArray _=Data.dict es ep:=d
     cases d'
    ·rw[hts b e']at e;cases e
     have d':iu #[]=Data.dict es ep:=d
     cases d'
  have nsK:∀{b:Addr} {m:Str->Option Value},s₁.heap.Ns b m->(Fx s₁.heap H).Ns b m:=λ{b m} ⟨o,es,ep,e,d,r⟩=>⟨o,es,ep,base_of e (noA e d),d,r⟩;have hKb:K.In (Fx s₁.heap H):=λb o e=>base_of (KX b o e) (by
   cases q:H b with
   |none=>rfl
   |some u=>
    rcases hA b (by rw[q];simp) with e'|e'
    ·subst e';rw[hK hat (by rw[q];simp)]at e;cases e
    ·rw[hKt b e']at e;cases e)
  have hM:Mod K mg (Fx s₁.heap H):=⟨hKb,nsK hns,⟨mb,nsK hb,hbb⟩,let ⟨mc,h1,h2⟩:=hlim;⟨mc,nsK h1,h2⟩,let ⟨bm,ob,b1,b2,b3,b4⟩:=hbm;⟨bm,ob,b1,b2,base_of b3 (by
   cases q:H bm with
   |none=>rfl
   |some u=>
    rcases hA bm (by rw[q];simp) with e'|e'
    ·subst e';rw[ha]at b3;cases b3
     have d':iw vs.toArray _=Data.plain:=b4.2.2
     cases d'
    ·rw[hts bm e']at b3;cases b3
     have d':iu #[]=Data.plain:=b4.2.2
     cases d'),b4⟩⟩
  have e0:II P w K mg (Fx s₁.heap H) callerA [] s₁ H:=⟨rfl,hM,λb o e=>P5 e,Nat.le_of_eq (LC _ _),trivial,λb hb=>absurd (show b∈([]:List Addr) from hb) (by simp),j5,.of_eq hg⟩;refine codeAny_mono ((F _ hKb (nsK hns)).run callerA [] s₁ H ⟨[.ref a],[]⟩ [.ref a] [.ref a] _ _ hr e0 (hbind s₁ (.ref a)) (.cons rfl .nil) (hsp H hO hS)) λr s' h=> ?_
  cases r with
  |error e=>exact(hCX H e s' h).elim
  |ok fl=>
   cases fl with
   |next=>exact cD h
   |brk=>exact cD h
   |cont=>exact cD h
   |ret u=>
    obtain⟨v,H',os,bare,un,hok',r',q⟩:=h;have q':v= .bl true:=q;subst q';obtain rfl:u=iJ true:=r';have key:∀b o,s₁.heap.get? b=some o->asItWas s₁.heap s'.heap b o/\∃o',s'.heap.get? b=some o':=λb o e=>by
     by_cases hb:b∈ts
     ·obtain⟨more,z2⟩:=un.vf b #[] (hO.2 b hb);have e2:s'.heap.get? b=some {cls:= .none,data:= .fields (#[]++more)}:=hok' b _ z2;rw[hts b hb]at e;cases e
      exact⟨.inr (.inl ⟨hct b hb,rfl,#[],more,rfl,e2⟩),_,e2⟩
     ·have k:s'.heap.get? b=some o:=by
       rcases hO.1 b hb with z|⟨ob,xs,z⟩
       ·exact un.keep b o e z (by intro z;exact absurd (show b∈([]:List Addr) from z) (by simp)) (by simp)
       ·have z2:=un.tV b ob _ z;obtain⟨e1,_⟩:=j5 b _ z;obtain⟨e2,_⟩:=hok' b _ z2;rw[e]at e1;cases e1
        exact e2
      exact⟨.inl k,o,k⟩
    exact⟨rfl,⟨λb o e=>(key b o e).1,λb o e=>(key b o e).2⟩,os,bare⟩
 cases hk:K.lookup a with
 |some o=>
  have e:=KX a o hk;rw[ha]at e
  cases e
  refine core (λb=>if b∈ts then some (.vN #[]) else none) ⟨λb hb=> .inl (if_neg hb),λb hb=>if_pos hb⟩ (.inr ⟨_,vs.toArray,_,hk,rfl,rfl,rfl,by rw[aH,lenV];exact hl,by simpa using rv⟩) (λb u z=> ?_) (λb z=> ?_) λh z=>absurd (if_neg h) z
  ·by_cases hb:b∈ts
   ·have z':=(if_pos hb).symm.trans z
    cases z'
    exact hts b hb
   ·have z':=(if_neg hb).symm.trans z
    cases z'
  ·by_cases hb:b∈ts
   ·exact .inr hb
   ·exact absurd (if_neg hb) z
 |none=>
  refine core (λb=>if b∈ts then some (.vN #[]) else if b=a then some (.rV {cls:= .type "list",data:= .seq vs.toArray} (.lst (ns.map V.int))) else none) ⟨λb hb=> ?_,λb hb=>if_pos hb⟩ (.inl (.inr ⟨{cls:= .type "list",data:= .seq vs.toArray},(if_neg hat).trans (if_pos rfl)⟩)) (λb u z=> ?_) (λb z=> ?_) λ_ _=>hk
  ·by_cases hba:b=a
   ·exact .inr ⟨_,_,(if_neg hb).trans (if_pos hba)⟩
   ·exact .inl ((if_neg hb).trans (if_neg hba))
  ·by_cases hb:b∈ts
   ·have z':=(if_pos hb).symm.trans z
    cases z'
    exact hts b hb
   ·have z:=(if_neg hb).symm.trans z;by_cases hba:b=a
    ·have z':=(if_pos hba).symm.trans z
     cases z'
     subst hba;exact⟨ha,by rw[ae];exact hl,vs,_,rv,ha⟩
    ·have z':=(if_neg hba).symm.trans z
     cases z'
  ·by_cases hb:b∈ts
   ·exact .inr hb
   ·by_cases hba:b=a
    ·exact .inl hba
    ·exact absurd ((if_neg hb).trans (if_neg hba)) z
theorem OE{ts:List Addr}{l:fX}{n k:Nat}{q:Program}{loose:List Str}{XP:(Str->Option Value)->Heap->Prop}{YP:World->Heap->Prop}{d:DefRec}{K:Params->ah}{CX:World->Mn}{ca:Bool}{sp:World->Sp}{x:Str}
  (hn:l.most=some n) (hn2:n<=sizeLine) (hdf:d.params.defaults=[]) (hr:lO ca k callerA)
  (hY:∀(w:World) (h:Heap),YP w h->(K w.params).In h) (hT:∀(w:World) (h:Heap),YP w h->∀p∈ts,h.get? p=some {cls:= .none,data:= .fields #[]}) (hKt:∀(w:World),∀p∈ts,(K w.params).lookup p=none) (hct:∀(w:World),∀p∈ts,∃c,b7 (K w.params) c p=true)
  (F:∀(w:World) (mg:Str->Option Value) (fa:Addr) (h:Heap),(K w.params).In h->h.Ns mainGlobals mg->mg d.name=some (.ref fa)->
   ∃fd:FuncData,(∀(s:Shared) (u:Value),BindsTo s fd ⟨[u],[]⟩ [(x,u)])/\
    ∀base:Heap,(K w.params).In base->base.Ns mainGlobals mg->lZ l.prog w (K w.params) mg base (CX w) ca k fa fd [x] (sp w))
  (hsp:∀(w:World) (H:Hp) (a:Addr) (ns:List Int),ns.length<=n->Ka ts H->jX (K w.params) H a (ns.map V.int)->sp w [.ref a] H (λv _=>v= .bl true) λ_ _ _=>False)
  (hCX:∀(w:World) (H:Hp) (s:Shared) (e:Value) (s':Shared),CX w [] H s (λ_ _ _=>False) e s'->False):
  iN q loose XP YP l.row.toRowW d [] (λf vs=>iF f vs):=by
 refine Att.G5 hn hdf λw s₀ s₁ mg mb fa o pm cd doc a vs ns G Y ho hd hcd hmg hobj hints hlen hg=> ?_;have KX:=hY w _ Y;obtain⟨fd,hb,hF⟩:=F w mg fa _ KX G.T.g hmg;exact LO (ts:=ts) KX G.T.g G.T.b G.T.builtins G.T.nolimit G.T.bmain (hT w _ Y) (hKt w) (λp hp=>by
  obtain⟨c,hc⟩:=hct w p hp;exact((gS KX hc).tab (hT w _ Y p hp)).isCodeTable) hg hobj hints (av hlen hn2) hr hF hb (λH hO hS=>hsp w H a ns hlen hO hS) λH e s'=>hCX w H s₁ e s'
section
variable{P:Program}{w:World}{K:ah}{mg:Str->Option Value}{base:Heap}
theorem DC.UC{x qual:Str}{st:Stmt}{f:Addr}{fd:FuncData}{N ps:List Str}{ca:Bool}{k:Nat}{sp:Sp}(F:DC K x qual st f fd)(S:i8 N ps (i3 st))(len:∀vs H Q E,sp vs H Q E->vs.length=ps.length)
  (hbody:∀(cdv:Value) (A:Around) (outer:List Env) (s:Shared) (H:Hp) (vs:List V) (Q:VK) (E:XK),fd.code=cdv->lO ca k (A.deeper (envOfC qual (i3 st) s.heap.objs.size f cdv))->
   Exc (QP ca P w K mg base N qual (i3 st) f cdv A outer s H E) (λ_=>E)->sp vs H Q E->
   ∃t,G1 (QP ca P w K mg base N qual (i3 st) f cdv A outer s H E) (mC st) t/\t {nx:=λ_ H'=>Q .kr H',rt:=Q} (start N vs) H):lZ P w K mg base (tX P w) ca (k+1) f fd ps sp:=by
 obtain⟨oc,od,kV,doc,pm,an,cdv,ct,osl,rfl,lk,hcd⟩:=F.ex;refine QR (CX:=tX P w) lk hcd S len λA outer s H vs Q E hr hsp=> ?_;obtain⟨t,h,q⟩:=hbody cdv A outer s H vs Q E rfl hr (M7 rfl rfl) hsp;refine⟨t,h.vy λe s2=>Uc λa cls ee u=> ?_,q⟩;subst ee;show wpAny _ _ (leaving _ _) _ _ _;unfold leaving;exact wpAny_bind (u.note rfl rfl rfl λh' u'=>u'.Wy λh'' u''=>u''.out rfl rfl rfl)
end
section
variable{prog:Program}{w:World}{A:Around}{E:Value->Shared->Prop}{s:Shared}{κ:SortKind}{r:Value->Int}{a₀:Array Keyed}{st:SortSt}
end
section
variable{X:Cx}
end
section
variable{P:Program}{w:World}{K:ah}{mg:Str->Option Value}{base:Heap}{A:Around}{outer:List Env}{s s':Shared}{H H':Hp}{c:Addr}{o:Obj}
end
section
variable{X:Cx}{pins:List (Addr×Obj)}{σ:St}{H:Hp}{s:Shared}
end
section
variable{X:Cx}{ca:Bool}{k:Nat}{f C:Addr}{fd:FuncData}{ps:List Str}{sp:Sp}{m:Str}{pos apos:Pos}{o:Expr}{ta:TE}
end
section
variable{X:Cx}{ca:Bool}{k:Nat}{pos p:Pos}{e:Expr}{te t:TE}
end
section
variable{X:Cx}{ca:Bool}{k:Nat}{pos p:Pos}{e:Expr}{te t:TE}{f C:Addr}{fd:FuncData}{ps:List Str}{sp:Sp}{m:Str}{apos:Pos}{o:Expr}{ta:TE}
end
section
variable{X:Cx}
end
noncomputable def Q1 (t:TS):TS:=λD σ H=>∃d kvs,H d=some (.dK kvs)/\∀o,t {nx:=λσ' H'=>H' d=some (.rV o (.dK kvs))/\D.nx σ' (upd H' d (.dK kvs)),rt:=λv H'=>H' d=some (.rV o (.dK kvs))/\D.rt v (upd H' d (.dK kvs)),bk:=λσ' H'=>H' d=some (.rV o (.dK kvs))/\D.bk σ' (upd H' d (.dK kvs)),ct:=λσ' H'=>H' d=some (.rV o (.dK kvs))/\D.ct σ' (upd H' d (.dK kvs))} σ (upd H d (.rV o (.dK kvs)))
theorem Ql{X:Cx}{st:Stmt}{t:TS}(h:PS X st t):PS X st (Q1 t):=by
 intro pins s σ H D I ⟨d,kvs,e,q⟩;obtain⟨h2,o,I2⟩:=PK I e;refine lQ (h pins s σ _ _ I2 (q o)) λf s' sp=> ?_
 cases f with
 |next=>obtain⟨σ',H',I',e',q'⟩:=sp;exact⟨σ',_,wX I' h2 e',q'⟩
 |brk=>obtain⟨σ',H',I',e',q'⟩:=sp;exact⟨σ',_,wX I' h2 e',q'⟩
 |cont=>obtain⟨σ',H',I',e',q'⟩:=sp;exact⟨σ',_,wX I' h2 e',q'⟩
 |ret u=>obtain⟨v,σ',H',I',r',e',q'⟩:=sp;exact⟨v,σ',_,wX I' h2 e',r',q'⟩
theorem LL{X:Cx}{st:Stmt}{t:TS}(h:JS X st t):JS X st (Q1 t):=⟨Ql h.run⟩
theorem Hd{d:Addr}{o:Obj}{kvs:List (Key×V)}{ua:St}{tt:TT}{te:TE}{H:Hp}{Q:VK}(P:Nat->List V->Hp->Prop)(h0:P 0 [] H)(hS:∀i ys H',P i ys H'->H' d=some (.rV o (.dK kvs)))(hz:kvs.length<=sizeLine)(hlen:∀i ys H',P i ys H'->ys.length<=i)
  (step:∀i kv ys H',kvs[i]? =some kv->P i ys H'->∀K1:List V->Hp->Prop,(∀ys' H3,P (i+1) ys' H3->K1 ys' H3)->tt (some (kV kv.1)::ua) H' λb H2=>if b=true then te (some (kV kv.1)::ua) H2 (λy H3=>K1 (ys++[y]) H3) else K1 ys H2)
  (q:∀ys H',P kvs.length ys H'->∀l,H' l=none->Q (.ref l) (upd H' l (.lst ys))):pM (Vk d o kvs) ua tt te H Q:=by
 refine⟨λi m ys H'=>P i ys H'/\i<=kvs.length/\m=kvs.length-i,⟨kvs.length,h0,bh _,rfl⟩,λi m ys H' zq=> ?_⟩;obtain⟨hP,hi,em⟩:=zq;refine⟨av (av (hlen _ _ _ hP) hi) hz,?_⟩;have hS':=hS _ _ _ hP;by_cases z:i<kvs.length
 ·refine .inr ⟨⟨hS',z⟩,?_⟩;rintro x H2 ⟨rfl,kv,hk,rfl⟩;exact step i kv ys _ hk hP (λys' H3=>∃m',m'<m/\(P (i+1) ys' H3/\i+1<=kvs.length/\m'=kvs.length-(i+1))) λys' H3 h=>⟨_,by lia,h,z,rfl⟩
 ·have e:i=kvs.length:=by lia
  subst e;exact .inl ⟨⟨hS',au _⟩,q _ _ hP⟩
noncomputable def wV:Bool->Keyed->Array Keyed->Nat->Nat->Nat->StateT SortSt Sem (Option Nat):=sortPriv%PySem.Builtin.gallop
noncomputable def HF:Array Keyed->Array Keyed->StateT SortSt Sem (Array Keyed):=sortPriv%PySem.Builtin.mergeLo
noncomputable def HE:Array Keyed->Array Keyed->StateT SortSt Sem (Array Keyed):=sortPriv%PySem.Builtin.mergeHi
noncomputable def MA (beyond:Nat->StateT SortSt Sem (Option Bool)) (n lo0 hi0:Nat):StateT SortSt Sem (Option Nat):=do
 let mut lo:=lo0
 let mut hi:=hi0
 for _ in [0:n] do
  if lo>=hi then break
  let m:=lo+(hi-lo)/2
  let some more←beyond m|return none
  if more then lo:=m+1 else hi:=m
 return some hi
noncomputable def DG (left:Bool) (key:Keyed) (arr:Array Keyed) (base i:Nat):StateT SortSt Sem (Option Bool):=do
 let x←elem' arr (base+i)
 if left then lt' x key else return (←lt' key x).map (!·)
theorem B2(left:Bool)(key:Keyed)(arr:Array Keyed)(base n hint:Nat):wV left key arr base n hint=(do
 let mut lastofs:=0
 let mut ofs:=1
 let some right←DG left key arr base hint|return none
 if right then
  let maxofs:=n-hint
  for _ in [0:n] do
   if ofs>=maxofs then break
   let some more←DG left key arr base (hint+ofs)|return none
   if !more then break
   lastofs:=ofs
   ofs:=2*ofs+1
  MA (DG left key arr base) n (hint+lastofs+1) (hint+min ofs maxofs)
 else
  let maxofs:=hint+1
  for _ in [0:n] do
   if ofs>=maxofs then break
   let some found←DG left key arr base (hint-ofs)|return none
   if found then break
   lastofs:=ofs
   ofs:=2*ofs+1
  MA (DG left key arr base) n (hint+1-min ofs maxofs) (hint-lastofs)):=rfl
theorem HD(i:Nat):mergeAt' i=(do
 let s←get
 let (some (sa,na,power),some (sb,nb,_)):=((pendingOf s)[i]?,(pendingOf s)[i+1]?)|unsupported "internal:list.sort.pending"
 set (setPending s (((pendingOf s).setIfInBounds i (sa,na+nb,power)).eraseIdxIfInBounds (i+1)))
 let some k←wV false (←elem' (arrOf s) sb) (arrOf s) sa na 0|return false
 let (sa,na):=(sa+k,na-k)
 if na==0 then return true
 let some nb←wV true (←elem' (arrOf s) (sa+na-1)) (arrOf s) sb nb (nb-1)|return false
 if nb==0 then return true
 let x:=(arrOf s).extract sa sb
 let y:=(arrOf s).extract sb (sb+nb)
 let merged←if na<=nb then HF x y else HE x y
 modify λs=>setArr s (merged.toList.zipIdx.foldl (λa (p,j)=>a.setIfInBounds (sa+j) p) (arrOf s))
 return (failedOf (←get)).isNone):=rfl
section
variable{prog:Program}{w:World}{A:Around}{E:Value->Shared->Prop}{s:Shared}
theorem OI{st:SortSt}{a b:Int}{t u:Tok}{p q:Value}{Q:Option Bool->SortSt->Prop}(hk:kindOf st=oneType')(h:Q (some (decide (a<b))) st):
  wpS (model prog w) A E s (lt' (.int a t,p) (.int b u,q)) Q st:=by
 rw[lt'_eq];refine wpS_bind (wpS_get ?_);rw[hk,keyLt'_oneType];exact wpS_bind (wpS_lift (wpAny_attempt (oneLt_int ⟨rfl,wpS_pure h⟩)))
noncomputable def OR (arr:Array Keyed):Prop:=∀j,j<arr.size->∃t q,arr[j]? =some (.int (K arr j) t,q)
theorem IE{st:SortSt}{arr:Array Keyed}{base n:Nat}{c:Int}{t:Tok}{p:Value}{Q:Option Nat->SortSt->Prop}(hk:kindOf st=oneType')(ha:OR arr)(hn:base+n<=arr.size)(n1:1<=n)
  (hs:∀i j,i<=j->j<n->K arr (base+i)<=K arr (base+j)) (h:∀hi,hi<=n->(∀i,i<hi->K arr (base+i)<=c)->(∀i,hi<=i->i<n->c<K arr (base+i))->Q (some hi) st):
  wpS (model prog w) A E s (wV false (.int c t,p) arr base n 0) Q st:=by
 rw[B2];dsimp only;have bey:∀{i:Nat} {R:Option Bool->SortSt->Prop},i<n->R (some (!decide (c<K arr (base+i)))) st->wpS (model prog w) A E s (DG false (.int c t,p) arr base i) R st:=λ{i R} hi hr=>by
  obtain⟨u,q,e⟩:=ha (base+i) (by lia);unfold DG;rw[elem'_eq,e];refine wpS_bind (wpS_pure ?_);rw[if_neg (by decide)];exact wpS_bind (OI hk (wpS_pure hr))
 have bin:∀(a0 b0:Nat),a0<=b0->b0<=n->(∀i,i<a0->K arr (base+i)<=c)->(∀i,b0<=i->i<n->c<K arr (base+i))->wpS (model prog w) A E s (MA (DG false (.int c t,p) arr base) n a0 b0) Q st:=λa0 b0 h1 h2 h3 h4=>by
  unfold MA;refine wpS_bind (wpS_mono (wpS_forRange (I:=λx d st'=>st'=st/\∃a b,d=(none,a,b)/\a<=b/\b<=n/\b-a<=n-x/\(∀i,i<a->K arr (base+i)<=c)/\(∀i,b<=i->i<n->c<K arr (base+i)))
   (Q:=λd st'=>st'=st/\∃b,d=(none,b,b)/\b<=n/\(∀i,i<b->K arr (base+i)<=c)/\(∀i,b<=i->i<n->c<K arr (base+i))) ?_ ?_ ⟨rfl,a0,b0,rfl,h1,h2,by lia,h3,h4⟩) ?_)
  ·rintro x d st' _ hx ⟨rfl,a,b,rfl,e1,e2,e3,e4,e5⟩;dsimp only;by_cases z:a>=b
   ·rw[if_pos z];obtain rfl:a=b:=by lia
    exact wpS_pure ⟨rfl,a,rfl,e2,e4,e5⟩
   ·rw[if_neg z];refine wpS_bind (bey (by lia) ?_);dsimp only;by_cases y:c<K arr (base+(a+(b-a)/2))
    ·rw[decide_eq_true y];simp only[fA,du,if_false];refine wpS_pure ⟨rfl,a,_,rfl,by lia,by(clear z hn;lia),by(clear y z e1 h4 hn;lia),e4,λi i1 i2=> ?_⟩;have:=hs _ i i1 i2;lia
    ·rw[decide_eq_false y];simp only[fh,if_true];refine wpS_pure ⟨rfl,_,b,rfl,by(clear e1;lia),by omega,by(clear y z h1 hn;omega),λi i1=> ?_,e5⟩;have:=hs i (a+(b-a)/2) (by lia) (by lia);lia
  ·rintro d st' ⟨rfl,a,b,rfl,e1,e2,e3,e4,e5⟩;obtain rfl:a=b:=by lia
   exact⟨rfl,a,rfl,e2,e4,e5⟩
  ·rintro d st' ⟨rfl,b,rfl,e2,e4,e5⟩;exact wpS_pure (h b e2 e4 e5)
 refine wpS_bind (bey (by lia) ?_);dsimp only;by_cases c0:c<K arr (base+0)
 ·rw[decide_eq_true c0,if_neg (show¬((!true)=true) by decide)];refine wpS_bind (wpS_mono (wpS_forRange (I:=λx d st'=>st'=st/\d=(none,0,1)) (Q:=λd st'=>st'=st/\d=(none,0,1)) ?_ (λd st' z=>z) ⟨rfl,rfl⟩) ?_)
  ·rintro x d st' _ hx ⟨rfl,rfl⟩;dsimp only;rw[if_pos (by lia)];exact wpS_pure ⟨rfl,rfl⟩
  ·rintro d st' ⟨rfl,rfl⟩;dsimp only;exact(bin 0 0 (au _) (bh _) (λi z=>by lia) λi _ i2=>by have:=hs 0 i (bh _) i2;lia)
 ·rw[decide_eq_false c0,if_pos (show(!false)=true from rfl)];refine wpS_bind (wpS_mono (wpS_forRange (I:=λx d st'=>st'=st/\∃l o,d=(none,l,o)/\l<n/\l<o/\x<o/\(∀i,i<=l->K arr (base+i)<=c))
   (Q:=λd st'=>st'=st/\∃l o,d=(none,l,o)/\l<n/\l<o/\(∀i,i<=l->K arr (base+i)<=c)/\(∀i,o<=i->i<n->c<K arr (base+i))) ?_ ?_ ⟨rfl,0,1,rfl,by lia,by lia,by lia,λi z=>by rw[show i=0 by lia];lia⟩) ?_)
  ·rintro x d st' _ hx ⟨rfl,l,o,rfl,e1,e2,e3,e4⟩;dsimp only;by_cases z:o>=n-0
   ·rw[if_pos z];exact wpS_pure ⟨rfl,l,o,rfl,e1,e2,e4,λi i1 i2=>by lia⟩
   ·rw[if_neg z];refine wpS_bind (bey (by lia) ?_);dsimp only;rw[bR];by_cases y:c<K arr (base+o)
    ·rw[decide_eq_true y];simp only[fA,fh,if_true];exact wpS_pure ⟨rfl,l,o,rfl,e1,e2,e4,λi i1 i2=>by have:=hs o i i1 i2;lia⟩
    ·rw[decide_eq_false y];simp only[fh,fA,du,if_false];exact wpS_pure ⟨rfl,o,_,rfl,by lia,by lia,by(clear e2;lia),λi i1=>by have:=hs i o i1 (by lia);lia⟩
  ·rintro d st' ⟨rfl,l,o,rfl,e1,e2,e3,e4⟩;exact⟨rfl,l,o,rfl,e1,e2,e4,λi i1 i2=>by lia⟩
  ·rintro d st' ⟨rfl,l,o,rfl,e1,e2,e4,e5⟩;dsimp only;rw[bR,bR,hE];exact(bin (l+1) (min o n) (by lia) (by lia) (λi z=>e4 i (by lia)) λi i1 i2=>e5 i (by lia) i2)
theorem GS{st:SortSt}{arr:Array Keyed}{base:Nat}{c:Int}{t:Tok}{p:Value}{Q:Option Nat->SortSt->Prop}(hk:kindOf st=oneType')(ha:OR arr)(hn:base<arr.size)(hc:K arr base<c)(h:Q (some 1) st):
  wpS (model prog w) A E s (wV true (.int c t,p) arr base 1 0) Q st:=by
 rw[B2];dsimp only;obtain⟨u,q,e⟩:=ha base hn;have bey:∀{R:Option Bool->SortSt->Prop},R (some true) st->wpS (model prog w) A E s (DG true (.int c t,p) arr base 0) R st:=λ{R} hr=>by
  unfold DG;rw[elem'_eq,eY,e];refine wpS_bind (wpS_pure ?_);rw[if_pos rfl];exact OI hk (by rw[decide_eq_true hc];exact hr)
 refine wpS_bind (bey ?_);dsimp only;rw[if_pos rfl];refine wpS_bind (wpS_mono (wpS_forRange (I:=λx d st'=>st'=st/\d=(none,0,1)) (Q:=λd st'=>st'=st/\d=(none,0,1)) ?_ (λd st' z=>z) ⟨rfl,rfl⟩) ?_)
 ·rintro x d st' _ hx ⟨rfl,rfl⟩;dsimp only;rw[if_pos (by lia)];exact wpS_pure ⟨rfl,rfl⟩
 ·rintro d st' ⟨rfl,rfl⟩;dsimp only;unfold MA;refine wpS_bind (wpS_mono (wpS_forRange (I:=λx d st''=>st''=st'/\d=(none,1,1)) (Q:=λd st''=>st''=st'/\d=(none,1,1)) ?_ (λd st' z=>z) ⟨rfl,rfl⟩) ?_)
  ·rintro x d st'' _ hx ⟨rfl,rfl⟩;dsimp only;rw[if_pos (by lia)];exact wpS_pure ⟨rfl,rfl⟩
  ·rintro d st'' ⟨rfl,rfl⟩;exact wpS_pure h
theorem FK:∃R:Array Keyed->Array Keyed->Keyed->StateT SortSt Sem (Array Keyed),∀a b,HF a b=(do
  liftM (rule "list.sort.merge-lo")
  let x←elem' b 0
  if (1==b.size)=true then pure (#[x]++a.extract 0 a.size++b.extract 1 b.size) else R a b x):=⟨_,λ_ _=>rfl⟩
theorem FJ:∃R:Array Keyed->Array Keyed->Keyed->StateT SortSt Sem (Array Keyed),∀a b,HE a b=(do
  liftM (rule "list.sort.merge-hi")
  let x←elem' a (a.size-1)
  if (a.size-1==0)=true then pure (a.extract 0 (a.size-1)++b.extract 0 b.size++ #[x].reverse)
  else if (b.size==1)=true then pure (b.extract 0 b.size++a.extract 0 (a.size-1)++ #[x].reverse) else R a b x):=⟨_,λ_ _=>rfl⟩
theorem EK{α:Type}{b:Nat}:∀{l:List α} {k:Nat} {xs:Array α},b+k+l.length<=xs.size->((l.zipIdx k).foldl (λa q=>a.setIfInBounds (b+q.2) q.1) xs).size=xs.size/\∀i:Nat,((l.zipIdx k).foldl (λa q=>a.setIfInBounds (b+q.2) q.1) xs)[i]? =if b+k<=i/\i<b+k+l.length then l[i-(b+k)]? else xs[i]?
 | [],k,xs,_=>⟨rfl,λi=>by rw[if_neg (by simp only[eQ];lia)];rfl⟩
 |x::r,k,xs,h=>by
  rw[aR]at h;obtain⟨h1,h2⟩:=EK (b:=b) (l:=r) (k:=k+1) (xs:=xs.setIfInBounds (b+k) x) (by rw[fK];lia);rw[List.zipIdx_cons,iC];refine⟨by rw[h1,fK],λi=> ?_⟩;rw[h2 i,Array.getElem?_setIfInBounds,aR];by_cases c1:b+(k+1)<=i/\i<b+(k+1)+r.length
  ·rw[if_pos c1,if_pos (by(clear h2 h;lia)),show i-(b+k)=(i-(b+(k+1)))+1 by(clear h2 h;lia),di]
  ·rw[if_neg c1];by_cases c2:b+k=i
   ·subst c2;rw[if_pos rfl,if_pos (by lia),if_pos (by lia),d9,fQ]
   ·rw[if_neg c2,if_neg (by(clear h2 h;lia))]
theorem QN{σ:Type}{M:Model}{x st:σ}{Q:PUnit->σ->Prop}(h:Q ⟨⟩ x):wpS M A E s (set x:StateT σ Sem PUnit) Q st:=by
 unfold wpS;rw[StateT.run_set];exact wpAny_pure ⟨rfl,h⟩
theorem GU{st:SortSt}{m pw:Nat}{Q:Bool->SortSt->Prop}(hk:kindOf st=oneType')(hf:failedOf st=none)(ha:OR (arrOf st))(hz:(arrOf st).size=m+1)(m1:1<=m)(hp:pendingOf st= #[(0,m,pw),(m,1,0)])
  (hs:SortedTo (arrOf st) m) (hl:K (arrOf st) m<K (arrOf st) (m-1)) (h:∀st',(arrOf st').Perm (arrOf st)->failedOf st'=none->pendingOf st'= #[(0,m+1,pw)]->SortedTo (arrOf st') (m+1)->Q true st'):
  wpS (model prog w) A E s (mergeAt' 0) Q st:=by
 have fin:∀(k:Nat) (st1:SortSt) (mg:Array Keyed),k<m->arrOf st1=arrOf st->failedOf st1=none->pendingOf st1= #[(0,m+1,pw)]->(∀i,i<k->K (arrOf st) i<=K (arrOf st) m)->(∀i,k<=i->i<m->K (arrOf st) m<K (arrOf st) i)->mg.size=m-k+1->(∀i,i<m-k+1->mg[i]? =if i=0 then(arrOf st)[m]? else(arrOf st)[k+i-1]?)->
   wpS (model prog w) A E s (do
    modify λs=>setArr s (fH (λa x=>a.setIfInBounds (0+k+x.snd) x.fst) (arrOf s) mg.toList.zipIdx)
    let __do_lift←get
    pure (failedOf __do_lift).isNone) Q st1:=λk st1 mg hkm e1 e2 e3 h1 h2 z1 z2=>by
  have eq:fH (λa x=>a.setIfInBounds (0+k+x.snd) x.fst) (arrOf st1) mg.toList.zipIdx=bubble (arrOf st) m (m-k):=by
   rw[e1,bR];obtain⟨_,g⟩:=EK (b:=k) (l:=mg.toList) (k:=0) (xs:=arrOf st) (by rw[dR];lia);refine gX λi=> ?_;rw[g i,getElem?_bubble (by lia) (m-k) (by(clear hkm hl m1 hz;omega)) i,dR,Array.getElem?_toList,z1];by_cases c1:k<=i/\i<=m
   ·rw[if_pos (by(clear g z1 hz;lia)),z2 _ (by lia)];by_cases c2:i=k
    ·rw[if_pos (by lia),if_pos (by lia)]
    ·rw[if_neg (by lia),if_neg (by(clear z1 hz;lia)),if_pos (by(clear z1 hz;lia))];congr 1;(clear hkm;lia)
   ·rw[if_neg (by(clear g hz;lia)),if_neg (by(clear z1 hl hz;omega)),if_neg (by(clear z1 hz;lia))]
  refine wpS_bind (wpS_modify (wpS_bind (wpS_get ?_)));rw[eq];show wpS _ _ _ _ (pure (failedOf st1).isNone) _ _;rw[e2];have hks:m<(arrOf st).size:=by lia
  refine wpS_pure (h _ (bubble_perm _ _ _) e2 e3 λi j hij hj=> ?_);show K (bubble (arrOf st) m (m-k)) i<=K (bubble (arrOf st) m (m-k)) j;rw[K_bubble hks (by(clear hkm hl m1 hz;omega)),K_bubble hks (by(clear hkm hl m1 hz;omega)),show m-(m-k)=k by(clear hij z1 hz;lia)]
  repeat' split
  all_goals first
   |(exfalso;lia)
   |exact cO _
   |exact h1 _ (by lia)
   |exact gZ (h2 _ (by lia) (by(clear hij z1 hkm hl hz;omega)))
   |exact hs _ _ (by lia) (by lia)
 rw[HD];refine wpS_bind (wpS_get ?_);dsimp only;rw[show(pendingOf st)[0]? =some (0,m,pw) by rw[hp];rfl,show(pendingOf st)[0+1]? =some (m,1,0) by rw[hp];rfl];dsimp only;refine wpS_bind (QN ?_);have e3:((pendingOf st).setIfInBounds 0 (0,m+1,pw)).eraseIdxIfInBounds (0+1)= #[(0,m+1,pw)]:=by rw[hp];simp[Array.eraseIdxIfInBounds,Array.setIfInBounds]
 rw[e3];obtain⟨t,q,em⟩:=ha m (by lia);rw[elem'_eq,em];refine wpS_bind (wpS_pure ?_);refine wpS_bind (IE (st:=setPending st #[(0,m+1,pw)]) hk ha (by lia) m1 (λi j a b=>by rw[bR,bR];exact hs i j a b) λk k1 k2 k3=> ?_);simp only[bR]at k2 k3;have km:k<m:=Nat.lt_of_le_of_ne k1 λz=>by have:=k2 (m-1) (by(clear hl hz;omega));lia
 dsimp only;rw[if_neg (by rw[beq_iff_eq];lia),show 0+k+(m-k)-1=m-1 by lia];obtain⟨t',q',em'⟩:=ha (m-1) (by lia);rw[elem'_eq,em'];refine wpS_bind (wpS_pure ?_);refine wpS_bind (GS (st:=setPending st #[(0,m+1,pw)]) hk ha (by lia) hl ?_);dsimp only;rw[if_neg (by decide)];have F:=fin k (setPending st #[(0,m+1,pw)]);have xs:((arrOf st).extract (0+k) m).size=m-k:=by rw[dt];(clear km k3 k2;lia)
 have ys:((arrOf st).extract m (m+1)).size=1:=by rw[dt];lia
 by_cases z:m-k<=1
 ·rw[if_pos z];obtain⟨R,eR⟩:=FK;rw[eR];refine wpS_bind (wpS_bind (wpS_lift (wpAny_rule ⟨rfl,?_⟩)));rw[elem'_eq,cu,if_pos (by lia),eY,em];refine wpS_bind (wpS_pure ?_);rw[if_pos (by rw[ys];rfl)];refine wpS_pure (F _ km rfl hf rfl k2 k3 ?_ λi hi=> ?_)
  ·rw[cU,cU,dX,xs,dt,ys];show 1+(m-k)+(min 1 1-1)=_;lia
  ·have s1:(#[((dC (K (arrOf st) m) t,q):Keyed)]++(arrOf st).extract (0+k) m).size=m-k+1:=by rw[cU,xs];show 1+(m-k)=_;lia
   rw[dX,dG,if_pos (by rw[s1];exact hi),dG,show(#[((dC (K (arrOf st) m) t,q):Keyed)]).size=1 from rfl];by_cases c1:i=0
   ·subst c1;rw[if_pos (show 0<1 by lia),if_pos rfl,em];rfl
   ·rw[if_neg (show¬i<1 by lia),if_neg c1,cu,if_pos (by(clear s1 ys xs hl;omega))];congr 1;(clear hi xs k1;lia)
 ·rw[if_neg z];obtain⟨R,eR⟩:=FJ;rw[eR];refine wpS_bind (wpS_bind (wpS_lift (wpAny_rule ⟨rfl,?_⟩)));rw[elem'_eq,xs,cu,if_pos (by(clear ys xs k2 k1 hp;lia)),show 0+k+(m-k-1)=m-1 by lia,em'];refine wpS_bind (wpS_pure ?_);rw[if_neg (by rw[beq_iff_eq];(clear ys xs km k1 hl;omega)),if_pos (by rw[ys];rfl)];refine wpS_pure (F _ km rfl hf rfl k2 k3 ?_ λi hi=> ?_)
  ·rw[cU,cU,dX,ys,dt,xs];show 1+(min (m-k-1) (m-k)-0)+1=_
   (clear z xs k1 hl hz;lia)
  ·have s2:(((arrOf st).extract (0+k) m).extract 0 (m-k-1)).size=m-k-1:=by rw[dt,xs];(clear z xs k1 hl hz;lia)
   have s1:((arrOf st).extract m (m+1)++((arrOf st).extract (0+k) m).extract 0 (m-k-1)).size=m-k:=by rw[cU,ys,s2];(clear z k1 hl hz;lia)
   rw[dX,dG,s1,dG,ys];by_cases c1:i=0
   ·subst c1;rw[if_pos (by lia),if_pos (by lia),if_pos rfl,cu,if_pos (by lia),eY]
   ·rw[if_neg c1];by_cases c2:i<m-k
    ·rw[if_pos c2,if_neg (by lia),cu,if_pos (by rw[xs];(clear hi k1 hz;lia)),cu,if_pos (by(clear s2 xs k3 k1;lia))];congr 1;lia
    ·rw[if_neg c2,show i-(m-k)=0 by(clear c2;lia),show k+i-1=m-1 by lia,em'];rfl
theorem VM{α:Type}{a:α}{f:α->α}:(#[a]:Array α).modify 0 f= #[f a]:=by
 refine gX λi=> ?_;rw[Array.getElem?_modify]
 cases i<;>simp
theorem Qw{a₀:Array Keyed}{st:SortSt}(hB:SBase a₀ st)(h0:IntKeys a₀):OR (arrOf st):=λj hj=>hB.at h0 (by rw[←hB.size];exact hj)
theorem J_{st:SortSt}{lo:Nat}{Q:Option Nat->SortSt->Prop}(h:Q (some 1) st):wpS (model prog w) A E s (countRun' lo 1) Q st:=by
 rw[countRun'_eq];dsimp only;refine wpS_bind (wpS_mono (wpS_forRange (I:=λ_ d st'=>st'=st/\d=(none,1)) (Q:=λd st'=>st'=st/\d=(none,1)) (λi c st' h1 h2=>by lia) (λd st' z=>z) ⟨rfl,rfl⟩) ?_);rintro d st' ⟨rfl,rfl⟩;exact wpS_pure h
theorem J9{st:SortSt}{lo:Nat}{Q:Bool->SortSt->Prop}(h:Q true st):wpS (model prog w) A E s (binarySort' lo 1 1) Q st:=by
 rw[binarySort'_eq];dsimp only;refine wpS_bind (wpS_mono (wpS_forRange (I:=λ_ d st'=>st'=st/\d=(none,())) (Q:=λd st'=>st'=st/\d=(none,())) (λi c st' h1 h2=>by lia) (λd st' z=>z) ⟨rfl,rfl⟩) ?_);rintro d st' ⟨rfl,rfl⟩;exact wpS_pure h
theorem IF{st:SortSt}{a₀:Array Keyed}{m:Nat}{Q:Option Nat->SortSt->Prop}(h0:IntKeys a₀)(hB:SBase a₀ st)(hz:a₀.size=m+1)(m2:2<=m)(hs:SortedTo (arrOf st) m)(hr:K (arrOf st) 0<K (arrOf st) (m-1))
  (h1:SortedTo (arrOf st) (m+1)->Q (some (m+1)) st) (h2:K (arrOf st) m<K (arrOf st) (m-1)->Q (some m) st):wpS (model prog w) A E s (countRun' 0 (m+1)) Q st:=by
 rw[countRun0_eq];refine wpS_bind (wpS_ascLoop h0 (by lia) (au 1) (by lia) hB (λi j a b=>by rw[show i=j by lia];exact cO _) λn n1 n2 n3 n4=> ?_);dsimp only;by_cases z:n=m+1
 ·subst z;rw[if_pos (by rw[beq_iff_eq])];exact wpS_pure (h1 n3)
 ·have e:=n4.resolve_left z;obtain rfl:n=m:=by
   by_cases y:n<m
   ·have:=hs (n-1) n (by(clear hr hz;omega)) y;lia
   ·lia
  rw[if_neg (by rw[beq_iff_eq];omega),if_pos (by lia)];refine wpS_bind (wpS_ltK hB h0 (by lia) (by lia) ?_);rw[decide_eq_true hr];dsimp only;rw[if_pos rfl];exact wpS_pure (h2 e)
theorem GV{st:SortSt}{a₀:Array Keyed}{m:Nat}{Q:Unit->SortSt->Prop}(h0:IntKeys a₀)(hB:SBase a₀ st)(hz:a₀.size=m+1)(m2:63<=m)(m3:m<127)(hs:SortedTo (arrOf st) m)(hr:K (arrOf st) 0<K (arrOf st) (m-1))
  (h:∀st',(arrOf st').Perm a₀->failedOf st'=none->SortedTo (arrOf st') (m+1)->Q () st'):wpS (model prog w) A E s sortRuns' Q st:=by
 rw[sortRuns'_eq];refine wpS_bind (wpS_get ?_);dsimp only;have hmr:minRun' (m+1) (m+1) 0<=m/\1<minRun' (m+1) (m+1) 0:=by
  obtain⟨f,hf⟩:∃f,m=f+1:=⟨m-1,by lia⟩;rw[minRun'_succ,if_neg (by lia)];have:minRun' m ((m+1)/2) (max 0 ((m+1)%2))=(m+1)/2+max 0 ((m+1)%2):=by
   rw[hf,minRun'_succ,if_pos (by lia)]
  rw[this];(clear hf;lia)
 rw[hB.size,hz];generalize minRun' (m+1) (m+1) 0=mr at hmr⊢;have base:∀{st':SortSt},kindOf st'=oneType'->failedOf st'=none->arrOf st'=arrOf st->pendingOf st'= #[]->SBase a₀ st':=λa b c d=>⟨by rw[c];exact hB.perm,a,b,d⟩;refine wpS_bind (wpS_mono (wpS_forRange
  (I:=λx c st'=>(kindOf st'=oneType'/\failedOf st'=none/\arrOf st'=arrOf st)/\((x=0/\c=(none,0)/\pendingOf st'= #[])∨(x=1/\c=(none,m)/\pendingOf st'= #[(0,m,0)]/\K (arrOf st) m<K (arrOf st) (m-1))∨
   (1<=x/\c=(none,m+1)/\((pendingOf st'= #[(0,m+1,0)]/\SortedTo (arrOf st) (m+1))∨∃pw,pendingOf st'= #[(0,m,pw),(m,1,0)]/\K (arrOf st) m<K (arrOf st) (m-1)))))
  (Q:=λc st'=>(kindOf st'=oneType'/\failedOf st'=none/\arrOf st'=arrOf st)/\c=(none,m+1)/\((pendingOf st'= #[(0,m+1,0)]/\SortedTo (arrOf st) (m+1))∨∃pw,pendingOf st'= #[(0,m,pw),(m,1,0)]/\K (arrOf st) m<K (arrOf st) (m-1)))
  ?step ?fin ⟨⟨hB.kind,hB.failed,rfl⟩,.inl ⟨rfl,rfl,hB.pend⟩⟩) ?post)
 case fin=>
  rintro c st' ⟨p,⟨z,_⟩|⟨z,_⟩|⟨_,z,q⟩⟩
  ·lia
  ·lia
  ·exact⟨p,z,q⟩
 case step=>
  rintro x c st' _ hx ⟨⟨pk,pf,pa⟩,⟨rfl,rfl,pp⟩|⟨rfl,rfl,pp,lt⟩|⟨x1,rfl,q⟩⟩
  ·dsimp only;rw[if_neg (by lia),hE];refine wpS_bind (IF h0 (base pk pf pa pp) hz (by lia) (by rw[pa];exact hs) (by rw[pa];exact hr) (λsrt=> ?_) λlt=> ?_)
   ·dsimp only;rw[if_neg (by lia)];refine wpS_bind (wpS_get ?_);rw[show(pendingOf st').back? =none by rw[pp];rfl];dsimp only;refine wpS_bind (wpS_modify (wpS_pure ⟨⟨pk,pf,pa⟩,.inr (.inr ⟨by lia,by rw[bR],.inl ⟨?_,by rw[←pa];exact srt⟩⟩)⟩));show(pendingOf st').push (0,m+1,0)=_;rw[pp];rfl
   ·dsimp only;rw[if_neg (by lia)];refine wpS_bind (wpS_get ?_);rw[show(pendingOf st').back? =none by rw[pp];rfl];dsimp only;refine wpS_bind (wpS_modify (wpS_pure ⟨⟨pk,pf,pa⟩,.inr (.inl ⟨rfl,by rw[bR],?_,by rw[←pa];exact lt⟩)⟩));show(pendingOf st').push (0,m,0)=_;rw[pp];rfl
  ·dsimp only;rw[if_neg (by lia),show m+1-m=1 by lia];refine wpS_bind (J_ ?_);dsimp only;rw[if_pos hmr.2];refine wpS_bind (wpS_lift (wpAny_rule ⟨rfl,?_⟩));rw[show min 1 mr=1 by lia];refine wpS_bind (J9 ?_);rw[if_neg (by decide)];refine wpS_bind (wpS_get ?_);rw[show(pendingOf st').back? =some (0,m,0) by rw[pp];rfl];dsimp only;refine wpS_bind (wpS_mono (wpS_forRange (I:=λ_ d st''=>st''=st'/\d=(none,())) (Q:=λd st''=>st''=st'/\d=(none,())) ?_ (λd st' z=>z) ⟨rfl,rfl⟩) ?_)
   ·rintro x d st'' _ hx ⟨rfl,rfl⟩;refine wpS_bind (wpS_get ?_);rw[if_neg (by rw[pp];exact(show¬(1>1) by decide))];exact wpS_pure ⟨rfl,rfl⟩
   ·rintro d st'' ⟨rfl,rfl⟩;dsimp only;refine wpS_bind (wpS_modify (wpS_bind (wpS_modify (wpS_pure ⟨⟨pk,pf,pa⟩,.inr (.inr ⟨by lia,rfl,.inr ⟨power' (m+1) (2*0+m) (2*0+m+m+1) (m+1),?_,lt⟩⟩)⟩))));show((pendingOf st'').modify ((pendingOf st'').size-1) λx=>(x.1,x.2.1,power' (m+1) (2*0+m) (2*0+m+m+1) (m+1))).push (m,1,0)=_;rw[pp,show(#[(0,m,0)]:Array (Nat×Nat×Nat)).size-1=0 from rfl,VM];rfl
  ·dsimp only;rw[if_pos (au _)];exact wpS_pure ⟨⟨pk,pf,pa⟩,rfl,q⟩
 case post=>
  rintro c st1 ⟨⟨pk,pf,pa⟩,rfl,q⟩;dsimp only;refine wpS_bind (wpS_mono (wpS_forRange (I:=λx d st'=>d=(none,())/\((x=0/\st'=st1)∨((arrOf st').Perm a₀/\failedOf st'=none/\(pendingOf st').size<=1/\SortedTo (arrOf st') (m+1))))
   (Q:=λd st'=>d=(none,())/\(arrOf st').Perm a₀/\failedOf st'=none/\SortedTo (arrOf st') (m+1)) ?_ ?_ ⟨rfl,.inl ⟨rfl,rfl⟩⟩) ?_)
  ·rintro x d st' _ hx ⟨rfl,⟨rfl,rfl⟩|⟨g1,g2,g3,g4⟩⟩
   ·refine wpS_bind (wpS_get ?_);rcases q with ⟨pp,srt⟩|⟨pw,pp,lt⟩
    ·rw[if_pos (by rw[pp];exact au 1)];exact wpS_pure ⟨rfl,by rw[pa];exact hB.perm,pf,by rw[pa];exact srt⟩
    ·rw[if_neg (by rw[pp];exact(show¬(2<=1) by decide))];refine wpS_bind ?_;have e0:∀{n:Nat},n=0->mergeAt' n=mergeAt' 0:=λe=>by rw[e]
     rw[e0 (by rw[pp];rfl)];refine GU (m:=m) (pw:=pw) pk pf (by rw[pa];exact Qw hB h0) (by rw[pa,hB.size,hz]) (by lia) pp (by rw[pa];exact hs) (by rw[pa];exact lt) λst2 a1 a2 a3 a4=> ?_;rw[if_neg (by decide)];exact wpS_pure ⟨rfl,.inr ⟨a1.trans (by rw[pa];exact hB.perm),a2,by rw[a3];exact au 1,a4⟩⟩
   ·refine wpS_bind (wpS_get ?_);rw[if_pos g3];exact wpS_pure ⟨rfl,g1,g2,g4⟩
  ·rintro d st' ⟨rfl,⟨z,_⟩|⟨g1,g2,g3,g4⟩⟩
   ·lia
   ·exact⟨rfl,g1,g2,g4⟩
  ·rintro d st' ⟨rfl,g1,g2,g4⟩;exact wpS_pure (h _ g1 g2 g4)
noncomputable def DD (ns:List Int):Prop:=∀i j:Nat,i<j->j+1<ns.length->ns.getD i 0<ns.getD j 0
theorem Bv{vs:List Value}{ns:List Int}(hI:IntsAre vs ns){i:Nat}(hi:i<vs.length):K (pairsOf vs) i=ns.getD i 0:=by
 rw[K_eq (by rw[pairsOf_size];exact hi)];have e:(pairsOf vs)[i]'(by rw[pairsOf_size];exact hi)=(vs[i],vs[i]):=by simp[pairsOf]
 rw[e,←hI.nums,af,ak,ab hi];rfl
theorem Ma{a:Addr}{vs:List Value}{ns:List Int}{n:Nat}{P:Fin->Shared->Prop}(ho:s.heap.get? a=some (seqObj "list" vs.toArray n))(hI:IntsAre vs ns)(l1:64<=vs.length)(l2:vs.length<128)(hr:DD ns)
  (h:∀(out:Array Value) (ns':List Int),IntsAre out.toList ns'->ns'.Perm ns->ns'.Pairwise (·<=·)->P (.done (.ret .none)) {s with heap:=sortedHeap s.heap a vs out}):
  wpAny (model prog w) A (Builtin.«list.sort» ⟨[.ref a],[]⟩) P E s:=by
 have nl:ns.length=vs.length:=by rw[←hI.nums,ae]
 have sl:128<=sizeLine:=by decide
 have la:=aC ho;rw[list_sort_plain];refine wpAny_bind (listItems_at ho rfl (wpAny_bind (listUpdate_at ho rfl ?_)));obtain⟨e1,h1⟩:∃e1,(s.heap.update a (cZ λ_=> #[])).get? a=some (seqObj "list" #[] e1):=⟨_,get?_update_seq ho λ_=> #[]⟩;refine wpAny_bind (seqEpoch_at h1 rfl (wpAny_bind (wpAny_newTuple (wpAny_bind (wpAny_newList (wpAny_holding ?_))))));have z1:a≠(s.heap.update a (cZ λ_=> #[])).objs.size:=by rw[ix];exact aJ la
 have z2:∀o:Obj,a≠((s.heap.update a (cZ λ_=> #[])).push o).objs.size:=λo=>by rw[size_push',ix];exact aJ (Nat.lt_succ_of_lt la)
 have h6:(((s.heap.update a (cZ λ_=> #[])).push (seqObj "tuple" vs.toArray 0)).push (seqObj "list" #[] 0)).get? a=some (seqObj "list" #[] e1):=
  (ib _ _ _ (z2 _)).trans ((ib _ _ _ z1).trans h1)
 have big:¬vs.toArray.size<2:=by rw[aH];lia
 have kk:keyKind' vs.toArray=pure oneType':=by
  rcases vs with _|⟨v1,_|⟨v2,r⟩⟩
  ·cases l1
  ·rw[dI]at l1;lia
  ·exact keyKind_ints hI
 show wpAny (model prog w) A _ P E {s with heap:=((s.heap.update a (cZ λ_=> #[])).push (seqObj "tuple" vs.toArray 0)).push (seqObj "list" #[] 0)};dsimp only;rw[if_neg big,if_neg big,kk];refine wpAny_bind (wpAny_pure (wpAny_bind (wpAny_mono (GV (m:=vs.length-1) (a₀:=pairsOf vs) (st:=SortSt.mk' oneType' (vs.toArray.zip vs.toArray) #[] 7 none)
  (Q:=λ_ st'=>(arrOf st').Perm (pairsOf vs)/\failedOf st'=none/\SortedTo (arrOf st') (vs.length-1+1)) hI.intKeys ⟨Array.Perm.refl _,rfl,rfl,rfl⟩ (by rw[pairsOf_size];lia) (by lia) (by(clear nl l1;omega)) (λi j ij jl=> ?_) ?_ λst' b1 b2 b3=>⟨b1,b2,b3⟩) ?_ λ_ _ e=>e)))
 ·show K (pairsOf vs) i<=K (pairsOf vs) j;rw[Bv hI (by(clear l2 l1;omega)),Bv hI (by(clear l2 l1;omega))];by_cases z:i=j
  ·rw[z];exact cO _
  ·exact gZ (hr i j (by lia) (by(clear ij l1;omega)))
 ·show K (pairsOf vs) 0<K (pairsOf vs) (vs.length-1-1);rw[Bv hI (by lia),Bv hI (by(clear la l2;omega))];exact hr 0 _ (by lia) (by lia)
 ·rintro⟨⟨⟩,st'⟩ s' ⟨rfl,b1,b2,b3⟩;rw[Nat.sub_add_cancel (by lia),←pairsOf_size vs]at b3;obtain⟨ns',c1,c2,c3⟩:=sorted_out hI b1 b3;dsimp only;refine wpAny_bind (seqEpoch_at h6 rfl (wpAny_bind (listUpdate_at h6 rfl ?_ (hsz2:=by rw[Array.size_map,b1.size_eq,pairsOf_size];lia))));rw[b2];simp only[bne_self_eq_false,du,if_false];exact wpAny_pure (h _ ns' c1 c2 c3)
end
noncomputable def wN:List V->Hp->VK->Prop:=λxs H Q=>match xs with
 | [.ref a]=>(match H a with
  |some (.dK kvs)=>(match B6 kvs with
   |some ns=>(ns.length<64∨ns.length<128/\DD ns)/\∀l,H l=none->Q (.ref l) (upd H l (.lst ((jS ns).map V.int)))
   |none=>False)
  |_=>False)
 |_=>False
section
variable{X:Cx}
theorem Ls(hc:X.calm=true):nB X (.builtin "sorted") wN:=by
 intro pins s σ H xs us Q I r h;unfold wN at h
 split at h
 case h_2=>exact h.elim
 rename_i a;obtain⟨u,rfl,rx⟩:=vals1 r
 cases (show u=aL a from rx)
 split at h
 case h_2=>exact h.elim
 rename_i kvs ea
 split at h
 case h_2=>exact h.elim
 rename_i ns hb;obtain⟨hl,h⟩:=h;obtain⟨z,hd,vs,rel,o,es,ep,hat⟩:=BW I.j5 ea;have da:ei (j7 X.prog X.w) s.heap a vs ep:=⟨o,es,hat⟩;have hk1:=B7 hb;have hk2:=rel.keys;have hlen:vs.length=ns.length:=by
  have:=congrArg eB (hk2.symm.trans hk1);simpa using this
 have h64:128<=sizeLine:=by decide
 have srt:∀{B:Around} {F:Value->Shared->Prop} {s:Shared} {a:Addr} {us:List Value} {n:Nat} {P:PySem.Fin->Shared->Prop},s.heap.get? a=some (seqObj "list" us.toArray n)->IntsAre us ns->(∀(out:Array Value) (ns':List Int),IntsAre out.toList ns'->ns'.Perm ns->ns'.Pairwise (·<=·)->P (.done (.ret .none)) {s with heap:=sortedHeap s.heap a us out})->wpAny (model X.prog X.w) B (Builtin.«list.sort» ⟨[.ref a],[]⟩) P F s:=λ{B F s a us n P} g I k=>by
  have e:us.length=ns.length:=by rw[←I.nums,ae]
  by_cases z:ns.length<64
  ·exact list_sort_tree g I (by lia) k
  ·exact Ma g I (by lia) (by have:=hl.resolve_left z;lia) (hl.resolve_left z).2 k
 refine fG kind_sorted plain_sorted entry_sorted (args_sorted1 _) ?_;refine wpAny_bind (wpAny_pure ?_);refine wpAny_bind (gT (fP hd) (by show X.A.handled=none;exact I.ok.hd hc) da (by lia) λh' tk acc hk hi=> ?_);have hal:acc.toList.length=ns.length:=by rw[←hlen];simpa using hi.1
 have hints:IntsAre acc.toList ns:=vQ hal λj v hv=>by
  obtain⟨k,x,e1,e2⟩:=hi.2 j v (by simpa using hv);have e3:(vs.map (·.1))[j]? =some k:=by rw[ak,e1];rfl
  rw[←hk2,hk1,ak]at e3;obtain⟨n,e4,rfl⟩:=Option.map_eq_some_iff.mp e3;obtain⟨t,rfl⟩:=ET (show uq (.inl n) v=true from e2);exact⟨t,by rw[af,e4];rfl⟩
 refine wpAny_bind (wpAny_newList ?_ (by lia));have hgt:(h'.push {cls:= .type "list",data:= .seq acc.toList.toArray}).get? h'.objs.size=some (seqObj "list" acc.toList.toArray 0):=br _ rfl;refine wpAny_bind (wpAny_holding (wpAny_call_entry slot_list_sort ⟨_,hgt,rfl⟩ entry_list_sort (srt hgt hints λout ns' h1 h2 h3=> ?_) (args_list_sort _)));refine⟨_,rfl,wpAny_pure ⟨_,rfl,?_⟩⟩;have e:=wY h2 h3;subst e;have hln:=h2.length_eq;have I2:Inv X pins σ H {s with heap:=h',toks:=tk}:=I.kept λb o e=>hk b o e;have hf:H h'.objs.size=none:=I2.j5.fresh (au _);obtain⟨en,he⟩:=sortedHeap_at (h:=h'.push {cls:= .type "list",data:= .seq acc.toList.toArray}) (a:=h'.objs.size) (vs:=acc.toList) (out:=out) hgt;refine⟨.ref h'.objs.size,_,I2.laid (t':=tk) (λb o e=>(sortedHeap_old (aJ (aC e)) (aC (aE _ e))).trans (aE _ e)) (au _) (show kO X.prog X.w _ _ _ (.lst ((jS ns).map V.int)) from ?_),rfl,h _ hf⟩;exact⟨by rw[ae,hln];exact av (show ns.length<=128 by lia) (by decide),out.toList,en,vt h1,by simpa using he⟩
theorem Hq(hc:X.calm=true):uc X (.builtin "sorted") wN:=⟨Ls hc⟩
noncomputable def By:V->List V->Hp->VK->Prop:=λx vs H Q=>match x,vs with
 | .ref a,[.int z]=>(match H a with
  |some (.lst ys)=>∃ts:List Int,ys=ts.map V.int/\z∈ts/\Q (.int (ts.idxOf z:Nat)) H
  |_=>False)
 |_,_=>False
noncomputable def B8 (z:Int):Value->Bool
 | .int a _=>a==z
 |_=>false
theorem MO:Vm X "list.index" By:=by
 intro pins s σ H x xs v us Q I rx rxs h;unfold By at h
 split at h
 case h_2=>exact h.elim
 rename_i a z
 split at h
 case h_2=>exact h.elim
 rename_i ys ea;obtain⟨ts,rfl,hz,q⟩:=h
 cases (show v=aL a from rx)
 obtain⟨u,rfl,t,rfl⟩:=vals1 rxs;obtain⟨its,rv,p,hl⟩:=I.list (jX.of ea);obtain⟨⟨cls,dd,data,sl⟩,ho,hc,n,hd⟩:=id p.isList;simp only at hc hd;subst hc hd;have hlen:its.length=ts.length:=by have:=rv.length;rw[ae]at this;lia
 have hj:ts.idxOf z<ts.length:=List.idxOf_lt_length_iff.mpr hz;have hn:=Cs;rw[ae]at hl;have at_:∀(m:Nat) (hm:m<its.length) (hm':m<ts.length),∃k,its[m]= .int ts[m] k:=λm hm hm'=>by
  obtain⟨w,e,r⟩:=rv.get (show(ts.map V.int)[m]? =some (V.int ts[m]) by rw[ak,ab hm'];rfl);rw[ab hm]at e
  cases e
  exact r
 refine call_meets fS ⟨_,ho,rfl⟩ PySem.F.entry_list_index (PySem.F.args_list_index_2 _ _)
  (SeqAt.list_indexAt a its.toArray n dd sl (.int z t) (B8 z) (ts.idxOf z) (by simpa [hlen] using hj) (by lia) ?_ ?_) ⟨ho,λy hy=> ?_,⟨.int _,H,I.tok _,⟨_,rfl⟩,q⟩⟩
 ·show B8 z (its[ts.idxOf z]'(by lia))=true;obtain⟨k,e⟩:=at_ _ (by lia) hj
  rw[e];simpa [B8] using List.getElem_idxOf hj
 ·intro j hjs hlt;have hjs':j<its.length:=by simpa using hjs
  show B8 z (its[j]'hjs')=false;obtain⟨k,e⟩:=at_ j hjs' (by lia)
  rw[e];have hf:=List.not_of_lt_findIdx (xs:=ts) (p:=λa=>a==z) hlt;simpa [B8] using hf
 ·have hy':y∈its:=by simpa using hy
  obtain⟨m,hm,rfl⟩:=List.mem_iff_getElem.mp hy';obtain⟨k,e⟩:=at_ m hm (by lia)
  rw[e];exact(iQ _ z k t).at _ _
theorem Jh:U9 X "list.index" By:=⟨MO⟩
noncomputable def O_:R2:=λx y H Q=>match x,y with
 | .ref a,.ref b=>(match H a,H b with
  |some (.lst xs),some (.lst ys)=>if xs.length=ys.length then(match tT (cI (tU H 3) xs ys) with
    |some k=>Q (.bl k) H
    |none=>False) else Q (.bl false) H
  |_,_=>Fc (.ref a) (.ref b) H Q)
 |x,y=>Fc x y H Q
theorem TQ(hu:X.A.units+8<cLine):nX X (compareOp .Eq) O_:=by
 intro pins s σ H x y v u Q I rx ry h;unfold O_ at h
 split at h
 case h_2=>exact G_ hu pins s σ H _ _ v u Q I rx ry h
 rename_i a b
 split at h
 case h_2=>exact G_ hu pins s σ H _ _ v u Q I rx ry h
 rename_i xs ys e1 e2
 cases (show v=aL a from rx)
 cases (show u=aL b from ry)
 obtain⟨i1,r1,p1,_⟩:=I.list (jX.of e1);obtain⟨i2,r2,p2,_⟩:=I.list (jX.of e2);have l1:=r1.length;have l2:=r2.length
 split at h
 ·rename_i hl
  split at h
  case h_2=>exact h.elim
  rename_i k hk;obtain⟨e,h1,h2⟩:=qi hk;rw[bU,←hl,cJ]at h2;refine iI (e:=e) p1.isList p2.isList (by simp;lia) (by lia) (λj j1 j2=> ?_) ⟨.bl k,H,I,?_,h⟩
  ·simp only[aH]at j1 j2;have k1:j<xs.length:=by(clear hl;lia)
   have k2:j<ys.length:=by(clear l2;lia)
   obtain⟨w1,g1,q1⟩:=r1.get (ab k1);obtain⟨w2,g2,q2⟩:=r2.get (ab k2);have z:=h1 j (tU H 3 xs[j] ys[j]) (by rw[bx,ab k1,ab k2]);have e4:i1.toArray[j]=w1:=by simpa [j1] using g1
   have e5:i2.toArray[j]=w2:=by simpa [j2] using g2
   rw[e4,e5];exact rA I 3 X.A.in1 (by rw[c9];lia) q1 q2 z
  ·have e3:i1.toArray.size=xs.length:=by simp[l1]
   rw[e3,h2];exact rfl
 ·exact fT p1.isList p2.isList (by simp;lia) (by lia) ⟨.bl false,H,I,rfl,h⟩
theorem KI(hu:X.A.units+8<cLine):Aq X (compareOp .Eq) O_:=⟨TQ hu⟩
end
end Internal
namespace Internal
theorem nA{H:Hp}{a b:PySem.Addr}{o u:HO}(e:H b=some u)(n:b≠a):upd H a o b=some u:=by rw[i4 n];exact e
end Internal
namespace Internal.K21
open Internal.V renaming int->ι,ref->ξ
open PySem Internal
local macro_rules|`(tactic|simp?[$l,*]$[$o]?)=>do let b:=("S6 Oy S0 E1 IB tC Fd Qs Um Rz Int.reduceAdd fh Internal.start az bY aR eQ ao bg fQ true_and Nat.reduceAdd d9 Int.reduceSub QJ Nk bX eV V.ref.injEq exists_eq_left' Nat.reduceSub OA IA IC Me oE fA Hv Bz di g_ List.set_cons_succ List.cons.injEq and_true du Oz oj iZ Bw Vt MF Option.some.injEq Int.reduceLT Int.reduceEq Nat.reduceLT P6 String.reduceEq MK Pn RI VG Iw J4 Kl S4 WQ Iz Ay Nj Vv Ln decide_eq_true_eq O8 Ph MI Mo or_true Int.reduceNeg Int.reducePow G9 Q6 Wi Wf RD RH RG RF RE Pl decide_true Fc Pb QI Vd decide_false Pc true_or Vf and_false IS Bool.not_eq_true' Lq Pj Vh MJ Wg MD TC TJ S7 WS S5 Pg Mu Bool.true_eq_false exists_eq_left Pk RN and_assoc A8 Nb exists_and_left Nl TF V.int.injEq A3 Vu VN TK QK Pm WR Km RL A4 exists_const reduceCtorEq false_and Ve Hn BA S2 O_".splitOn " ").toArray.map λs=>Lean.mkIdent s.toName;`(tactic|simp only[↓reduceIte,↓Ue,↓Ri,↓MH,$[$b:ident],*,$l,*]$[$o]?)
local macro_rules|`(⇑$x)=>`(some (ξ $x))|`(↥$x)=>`(some (ι $x))
local macro_rules|`(tactic|ext$p*)=>`(tactic|(rintro Gq hGq$p*;subst hGq))
local macro_rules|`(tactic|exists$b)=>do let i:=λs:String=>Lean.mkIdent s.toName;`(tactic|refine $(i "jb") (λ$(i "σ'") $(i "H'")=>$b) (λ$(i "R") $(i "hR")=> ?_) ?_)
local macro_rules|`(tactic|specialize$t)=>do let i:=λs:String=>Lean.mkIdent s.toName;`(tactic|refine $t (λvs H Q E h=>by repeat (first|(subst ‹vs=_›;rfl)|(cases h;rename_i h))) (λ_ _ _ _ _ $(i "H") _ $(i "Q") $(i "E") $(i "hr") $(i "hx") $(i "h")=> ?_))
local macro_rules|`(∅)=>`(by decide+kernel)
local macro_rules|`(⋯)=>`(by lia)
set_option genSizeOf false
set_option genInjectivity false
inductive C3 (p0 p1 p2:Prop):Prop
 |mk (h0:p0) (h1:p1) (h2:p2):C3 p0 p1 p2
inductive C4 (p0 p1 p2 p3:Prop):Prop
 |mk (h0:p0) (h1:p1) (h2:p2) (h3:p3):C4 p0 p1 p2 p3
inductive C5 (p0 p1 p2 p3 p4:Prop):Prop
 |mk (h0:p0) (h1:p1) (h2:p2) (h3:p3) (h4:p4):C5 p0 p1 p2 p3 p4
inductive C6 (p0 p1 p2 p3 p4 p5:Prop):Prop
 |mk (h0:p0) (h1:p1) (h2:p2) (h3:p3) (h4:p4) (h5:p5):C6 p0 p1 p2 p3 p4 p5
inductive C7 (p0 p1 p2 p3 p4 p5 p6:Prop):Prop
 |mk (h0:p0) (h1:p1) (h2:p2) (h3:p3) (h4:p4) (h5:p5) (h6:p6):C7 p0 p1 p2 p3 p4 p5 p6
inductive C8 (p0 p1 p2 p3 p4 p5 p6 p7:Prop):Prop
 |mk (h0:p0) (h1:p1) (h2:p2) (h3:p3) (h4:p4) (h5:p5) (h6:p6) (h7:p7):C8 p0 p1 p2 p3 p4 p5 p6 p7
inductive C9 (p0 p1 p2 p3 p4 p5 p6 p7 p8:Prop):Prop
 |mk (h0:p0) (h1:p1) (h2:p2) (h3:p3) (h4:p4) (h5:p5) (h6:p6) (h7:p7) (h8:p8):C9 p0 p1 p2 p3 p4 p5 p6 p7 p8
inductive Wk (p0 p1 p2 p3 p4 p5 p6 p7 p8 p9:Prop):Prop
 |mk (h0:p0) (h1:p1) (h2:p2) (h3:p3) (h4:p4) (h5:p5) (h6:p6) (h7:p7) (h8:p8) (h9:p9):Wk p0 p1 p2 p3 p4 p5 p6 p7 p8 p9
inductive Tn (p0 p1 p2 p3 p4 p5 p6 p7 p8 p9 p10:Prop):Prop
 |mk (h0:p0) (h1:p1) (h2:p2) (h3:p3) (h4:p4) (h5:p5) (h6:p6) (h7:p7) (h8:p8) (h9:p9) (h10:p10):Tn p0 p1 p2 p3 p4 p5 p6 p7 p8 p9 p10
inductive Vj (p0 p1 p2 p3 p4 p5 p6 p7 p8 p9 p10 p11 p12 p13:Prop):Prop
 |mk (h0:p0) (h1:p1) (h2:p2) (h3:p3) (h4:p4) (h5:p5) (h6:p6) (h7:p7) (h8:p8) (h9:p9) (h10:p10) (h11:p11) (h12:p12) (h13:p13):Vj p0 p1 p2 p3 p4 p5 p6 p7 p8 p9 p10 p11 p12 p13
inductive Y2 {t0:Type} {t1:Type} (p:t0->t1->Prop):Prop
 |mk (x0:t0) (x1:t1) (h:p x0 x1):Y2 p
inductive Y3 {t0:Type} {t1:Type} {t2:Type} (p:t0->t1->t2->Prop):Prop
 |mk (x0:t0) (x1:t1) (x2:t2) (h:p x0 x1 x2):Y3 p
inductive Y4 {t0:Type} {t1:Type} {t2:Type} {t3:Type} (p:t0->t1->t2->t3->Prop):Prop
 |mk (x0:t0) (x1:t1) (x2:t2) (x3:t3) (h:p x0 x1 x2 x3):Y4 p
inductive Y5 {t0:Type} {t1:Type} {t2:Type} {t3:Type} {t4:Type} (p:t0->t1->t2->t3->t4->Prop):Prop
 |mk (x0:t0) (x1:t1) (x2:t2) (x3:t3) (x4:t4) (h:p x0 x1 x2 x3 x4):Y5 p
inductive Y6 {t0:Type} {t1:Type} {t2:Type} {t3:Type} {t4:Type} {t5:Type} (p:t0->t1->t2->t3->t4->t5->Prop):Prop
 |mk (x0:t0) (x1:t1) (x2:t2) (x3:t3) (x4:t4) (x5:t5) (h:p x0 x1 x2 x3 x4 x5):Y6 p
inductive Y7 {t0:Type} {t1:Type} {t2:Type} {t3:Type} {t4:Type} {t5:Type} {t6:Type} (p:t0->t1->t2->t3->t4->t5->t6->Prop):Prop
 |mk (x0:t0) (x1:t1) (x2:t2) (x3:t3) (x4:t4) (x5:t5) (x6:t6) (h:p x0 x1 x2 x3 x4 x5 x6):Y7 p
inductive Y8 {t0:Type} {t1:Type} {t2:Type} {t3:Type} {t4:Type} {t5:Type} {t6:Type} {t7:Type} (p:t0->t1->t2->t3->t4->t5->t6->t7->Prop):Prop
 |mk (x0:t0) (x1:t1) (x2:t2) (x3:t3) (x4:t4) (x5:t5) (x6:t6) (x7:t7) (h:p x0 x1 x2 x3 x4 x5 x6 x7):Y8 p
inductive Vc {t0:Type} {t1:Type} {t2:Type} {t3:Type} {t4:Type} {t5:Type} {t6:Type} {t7:Type} {t8:Type} {t9:Type} (p:t0->t1->t2->t3->t4->t5->t6->t7->t8->t9->Prop):Prop
 |mk (x0:t0) (x1:t1) (x2:t2) (x3:t3) (x4:t4) (x5:t5) (x6:t6) (x7:t7) (x8:t8) (x9:t9) (h:p x0 x1 x2 x3 x4 x5 x6 x7 x8 x9):Vc p
inductive TB {t0:Type} {t1:Type} {t2:Type} {t3:Type} {t4:Type} {t5:Type} {t6:Type} {t7:Type} {t8:Type} {t9:Type} {t10:Type} (p:t0->t1->t2->t3->t4->t5->t6->t7->t8->t9->t10->Prop):Prop
 |mk (x0:t0) (x1:t1) (x2:t2) (x3:t3) (x4:t4) (x5:t5) (x6:t6) (x7:t7) (x8:t8) (x9:t9) (x10:t10) (h:p x0 x1 x2 x3 x4 x5 x6 x7 x8 x9 x10):TB p
inductive Ws {t0:Type} {t1:Type} {t2:Type} {t3:Type} {t4:Type} {t5:Type} {t6:Type} {t7:Type} {t8:Type} {t9:Type} {t10:Type} {t11:Type} (p:t0->t1->t2->t3->t4->t5->t6->t7->t8->t9->t10->t11->Prop):Prop
 |mk (x0:t0) (x1:t1) (x2:t2) (x3:t3) (x4:t4) (x5:t5) (x6:t6) (x7:t7) (x8:t8) (x9:t9) (x10:t10) (x11:t11) (h:p x0 x1 x2 x3 x4 x5 x6 x7 x8 x9 x10 x11):Ws p
noncomputable def top (i:Nat):Stmt:=PySem.Challenge.pw_cellkeep_k21_pictures.main.body.getD i (.Pass ⟨0,0,0,0⟩)
noncomputable abbrev wz:Stmt:=top 12
noncomputable abbrev wA:Stmt:=top 45
noncomputable abbrev sV:Stmt:=inClass (top 54) 0
noncomputable abbrev sX:Stmt:=inClass (top 54) 1
noncomputable abbrev sZ:Stmt:=inClass (top 54) 2
noncomputable abbrev qV:Stmt:=inClass (top 54) 6
noncomputable abbrev sO:Stmt:=inClass (top 60) 1
noncomputable abbrev uS:Stmt:=inClass (top 62) 0
noncomputable abbrev qR:Stmt:=inClass (top 62) 4
noncomputable abbrev sQ:Stmt:=inClass (top 62) 5
noncomputable abbrev uU:Stmt:=inClass (top 65) 3
noncomputable abbrev sT:Stmt:=inClass (top 67) 0
noncomputable abbrev mS:Stmt:=inClass (top 67) 2
noncomputable abbrev uW:Stmt:=inClass (top 69) 0
noncomputable abbrev pG:Stmt:=inClass (top 69) 5
noncomputable abbrev p_:Stmt:=top 91
noncomputable abbrev uX:Stmt:=top 92
noncomputable abbrev uY:Stmt:=top 94
noncomputable abbrev qc:Stmt:=top 96
noncomputable abbrev tf:Stmt:=top 97
noncomputable abbrev s_:Stmt:=top 98
noncomputable abbrev pH:Stmt:=top 100
noncomputable abbrev u4:Stmt:=top 13
noncomputable abbrev sY:Stmt:=inClass (top 54) 5
noncomputable abbrev qb:Stmt:=top 99
noncomputable abbrev u3:Stmt:=top 18
noncomputable abbrev wy:Stmt:=top 19
noncomputable abbrev tF:Stmt:=top 29
noncomputable abbrev AR:Stmt:=top 41
noncomputable abbrev JL:Stmt:=top 42
noncomputable abbrev qT:Stmt:=inClass (top 52) 0
noncomputable abbrev mK:Stmt:=inClass (top 52) 4
noncomputable abbrev lV:Stmt:=inClass (top 52) 5
noncomputable abbrev uV:Stmt:=inClass (top 54) 4
noncomputable abbrev sS:Stmt:=inClass (top 65) 0
noncomputable abbrev nR:Stmt:=inClass (top 65) 4
noncomputable abbrev Bg:Stmt:=inClass (top 67) 4
noncomputable abbrev q8:Stmt:=top 20
noncomputable abbrev tE:Stmt:=top 21
noncomputable abbrev JM:Stmt:=top 24
noncomputable abbrev qU:Stmt:=inClass (top 52) 1
noncomputable abbrev qS:Stmt:=inClass (top 52) 3
noncomputable abbrev oY:Stmt:=inClass (top 60) 2
noncomputable abbrev qY:Stmt:=top 22
noncomputable abbrev tB:Stmt:=top 23
noncomputable abbrev Gi:Stmt:=top 25
noncomputable abbrev pY:Stmt:=inClass (top 52) 2
noncomputable abbrev sP:Stmt:=inClass (top 60) 0
noncomputable abbrev sR:Stmt:=inClass (top 62) 1
noncomputable abbrev wm:Stmt:=inClass (top 62) 3
noncomputable abbrev uT:Stmt:=inClass (top 65) 2
noncomputable abbrev Ah:Stmt:=inClass (top 67) 3
noncomputable abbrev Bi:Stmt:=inClass (top 69) 3
noncomputable abbrev Bh:Stmt:=inClass (top 69) 4
noncomputable abbrev sU:Stmt:=inClass (top 71) 0
noncomputable abbrev uZ:Stmt:=top 39
noncomputable abbrev qW:Stmt:=top 40
noncomputable abbrev Gg:Stmt:=top 49
noncomputable abbrev wt:Stmt:=inClass (top 62) 2
noncomputable abbrev nS:Stmt:=inClass (top 71) 1
noncomputable abbrev q9:Stmt:=top 77
noncomputable abbrev qX:Stmt:=top 87
noncomputable abbrev Od:Stmt:=top 30
noncomputable abbrev wB:Stmt:=top 31
noncomputable abbrev CZ:Stmt:=top 32
noncomputable abbrev JP:Stmt:=top 37
noncomputable abbrev AU:Stmt:=top 38
noncomputable abbrev tj:Stmt:=top 95
noncomputable abbrev wC:Stmt:=top 33
noncomputable abbrev JK:Stmt:=top 34
noncomputable abbrev qZ:Stmt:=top 35
noncomputable abbrev Ge:Stmt:=top 80
noncomputable abbrev qd:Stmt:=top 36
noncomputable abbrev ou:Stmt:=top 48
noncomputable abbrev oa:Stmt:=inClass (top 60) 5
noncomputable abbrev pZ:Stmt:=inClass (top 71) 2
noncomputable abbrev Gb:Stmt:=top 73
noncomputable abbrev Gf:Stmt:=top 75
noncomputable abbrev Gh:Stmt:=top 76
noncomputable abbrev C0:Stmt:=top 79
noncomputable abbrev tD:Stmt:=top 89
noncomputable abbrev AS:Stmt:=top 44
noncomputable abbrev nQ:Stmt:=inClass (top 60) 3
noncomputable abbrev oZ:Stmt:=inClass (top 60) 4
noncomputable abbrev tq:Stmt:=top 86
noncomputable abbrev rM:Stmt:=top 47
noncomputable abbrev oq:Stmt:=top 74
noncomputable abbrev JN:Stmt:=top 85
noncomputable abbrev qu:Stmt:=top 93
noncomputable abbrev u5:Stmt:=top 84
noncomputable abbrev wu:Stmt:=top 83
noncomputable abbrev lP:Stmt:=top 82
noncomputable abbrev Ai:Stmt:=top 101
theorem vp{s t:TS}{D:Ends}{σ:St}{H:Hp}(P:St->Hp->Prop)(h1:∀R:St->Hp->Prop,(∀σ' H',P σ' H'->R σ' H')->s {D with nx:=R} σ H)(h2:∀σ' H',P σ' H'->t D σ' H'):oj s t D σ H:=h1 (t D) h2
def We:TS:=λ_ _ _=>False
theorem jK{X:Cx}{st:Stmt}:JS X st We:=⟨λ_ _ _ _ _ _ h=>h.elim⟩
noncomputable def cat (ns:List Int) (k:Int):Int:=ns.getD k.toNat 0
theorem Mz{ns:List Int}{k:Int}(h0:0<=k)(h:k<(ns.map ι).length):Bm (ns.map ι) k=some (.int (cat ns k)):=by
 obtain⟨n,rfl⟩:∃n:Nat,k=n:=⟨k.toNat,⋯⟩;rw[ae]at h;refine rP ?_;rw[ak,ab ⋯];simp only[cat,bf,bE,af,ab (show n<ns.length by lia),dP]
theorem Pr{ns:List Int}{k:Int}(h0:0<=k)(h:¬k<(ns.map ι).length):cat ns k=0:=by
 rw[ae]at h;unfold cat;rw[af,aS ⋯];rfl
theorem jb{s t:TS}{D:Ends}{σ:St}{H:Hp}(P:St->Hp->Prop)(h1:∀R:St->Hp->Prop,(∀σ' H',P σ' H'->R σ' H')->s {D with nx:=R} σ H)(h2:∀G:St->Hp->Prop,G=t D->∀σ' H',P σ' H'->G σ' H'):oj s t D σ H:=h1 (t D) (h2 (t D) rfl)
theorem j8.enum{K:ah}{a:Addr}{xs:List V}{g:TG}{tb:TS}{D:Ends}{σ:St}{H:Hp}(Pv:Nat->St->Hp->Prop)(h0:Pv 0 σ H)(hl:∀i σ H,i<=xs.length->Pv i σ H->jX K H a xs)
  (hs:∀(i:Nat) x σ H p,xs[i]? =some x->Pv i σ H->H p=none->∀R:St->Hp->Prop,(∀σ' H',Pv (i+1) σ' H'->R σ' H')->g (.ref p) σ (upd H p (.tup [.int i,x])) λσ2 H2=>tb {D with nx:=R,ct:=R,bk:=D.nx} σ2 H2) (hd:∀σ H,Pv xs.length σ H->D.nx σ H):j8 (U6 K a) g tb D σ H:=by
 refine⟨λi m σ H=>Pv i σ H/\i<=xs.length/\m=xs.length-i,⟨_,h0,bh _,rfl⟩,λi m σ H ⟨hP,hi,hm⟩=> ?_⟩;have sa:=hl i σ H hi hP;by_cases z:i<xs.length
 ·refine .inr ⟨⟨xs,_,sa,ab z⟩,Pv (i+1),λσ' H' hN=>⟨xs.length-(i+1),by omega,hN,z,rfl⟩,?_⟩;rintro x H' ⟨p,y,hp,rfl,rfl,hy⟩;exact hs i y σ H p (hy xs sa) hP hp _ λ_ _ h=>h
 ·obtain rfl:i=xs.length:=by lia
  exact .inl ⟨⟨xs,sa,au _⟩,hd σ H hP⟩
theorem j8.U5{K:ah}{a b:Addr}{xs ys:List V}{g:TG}{tb:TS}{D:Ends}{σ:St}{H:Hp}(Pv:Nat->St->Hp->Prop)(hlen:xs.length=ys.length)(h0:Pv 0 σ H)(hl:∀i σ H,i<=xs.length->Pv i σ H->jX K H a xs/\jX K H b ys)
  (hs:∀i x y σ H p,xs[i]? =some x->ys[i]? =some y->Pv i σ H->H p=none->∀R:St->Hp->Prop,(∀σ' H',Pv (i+1) σ' H'->R σ' H')->g (.ref p) σ (upd H p (.tup [x,y])) λσ2 H2=>tb {D with nx:=R,ct:=R,bk:=D.nx} σ2 H2) (hd:∀σ H,Pv xs.length σ H->D.nx σ H):j8 (U7 K a b) g tb D σ H:=
 j8.zip Pv hlen h0 hl (λi x y σ H p hx hy hP hp=>hs i x y σ H p hx hy hP hp _ λ_ _ h=>h) hd
theorem RP{tc:TT}{t u:TS}{D:Ends}{σ:St}{H:Hp}(h:∀K:Bool->Hp->Prop,K true H->tc σ H K)(ht:t D σ H):IA tc t u D σ H:=h _ (by rw[if_pos rfl];exact ht)
theorem Uk{tc:TT}{t u:TS}{D:Ends}{σ:St}{H:Hp}(h:∀K:Bool->Hp->Prop,K false H->tc σ H K)(ht:u D σ H):IA tc t u D σ H:=h _ (by rw[if_neg (by intro z;cases z)];exact ht)
noncomputable def wi (v:V) (a b:Int):Bool:=match v with
 | .int i=>decide (a<=i)&&decide (i<=b)
 |_=>false
theorem BM{i a b:Int}(h1:a<=i)(h2:i<=b):wi (.int i) a b=true:=by simp[wi,h1,h2]
noncomputable def iv:V->Int
 | .int i=>i
 |_=>0
noncomputable def kd (v:V):Option Str:=match v with
 | .int w=>if w= -1 then some "nothing" else if w%2=0/\wi (.int (w/2)) (-1000000000000) 1000000000000=true then some "number" else if w%2=1/\wi (.int (w/2)) 0 9999=true then some "place" else none
 |_=>none
noncomputable def wo (v:V):V:=match v with
 | .int w=>if w= -1 then .kr else .int (w/2)
 |_=> .kr
theorem lX{i:Int}:kd (.int i)=if i= -1 then some (aP "nothing") else if i%2=0/\ -2000000000000<=i/\i<=2000000000000 then some (aP "number") else if i%2=1/\1<=i/\i<=19999 then some (aP "place") else none:=by
 have e1:(i%2=0/\wi (.int (i/2)) (-1000000000000) 1000000000000=true)↔(i%2=0/\ -2000000000000<=i/\i<=2000000000000):=by
  simp only[wi,aV,decide_eq_true_eq];constructor<;>intro h<;>lia
 have e2:(i%2=1/\wi (.int (i/2)) 0 9999=true)↔(i%2=1/\1<=i/\i<=19999):=by
  simp only[wi,aV,decide_eq_true_eq];constructor<;>intro h<;>lia
 simp only[kd,e1,e2]
theorem E5{ws:List Int}{i:Int}(h0:0<=i)(h1:i<=ws.length-1):Bm (ws.map ι) i=some (.int (ws.getD i.toNat 0)):=by
 rw[Rb h0 (by rw[ae];lia),ak,ab ⋯,af,ab (show i.toNat<ws.length by lia)];rfl
theorem BF{ws:List Int}{i:Int}(h0:0<=i)(h1:i<=ws.length-1):LH (ws.map ι).length i=some i.toNat:=Jf h0 (by rw[ae];lia)
theorem Al{ws:List Int}{i:Nat}{x:Int}:(ws.map ι).set i (.int x)=(ws.set i x).map ι:=by rw[fM]
theorem V8:¬(("size":Str)="words"):=∅
noncomputable def KQ (n:Int) (q:Addr):List (Str×V):=[("size",ι n),("words",ξ q)]
theorem Cv{n:Int}{q:Addr}:(KQ n q).lookup ("size":Str)=some (.int n):=by
 simp[KQ,aU]
theorem vo{n:Int}{q:Addr}:(KQ n q).lookup ("words":Str)=some (.ref q):=by
 simp[KQ,aU,show(("words":Str)=="size")=false by decide+kernel]
theorem Cu{n:Int}{q:Addr}{m:Str}(h1:(m==("size":Str))=false)(h2:(m==("words":Str))=false):(KQ n q).lookup m=none:=by
 simp[KQ,aU,h1,h2]
theorem NH{n:Int}{q:Addr}:(KQ n q).lookup ("want_place":Str)=none:=Cu ∅ ∅
theorem NI{n:Int}{q:Addr}:(KQ n q).lookup ("want_stretch":Str)=none:=Cu ∅ ∅
theorem vS{n:Int}{q:Addr}:(KQ n q).lookup ("read":Str)=none:=Cu ∅ ∅
theorem vT{n:Int}{q:Addr}:(KQ n q).lookup ("write":Str)=none:=Cu ∅ ∅
theorem NG{n:Int}{q:Addr}:(KQ n q).lookup ("copy":Str)=none:=Cu ∅ ∅
theorem R7{n:Int}{q:Addr}:j4 "words" (.ref q) (j4 "size" (.int n) [])=KQ n q:=by
 simp[j4,V8,KQ]
structure jL(c:Addr)(H:Hp)(p q:Addr)(ws:List Int):Prop where
 ob:∃dx,H p=some (.ins c dx (KQ ws.length q))
 ls:H q=some (.lst (ws.map ι))
section
variable{c p q:Addr}{H H':Hp}{ws:List Int}
theorem jL.ne(m:jL c H p q ws):p≠q:=by
 obtain⟨⟨dx,e⟩,l⟩:=m;intro z;subst z;rw[e]at l;cases l
theorem jL.keep(m:jL c H p q ws)(h:∀b o,H b=some o->b=p∨b=q->H' b=some o):jL c H' p q ws:=
 ⟨let ⟨dx,e⟩:=m.ob;⟨dx,h _ _ e (.inl rfl)⟩,h _ _ m.ls (.inr rfl)⟩
theorem jL.same(m:jL c H p q ws)(s:ja H H'):jL c H' p q ws:=m.keep λb o e _=>s b o e
theorem jL.put(m:jL c H p q ws)(i:Nat)(x:Int):jL c (upd H q (.lst ((ws.set i x).map ι))) p q (ws.set i x):=by
 refine⟨?_,iZ⟩;obtain⟨dx,e⟩:=m.ob;refine⟨dx,?_⟩;rw[i4 m.ne,aT];exact e
end
def jx(ws:List Int):Prop:=∀w∈ws,(kd (.int w)).isSome=true
noncomputable def hd (w:Int):Option Int:=if w%2=0/\0<=w/\w<=68/\w/2%4<=2 then some (w/2) else none
noncomputable def kD (ws:List Int) (i:Nat):Option Int:=match hd (ws.getD i 0) with
 |some n=>if (i:Int)+n/4<=ws.length-1 then some n else none
 |none=>none
theorem Ui{w n:Int}(h:hd w=some n):w=2*n/\0<=n/\n<=34/\n%4<=2:=by
 unfold hd at h
 split at h
 ·cases h;omega
 ·cases h
theorem KL{ws:List Int}(h:jx ws){i:Nat}(hi:i<ws.length):∃x,kd (.int (ws.getD i 0))=some x:=by
 have:ws.getD i 0∈ws:=by rw[af,ab hi];exact aG hi
 exact Option.isSome_iff_exists.mp (h _ this)
theorem pO{ws:List Int}{i:Nat}{n:Int}(h:kD ws i=some n):ws.getD i 0=2*n/\0<=n/\n<=34/\n%4<=2/\(i:Int)+n/4<=ws.length-1:=by
 unfold kD at h
 split at h
 ·rename_i m e
  split at h
  ·cases h
   obtain⟨a,b,c,d⟩:=Ui e;exact⟨a,b,c,d,by assumption⟩
  ·cases h
 ·cases h
theorem Cm{i:Int}{x:Str}(h:kd (.int i)=some x):(x=aP "nothing"/\i= -1)∨(x=aP "number"/\i%2=0/\ -2000000000000<=i/\i<=2000000000000)∨(x=aP "place"/\i%2=1/\1<=i/\i<=19999):=by
 rw[lX]at h
 split at h
 ·cases h;exact .inl ⟨rfl,by assumption⟩
 ·split at h
  ·cases h;exact .inr (.inl ⟨rfl,by assumption⟩)
  ·split at h
   ·cases h;exact .inr (.inr ⟨rfl,by assumption⟩)
   ·cases h
theorem VS:¬(aP "number"=aP "place"):=∅
theorem VT:¬(aP "nothing"=aP "place"):=∅
theorem o4{w:Int}(h:w≠ -1):wo (.int w)= .int (w/2):=by simp[wo,h]
theorem l6{ws:List Int}{i:Nat}:kD ws i=if ws.getD i 0%2=0/\0<=ws.getD i 0/\ws.getD i 0<=68/\ws.getD i 0/2%4<=2/\(i:Int)+ws.getD i 0/2/4<=ws.length-1 then some (ws.getD i 0/2) else none:=by
 unfold kD hd;generalize ws.getD i 0=W;by_cases c:W%2=0/\0<=W/\W<=68/\W/2%4<=2
 ·rw[if_pos c];by_cases d:(i:Int)+W/2/4<=ws.length-1
  ·rw[if_pos ⟨c.1,c.2.1,c.2.2.1,c.2.2.2,d⟩];exact if_pos d
  ·rw[if_neg λz=>d z.2.2.2.2];exact if_neg d
 ·rw[if_neg c,if_neg λz=>c ⟨z.1,z.2.1,z.2.2.1,z.2.2.2.1⟩]
noncomputable def kj (w:Int):Bool:=decide (w%2=1/\0<w)
noncomputable def kids (ws:List Int) (i:Nat) (n:Int):List Int:=(((ws.drop (i+1)).take (n/4).toNat).filter kj).map (· /2)
theorem PZ{ws:List Int}{i n:Nat}(h:i+n<=ws.length):(aW n).map (λt=>ι (ws.getD (i+t) 0))=((ws.drop i).take n).map ι:=by
 refine cV λt=> ?_;rw[ak,ak,fu];by_cases z:t<n
 ·rw[if_pos z,bT z,dB,bE,af,ab ⋯];rfl
 ·rw[if_neg z,aS (by rw[aY];lia)];rfl
noncomputable def blank (ws:List Int) (i:Nat):Nat->List Int
 |0=>ws
 |k+1=>(blank ws i k).set (i+k) (-1)
theorem pJ{ws:List Int}{i:Nat}:∀k,(blank ws i k).length=ws.length
 |0=>rfl
 |k+1=>by rw[blank,aT,pJ k]
theorem uf{ws:List Int}{i j:Nat}:∀k,(blank ws i k)[j]? =if i<=j/\j<i+k then ws[j]?.map (λ_=> -1) else ws[j]?
 |0=>by rw[if_neg ⋯];rfl
 |k+1=>by
  rw[blank,aX,pJ];by_cases z:i+k=j
  ·subst z;have c:i<=i+k/\i+k<i+(k+1):=by lia
   rw[if_pos rfl,if_pos c];by_cases y:i+k<ws.length
   ·rw[if_pos y,ab y];rfl
   ·rw[if_neg y,aS ⋯];rfl
  ·rw[if_neg z,uf k];by_cases y:i<=j/\j<i+k
   ·rw[if_pos y,if_pos ⋯]
   ·rw[if_neg y,if_neg ⋯]
noncomputable def laid (ws:List Int) (i s:Nat):List Int:=(blank ws i (s+1)).set i (8*s)
theorem Cp{ws:List Int}{i s:Nat}:(laid ws i s).length=ws.length:=by rw[laid,aT,pJ]
theorem PR{ws:List Int}{i s:Nat}:blank (ws.set i (8*s)) (i+1) s=laid ws i s:=by
 refine cV λj=> ?_;rw[uf,laid,aX,aX,uf,pJ];by_cases z:i=j
 ·subst z;rw[if_neg ⋯,if_pos rfl,if_pos rfl]
 ·rw[if_neg z,if_neg z];by_cases y:i+1<=j/\j<i+1+s
  ·rw[if_pos y,if_pos ⋯]
  ·rw[if_neg y,if_neg ⋯]
theorem jx.set{ws:List Int}{i:Nat}{x:Int}(h:jx ws)(hx:(kd (.int x)).isSome=true):jx (ws.set i x):=λw hw=>by
 rcases cY hw with z|rfl
 ·exact h w z
 ·exact hx
theorem jx.blank{ws:List Int}{i:Nat}(h:jx ws):∀k,jx (blank ws i k)
 |0=>h
 |k+1=>(jx.blank h k).set (by rw[lX,if_pos rfl];rfl)
theorem PU{ws:List Int}{i s j:Nat}(h:j<i∨i+s<j):(laid ws i s).getD j 0=ws.getD j 0:=by
 rw[laid,af,aX,if_neg ⋯,uf,if_neg ⋯,←af]
theorem PQ{ws:List Int}{i s:Nat}(h:i<ws.length):(laid ws i s).getD i 0=8*s:=by
 rw[laid,af,aX,if_pos rfl,if_pos (by rw[pJ];exact h)];rfl
theorem IU{ws:List Int}{i s:Nat}(hs:s<=8)(h:i+s<ws.length):kD (laid ws i s) i=some (4*s):=by
 rw[l6,PQ ⋯,Cp,if_pos ⋯];congr 1;lia
theorem jx.laid{ws:List Int}{i s:Nat}(h:jx ws)(hs:s<=8):jx (laid ws i s):=
 (h.blank _).set (by rw[lX,if_neg ⋯,if_pos ⋯];rfl)
theorem VP:¬(("begin":Str)="top"):=∅
theorem VQ:¬(("end":Str)="top"):=∅
noncomputable def nV (b e t:Int):List (Str×V):=[("begin",ι b),("end",ι e),("top",ι t)]
section
variable{b e t x:Int}{m:Str}
theorem Lb:(nV b e t).lookup ("begin":Str)=some (.int b):=by simp[nV,aU]
theorem UW:(nV b e t).lookup ("end":Str)=some (.int e):=by
 simp[nV,aU,show(("end":Str)=="begin")=false by decide+kernel]
theorem Le:(nV b e t).lookup ("top":Str)=some (.int t):=by
 simp[nV,aU,show(("top":Str)=="begin")=false by decide+kernel,show(("top":Str)=="end")=false by decide+kernel]
theorem Dk(h1:(m==("begin":Str))=false)(h2:(m==("end":Str))=false)(h3:(m==("top":Str))=false):(nV b e t).lookup m=none:=by
 simp[nV,aU,h1,h2,h3]
theorem Oh:(nV b e t).lookup ("room":Str)=none:=Dk ∅ ∅ ∅
theorem Oi:(nV b e t).lookup ("used":Str)=none:=Dk ∅ ∅ ∅
theorem BJ:(nV b e t).lookup ("has":Str)=none:=Dk ∅ ∅ ∅
theorem Dm:(nV b e t).lookup ("take":Str)=none:=Dk ∅ ∅ ∅
theorem vq:(nV b e t).lookup ("empty":Str)=none:=Dk ∅ ∅ ∅
theorem Ld:j4 "top" (.int x) (nV b e t)=nV b e x:=by simp[j4,nV,VP,VQ]
theorem Lc:(nV b e t).length=3:=rfl
end
theorem IV{ws ws':List Int}{i:Nat}(hl:ws'.length=ws.length)(h:ws'.getD i 0=ws.getD i 0):kD ws' i=kD ws i:=by
 rw[l6,l6,h,hl]
theorem R9:¬(("memory":Str)="old"):=∅
theorem R_:¬(("memory":Str)="young"):=∅
theorem Uy:¬(("memory":Str)="spare"):=∅
theorem Sa:¬(("old":Str)="young"):=∅
theorem Uz:¬(("old":Str)="spare"):=∅
theorem UA:¬(("young":Str)="spare"):=∅
noncomputable def t_ (m o y s:Addr):List (Str×V):=[("memory",ξ m),("old",ξ o),("young",ξ y),("spare",ξ s)]
section
variable{m o y s x:Addr}{f:Str}
theorem mW:(t_ m o y s).lookup ("memory":Str)=some (.ref m):=by simp[t_,aU]
theorem A6:(t_ m o y s).lookup ("old":Str)=some (.ref o):=by
 simp[t_,aU,show(("old":Str)=="memory")=false by decide+kernel]
theorem G4:(t_ m o y s).lookup ("young":Str)=some (.ref y):=by
 simp[t_,aU,show(("young":Str)=="memory")=false by decide+kernel,show(("young":Str)=="old")=false by decide+kernel]
theorem Kf:(t_ m o y s).lookup ("spare":Str)=some (.ref s):=by
 simp[t_,aU,show(("spare":Str)=="memory")=false by decide+kernel,show(("spare":Str)=="old")=false by decide+kernel,show(("spare":Str)=="young")=false by decide+kernel]
theorem BO(h1:(f==("memory":Str))=false)(h2:(f==("old":Str))=false)(h3:(f==("young":Str))=false)(h4:(f==("spare":Str))=false):(t_ m o y s).lookup f=none:=by
 simp[t_,aU,h1,h2,h3,h4]
theorem G3:(t_ m o y s).lookup ("flip":Str)=none:=BO ∅ ∅ ∅ ∅
theorem G2:(t_ m o y s).lookup ("area_of":Str)=none:=BO ∅ ∅ ∅ ∅
theorem Q_:(t_ m o y s).lookup ("lay_young":Str)=none:=BO ∅ ∅ ∅ ∅
theorem Q9:(t_ m o y s).lookup ("lay_old":Str)=none:=BO ∅ ∅ ∅ ∅
theorem Mw:(t_ m o y s).lookup ("lay_into":Str)=none:=BO ∅ ∅ ∅ ∅
theorem Ra:j4 "spare" (.ref s) (j4 "young" (.ref y) (j4 "old" (.ref o) (j4 "memory" (.ref m) [])))=t_ m o y s:=by simp[j4,t_,R9,R_,Uy,Sa,Uz,UA]
theorem My:j4 "young" (.ref x) (t_ m o y s)=t_ m o x s:=by simp[j4,t_,R_,Sa]
theorem Mx:j4 "spare" (.ref x) (t_ m o y s)=t_ m o y x:=by simp[j4,t_,Uy,Uz,UA]
theorem OV:(t_ m o y s).length=4:=rfl
end
structure S3 where
 b:Int
 e:Int
 t:Int
def pN(c:Addr)(H:Hp)(p:Addr)(x:S3):Prop:=∃dx,H p=some (.ins c dx (nV x.b x.e x.t))
structure lY(cA cM cS:Addr)(H:Hp)(p m q o y s:Addr)(ws:List Int)(so sy ss:S3):Prop where
 ob:∃dx,H p=some (.ins cA dx (t_ m o y s))
 mem:jL cM H m q ws
 old:pN cS H o so
 oP:pN cS H y sy
 DB:pN cS H s ss
 oy:o≠y
 os:o≠s
 ys:y≠s
 pd:p≠m/\p≠o/\p≠y/\p≠s
 md:m≠o/\m≠y/\m≠s
section
variable{cA cM cS:Addr}{H H':Hp}{p m q o y s:Addr}{ws ws':List Int}{so sy ss:S3}
theorem pN.ne{c x q':Addr}{xs:List V}{z:S3}(h:pN c H x z)(hq:H q'=some (.lst xs)):x≠q':=by
 obtain⟨dx,e⟩:=h;intro w;subst w;rw[e]at hq;cases hq
theorem pN.same{c x:Addr}{z:S3}(h:pN c H x z)(k:ja H H'):pN c H' x z:=let ⟨dx,e⟩:=h;⟨dx,k _ _ e⟩
theorem lY.same(a:lY cA cM cS H p m q o y s ws so sy ss)(h:ja H H'):lY cA cM cS H' p m q o y s ws so sy ss:=
 {a with ob:=let ⟨dx,e⟩:=a.ob;⟨dx,h _ _ e⟩,mem:=a.mem.same h,old:=a.old.same h,oP:=a.oP.same h,DB:=a.DB.same h}
theorem lY.flip(a:lY cA cM cS H p m q o y s ws so sy ss){dx:Addr}(e:H' p=some (.ins cA dx (t_ m o s y)))(k:∀b x,H b=some x->b≠p->H' b=some x):lY cA cM cS H' p m q o s y ws so ss sy where
 ob:=⟨dx,e⟩
 mem:=a.mem.keep λb x eb hb=>k b x eb (by
  rcases hb with rfl|rfl
  ·exact aj a.pd.1
  ·obtain⟨dz,ez⟩:=a.ob;intro z;rw[z,ez]at eb;have:=a.mem.ls;rw[z,ez]at this;cases this)
 old:=let ⟨dx,e⟩:=a.old;⟨dx,k _ _ e (aj a.pd.2.1)⟩
 oP:=let ⟨dx,e⟩:=a.DB;⟨dx,k _ _ e (aj a.pd.2.2.2)⟩
 DB:=let ⟨dx,e⟩:=a.oP;⟨dx,k _ _ e (aj a.pd.2.2.1)⟩
 oy:=a.os
 os:=a.oy
 ys:=aj a.ys
 pd:=⟨a.pd.1,a.pd.2.1,a.pd.2.2.2,a.pd.2.2.1⟩
 md:=⟨a.md.1,a.md.2.2,a.md.2.1⟩
theorem lY.P8(a:lY cA cM cS H p m q o y s ws so sy ss){z:S3}(mem:jL cM H' m q ws')(e:pN cS H' o z)(k:∀b x,H b=some x->b≠q->b≠o->H' b=some x):lY cA cM cS H' p m q o y s ws' z sy ss:=
 {a with
  ob:=let ⟨dx,e⟩:=a.ob;⟨dx,k _ _ e (λz=>by rw[z,a.mem.ls]at e;cases e) a.pd.2.1⟩
  mem:=mem
  old:=e
  oP:=let ⟨dx,e⟩:=a.oP;⟨dx,k _ _ e (pN.ne ⟨dx,e⟩ a.mem.ls) (aj a.oy)⟩
  DB:=let ⟨dx,e⟩:=a.DB;⟨dx,k _ _ e (pN.ne ⟨dx,e⟩ a.mem.ls) (aj a.os)⟩}
theorem lY.U4(a:lY cA cM cS H p m q o y s ws so sy ss){z:S3}(mem:jL cM H' m q ws')(e:pN cS H' y z)(k:∀b x,H b=some x->b≠q->b≠y->H' b=some x):lY cA cM cS H' p m q o y s ws' so z ss:=
 {a with
  ob:=let ⟨dx,e⟩:=a.ob;⟨dx,k _ _ e (λz=>by rw[z,a.mem.ls]at e;cases e) a.pd.2.2.1⟩
  mem:=mem
  old:=let ⟨dx,e⟩:=a.old;⟨dx,k _ _ e (pN.ne ⟨dx,e⟩ a.mem.ls) a.oy⟩
  oP:=e
  DB:=let ⟨dx,e⟩:=a.DB;⟨dx,k _ _ e (pN.ne ⟨dx,e⟩ a.mem.ls) (aj a.ys)⟩}
theorem lY.UX(a:lY cA cM cS H p m q o y s ws so sy ss){z:S3}(e:pN cS H' s z)(k:∀b x,H b=some x->b≠s->H' b=some x):lY cA cM cS H' p m q o y s ws so sy z:=
 {a with
  ob:=let ⟨dx,e⟩:=a.ob;⟨dx,k _ _ e a.pd.2.2.2⟩
  mem:=a.mem.keep λb x eb hb=>k b x eb (by
   rcases hb with rfl|rfl
   ·exact a.md.2.2
   ·exact aj (a.DB.ne a.mem.ls))
  old:=let ⟨dx,e⟩:=a.old;⟨dx,k _ _ e a.os⟩
  oP:=let ⟨dx,e⟩:=a.oP;⟨dx,k _ _ e a.ys⟩
  DB:=e}
end
noncomputable def kL (ws:List Int) (i s:Nat) (g:Int):List Int:=(laid ws i s).set i (2*(4*s+g))
theorem vm{ws:List Int}{i s:Nat}{g:Int}:(kL ws i s g).length=ws.length:=by rw[kL,aT,Cp]
theorem jx.kL{ws:List Int}{i s:Nat}{g:Int}(h:jx ws)(hs:s<=8)(g0:0<=g)(g2:g<=2):jx (kL ws i s g):=
 (h.laid hs).set (by rw[lX,if_neg ⋯,if_pos ⋯];rfl)
theorem Hw{ws:List Int}{i s j:Nat}{g:Int}(h:j<i∨i+s<j):(kL ws i s g).getD j 0=ws.getD j 0:=by
 rw[kL,af,aX,if_neg ⋯,←af,PU h]
theorem Nz{ws:List Int}{i s:Nat}{g:Int}(h:i<ws.length):(kL ws i s g).getD i 0=2*(4*s+g):=by
 rw[kL,af,aX,if_pos rfl,if_pos (by rw[Cp];exact h)];rfl
theorem Jp{ws:List Int}{i s j:Nat}{g:Int}(h:i<j)(h1:j<=i+s)(h2:j<ws.length):(kL ws i s g).getD j 0= -1:=by
 rw[kL,af,aX,if_neg ⋯,laid,aX,if_neg ⋯,uf,if_pos ⋯,ab h2];rfl
noncomputable def ON (v:V) (so sy:S3):V:=if wi v so.b (so.t-1)=true then .str (aP "old") else if wi v sy.b (sy.t-1)=true then .str (aP "young") else .kr
noncomputable def cp (ws ks:List Int) (g:Nat):Nat->List Int
 |0=>ws
 |k+1=>(cp ws ks g k).set (g+k) (ks.getD k 0)
theorem rS{ws ks:List Int}{g:Nat}:∀k,(cp ws ks g k).length=ws.length
 |0=>rfl
 |k+1=>by rw[cp,aT,rS k]
noncomputable def IM (d:Addr):List (Str×V):=[("written",ξ d)]
section
variable{d d':Addr}{f:Str}
theorem Ki:(IM d).lookup ("written":Str)=some (.ref d):=by simp[IM,aU]
theorem BQ(h:(f==("written":Str))=false):(IM d).lookup f=none:=by simp[IM,aU,h]
theorem EB:(IM d).lookup ("write":Str)=none:=BQ ∅
theorem O3:(IM d).lookup ("rub":Str)=none:=BQ ∅
theorem OZ:(IM d).lookup ("has":Str)=none:=BQ ∅
theorem BR:(IM d).lookup ("places":Str)=none:=BQ ∅
theorem EA:(IM d).lookup ("clear":Str)=none:=BQ ∅
theorem Rf:j4 "written" (.ref d) []=IM d:=rfl
theorem O1:j4 "written" (.ref d') (IM d)=IM d':=by simp[j4,IM]
theorem O0:(IM d).length=1:=rfl
end
noncomputable def DH (ks:List Int):List (Key×V):=ks.map λk=>(aQ k,V.bl true)
theorem O5{ks:List Int}:(DH ks).length=ks.length:=ae ..
theorem E_{k:Int}:∀{ks:List Int},mP (DH ks) (aQ k)=if k∈ks then some (.bl true) else none
 | []=>rfl
 |x::r=>by
  by_cases e:x=k
  ·subst e;rw[if_pos aq];exact oM rfl
  ·have e':¬((aQ x:Key)=aQ k):=λz=>e (cP z);show mP ((aQ x,V.bl true)::DH r) (aQ k)=_;rw[mQ e',E_];by_cases m:k∈r
   ·rw[if_pos m,if_pos (ai _ m)]
   ·rw[if_neg m,if_neg (by simp;exact⟨λz=>e z.symm,m⟩)]
theorem O6{k:Int}{ks:List Int}:putK (DH ks) (aQ k) (.bl true)=DH (if k∈ks then ks else ks++[k]):=by
 have ha:((DH ks).any λkv=>decide (kv.1=(aQ k:Key)))=decide (k∈ks):=by
  induction ks with
  |nil=>rfl
  |cons x r ih=>
   show(decide ((aQ x:Key)=aQ k) ||(DH r).any _)=_;rw[ih];by_cases e:x=k
   ·subst e;simp
   ·have e':¬((aQ x:Key)=aQ k):=λz=>e (cP z);simp[e'];intro z;exact absurd z.symm e
 unfold putK;rw[ha];by_cases m:k∈ks
 ·rw[if_pos (by simpa using m),if_pos m];unfold DH;rw[bQ];refine cm λx _=> ?_;show(if (aQ x:Key)=aQ k then(aQ x,V.bl true) else(aQ x,V.bl true))=_
  split<;>rfl
 ·rw[if_neg (by simpa using m),if_neg m];unfold DH;rw[aF];rfl
theorem MB{k:Int}{ks:List Int}:BY (DH ks) (aQ k)=DH (ks.filter λx=>decide (x≠k)):=by
 unfold BY DH;rw[cT];congr 1;refine ic λx _=> ?_;show decide ((aQ x:Key)≠aQ k)=decide (x≠k);by_cases e:x=k
 ·subst e;simp
 ·simp[e,show¬((aQ x:Key)=aQ k) from λz=>e (cP z)]
structure o7(c:Addr)(H:Hp)(p d:Addr)(ks:List Int):Prop where
 ob:∃dx,H p=some (.ins c dx (IM d))
 dc:H d=some (.dK (DH ks))
noncomputable def Je (ks:List Int) (k:Int):List Int:=if k∈ks then ks else ks++[k]
noncomputable def CV (ks:List Int) (k:Int):List Int:=ks.filter λx=>decide (x≠k)
section
variable{c p d:Addr}{H H':Hp}{ks ks':List Int}
theorem o7.ne(m:o7 c H p d ks):p≠d:=by
 obtain⟨⟨dx,e⟩,l⟩:=m;intro z;subst z;rw[e]at l;cases l
theorem o7.keep(m:o7 c H p d ks)(h:∀b o,H b=some o->b=p∨b=d->H' b=some o):o7 c H' p d ks:=
 ⟨let ⟨dx,e⟩:=m.ob;⟨dx,h _ _ e (.inl rfl)⟩,h _ _ m.dc (.inr rfl)⟩
theorem o7.same(m:o7 c H p d ks)(s:ja H H'):o7 c H' p d ks:=m.keep λb o e _=>s b o e
theorem o7.put(m:o7 c H p d ks):o7 c (upd H d (.dK (DH ks'))) p d ks':=by
 refine⟨?_,iZ⟩;obtain⟨dx,e⟩:=m.ob;exact⟨dx,by rw[i4 m.ne];exact e⟩
end
noncomputable def QT (q:Addr):List (Str×V):=[("words",ξ q)]
section
variable{q:Addr}{f:Str}
theorem Ng:(QT q).lookup ("words":Str)=some (.ref q):=by simp[QT,aU]
theorem Jc(h:(f==("words":Str))=false):(QT q).lookup f=none:=by simp[QT,aU,h]
theorem BD:(QT q).lookup ("put":Str)=none:=Jc ∅
theorem BE:(QT q).lookup ("row":Str)=none:=Jc ∅
theorem Nh:(QT q).lookup ("want_hand":Str)=none:=Jc ∅
end
structure ub(c:Addr)(H:Hp)(p q:Addr)(ws:List Int):Prop where
 ob:∃dx,H p=some (.ins c dx (QT q))
 ls:H q=some (.lst (ws.map ι))
section
variable{c p q:Addr}{H H':Hp}{ws:List Int}
theorem ub.ne(m:ub c H p q ws):p≠q:=by
 obtain⟨⟨dx,e⟩,l⟩:=m;intro z;subst z;rw[e]at l;cases l
theorem ub.keep(m:ub c H p q ws)(h:∀b o,H b=some o->b=p∨b=q->H' b=some o):ub c H' p q ws:=
 ⟨let ⟨dx,e⟩:=m.ob;⟨dx,h _ _ e (.inl rfl)⟩,h _ _ m.ls (.inr rfl)⟩
theorem ub.put(m:ub c H p q ws)(i:Nat)(x:Int):ub c (upd H q (.lst ((ws.set i x).map ι))) p q (ws.set i x):=by
 refine⟨?_,iZ⟩;obtain⟨dx,e⟩:=m.ob;exact⟨dx,by rw[i4 m.ne];exact e⟩
end
noncomputable def OF (q:Addr):List (Str×V):=[("told",ξ q)]
section
variable{q:Addr}{f:Str}
theorem U2:(OF q).lookup ("told":Str)=some (.ref q):=by simp[OF,aU]
theorem Tc(h:(f==("told":Str))=false):(OF q).lookup f=none:=by simp[OF,aU,h]
theorem Mm:(OF q).lookup ("names":Str)=none:=Tc ∅
theorem Tb:j4 "told" (.ref q) []=OF q:=rfl
end
noncomputable def tv:Option Int->V
 |some i=> .int i
 |none=> .kr
theorem VV:¬(("waiting":Str)="spoken"):=∅
noncomputable def QW (d q:Addr):List (Str×V):=[("waiting",ξ d),("spoken",ξ q)]
section
variable{d q:Addr}{f:Str}
theorem Uo:(QW d q).lookup ("waiting":Str)=some (.ref d):=by simp[QW,aU]
theorem R1(h1:(f==("waiting":Str))=false)(h2:(f==("spoken":Str))=false):(QW d q).lookup f=none:=by simp[QW,aU,h1,h2]
theorem HA:(QW d q).lookup ("pending":Str)=none:=R1 ∅ ∅
theorem R0:j4 "spoken" (.ref q) (j4 "waiting" (.ref d) [])=QW d q:=by simp[j4,QW,VV]
end
theorem R8:¬(("hands":Str)="book"):=∅
theorem Ux:¬(("hands":Str)="weaks"):=∅
theorem VR:¬(("hands":Str)="lasts"):=∅
theorem Uw:¬(("book":Str)="weaks"):=∅
theorem VO:¬(("book":Str)="lasts"):=∅
theorem VU:¬(("weaks":Str)="lasts"):=∅
noncomputable def tW (h b w l:Addr):List (Str×V):=[("hands",ξ h),("book",ξ b),("weaks",ξ w),("lasts",ξ l)]
section
variable{h b w l:Addr}{f:Str}
theorem uR:(tW h b w l).lookup ("hands":Str)=some (.ref h):=by simp[tW,aU]
theorem CU:(tW h b w l).lookup ("book":Str)=some (.ref b):=by simp[tW,aU,show(("book":Str)=="hands")=false by decide+kernel]
theorem SV:(tW h b w l).lookup ("weaks":Str)=some (.ref w):=by simp[tW,aU,show(("weaks":Str)=="hands")=false by decide+kernel,show(("weaks":Str)=="book")=false by decide+kernel]
theorem SU:(tW h b w l).lookup ("lasts":Str)=some (.ref l):=by simp[tW,aU,show(("lasts":Str)=="hands")=false by decide+kernel,show(("lasts":Str)=="book")=false by decide+kernel,show(("lasts":Str)=="weaks")=false by decide+kernel]
theorem K6(h1:(f==("hands":Str))=false)(h2:(f==("book":Str))=false)(h3:(f==("weaks":Str))=false)(h4:(f==("lasts":Str))=false):(tW h b w l).lookup f=none:=by
 simp[tW,aU,h1,h2,h3,h4]
theorem Bf:(tW h b w l).lookup ("starts":Str)=none:=K6 ∅ ∅ ∅ ∅
theorem Be:(tW h b w l).lookup ("follow":Str)=none:=K6 ∅ ∅ ∅ ∅
theorem Qu:j4 "lasts" (.ref l) (j4 "weaks" (.ref w) (j4 "book" (.ref b) (j4 "hands" (.ref h) [])))=tW h b w l:=by simp[j4,tW,R8,Ux,VR,Uw,VO,VU]
end
theorem PX{d:Addr}:(j4 "waiting" (ξ d) []).length<1000:=by simp[j4]
structure Tv(c:Addr)(H:Hp)(p q:Addr):Prop where
 ob:∃dx,H p=some (.ins c dx (OF q))
 ls:H q=some (.lst [])
structure U_(c:Addr)(H:Hp)(p d:Addr):Prop where
 ob:∃dx q,H p=some (.ins c dx (QW d q))
 dc:H d=some (.dK [])
theorem vg{w:Int}(h:kj w=true)(k:(kd (.int w)).isSome=true):kd (.int w)=some (aP "place")/\w/2<=9999/\0<=w/2/\wo (.int w)= .int (w/2):=by
 simp only[kj,decide_eq_true_eq]at h;rw[lX,if_neg ⋯,if_neg ⋯]at k⊢;by_cases c:w%2=1/\1<=w/\w<=19999
 ·rw[if_pos c];exact⟨rfl,by(clear h;lia),⋯,by show(if w= -1 then V.kr else ι (w/2))=_;rw[if_neg ⋯]⟩
 ·rw[if_neg c]at k;cases k
theorem Jv{w:Int}(h:kj w=false)(k:(kd (.int w)).isSome=true):∃x,kd (.int w)=some x/\x≠aP "place":=by
 simp only[kj,decide_eq_false_iff_not]at h;rw[lX]at k⊢;by_cases c:w= -1
 ·rw[if_pos c];exact⟨_,rfl,∅⟩
 rw[if_neg c]at k⊢;by_cases c2:w%2=0/\ -2000000000000<=w/\w<=2000000000000
 ·rw[if_pos c2];exact⟨_,rfl,∅⟩
 rw[if_neg c2]at k⊢;rw[if_neg ⋯]at k;cases k
theorem AB{ws ks:List Int}{g j:Nat}:∀k,(j<g∨g+k<=j)->(cp ws ks g k).getD j 0=ws.getD j 0
 |0,_=>rfl
 |k+1,h=>by
  rw[cp,af,aX,if_neg ⋯,←af];exact AB k ⋯
theorem Kp{ws ks:List Int}{g j:Nat}:∀k,g<=j->j<g+k->j<ws.length->(cp ws ks g k).getD j 0=ks.getD (j-g) 0
 |0,h1,h2,_=>by lia
 |k+1,h1,h2,h3=>by
  rw[cp,af,aX];by_cases c:g+k=j
  ·rw[if_pos c,if_pos (by rw[rS];lia),←c,show g+k-g=k by(clear c;lia)];rfl
  ·rw[if_neg c,←af];exact Kp k h1 ⋯ h3
theorem MV{ws ks:List Int}{g:Nat}(h:jx ws)(h2:∀x∈ks,(kd (.int x)).isSome=true):∀k,jx (cp ws ks g k)
 |0=>h
 |k+1=>by
  refine(MV h h2 k).set ?_;by_cases c:k<ks.length
  ·rw[af,ab c];exact h2 _ (aG c)
  ·rw[af,aS ⋯];decide
noncomputable def wJ (ws:List Int) (i t:Nat) (k n g:Int):List Int:=((cp ws ((ws.drop i).take k.toNat) t k.toNat).set t (2*(4*(n/4)+g))).set i (2*t+1)
theorem Fv{ws:List Int}{i j:Nat}{w:Int}(h:i≠j):(ws.set i w).getD j 0=ws.getD j 0:=by
 rw[af,aX,if_neg h,←af]
theorem Fu{ws:List Int}{i:Nat}{w:Int}(h:i<ws.length):(ws.set i w).getD i 0=w:=by
 rw[af,aX,if_pos rfl,if_pos h];rfl
noncomputable def lN (ws:List Int) (a:Int):Int:=ws.getD a.toNat 0
inductive Th where
 |no
 |nu (n:Int)
 |ce (k:Nat)
noncomputable def wd (p:Nat->Option Int):Th->Int
 | .no=> -1
 | .nu n=>2*n
 | .ce k=>2*(p k).getD 0+1
structure Own where
 P:List (Option Int)
 G:List Int
 S:List (List Th)
 D:List Th
noncomputable def Own.p (x:Own) (k:Nat):Option Int:=x.P.getD k none
noncomputable def Own.g (x:Own) (k:Nat):Int:=x.G.getD k 0
noncomputable def Own.s (x:Own) (k:Nat):List Th:=x.S.getD k []
noncomputable def Own.z (x:Own) (k:Nat):Int:=(x.s k).length+1
noncomputable def Own.t (x:Own) (k j:Nat):Th:=(x.s k).getD j .no
structure Mem where
 ws:List Int
 so:S3
 sy:S3
 ss:S3
 hw:List Int
 ks:List Int
def oG(z:Nat->Int):Int->List (Nat×Int)->Int->Prop
 |a,[],t=>a=t
 |a,x::r,t=>x.2=a/\oG z (a+z x.1) r t
noncomputable def Iv (z:Nat->Int) (l:List (Nat×Int)):Int:=(l.map λx=>z x.1).sum
section
variable{z:Nat->Int}{l l':List (Nat×Int)}{a t:Int}
theorem rJ(h:oG z a l t):t=a+Iv z l:=by
 induction l generalizing a with
 |nil=>have:a=t:=h;simp[Iv,this]
 |cons x r ih=>have:=ih h.2;simp only[Iv,az,bq]at this⊢;lia
theorem oH(hz:∀k,1<=z k)(h:oG z a l t){k:Nat}{q:Int}(m:(k,q)∈l):a<=q/\q+z k<=t:=by
 induction l generalizing a with
 |nil=>cases m
 |cons x r ih=>
  have e:=rJ h.2;have pos:0<=Iv z r:=by
   clear ih h m e
   induction r with
   |nil=>simp[Iv]
   |cons y r ih=>have:=hz y.1;simp only[Iv,az,bq]at ih⊢;lia
  rcases List.mem_cons.mp m with rfl|m
  ·obtain⟨h1,h2⟩:=h;dsimp only at h1 e;lia
  ·have:=ih h.2 m;have:=hz x.1;(clear e ih;lia)
theorem rH(hz:∀k,1<=z k)(h:oG z a l t){k k':Nat}{q q' i:Int}(m:(k,q)∈l)(m':(k',q')∈l)(h1:q<=i)(h2:i<q+z k)(h3:q'<=i)(h4:i<q'+z k'):k=k'/\q=q':=by
 induction l generalizing a with
 |nil=>cases m
 |cons x r ih=>
  have h0:=h.1;rcases List.mem_cons.mp m with e|m1
  ·rcases List.mem_cons.mp m' with e'|m2
   ·rw[←e]at e';cases e';exact⟨rfl,rfl⟩
   ·have:=oH hz h.2 m2;rw[←e]at this h0;dsimp only at this h0;lia
  ·rcases List.mem_cons.mp m' with e'|m2
   ·have:=oH hz h.2 m1;rw[←e']at this h0;dsimp only at this h0;lia
   ·exact ih h.2 m1 m2
theorem Cq{b:Int}(h:oG z a l b)(h':oG z b l' t):oG z a (l++l') t:=by
 induction l generalizing a with
 |nil=>have:a=b:=h;subst this;exact h'
 |cons x r ih=>exact⟨h.1,ih h.2⟩
theorem vn{k:Nat}(h:oG z a l t):oG z a (l++[(k,t)]) (t+z k):=Cq h ⟨rfl,rfl⟩
theorem EU{z':Nat->Int}(e:∀x∈l,z' x.1=z x.1)(h:oG z a l t):oG z' a l t:=by
 induction l generalizing a with
 |nil=>exact h
 |cons x r ih=>refine⟨h.1,?_⟩;rw[e x (aq ..)];exact ih (λy hy=>e y (ai _ hy)) h.2
end
theorem JZ{α:Type}{f:α->Int}(hf:∀x,0<=f x):∀m:List α,0<=(m.map f).sum
 | []=>by simp
 |y::r=>by have:=hf y;have:=JZ hf r;rw[az,bq];lia
theorem Ow{α:Type} [DecidableEq α]{f:α->Int}{x:α}:∀{m:List α},x∈m->(m.map f).sum=f x+((m.erase x).map f).sum
 | [],h=>nomatch h
 |y::r,h=>by
  by_cases e:y=x
  ·subst e;rw[List.erase_cons_head,az,bq]
  ·rw[List.erase_cons_tail (by simpa using e),az,az,bq,bq,Ow ((List.mem_cons.mp h).resolve_left λz=>e z.symm)];lia
theorem GO{α:Type} [DecidableEq α]{f:α->Int}(hf:∀x,0<=f x):∀{l m:List α},l.Nodup->(∀x∈l,x∈m)->(l.map f).sum<=(m.map f).sum
 | [],m,_,_=>JZ hf m
 |x::l,m,nd,h=>by
  obtain⟨n1,n2⟩:=List.nodup_cons.mp nd;have:=GO hf n2 (m:=m.erase x) λy hy=>(List.mem_erase_of_ne (λe:y=x=>n1 (e▸hy))).mpr (h y (ai _ hy));rw[Ow (h x (aq ..)),az,bq];lia
theorem len_sub{α:Type} [DecidableEq α]{l m:List α}(nd:l.Nodup)(h:∀x∈l,x∈m):l.length<=m.length:=by
 have:=GO (f:=λ_:α=>(1:Int)) (λ_=>by decide) nd h;have e:∀l:List α,(l.map λ_=>(1:Int)).sum=l.length:=λl=>by induction l with|nil=>rfl|cons x r ih=>rw[az,bq,ih,aR];lia
 rw[e,e]at this;lia
noncomputable def lk:List (Nat×Int)->Nat->Option Int
 | [],_=>none
 |x::r,k=>if x.1=k then some x.2 else lk r k
theorem uu:∀{l:List (Nat×Int)} {k:Nat} {q:Int},lk l k=some q->(k,q)∈l
 | [],_,_,h=>nomatch h
 |x::r,k,q,h=>by
  unfold lk at h;by_cases e:x.1=k
  ·rw[if_pos e]at h;cases h;rw[←e];exact aq ..
  ·rw[if_neg e]at h;exact ai _ (uu h)
theorem BH:∀{l:List (Nat×Int)} {k:Nat},k∉l.map aD->lk l k=none
 | [],_,_=>rfl
 |x::r,k,h=>by
  rw[az,a_]at h;unfold lk;rw[if_neg λe=>h (.inl e.symm)];exact BH λm=>h (.inr m)
theorem ND:∀{l:List (Nat×Int)} {k:Nat} {q:Int},(l.map aD).Nodup->(k,q)∈l->lk l k=some q
 | [],_,_,_,m=>nomatch m
 |x::r,k,q,nd,m=>by
  obtain⟨n1,n2⟩:=List.nodup_cons.mp nd;unfold lk;rcases List.mem_cons.mp m with rfl|m
  ·exact if_pos rfl
  ·rw[if_neg λe:x.1=k=>n1 (by rw[e];exact bz (f:=aD) m)];exact ND n2 m
theorem m8{l:List (Nat×Int)}{k:Nat}(h:k∈l.map aD):∃q,lk l k=some q:=by
 cases e:lk l k with
 |some q=>exact⟨q,rfl⟩
 |none=>
  exfalso
  induction l with
  |nil=>cases h
  |cons x r ih=>
   unfold lk at e;by_cases z:x.1=k
   ·rw[if_pos z]at e;cases e
   ·rw[if_neg z]at e;rw[az,a_]at h;exact ih (h.resolve_left λy=>z y.symm) e
def Gd(x:Own):Th->Prop
 | .no=>True
 | .nu n=> -1000000000000<=n/\n<=1000000000000
 | .ce k=>k<x.G.length/\(x.p k).isSome=true
structure Wm(M:Mem):Prop where
 l2:M.ws.length<=200
 ob:M.so.b=0
 o0:0<=M.so.t
 ot:M.so.t<=M.so.e
 hv:(M.sy.b=M.so.e/\M.ss.b=M.sy.e/\M.ss.e=M.ws.length)∨(M.ss.b=M.so.e/\M.sy.b=M.ss.e/\M.sy.e=M.ws.length)
 yw:M.sy.e-M.sy.b=M.ss.e-M.ss.b
 y0:M.sy.b<=M.sy.t
 yt:M.sy.t<=M.sy.e
 st:M.ss.t=M.ss.b
 rm:M.sy.t-M.sy.b<=M.so.e-M.so.t
def To(ws:List Int)(a g:Int)(f:Nat->Int)(n:Nat):Prop:=lN ws a=2*(4*n+g)/\∀j:Nat,j<n->lN ws (a+1+j)=f j
structure In(x:Own)(M:Mem)(O Y:List (Nat×Int)):Prop where
 lp:x.P.length=x.G.length
 ls:x.S.length=x.G.length
 LU:x.G.length<=20
 ag:∀k,k<x.G.length->0<=x.g k/\x.g k<=2
 s8:∀k,(x.s k).length<=8
 fr:Wm M
 wo:jx M.ws
 oe:∀k a,(k,a)∈O↔k<x.G.length/\x.g k=2/\x.p k=some a
 ye:∀k a,(k,a)∈Y↔k<x.G.length/\x.g k<2/\x.p k=some a
 od:∀k,k<x.G.length->x.g k=2->(x.p k).isSome=true
 lo:oG x.z 0 O M.so.t
 ly:oG x.z M.sy.b Y M.sy.t
 ce:∀k a,(k,a)∈O∨(k,a)∈Y->To M.ws a (x.g k) (λj=>wd x.p (x.t k j)) (x.s k).length
 gs:∀k a,(k,a)∈O∨(k,a)∈Y->∀t∈x.s k,Gd x t
 gd:∀t∈x.D,Gd x t
 hd:M.hw=x.D.map (wd x.p)
 d4:1<=x.D.length/\x.D.length<=6
 b1:∀q∈M.ks,∃k a j i,(k,a)∈O/\j<(x.s k).length/\q=a+1+(j:Nat)/\x.t k j= .ce i/\x.g i<2
 b2:∀k a j i,(k,a)∈O->j<(x.s k).length->x.t k j= .ce i->x.g i<2->a+1+(j:Nat)∈M.ks
 kn:M.ks.Nodup
structure CS where
 ws:List Int
 ot:Int
 st:Int
 cs:List Int
noncomputable def pp (x:Own) (F:List (Nat×Int)) (k:Nat):Option Int:=(lk F k).or (x.p k)
def Fy(x:Own)(F:List (Nat×Int))(t:Th):Prop:=∀i,t= .ce i->x.g i<2->i∈F.map aD
def Tt(x:Own)(F:List (Nat×Int))(Dn:List Int)(ws:List Int)(p:Int)(t:Th):Prop:=(lN ws p=wd x.p t/\p∉Dn)∨(lN ws p=wd (pp x F) t/\Fy x F t)
def At(x:Own)(O F:List (Nat×Int))(k:Nat)(a g:Int):Prop:=((k,a)∈O/\g=2)∨((k,a)∈F/\g=x.g k+1)
structure rO(x:Own)(M:Mem)(O Y F:List (Nat×Int))(Dn:List Int)(c:CS):Prop where
 len:c.ws.length=M.ws.length
 wo:jx c.ws
 cs:c.cs=F.map dE
 fy:∀k,k∈F.map aD->∃a,(k,a)∈Y
 fn:(F.map aD).Nodup
 lo:oG x.z M.so.t (F.filter λe=>decide (x.g e.1=1)) c.ot
 ls:oG x.z M.ss.b (F.filter λe=>decide (x.g e.1=0)) c.st
 yl:∀k a,(k,a)∈Y->k∉F.map aD->To c.ws a (x.g k) (λj=>wd x.p (x.t k j)) (x.s k).length
 se:∀k a q,(k,a)∈Y->(k,q)∈F->lN c.ws a=2*q+1
 ce:∀k a g,At x O F k a g->lN c.ws a=2*(4*(x.s k).length+g)/\∀j:Nat,j<(x.s k).length->Tt x F Dn c.ws (a+1+j) (x.t k j)
 dn:∀p∈Dn,∃k a g j,At x O F k a g/\j<(x.s k).length/\p=a+1+(j:Nat)
noncomputable def Mj (x:Own) (F:List Nat):Th->List Nat
 | .ce i=>if x.g i<2/\i∉F then F++[i] else F
 |_=>F
noncomputable def oP (s:S3) (w:Int):Bool:=kj w&&decide (s.b<=w/2/\w/2<=s.t-1)
noncomputable def jW (s:S3) (c:CS) (w:Int):CS:=if oP s w=true then(if kj (lN c.ws (w/2))=true then c else match kD c.ws (w/2).toNat with
  |some n=>if n%4=0 then⟨wJ c.ws (w/2).toNat c.st.toNat (n/4+1) n 1,c.ot,c.st+(n/4+1),c.cs++[c.st]⟩ else⟨wJ c.ws (w/2).toNat c.ot.toNat (n/4+1) n 2,c.ot+(n/4+1),c.st,c.cs++[c.ot]⟩
  |none=>c) else c
noncomputable def mf (s:S3) (c:CS) (w:Int):Int:=if oP s w=true then lN (jW s c w).ws (w/2) else w
structure OS(M:Mem)(c:CS)(w:Int):Prop where
 kw:(kd (.int w)).isSome=true
 o0:0<=c.ot
 s0:0<=c.st
 yg:oP M.sy w=true->0<=w/2/\w/2<c.ws.length/\(kj (lN c.ws (w/2))=false->∃n,kD c.ws (w/2).toNat=some n/\(n%4=0->n/4+1<=M.ss.e-c.st/\(w/2<c.st∨c.st+(n/4+1)<=w/2))/\(n%4≠0->n/4+1<=M.so.e-c.ot/\(w/2<c.ot∨c.ot+(n/4+1)<=w/2)))
theorem tO{ws:List Int}{i j w:Int}(h0:0<=i)(h1:0<=j)(h:i≠j):lN (ws.set i.toNat w) j=lN ws j:=Fv ⋯
theorem tN{ws:List Int}{i w:Int}(h:i<ws.length)(h0:0<=i):lN (ws.set i.toNat w) i=w:=Fu ⋯
theorem Fg{ws:List Int}{i t:Nat}{k n g:Int}:(wJ ws i t k n g).length=ws.length:=by unfold wJ;rw[aT,aT,rS]
theorem Px{ws:List Int}{i t n g:Int}{m:Nat}(hn:n/4=m)(hi:0<=i)(ht:0<=t)(hl:t+m<ws.length)(hil:i+m<ws.length){p:Int}(hp:0<=p):
  lN (wJ ws i.toNat t.toNat (n/4+1) n g) p=if p=i then 2*t+1 else if p=t then 2*(4*m+g) else if t<p/\p<=t+m then lN ws (i+(p-t)) else lN ws p:=by
 unfold wJ;by_cases c1:p=i
 ·subst c1;rw[if_pos rfl,tN (by rw[aT,rS];lia) hi];lia
 rw[if_neg c1,tO hi hp (aj c1)];by_cases c2:p=t
 ·subst c2;rw[if_pos rfl,tN (by rw[rS];lia) hp,hn]
 rw[if_neg c2,tO ht hp (aj c2)];unfold lN;by_cases c3:t<p/\p<=t+m
 ·rw[if_pos c3,Kp _ (by(clear c2 hp;lia)) (by(clear hp hl hi;omega)) (by(clear c1 hp hil hi hn;omega)),af,fu,if_pos ⋯,dB,←af];congr 1;(clear c2 c1 hn;lia)
 ·rw[if_neg c3,AB _ ⋯]
theorem IX{ws:List Int}{i t:Nat}{k n g:Int}(h:jx ws)(n0:0<=n)(n1:n<=34)(g0:0<=g)(g2:g<=2)(t9:t<=9999):jx (wJ ws i t k n g):=by
 unfold wJ;refine((MV h (λw hw=>h w (eT (eU hw))) _).set ?_).set ?_
 ·rw[lX,if_neg ⋯,if_pos ⋯];rfl
 ·rw[lX,if_neg ⋯,if_neg ⋯,if_pos ⋯];rfl
section
variable{x:Own}{M:Mem}{O Y F:List (Nat×Int)}{Dn:List Int}{c:CS}
theorem Own.z1(x:Own)(k:Nat):1<=x.z k:=by unfold Own.z;lia
theorem R5{k i:Nat}{q:Int}:lk (F++[(k,q)]) i=(lk F i).or (if k=i then some q else none):=by
 induction F with
 |nil=>show(if k=i then some q else none)=_;rfl
 |cons y r ih=>
  show(if y.1=i then some y.2 else lk (r++[(k,q)]) i)=(if y.1=i then some y.2 else lk r i).or _;by_cases e:y.1=i
  ·rw[if_pos e,if_pos e];rfl
  ·rw[if_neg e,if_neg e];exact ih
theorem CP{k:Nat}(h:k∉F.map aD):pp x F k=x.p k:=by unfold pp;rw[BH h];rfl
theorem K3{k:Nat}{q:Int}(nd:(F.map aD).Nodup)(h:(k,q)∈F):pp x F k=some q:=by unfold pp;rw[ND nd h];rfl
theorem SI{k:Nat}{q:Int}(hk:k∉F.map aD){t:Th}(yk:x.g k<2)(h:Fy x F t):wd (pp x (F++[(k,q)])) t=wd (pp x F) t:=by
 cases t with
 |no=>rfl
 |nu n=>rfl
 |ce i=>
  by_cases e:i=k
  ·subst e;exact absurd (h i rfl yk) hk
  ·show 2*(pp x (F++[(k,q)]) i).getD 0+1=2*(pp x F i).getD 0+1;unfold pp;rw[R5,if_neg (aj e),Option.or_none]
theorem Fy.mono{F':List (Nat×Int)}{t:Th}(h:Fy x F t)(k:∀e∈F,e∈F'):Fy x F' t:=λi e y=>by
 obtain⟨z,hz,ez⟩:=List.mem_map.mp (h i e y);exact List.mem_map.mpr ⟨z,k z hz,ez⟩
theorem In.yg(I:In x M O Y){k:Nat}{a:Int}(h:(k,a)∈Y):x.g k=0∨x.g k=1:=by
 obtain⟨h1,h2,_⟩:=(I.ye k a).mp h;have:=I.ag k h1;lia
theorem In.Lk(I:In x M O Y){k:Nat}{a:Int}(h:(k,a)∈Y):M.sy.b<=a/\a+x.z k<=M.sy.t:=oH x.z1 I.ly h
theorem In.Jx(I:In x M O Y){k:Nat}{a:Int}(h:(k,a)∈O):0<=a/\a+x.z k<=M.so.t:=oH x.z1 I.lo h
theorem rO.fg(h:rO x M O Y F Dn c)(I:In x M O Y){k:Nat}{q:Int}(m:(k,q)∈F):x.g k=0∨x.g k=1:=by
 obtain⟨a,ha⟩:=h.fy k (bz (f:=aD) m);exact I.yg ha
theorem Md(h:∀e∈F,x.g e.1=0∨x.g e.1=1):Iv x.z (F.filter λe=>decide (x.g e.1=1))+Iv x.z (F.filter λe=>decide (x.g e.1=0))=Iv x.z F:=by
 induction F with
 |nil=>rfl
 |cons y r ih=>
  have:=ih λe he=>h e (ai _ he);unfold Iv at this⊢;rcases h y (aq ..) with e|e
  ·rw[bO (by simp[e]),cb (by simp[e])];simp only[az,bq];lia
  ·rw[cb (by simp[e]),bO (by simp[e])];simp only[az,bq];lia
theorem rO.rm(h:rO x M O Y F Dn c)(I:In x M O Y){l:List Nat}(nd:(F.map aD++l).Nodup)(hl:∀k∈l,∃a,(k,a)∈Y):c.ot-M.so.t+(c.st-M.ss.b)+(l.map x.z).sum<=M.sy.t-M.sy.b:=by
 have e1:=rJ h.lo;have e2:=rJ h.ls;have e3:=rJ I.ly;have e4:=Md (x:=x) (F:=F) λe he=>h.fg I (k:=e.1) (q:=e.2) he;have e5:=GO (f:=x.z) (λk=>by have:=x.z1 k;lia) nd (m:=Y.map aD) λk hk=>by
  rcases List.mem_append.mp hk with hk|hk
  ·obtain⟨a,ha⟩:=h.fy k hk;exact bz (f:=aD) ha
  ·obtain⟨a,ha⟩:=hl k hk;exact bz (f:=aD) ha
 rw[aF,fW,bQ,bQ]at e5;have e6:(F.map (x.z∘aD)).sum=Iv x.z F:=rfl;have e7:(Y.map (x.z∘aD)).sum=Iv x.z Y:=rfl;lia
theorem rO.J6(h:rO x M O Y F Dn c)(I:In x M O Y):M.so.t<=c.ot/\c.ot<=M.so.e/\M.ss.b<=c.st/\c.st<=M.ss.e:=by
 have e:=h.rm I (l:=[]) (by rw[bg];exact h.fn) (λ_ z=>nomatch z);have e1:=rJ h.lo;have e2:=rJ h.ls;have n:∀l:List (Nat×Int),0<=Iv x.z l:=λl=>JZ (f:=λe:Nat×Int=>x.z e.1) (λe=>by have:=x.z1 e.1;lia) l;have n1:=n (F.filter λe=>decide (x.g e.1=1));have n2:=n (F.filter λe=>decide (x.g e.1=0));have f:=I.fr;have:=f.rm;have:=f.yw;have:=f.yt;simp only[bY,eX]at e;lia
theorem rO.Uh(h:rO x M O Y F Dn c){k:Nat}{q:Int}(m:(k,q)∈F):(x.g k=1->M.so.t<=q/\q+x.z k<=c.ot)/\(x.g k=0->M.ss.b<=q/\q+x.z k<=c.st):=
 ⟨λe=>oH x.z1 h.lo (List.mem_filter.mpr ⟨m,by simpa using e⟩),λe=>oH x.z1 h.ls (List.mem_filter.mpr ⟨m,by simpa using e⟩)⟩
theorem rO.arg(h:rO x M O Y F Dn c)(I:In x M O Y){k:Nat}{a g:Int}(m:At x O F k a g):0<=a/\((a+x.z k<=c.ot)∨(M.ss.b<=a/\a+x.z k<=c.st))/\a+x.z k<=M.ws.length/\(a+x.z k<=M.sy.b∨M.sy.t<=a):=by
 have t:=h.J6 I;have f:=I.fr;have:=f.hv;have:=f.yw;have:=f.y0;have:=f.yt;have:=f.o0;have:=f.ot;rcases m with ⟨m,_⟩|⟨m,_⟩
 ·have:=I.Jx m;omega
 ·have r:=h.Uh m;rcases h.fg I m with e|e
  ·have:=r.2 e;(clear e r;omega)
  ·have:=r.1 e;lia
theorem rO.QQ(h:rO x M O Y F Dn c)(I:In x M O Y){k k':Nat}{a a' g g' i:Int}(m:At x O F k a g)(m':At x O F k' a' g')(h1:a<=i)(h2:i<a+x.z k)(h3:a'<=i)(h4:i<a'+x.z k'):k=k'/\a=a':=by
 have t:=h.J6 I;have f:=I.fr;have:=f.hv;have:=f.yw;have:=f.y0;have:=f.yt;have L:=Cq I.lo h.lo;have mo:∀{k:Nat} {a g:Int},At x O F k a g->((k,a)∈O++F.filter (λe=>decide (x.g e.1=1))/\a+x.z k<=c.ot)∨((k,a)∈F.filter (λe=>decide (x.g e.1=0))/\M.ss.b<=a):=λ{k a g} m=>by
  rcases m with ⟨m,_⟩|⟨m,_⟩
  ·have:=I.Jx m;exact .inl ⟨aZ _ m,⋯⟩
  ·rcases h.fg I m with e|e
   ·exact .inr ⟨List.mem_filter.mpr ⟨m,by simpa using e⟩,((h.Uh m).2 e).1⟩
   ·exact .inl ⟨aN _ (List.mem_filter.mpr ⟨m,by simpa using e⟩),((h.Uh m).1 e).2⟩
 rcases mo m with ⟨n,b⟩|⟨n,b⟩
 ·rcases mo m' with ⟨n',b'⟩|⟨n',b'⟩
  ·exact rH x.z1 L n n' h1 h2 h3 h4
  ·lia
 ·rcases mo m' with ⟨n',b'⟩|⟨n',b'⟩
  ·lia
  ·exact rH x.z1 h.ls n n' h1 h2 h3 h4
end
section
variable{x:Own}{M:Mem}{O Y F:List (Nat×Int)}{Dn:List Int}{c:CS}
theorem Tt.new{k:Nat}{q p:Int}{ws ws':List Int}{t:Th}(h:Tt x F Dn ws p t)(hk:k∉F.map aD)(yk:x.g k<2)(e:lN ws' p=lN ws p):Tt x (F++[(k,q)]) Dn ws' p t:=by
 rcases h with ⟨h1,h2⟩|⟨h1,h2⟩
 ·exact .inl ⟨e.trans h1,h2⟩
 ·exact .inr ⟨by rw[SI hk yk h2];exact e.trans h1,h2.mono λy hy=>aZ _ hy⟩
theorem At.app{k:Nat}{a g:Int}{l:List (Nat×Int)}(h:At x O F k a g):At x O (F++l) k a g:=h.imp id λ⟨m,e⟩=>⟨aZ _ m,e⟩
theorem rO.copy(h:rO x M O Y F Dn c)(I:In x M O Y){i:Nat}{a t:Int}(hy:(i,a)∈Y)(hi:i∉F.map aD)(ht:(x.g i=0/\t=c.st)∨(x.g i=1/\t=c.ot)):
  rO x M O Y (F++[(i,t)]) Dn ⟨wJ c.ws a.toNat t.toNat ((4*(x.s i).length+x.g i)/4+1) (4*(x.s i).length+x.g i) (x.g i+1),if x.g i=0 then c.ot else c.ot+x.z i,if x.g i=0 then c.st+x.z i else c.st,c.cs++[t]⟩/\0<=t/\t+x.z i<=M.ws.length/\(t+x.z i<=a∨a+x.z i<=t):=by
 have tp:=h.J6 I;have f:=I.fr;have hv:=f.hv;have yw:=f.yw;have y0:=f.y0;have yt:=f.yt;have o0:=f.o0;have l2:=f.l2;have s8:=I.s8 i;have yr:=I.Lk hy;have gy:=I.yg hy;have rm:=h.rm I (l:=[i]) (List.nodup_append.mpr ⟨h.fn,List.nodup_cons.mpr ⟨aI,bC⟩,λu hu v hv e=>by rw[aA]at hv;subst hv;exact hi (e▸hu)⟩) λk hk=>by rw[aA]at hk;subst hk;exact⟨a,hy⟩
 simp only[az,bY,bq,eX]at rm;have frm:=f.rm;have ez:x.z i=(x.s i).length+1:=rfl;have tb:0<=t/\t+x.z i<=M.ws.length/\(t+x.z i<=a∨a+x.z i<=t)/\(t+x.z i<=M.sy.b∨M.sy.t<=t):=by(clear ez gy s8 l2;omega)
 obtain⟨t0,tl,ta,ty⟩:=tb;have hn:(4*((x.s i).length:Int)+x.g i)/4=(x.s i).length:=by lia
 have cw:∀{p:Int},0<=p->lN (wJ c.ws a.toNat t.toNat ((4*(x.s i).length+x.g i)/4+1) (4*(x.s i).length+x.g i) (x.g i+1)) p=_:=λ{p} hp=>Px (ws:=c.ws) (i:=a) (t:=t) (g:=x.g i+1) (m:=(x.s i).length) hn (by(clear ez gy s8 l2 y0 yw;omega)) t0 (by rw[h.len];lia) (by rw[h.len];(clear rm gy s8 yw;omega)) hp;have away:∀{p:Int},0<=p->p≠a->(p<t∨t+x.z i<=p)->lN (wJ c.ws a.toNat t.toNat ((4*(x.s i).length+x.g i)/4+1) (4*(x.s i).length+x.g i) (x.g i+1)) p=lN c.ws p:=λ{p} hp n d=>by
  rw[cw hp,if_neg n,if_neg ⋯,if_neg ⋯]
 have atA:∀{k:Nat} {b g:Int},At x O F k b g->∀{p:Int},b<=p->p<b+x.z k->lN (wJ c.ws a.toNat t.toNat ((4*(x.s i).length+x.g i)/4+1) (4*(x.s i).length+x.g i) (x.g i+1)) p=lN c.ws p:=λ{k b g} m {p} p1 p2=>by
  have:=h.arg I m;exact away (by(clear y0 yw tp;omega)) (by(clear s8 yw tp;omega)) (by(clear hn ty ta tl gy s8 yw;omega))
 have yA:∀{k:Nat} {b:Int},(k,b)∈Y->k≠i->∀{p:Int},b<=p->p<b+x.z k->lN (wJ c.ws a.toNat t.toNat ((4*(x.s i).length+x.g i)/4+1) (4*(x.s i).length+x.g i) (x.g i+1)) p=lN c.ws p:=λ{k b} m n {p} p1 p2=>by
  have r:=I.Lk m;exact away (by(clear n cw tl ez yw;lia)) (λe=>n (rH x.z1 I.ly m hy p1 p2 (i:=p) ⋯ ⋯).1) (by(clear t0 ez yw;lia))
 have kz:∀k,((x.s k).length:Int)<x.z k:=λk=>by unfold Own.z;lia
 have i2:x.g i<2:=by lia
 refine⟨⟨?_,?_,?_,?_,?_,?_,?_,?_,?_,?_,?_⟩,t0,tl,ta⟩
 ·show(wJ c.ws _ _ _ _ _).length=_;rw[Fg];exact h.len
 ·exact IX h.wo (by(clear hn;lia)) ⋯ (by(clear hn;lia)) ⋯ ⋯
 ·show c.cs++[t]=_;rw[h.cs,aF];rfl
 ·intro k hk;rw[aF,cG]at hk;rcases hk with hk|hk
  ·exact h.fy k hk
  ·rw[az,bY,aA]at hk;subst hk;exact⟨a,hy⟩
 ·rw[aF];exact List.nodup_append.mpr ⟨h.fn,List.nodup_cons.mpr ⟨aI,bC⟩,λu hu v hv e=>by rw[az,bY,aA]at hv;subst hv;exact hi (e▸hu)⟩
 ·show oG x.z M.so.t ((F++[(i,t)]).filter _) (if x.g i=0 then c.ot else c.ot+x.z i);rw[d7];rcases ht with ⟨e,rfl⟩|⟨e,rfl⟩
  ·rw[if_pos e,bO (by simp[e]),eO,bg];exact h.lo
  ·rw[if_neg ⋯,cb (by simp[e]),eO];exact vn h.lo
 ·show oG x.z M.ss.b ((F++[(i,t)]).filter _) (if x.g i=0 then c.st+x.z i else c.st);rw[d7];rcases ht with ⟨e,rfl⟩|⟨e,rfl⟩
  ·rw[if_pos e,cb (by simp[e]),eO];exact vn h.ls
  ·rw[if_neg ⋯,bO (by simp[e]),eO,bg];exact h.ls
 ·intro k b hb nk;rw[aF,cG,az,bY,aA,not_or]at nk;obtain⟨e1,e2⟩:=h.yl k b hb nk.1;have:=kz k;exact⟨(yA hb nk.2 (cO _) ⋯).trans e1,λj hj=>(yA hb nk.2 ⋯ ⋯).trans (e2 j hj)⟩
 ·intro k b q hb hq;rcases List.mem_append.mp hq with hq|hq
  ·have n:k≠i:=λe=>hi (by rw[←e];exact bz (f:=aD) hq);have:=kz k;exact(yA hb n (cO _) ⋯).trans (h.se k b q hb hq)
  ·rw[aA]at hq
   cases hq
   have e1:=((I.ye i b).mp hb).2.2;rw[((I.ye i a).mp hy).2.2]at e1
   cases e1
   show lN (wJ _ _ _ _ _ _) a=_;rw[cw (by(clear cw ez gy s8 l2 y0 yw;omega)),if_pos rfl]
 ·intro k b g m;have old:∀{k:Nat} {b g:Int},At x O F k b g->lN (wJ c.ws a.toNat t.toNat ((4*(x.s i).length+x.g i)/4+1) (4*(x.s i).length+x.g i) (x.g i+1)) b=2*(4*(x.s k).length+g)/\∀j:Nat,j<(x.s k).length->Tt x (F++[(i,t)]) Dn (wJ c.ws a.toNat t.toNat ((4*(x.s i).length+x.g i)/4+1) (4*(x.s i).length+x.g i) (x.g i+1)) (b+1+j) (x.t k j):=λ{k b g} m=>by
   obtain⟨e1,e2⟩:=h.ce k b g m;have:=kz k;exact⟨(atA m (cO _) ⋯).trans e1,λj hj=>(e2 j hj).new hi i2 (atA m ⋯ ⋯)⟩
  rcases m with m|⟨m,e⟩
  ·exact old (.inl m)
  ·rcases List.mem_append.mp m with m|m
   ·exact old (.inr ⟨m,e⟩)
   ·rw[aA]at m
    cases m
    subst e;refine⟨?_,λj hj=> .inl ⟨?_,λz=> ?_⟩⟩
    ·show lN (wJ _ _ _ _ _ _) t=_;rw[cw t0,if_neg (by(clear ty yw;lia)),if_pos rfl]
    ·show lN (wJ _ _ _ _ _ _) (t+1+j)=_;rw[cw ⋯,if_neg (by(clear hn ty t0 yr;lia)),if_neg ⋯,if_pos ⋯,show a+(t+1+(j:Int)-t)=a+1+j by lia];exact(h.yl i a hy hi).2 j hj
    ·obtain⟨k,b,g,j',m,hj',e⟩:=h.dn _ z;have:=h.arg I m;have:=kz k
     (clear hn ty ta tl t0 gy y0 yw;omega)
 ·intro p hp;obtain⟨k,b,g,j,m,hj,e⟩:=h.dn p hp;exact⟨k,b,g,j,m.app,hj,e⟩
theorem o_{q:Int}(h:0<=q):kj (2*q+1)=true:=by simp only[kj,decide_eq_true_eq];lia
theorem rX{q:Int}:kj (2*q)=false:=by simp only[kj,decide_eq_false_iff_not];lia
theorem QV(I:In x M O Y){t:Th}(g:Gd x t)(P:Nat->Option Int)(h:∀k,t= .ce k->0<=(P k).getD 0/\(P k).getD 0<=9999):(kd (.int (wd P t))).isSome=true:=by
 cases t with
 |no=>show(kd (.int (-1))).isSome=true;decide
 |nu n=>obtain⟨g1,g2⟩:=g;show(kd (.int (2*n))).isSome=true;rw[lX,if_neg ⋯,if_pos ⋯];rfl
 |ce k=>have:=h k rfl;show(kd (.int (2*_+1))).isSome=true;rw[lX,if_neg ⋯,if_neg (by omega),if_pos ⋯];rfl
theorem In.cell(I:In x M O Y){k:Nat}(g:Gd x (.ce k)):∃a,x.p k=some a/\((x.g k=2/\(k,a)∈O)∨(x.g k<2/\(k,a)∈Y)):=by
 obtain⟨g1,g2⟩:=g;obtain⟨a,e⟩:=Option.isSome_iff_exists.mp g2;have:=I.ag k g1;by_cases z:x.g k=2
 ·exact⟨a,e,.inl ⟨z,(I.oe k a).mpr ⟨g1,z,e⟩⟩⟩
 ·exact⟨a,e,.inr ⟨⋯,(I.ye k a).mpr ⟨g1,⋯,e⟩⟩⟩
theorem qp{s:S3}{w:Int}(h:kj w=true->w/2<s.b∨s.t<=w/2):oP s w=false:=by
 unfold oP
 cases e:kj w with
 |false=>rfl
 |true=>have:=h e;simp only[dQ,decide_eq_false_iff_not];lia
theorem rO.vv(h:rO x M O Y F Dn c){w:Int}(hy:oP M.sy w=false):jW M.sy c w=c/\mf M.sy c w=w:=by
 unfold mf jW;rw[hy];exact⟨rfl,rfl⟩
theorem rO.meet(h:rO x M O Y F Dn c)(I:In x M O Y){t:Th}(g:Gd x t){w:Int}(hw:w=wd x.p t∨(w=wd (pp x F) t/\Fy x F t)):
  OS M c w/\(kd (.int (mf M.sy c w))).isSome=true/\∃l,rO x M O Y (F++l) Dn (jW M.sy c w)/\(F++l).map aD=Mj x (F.map aD) t/\mf M.sy c w=wd (pp x (F++l)) t/\Fy x (F++l) t:=by
 have tp:=h.J6 I;have f:=I.fr;have hv:=f.hv;have yw:=f.yw;have y0:=f.y0;have yt:=f.yt;have o0:=f.o0;have l2:=f.l2;have hO:0<=c.ot:=by lia
 have hS:0<=c.st:=by lia
 have plain:∀{w:Int},(kd (.int w)).isSome=true->oP M.sy w=false->w=wd (pp x F) t->Fy x F t->Mj x (F.map aD) t=F.map aD->OS M c w/\(kd (.int (mf M.sy c w))).isSome=true/\∃l,rO x M O Y (F++l) Dn (jW M.sy c w)/\(F++l).map aD=Mj x (F.map aD) t/\mf M.sy c w=wd (pp x (F++l)) t/\Fy x (F++l) t:=λ{w} k y e i v=>by
  obtain⟨s1,s2⟩:=h.vv y;refine⟨⟨k,hO,hS,λz=>by rw[y]at z;cases z⟩,by rw[s2];exact k,[],?_⟩;rw[bg,s1,s2,v];exact⟨h,rfl,e,i⟩
 cases t with
 |no=>
  have e:w= -1:=by rcases hw with e|⟨e,_⟩<;>exact e
  subst e;exact plain (by decide) (qp λz=>absurd z (by decide)) rfl (λi z=>nomatch z) rfl
 |nu n=>
  have e:w=2*n:=by rcases hw with e|⟨e,_⟩<;>exact e
  subst e;exact plain (QV I g x.p (λk z=>nomatch z)) (qp (by rw[rX];intro z;cases z)) rfl (λi z=>nomatch z) rfl
 |ce i=>
  obtain⟨a,ea,⟨gi,m⟩|⟨gi,m⟩⟩:=I.cell g
  ·
   have ni:i∉F.map aD:=λz=>by obtain⟨b,hb⟩:=h.fy i z;have:=((I.ye i b).mp hb).2.1;lia
   have r:=I.Jx m;have z1:=x.z1 i;have e:w=2*a+1:=by
    rcases hw with e|⟨e,_⟩
    ·rw[e];show 2*(x.p i).getD 0+1=_;rw[ea];rfl
    ·rw[e];show 2*(pp x F i).getD 0+1=_;rw[CP ni,ea];rfl
   subst e;refine plain (by rw[lX,if_neg ⋯,if_neg (by(clear y0 yw tp;omega)),if_pos ⋯];rfl) (qp λ_=>by rw[show(2*a+1)/2=a by lia];(clear gi hS l2 yt y0 yw;omega)) ?_ (λj z y=>by cases z;lia) ?_
   ·show _=2*(pp x F i).getD 0+1;rw[CP ni,ea];rfl
   ·show(if x.g i<2/\_ then _ else _)=_;rw[if_neg ⋯]
  ·have r:=I.Lk m;have z1:=x.z1 i;by_cases hi:i∈F.map aD
   ·
    obtain⟨q,hq⟩:=m8 hi;have mq:=uu hq;have ep:pp x F i=some q:=K3 h.fn mq;have rq:=h.arg I (k:=i) (a:=q) (g:=x.g i+1) (.inr ⟨mq,rfl⟩);have vs:Mj x (F.map aD) (.ce i)=F.map aD:=by show(if _/\i∉_ then _ else _)=_;rw[if_neg λz=>z.2 hi]
    have inf:Fy x F (.ce i):=λj z _=>by cases z;exact hi
    have ew:wd (pp x F) (.ce i)=2*q+1:=by show 2*(pp x F i).getD 0+1=_;rw[ep];rfl
    have kq:(kd (.int (2*q+1))).isSome=true:=by rw[lX,if_neg (by(clear ew r gi l2 y0 yw tp;omega)),if_neg (by(clear y0 yw tp;omega)),if_pos ⋯];rfl
    by_cases e0:w=2*q+1
    ·subst e0;exact plain kq (qp λ_=>by rw[show(2*q+1)/2=q by lia];(clear hw ew r gi l2 yw tp;omega)) ew.symm inf vs
    ·have e:w=2*a+1:=by
      rcases hw with e|⟨e,_⟩
      ·rw[e];show 2*(x.p i).getD 0+1=_;rw[ea];rfl
      ·exact absurd (e.trans ew) e0
     subst e;have e2:(2*a+1)/2=a:=by lia
     have hyg:oP M.sy (2*a+1)=true:=by unfold oP;rw[o_ (by(clear hw ew rq gi y0 yw;lia)),e2];simp only[dQ,decide_eq_true_eq];(clear y0 yw;lia)
     have es:=h.se i a q m mq;have ip:kj (lN c.ws a)=true:=by rw[es];exact o_ (by(clear e2 ew r gi l2 y0 yw tp;omega))
     have mc:jW M.sy c (2*a+1)=c:=by unfold jW;rw[hyg,if_pos rfl,e2,if_pos ip]
     have mw:mf M.sy c (2*a+1)=2*q+1:=by unfold mf;rw[hyg,if_pos rfl,mc,e2];exact es
     refine⟨⟨by rw[lX,if_neg (by(clear e0 hw ew rq gi y0 yw;lia)),if_neg (by(clear e2 y0 yw tp;omega)),if_pos (by(clear mw es e2 e0 hw ew rq gi o0 yw;lia))];rfl,hO,hS,λ_=>⟨by(clear hw ew rq z1 l2 o0 yw;lia),by rw[h.len];(clear rq gi l2 yw;lia),λz=>by rw[e2,ip]at z;cases z⟩⟩,by rw[mw];exact kq,[],?_⟩;rw[bg,mc,mw,vs];exact⟨h,rfl,ew.symm,inf⟩
   ·
    have e:w=2*a+1:=by
     rcases hw with e|⟨_,e⟩
     ·rw[e];show 2*(x.p i).getD 0+1=_;rw[ea];rfl
     ·exact absurd (e i rfl gi) hi
    subst e;have e2:(2*a+1)/2=a:=by lia
    have hyg:oP M.sy (2*a+1)=true:=by unfold oP;rw[o_ (by(clear hw gi y0 yw;lia)),e2];simp only[dQ,decide_eq_true_eq];(clear yw;lia)
    obtain⟨hc,_⟩:=h.yl i a m hi;have gy:=I.yg m;have s8:=I.s8 i;have ez:x.z i=(x.s i).length+1:=rfl;have ip:kj (lN c.ws a)=false:=by rw[hc];exact rX
    have cn:kD c.ws a.toNat=some (4*(x.s i).length+x.g i):=by
     rw[l6,show c.ws.getD a.toNat 0=lN c.ws a from rfl,hc,h.len,if_pos (by(clear hc e2 hw hS o0 yw;omega))];congr 1;(clear ez;lia)
    have vs:Mj x (F.map aD) (.ce i)=F.map aD++[i]:=by show(if _/\i∉_ then _ else _)=_;rw[if_pos ⟨gi,hi⟩]
    have n4:(4*((x.s i).length:Int)+x.g i)%4=x.g i:=by(clear ez gi tp;lia)
    have n5:(4*((x.s i).length:Int)+x.g i)/4+1=x.z i:=by lia
    have fin:∀{t:Int} {C:CS},jW M.sy c (2*a+1)=C->C=⟨wJ c.ws a.toNat t.toNat ((4*(x.s i).length+x.g i)/4+1) (4*(x.s i).length+x.g i) (x.g i+1),if x.g i=0 then c.ot else c.ot+x.z i,if x.g i=0 then c.st+x.z i else c.st,c.cs++[t]⟩->((x.g i=0/\t=c.st)∨(x.g i=1/\t=c.ot))->
      OS M c (2*a+1)/\(kd (.int (mf M.sy c (2*a+1)))).isSome=true/\∃l,rO x M O Y (F++l) Dn (jW M.sy c (2*a+1))/\(F++l).map aD=Mj x (F.map aD) (.ce i)/\mf M.sy c (2*a+1)=wd (pp x (F++l)) (.ce i)/\Fy x (F++l) (.ce i):=λ{t C} mc eC ht=>by
     subst eC;obtain⟨md,t0,tl,ta⟩:=h.copy I m hi ht;have mw:mf M.sy c (2*a+1)=2*t+1:=by
      unfold mf;rw[hyg,if_pos rfl,mc,e2];exact md.se i a t m (aN _ (List.mem_singleton.mpr rfl))
     have rm:=h.rm I (l:=[i]) (List.nodup_append.mpr ⟨h.fn,List.nodup_cons.mpr ⟨aI,bC⟩,λu hu v hv e=>by rw[aA]at hv;subst hv;exact hi (e▸hu)⟩) λk hk=>by rw[aA]at hk;subst hk;exact⟨a,m⟩
     simp only[az,bY,bq,eX]at rm;have frm:=f.rm;refine⟨⟨by rw[lX,if_neg (by(clear rm z1 gi y0 yw;lia)),if_neg (by(clear e2 y0 yw tp;omega)),if_pos (by(clear rm tl hw gi hS yw;lia))];rfl,hO,hS,λ_=>⟨by(clear rm z1 gi l2 yw;lia),by rw[h.len];(clear rm tl hw gi l2 yw;lia),λ_=>⟨_,by rw[e2];exact cn,λz=> ?_,λz=> ?_⟩⟩⟩,?_,[(i,t)],?_,?_,?_,?_⟩
     ·rw[n5,e2];(clear t0 mc z1;lia)
     ·rw[n5,e2];(clear gy z1 y0 yw;lia)
     ·rw[mw,lX,if_neg ⋯,if_neg (by(clear y0 yw tp;omega)),if_pos ⋯];rfl
     ·rw[mc];exact md
     ·rw[vs,aF];rfl
     ·rw[mw];show _=2*(pp x (F++[(i,t)]) i).getD 0+1;rw[K3 md.fn (aN _ (List.mem_singleton.mpr rfl))];rfl
     ·intro j z _;cases z;rw[aF];exact aN _ (List.mem_singleton.mpr rfl)
    have mc0:jW M.sy c (2*a+1)=if (4*((x.s i).length:Int)+x.g i)%4=0 then⟨wJ c.ws a.toNat c.st.toNat ((4*(x.s i).length+x.g i)/4+1) (4*(x.s i).length+x.g i) 1,c.ot,c.st+((4*(x.s i).length+x.g i)/4+1),c.cs++[c.st]⟩ else⟨wJ c.ws a.toNat c.ot.toNat ((4*(x.s i).length+x.g i)/4+1) (4*(x.s i).length+x.g i) 2,c.ot+((4*(x.s i).length+x.g i)/4+1),c.st,c.cs++[c.ot]⟩:=by
     unfold jW;rw[hyg,if_pos rfl,e2,if_neg (by rw[ip];intro z;cases z),cn]
    rcases gy with e|e
    ·refine fin (t:=c.st) (mc0.trans (if_pos ⋯)) ?_ (.inl ⟨e,rfl⟩);rw[if_pos e,if_pos e,n5,e];rfl
    ·refine fin (t:=c.ot) (mc0.trans (if_neg ⋯)) ?_ (.inr ⟨e,rfl⟩);rw[if_neg ⋯,if_neg ⋯,n5,e];rfl
theorem Own.tm{k j:Nat}(h:j<(x.s k).length):x.t k j∈x.s k:=by
 unfold Own.t;rw[af,ab h];exact aG h
theorem rO.gd(h:rO x M O Y F Dn c)(I:In x M O Y){k:Nat}{a g:Int}(m:At x O F k a g){j:Nat}(hj:j<(x.s k).length):Gd x (x.t k j):=by
 rcases m with ⟨m,_⟩|⟨m,_⟩
 ·exact I.gs k a (.inl m) _ (x.tm hj)
 ·obtain⟨b,hb⟩:=h.fy k (bz (f:=aD) m);exact I.gs k b (.inr hb) _ (x.tm hj)
theorem rO.slot(h:rO x M O Y F Dn c)(I:In x M O Y){k:Nat}{a g:Int}(m:At x O F k a g){j:Nat}(hj:j<(x.s k).length){w W:Int}(hw:lN c.ws (a+1+j)=w)(hW:mf M.sy c w=W):
  OS M c w/\(kd (.int W)).isSome=true/\0<=a+1+j/\a+1+j<M.ws.length/\∃l,rO x M O Y (F++l) ((a+1+j)::Dn) {jW M.sy c w with ws:=(jW M.sy c w).ws.set (a+1+(j:Int)).toNat W}/\(F++l).map aD=Mj x (F.map aD) (x.t k j):=by
 have ar:=h.arg I m;have ez:x.z k=(x.s k).length+1:=rfl;obtain⟨m1,m2,l,md,e1,e2,e3⟩:=h.meet I (h.gd I m hj) (w:=w) (by rcases (h.ce k a g m).2 j hj with z|z;exact .inl (hw▸z.1);exact .inr ⟨hw▸z.1,z.2⟩);rw[hW]at m2 e2;refine⟨m1,m2,⋯,by(clear e2 hW hw;omega),l,?_,e1⟩;have ml:At x O (F++l) k a g:=m.app;have kz:∀k,((x.s k).length:Int)<x.z k:=λk=>by unfold Own.z;lia
 have ne:∀{p:Int},0<=p->p≠a+1+j->lN ((jW M.sy c w).ws.set (a+1+(j:Int)).toNat W) p=lN (jW M.sy c w).ws p:=λ{p} p0 n=>tO ⋯ p0 (aj n);refine⟨?_,md.wo.set m2,md.cs,md.fy,md.fn,md.lo,md.ls,λk' b hb nk=> ?_,λk' b q hb hq=> ?_,λk' b g' m'=> ?_,λp hp=> ?_⟩
 ·show((jW M.sy c w).ws.set _ W).length=_;rw[aT];exact md.len
 ·obtain⟨c1,c2⟩:=md.yl k' b hb nk;have r:=I.Lk hb;have:=kz k';have f:=I.fr;have:=f.hv;have:=f.ot;have:=f.o0;have:=f.yw;have:=f.y0;have:=f.yt;exact⟨(ne (by(clear ez ar;lia)) ⋯).trans c1,λi hi=>(ne (by(clear ar;lia)) ⋯).trans (c2 i hi)⟩
 ·have r:=I.Lk hb;have:=kz k';have f:=I.fr;have:=f.hv;have:=f.ot;have:=f.o0;have:=f.yw;have:=f.y0;have:=f.yt;exact(ne (by(clear ez ar;lia)) ⋯).trans (md.se k' b q hb hq)
 ·obtain⟨c1,c2⟩:=md.ce k' b g' m';have r:=md.arg I m';have:=kz k';refine⟨(ne (by(clear e2 ar hW hw hj;omega)) λe=> ?_).trans c1,λi hi=> ?_⟩
  ·have d:=md.QQ I m' ml (i:=b) (cO _) ⋯ (by(clear hw;lia)) (by(clear hw;lia))
   (clear hw;lia)
  ·by_cases e:b+1+(i:Int)=a+1+j
   ·have d:=md.QQ I m' ml (i:=b+1+i) (by(clear e;lia)) (by(clear e;lia)) ⋯ ⋯;obtain⟨rfl,rfl⟩:=d;have:i=j:=by lia
    subst this;refine .inr ⟨?_,e3⟩;show lN ((jW M.sy c w).ws.set _ W) _=_;rw[tN (by rw[md.len];(clear e2 ez c1 hW;omega)) ⋯];exact e2
   ·have ew:=ne (p:=b+1+i) ⋯ e;rcases c2 i hi with ⟨z1,z2⟩|⟨z1,z2⟩
    ·exact .inl ⟨ew.trans z1,λz=>(List.mem_cons.mp z).elim e z2⟩
    ·exact .inr ⟨ew.trans z1,z2⟩
 ·rcases List.mem_cons.mp hp with rfl|hp
  ·exact⟨k,a,g,j,ml,hj,rfl⟩
  ·exact md.dn p hp
end
theorem Ov{α:Type}{f:α->Int}:∀{l m:List α},(l.map f).Pairwise (·<·)->(m.map f).Pairwise (·<·)->(∀y,y∈l↔y∈m)->l=m
 | [],m,_,_,h=>by cases m with|nil=>rfl|cons y r=>exact absurd ((h y).mpr (aq ..)) aI
 |x::l,[],_,_,h=>absurd ((h x).mp (aq ..)) aI
 |x::l,y::m,hl,hm,h=>by
  rw[az,cQ]at hl hm;have lo:∀z∈l,f x<f z:=λz hz=>hl.1 _ (bz hz);have mo:∀z∈m,f y<f z:=λz hz=>hm.1 _ (bz hz);have e:x=y:=by
   rcases List.mem_cons.mp ((h x).mp (aq ..)) with e|e
   ·exact e
   ·rcases List.mem_cons.mp ((h y).mpr (aq ..)) with e'|e'
    ·exact e'.symm
    ·have:=mo x e;have:=lo y e';lia
  subst e;rw[Ov hl.2 hm.2 λz=>⟨λhz=> ?_,λhz=> ?_⟩]
  ·rcases List.mem_cons.mp ((h z).mp (ai _ hz)) with e|e
   ·subst e;have:=lo z hz;lia
   ·exact e
  ·rcases List.mem_cons.mp ((h z).mpr (ai _ hz)) with e|e
   ·subst e;have:=mo z hz;lia
   ·exact e
theorem uv:∀{l:List Int},l.Pairwise (·<=·)->l.Nodup->l.Pairwise (·<·)
 | [],_,_=> .nil
 |x::l,h,nd=>by
  rw[cQ]at h;obtain⟨n1,n2⟩:=List.nodup_cons.mp nd;exact List.pairwise_cons.mpr ⟨λy hy=>by have:=h.1 y hy;have:x≠y:=λe=>n1 (e▸hy);lia,uv h.2 n2⟩
noncomputable def tM (x:Own) (F:List Nat) (ts:List Th):List Nat:=ts.foldl (Mj x) F
noncomputable def LG (x:Own):Th->Bool
 | .ce i=>decide (x.g i<2)
 |_=>false
theorem J8{x:Own}:∀{ts:List Th} {F:List Nat},tM x F (ts.filter (LG x))=tM x F ts
 | [],_=>rfl
 |t::r,F=>by
  cases e:LG x t with
  |true=>rw[cb e];exact J8 (ts:=r) (F:=Mj x F t)
  |false=>
   rw[bO (by rw[e];intro z;cases z)]
   have:Mj x F t=F:=by
    cases t with
    |no=>rfl
    |nu n=>rfl
    |ce i=>have:=of_decide_eq_false e;show(if _/\_ then _ else _)=_;rw[if_neg λz=>this z.1]
   show _=tM x (Mj x F t) r;rw[this];exact J8
noncomputable def Rw (x:Own):Nat->List Nat->Nat->List Nat
 |0,F,_=>F
 |n+1,F,t=>if t<F.length then Rw x n (tM x F (x.s (F.getD t 0))) (t+1) else F
noncomputable def Vi (x:Own) (O:List (Nat×Int)):List Th:=x.D++O.flatMap λe=>x.s e.1
noncomputable def ord (x:Own) (O:List (Nat×Int)):List Nat:=Rw x 21 (tM x [] (Vi x O)) 0
section
variable{x:Own}{M:Mem}{O Y F:List (Nat×Int)}{Dn:List Int}{c:CS}
noncomputable def qx (x:Own) (e:Nat×Int):List Int:=(aW (x.s e.1).length).map λj:Nat=>e.2+1+j
noncomputable def QL (x:Own):List (Nat×Int)->Int->Th
 | [],_=> .no
 |e::r,p=>if e.2<p/\p<e.2+x.z e.1 then x.t e.1 (p-e.2-1).toNat else QL x r p
theorem GQ{a b:Int}(h:oG x.z a O b){k:Nat}{q:Int}(m:(k,q)∈O){j:Nat}(hj:j<(x.s k).length):QL x O (q+1+j)=x.t k j:=by
 induction O generalizing a with
 |nil=>cases m
 |cons e r ih=>
  have ez:x.z k=(x.s k).length+1:=rfl;unfold QL;by_cases z:e.2<q+1+j/\q+1+j<e.2+x.z e.1
  ·rw[if_pos z];obtain⟨rfl,rfl⟩:=rH x.z1 h (k:=e.1) (q:=e.2) (aq ..) m (i:=q+1+j) (by(clear ih;lia)) (by(clear ez ih;lia)) ⋯ ⋯;congr 1;lia
  ·rw[if_neg z];rcases List.mem_cons.mp m with e'|m
   ·subst e';exact absurd (show q<q+1+(j:Int)/\q+1+(j:Int)<q+x.z k by(clear z;lia)) z
   ·exact ih h.2 m
theorem Uu(k:Nat):(aW (x.s k).length).map (λj=>x.t k j)=x.s k:=by
 refine List.ext_getElem (by simp) λi h1 h2=> ?_;rw[cN,g8];unfold Own.t;rw[af,ab h2];rfl
theorem Oj{a b:Int}(h:oG x.z a O b):∀{R:List (Nat×Int)},(∀e∈R,e∈O)->(R.flatMap (qx x)).map (QL x O)=R.flatMap λe=>x.s e.1
 | [],_=>rfl
 |e::r,s=>by
  rw[d_,d_,aF,Oj h λy hy=>s y (ai _ hy)];congr 1;unfold qx;rw[bQ];refine(cm λj hj=> ?_).trans (Uu e.1);exact GQ h (k:=e.1) (q:=e.2) (s e (aq ..)) (List.mem_range.mp hj)
theorem QC{a b:Int}(h:oG x.z a O b):(O.flatMap (qx x)).Pairwise (·<·)/\∀p∈O.flatMap (qx x),a<=p:=by
 induction O generalizing a with
 |nil=>exact⟨.nil,λ_ z=>nomatch z⟩
 |cons e r ih=>
  obtain⟨i1,i2⟩:=ih h.2;have h1:=h.1;have z1:x.z e.1=(x.s e.1).length+1:=rfl;have mm:∀p∈qx x e,a<p/\p<a+x.z e.1:=λp hp=>by
   obtain⟨j,hj,rfl⟩:=List.mem_map.mp hp;have:=List.mem_range.mp hj;omega
  rw[d_];refine⟨List.pairwise_append.mpr ⟨?_,i1,λp hp q hq=> ?_⟩,λp hp=> ?_⟩
  ·unfold qx;rw[List.pairwise_map];exact List.Pairwise.imp (λ{i j} (z:i<j)=>by lia) List.pairwise_lt_range
  ·have:=mm p hp;have:=i2 q hq;(clear mm z1;lia)
  ·rcases List.mem_append.mp hp with hp|hp
   ·have:=mm p hp;lia
   ·have:=i2 p hp;lia
theorem z_{e:Nat×Int}{p:Int}:p∈qx x e↔∃j,j<(x.s e.1).length/\p=e.2+1+(j:Nat):=by
 unfold qx;rw[g9];exact⟨λ⟨j,h,e⟩=>⟨j,List.mem_range.mp h,e.symm⟩,λ⟨j,h,e⟩=>⟨j,List.mem_range.mpr h,e.symm⟩⟩
theorem In.bk(I:In x M O Y):jS M.ks=(O.flatMap (qx x)).filter λp=>LG x (QL x O p):=by
 have s2:=(QC I.lo).1;have nd:(jS M.ks).Nodup:=(ko M.ks).nodup_iff.mpr I.kn;refine Ov (f:=id) (by rw[List.map_id];exact uv (rY _) nd) (by rw[List.map_id];exact s2.filter _) λp=> ?_;rw[(ko M.ks).mem_iff,iD,iz];constructor
 ·intro hp;obtain⟨k,a,j,i,m,hj,rfl,et,gi⟩:=I.b1 p hp;refine⟨⟨(k,a),m,z_.mpr ⟨j,hj,rfl⟩⟩,?_⟩;rw[GQ I.lo m hj,et];exact decide_eq_true gi
 ·rintro⟨⟨e,m,hp⟩,y⟩;obtain⟨j,hj,rfl⟩:=z_.mp hp;rw[GQ I.lo (k:=e.1) (q:=e.2) m hj]at y
  cases et:x.t e.1 j with
  |no=>rw[et]at y;cases y
  |nu n=>rw[et]at y;cases y
  |ce i=>rw[et]at y;exact I.b2 e.1 e.2 j i m hj et (of_decide_eq_true y)
theorem In.start(I:In x M O Y):tM x (tM x [] x.D) ((jS M.ks).map (QL x O))=tM x [] (Vi x O):=by
 rw[I.bk,show(λp=>LG x (QL x O p))=LG x∘QL x O from rfl,←cT,J8,Oj I.lo λe h=>h];unfold Vi tM;rw[ie]
theorem FH{z:Nat->Int}(hz:∀k,1<=z k):∀{l:List (Nat×Int)} {a b:Int},oG z a l b->(∀k q q',(k,q)∈l->(k,q')∈l->q=q')->(l.map aD).Nodup
 | [],_,_,_,_=>bC
 |e::r,a,b,h,f=>by
  refine List.nodup_cons.mpr ⟨λm=> ?_,FH hz h.2 λk q q' m m'=>f k q q' (ai _ m) (ai _ m')⟩;obtain⟨y,hy,ey⟩:=List.mem_map.mp m;have r:=oH hz h.2 (k:=y.1) (q:=y.2) hy;have:=f e.1 e.2 y.2 (aq ..) (by rw[←ey];exact ai _ hy);have:=hz e.1;have:=h.1
  (clear ey;lia)
theorem In.WM(I:In x M O Y):(O.map aD).Nodup:=FH x.z1 I.lo λk q q' m m'=>by
 have e:=((I.oe k q).mp m).2.2;rw[((I.oe k q').mp m').2.2]at e
 cases e;rfl
theorem NK{α β:Type}{f:α->β}:∀{l:List α},l.Nodup->(∀a∈l,∀b∈l,f a=f b->a=b)->(l.map f).Nodup
 | [],_,_=>bC
 |a::r,nd,h=>by
  obtain⟨n1,n2⟩:=List.nodup_cons.mp nd;refine List.nodup_cons.mpr ⟨λm=> ?_,NK n2 λa ha b hb=>h a (ai _ ha) b (ai _ hb)⟩;obtain⟨b,hb,e⟩:=List.mem_map.mp m;exact n1 (h a (aq ..) b (ai _ hb) e.symm▸hb)
theorem GA(s8:∀k,(x.s k).length<=8):∀R:List (Nat×Int),((R.flatMap (qx x)).length:Int)+R.length=Iv x.z R/\(R.flatMap (qx x)).length<=8*R.length/\((R.flatMap (qx x)).length=8*R.length->∀e∈R,(x.s e.1).length=8)
 | []=>⟨rfl,au _,λ_ _ z=>nomatch z⟩
 |e::r=>by
  obtain⟨h1,h2,h3⟩:=GA s8 r;have l:(qx x e).length=(x.s e.1).length:=by unfold qx;rw[ae,aY]
  have:=s8 e.1;have ez:x.z e.1=(x.s e.1).length+1:=rfl;have es:Iv x.z (e::r)=x.z e.1+Iv x.z r:=by unfold Iv;rw[az,bq]
  rw[d_,ay,l,aR,es];refine⟨⋯,⋯,λz y hy=> ?_⟩;rcases List.mem_cons.mp hy with rfl|hy
  ·lia
  ·exact h3 ⋯ y hy
structure Nx(x:Own)(F:List (Nat×Int))(x':Own):Prop where
 S:x'.S=x.S
 D:x'.D=x.D
 P:x'.P.length=x.P.length
 G:x'.G.length=x.G.length
 p:∀k,k<x.G.length->x'.p k=if x.g k=2 then x.p k else lk F k
 g:∀k,k<x.G.length->x'.g k=if k∈F.map aD then x.g k+1 else x.g k
structure Td(x:Own)(M:Mem)(F:List (Nat×Int))(Dn:List Int):Prop where
 f:∀k q,(k,q)∈F->∀j:Nat,j<(x.s k).length->q+1+j∈Dn
 b:∀p∈M.ks,p∈Dn
 d:∀t∈x.D,Fy x F t
noncomputable def Ti (x:Own) (M:Mem) (F:List (Nat×Int)) (c:CS) (ks:List Int):Mem:=⟨c.ws,⟨M.so.b,M.so.e,c.ot⟩,⟨M.ss.b,M.ss.e,c.st⟩,⟨M.sy.b,M.sy.e,M.sy.b⟩,x.D.map (wd (pp x F)),ks⟩
theorem rO.tr(h:rO x M O Y F Dn c)(I:In x M O Y)(d:Td x M F Dn){k:Nat}{a g:Int}(m:At x O F k a g){j:Nat}(hj:j<(x.s k).length):lN c.ws (a+1+j)=wd (pp x F) (x.t k j)/\Fy x F (x.t k j):=by
 rcases (h.ce k a g m).2 j hj with ⟨z1,z2⟩|z
 ·have gt:=h.gd I m hj;have nin:∀i,x.t k j= .ce i->¬x.g i<2:=λi e y=>by
   rcases m with ⟨m,_⟩|⟨m,_⟩
   ·exact z2 (d.b _ (I.b2 k a j i m hj e y))
   ·exact z2 (d.f k a m j hj)
  refine⟨z1.trans ?_,λi e y=>absurd y (nin i e)⟩
  cases e:x.t k j with
  |no=>rfl
  |nu n=>rfl
  |ce i=>
   have:=nin i e;show 2*(x.p i).getD 0+1=2*(pp x F i).getD 0+1;rw[CP λz=>by obtain⟨b,hb⟩:=h.fy i z;exact this ((I.ye i b).mp hb).2.1]
 ·exact z
theorem In.next(I:In x M O Y)(h:rO x M O Y F Dn c)(d:Td x M F Dn){x':Own}(n:Nx x F x'){ks:List Int}(kn:ks.Nodup)
  (hk:∀p,p∈ks↔(p∈M.ks∨∃e∈F,x.g e.1=1/\p∈qx x e)/\oP ⟨M.ss.b,M.ss.e,c.st⟩ (lN c.ws p)=true):
  In x' (Ti x M F c ks) (O++F.filter λe=>decide (x.g e.1=1)) (F.filter λe=>decide (x.g e.1=0)):=by
 have f:=I.fr;have tp:=h.J6 I;have rm:=h.rm I (l:=[]) (by rw[bg];exact h.fn) (λ_ z=>nomatch z);simp only[bY,eX]at rm;have f1:=f.rm;have f2:=f.hv;have f3:=f.yw;have f4:=f.y0;have f5:=f.yt;have f6:=f.l2;have f7:=f.o0;have f8:=f.ot;have es:∀k,x'.s k=x.s k:=λk=>by unfold Own.s;rw[n.S]
 have et:∀k j,x'.t k j=x.t k j:=λk j=>by unfold Own.t;rw[es]
 have ez:x'.z=x.z:=by funext k;unfold Own.z;rw[es]
 have mF:∀{k:Nat} {q:Int},(k,q)∈F->k<x.G.length/\(x.g k=0∨x.g k=1)/\k∈F.map aD:=λ{k q} m=>by
  have mk:=bz (f:=aD) m;obtain⟨a,ha⟩:=h.fy k mk;exact⟨((I.ye k a).mp ha).1,I.yg ha,mk⟩
 have pF:∀{k:Nat} {q:Int},(k,q)∈F->x'.p k=some q:=λ{k q} m=>by
  obtain⟨m1,m2,m3⟩:=mF m;rw[n.p k m1,if_neg ⋯];exact ND h.fn m
 have gF:∀{k:Nat} {q:Int},(k,q)∈F->x'.g k=x.g k+1:=λ{k q} m=>by
  obtain⟨m1,m2,m3⟩:=mF m;rw[n.g k m1,if_pos m3]
 have nF:∀{k:Nat},x.g k=2->k∉F.map aD:=λ{k} e z=>by
  obtain⟨b,hb⟩:=h.fy k z;have:=((I.ye k b).mp hb).2.1;lia
 have gO:∀{k:Nat},k<x.G.length->x.g k=2->x'.g k=2/\x'.p k=x.p k:=λ{k} l e=>by
  rw[n.g k l,n.p k l,if_neg (nF e),if_pos e];exact⟨e,rfl⟩
 have th:∀{t:Th},Gd x t->Fy x F t->wd (pp x F) t=wd x'.p t/\Gd x' t:=λ{t} g i=>by
  cases t with
  |no=>exact⟨rfl,bB⟩
  |nu n=>exact⟨rfl,g⟩
  |ce k=>
   obtain⟨a,ea,⟨gi,m⟩|⟨gi,m⟩⟩:=I.cell g
   ·have o:=gO g.1 gi;refine⟨?_,by rw[n.G];exact g.1,by rw[o.2];exact g.2⟩;show 2*(pp x F k).getD 0+1=2*(x'.p k).getD 0+1;rw[CP (nF gi),o.2]
   ·obtain⟨q,hq⟩:=m8 (i k rfl gi);have mq:=uu hq;refine⟨?_,by rw[n.G];exact g.1,by rw[pF mq];rfl⟩;show 2*(pp x F k).getD 0+1=2*(x'.p k).getD 0+1;rw[K3 h.fn mq,pF mq]
 have cel:∀{k:Nat} {a g:Int},At x O F k a g->x'.g k=g->To c.ws a (x'.g k) (λj=>wd x'.p (x'.t k j)) (x'.s k).length:=λ{k a g} m eg=>by
  refine⟨?_,λj hj=> ?_⟩
  ·rw[eg,es];exact(h.ce k a g m).1
  ·rw[es]at hj;obtain⟨z1,z2⟩:=h.tr I d m hj;show _=wd x'.p (x'.t k j);rw[et];exact z1.trans (th (h.gd I m hj) z2).1
 have atO:∀{k:Nat} {a:Int},(k,a)∈O++F.filter (λe=>decide (x.g e.1=1))->∃g,At x O F k a g/\x'.g k=g/\g=2/\k<x.G.length/\x'.p k=some a:=λ{k a} m=>by
  rcases List.mem_append.mp m with m|m
  ·obtain⟨o1,o2,o3⟩:=(I.oe k a).mp m;have:=gO o1 o2;exact⟨2,.inl ⟨m,rfl⟩,this.1,rfl,o1,by rw[this.2];exact o3⟩
  ·obtain⟨m,e⟩:=List.mem_filter.mp m;have e:x.g k=1:=by simpa using e
   exact⟨x.g k+1,.inr ⟨m,rfl⟩,gF m,⋯,(mF m).1,pF m⟩
 have atY:∀{k:Nat} {a:Int},(k,a)∈F.filter (λe=>decide (x.g e.1=0))->∃g,At x O F k a g/\x'.g k=g/\g=1/\k<x.G.length/\x'.p k=some a:=λ{k a} m=>by
  obtain⟨m,e⟩:=List.mem_filter.mp m;have e:x.g k=0:=by simpa using e
  exact⟨x.g k+1,.inr ⟨m,rfl⟩,gF m,⋯,(mF m).1,pF m⟩
 have yw:∀{t:Th},Gd x t->Fy x F t->(oP ⟨M.ss.b,M.ss.e,c.st⟩ (wd (pp x F) t)=true↔∃i q,t= .ce i/\(i,q)∈F/\x.g i=0):=λ{t} g i=>by
  cases t with
  |no=>exact⟨(λz=>by rw[show wd (pp x F) Th.no= -1 from rfl,qp (λz=>absurd z (by decide))]at z;cases z),λ⟨_,_,z,_⟩=>nomatch z⟩
  |nu n=>exact⟨(λz=>by rw[show wd (pp x F) (Th.nu n)=2*n from rfl,qp (by rw[rX];intro z;cases z)]at z;cases z),λ⟨_,_,z,_⟩=>nomatch z⟩
  |ce k=>
   obtain⟨a,ea,⟨gi,m⟩|⟨gi,m⟩⟩:=I.cell g
   ·have r:=I.Jx m;have:=x.z1 k;refine⟨λz=> ?_,λ⟨i,q,e,m',e0⟩=>by cases e;lia⟩;rw[show wd (pp x F) (Th.ce k)=2*a+1 by show 2*(pp x F k).getD 0+1=_;rw[CP (nF gi),ea];rfl,qp λ_=>by show(2*a+1)/2<M.ss.b∨_;lia]at z
    cases z
   ·obtain⟨q,hq⟩:=m8 (i k rfl gi);have mq:=uu hq;have r:=h.Uh mq;have:=x.z1 k;have e:wd (pp x F) (Th.ce k)=2*q+1:=by show 2*(pp x F k).getD 0+1=_;rw[K3 h.fn mq];rfl
    have e2:(2*q+1)/2=q:=by lia
    rw[e];rcases (mF mq).2.1 with e0|e0
    ·have r:=r.2 e0;refine⟨λ_=>⟨k,q,rfl,mq,e0⟩,λ_=> ?_⟩;unfold oP;rw[o_ (by(clear this f6 f1 tp;lia)),e2];simp only[dQ,decide_eq_true_eq];lia
    ·have r:=r.1 e0;refine⟨λz=> ?_,λ⟨i,q,e,m',e1⟩=>by cases e;lia⟩;rw[qp λ_=>by rw[e2];show q<M.ss.b∨_;(clear f5;lia)]at z
     cases z
 refine⟨by rw[n.P,n.G];exact I.lp,by rw[n.S,n.G];exact I.ls,by rw[n.G];exact I.LU,λk hk=> ?_,λk=>by rw[es];exact I.s8 k,?_,h.wo,λk a=> ?_,λk a=> ?_,λk hk e=> ?_,?_,?_,λk a m=> ?_,λk a m t ht=> ?_,λt ht=> ?_,?_,by rw[n.D];exact I.d4,λp hp=> ?_,λk a j i m hj e gi=> ?_,kn⟩
 ·rw[n.G]at hk;have:=I.ag k hk;rw[n.g k hk];by_cases z:k∈F.map aD
  ·rw[if_pos z];obtain⟨a,ha⟩:=h.fy k z;have:=I.yg ha
   (clear hk gO;lia)
  ·rw[if_neg z];exact this
 ·refine⟨?_,f.ob,?_,?_,?_,?_,?_,?_,rfl,?_⟩
  ·show c.ws.length<=200;rw[h.len];exact f6
  ·show 0<=c.ot;lia
  ·show c.ot<=M.so.e;lia
  ·show(M.ss.b=M.so.e/\M.sy.b=M.ss.e/\M.sy.e=c.ws.length)∨(M.sy.b=M.so.e/\M.ss.b=M.sy.e/\M.ss.e=c.ws.length);rw[h.len];lia
  ·show M.ss.e-M.ss.b=M.sy.e-M.sy.b;lia
  ·show M.ss.b<=c.st;lia
  ·show c.st<=M.ss.e;lia
  ·show c.st-M.ss.b<=M.so.e-c.ot;lia
 ·rw[n.G];refine⟨λm=> ?_,λ⟨h1,h2,h3⟩=> ?_⟩
  ·obtain⟨g,m1,m2,m3,m4,m5⟩:=atO m;exact⟨m4,⋯,m5⟩
  ·have:=I.ag k h1;rw[n.g k h1]at h2;by_cases z:k∈F.map aD
   ·rw[if_pos z]at h2;obtain⟨q,hq⟩:=m8 z;have mq:=uu hq;rw[pF mq]at h3;cases h3
    exact aN _ (List.mem_filter.mpr ⟨mq,decide_eq_true (show x.g k=1 by lia)⟩)
   ·rw[if_neg z]at h2;rw[n.p k h1,if_pos h2]at h3;exact aZ _ ((I.oe k a).mpr ⟨h1,h2,h3⟩)
 ·rw[n.G];refine⟨λm=> ?_,λ⟨h1,h2,h3⟩=> ?_⟩
  ·obtain⟨g,m1,m2,m3,m4,m5⟩:=atY m;exact⟨m4,⋯,m5⟩
  ·have ag:=I.ag k h1;rw[n.g k h1]at h2;by_cases z:k∈F.map aD
   ·rw[if_pos z]at h2;obtain⟨q,hq⟩:=m8 z;have mq:=uu hq;rw[pF mq]at h3;cases h3
    exact List.mem_filter.mpr ⟨mq,decide_eq_true (show x.g k=0 by lia)⟩
   ·rw[if_neg z]at h2;rw[n.p k h1,if_neg ⋯,BH z]at h3
    cases h3
 ·rw[n.G]at hk;rw[n.g k hk]at e;by_cases z:k∈F.map aD
  ·obtain⟨q,hq⟩:=m8 z;rw[pF (uu hq)];rfl
  ·rw[if_neg z]at e;rw[n.p k hk,if_pos e];exact I.od k hk e
 ·rw[ez];exact Cq I.lo h.lo
 ·rw[ez];exact h.ls
 ·rcases m with m|m
  ·obtain⟨g,m1,m2,_⟩:=atO m;exact cel m1 m2
  ·obtain⟨g,m1,m2,_⟩:=atY m;exact cel m1 m2
 ·have at':∃g,At x O F k a g:=by
   rcases m with m|m
   ·obtain⟨g,m1,_⟩:=atO m;exact⟨g,m1⟩
   ·obtain⟨g,m1,_⟩:=atY m;exact⟨g,m1⟩
  obtain⟨g,m⟩:=at';rw[es]at ht;obtain⟨j,hj,e⟩:=List.mem_iff_getElem.mp ht;have e':x.t k j=t:=by unfold Own.t;rw[af,ab hj];exact e
  have z:=h.tr I d m hj;rw[←e'];exact(th (h.gd I m hj) z.2).2
 ·rw[n.D]at ht;exact(th (I.gd t ht) (d.d t ht)).2
 ·show x.D.map (wd (pp x F))=x'.D.map (wd x'.p);rw[n.D];exact cm λt ht=>(th (I.gd t ht) (d.d t ht)).1
 ·obtain⟨h1,h2⟩:=(hk p).mp hp;have at':∃k a g j,At x O F k a g/\(k,a)∈O++F.filter (λe=>decide (x.g e.1=1))/\j<(x.s k).length/\p=a+1+(j:Nat):=by
   rcases h1 with h1|⟨e,m,e1,h1⟩
   ·obtain⟨k,a,j,i,m,hj,rfl,_⟩:=I.b1 p h1;exact⟨k,a,2,j,.inl ⟨m,rfl⟩,aZ _ m,hj,rfl⟩
   ·obtain⟨j,hj,rfl⟩:=z_.mp h1;exact⟨e.1,e.2,_,j,.inr ⟨m,rfl⟩,aN _ (List.mem_filter.mpr ⟨m,decide_eq_true e1⟩),hj,rfl⟩
  obtain⟨k,a,g,j,m,m',hj,rfl⟩:=at';obtain⟨z1,z2⟩:=h.tr I d m hj;rw[z1]at h2;obtain⟨i,q,e,mi,e0⟩:=(yw (h.gd I m hj) z2).mp h2;exact⟨k,a,j,i,m',by rw[es];exact hj,rfl,by rw[et];exact e,by rw[gF mi];lia⟩
 ·rw[es]at hj;rw[et]at e;obtain⟨g,m1,m2,m3,m4,m5⟩:=atO m;obtain⟨z1,z2⟩:=h.tr I d m1 hj;have gd:=h.gd I m1 hj;have gk:i<x.G.length:=by rw[e]at gd;exact gd.1
  have gi':x.g i<2:=by
   rw[n.g i gk]at gi;by_cases z:i∈F.map aD
   ·rw[if_pos z]at gi;lia
   ·rw[if_neg z]at gi;exact gi
  have mi:=z2 i e gi';obtain⟨q,hq⟩:=m8 mi;have mq:=uu hq;rw[gF mq]at gi;refine(hk _).mpr ⟨?_,?_⟩
  ·rcases List.mem_append.mp m with m|m
   ·exact .inl (I.b2 k a j i m hj e gi')
   ·obtain⟨m,e1⟩:=List.mem_filter.mp m;exact .inr ⟨(k,a),m,of_decide_eq_true e1,z_.mpr ⟨j,hj,rfl⟩⟩
  ·rw[z1];have:=(mF mq).2.1;exact(yw gd z2).mpr ⟨i,q,e,mq,⋯⟩
theorem PY{l:List (Nat×Int)}{i:Nat}:lk (F++l) i=(lk F i).or (lk l i):=by
 induction F with
 |nil=>rfl
 |cons y r ih=>
  show(if y.1=i then some y.2 else lk (r++l) i)=(if y.1=i then some y.2 else lk r i).or _;by_cases e:y.1=i
  ·rw[if_pos e,if_pos e];rfl
  ·rw[if_neg e,if_neg e];exact ih
theorem rO.app{l:List (Nat×Int)}(h:rO x M O Y (F++l) Dn c)(I:In x M O Y){t:Th}(i:Fy x F t):wd (pp x (F++l)) t=wd (pp x F) t/\Fy x (F++l) t:=by
 refine⟨?_,i.mono λe he=>aZ _ he⟩
 cases t with
 |no=>rfl
 |nu n=>rfl
 |ce k=>
  show 2*(pp x (F++l) k).getD 0+1=2*(pp x F k).getD 0+1;unfold pp;rw[PY]
  cases e:lk F k with
  |some q=>rfl
  |none=>
   rw[BH (l:=l) λz=> ?_];rfl;have m:k∈(F++l).map aD:=by rw[aF];exact aN _ z
   obtain⟨a,ha⟩:=h.fy k m;obtain⟨q,hq⟩:=m8 (i k rfl ((I.ye k a).mp ha).2.1);rw[e]at hq;cases hq
theorem In.mid(I:In x M O Y):rO x M O Y [] [] ⟨M.ws,M.so.t,M.ss.b,[]⟩ where
 len:=rfl
 wo:=I.wo
 cs:=rfl
 fy:=λ_ z=>nomatch z
 fn:=bC
 lo:=rfl
 ls:=rfl
 yl:=λk a m _=>I.ce k a (.inr m)
 se:=λ_ _ _ _ z=>nomatch z
 ce:=λk a g m=>by
  rcases m with ⟨m,rfl⟩|⟨m,_⟩
  ·obtain⟨c1,c2⟩:=I.ce k a (.inl m);rw[((I.oe k a).mp m).2.1]at c1;exact⟨c1,λj hj=> .inl ⟨c2 j hj,aI⟩⟩
  ·cases m
 dn:=λ_ z=>nomatch z
theorem rO.IZ(h:rO x M O Y F Dn c)(I:In x M O Y):F.length<=20:=by
 have:=len_sub h.fn (m:=aW 20) λk hk=>by
  obtain⟨a,ha⟩:=h.fy k hk;have:=((I.ye k a).mp ha).1;have:=I.LU;exact List.mem_range.mpr ⋯
 rw[ae,aY]at this;exact this
theorem Pw{n t:Nat}{F:List Nat}(h:F.length<=t):Rw x n F t=F:=by
 cases n with
 |zero=>rfl
 |succ n=>show(if t<F.length then _ else F)=F;rw[if_neg ⋯]
theorem Rx{n t:Nat}{F:List Nat}(h:t<F.length):Rw x (n+1) F t=Rw x n (tM x F (x.s (F.getD t 0))) (t+1):=if_pos h
structure Bl(x:Own)(F:List (Nat×Int))(hw:List Int):Prop where
 e:hw=x.D.map (wd (pp x F))
 i:∀t∈x.D,Fy x F t
theorem Bl.app{l:List (Nat×Int)}{hw:List Int}(w:Bl x F hw)(h:rO x M O Y (F++l) Dn c)(I:In x M O Y):Bl x (F++l) hw:=
 ⟨by rw[w.e];exact cm λt ht=>(h.app I (w.i t ht)).1.symm,λt ht=>(h.app I (w.i t ht)).2⟩
theorem A5{F:List Nat}{ts:List Th}{t:Th}:tM x F (ts++[t])=Mj x (tM x F ts) t:=by unfold tM;rw[ie];rfl
end
noncomputable def tg:HO->Str
 | .ins _ _ (f::_)=>f.1
 | .lst _=>"l"
 | .dK _=>"d"
 | .tup _=>"t"
 | .vN _=>"b"
 |_=>""
theorem kB{H:Hp}{a b:Addr}{o u:HO}(h:H a=some o)(k:H b=some u)(n:(tg o==tg u)=false:=by kernel_rfl):a≠b:=λe=>by rw[e,k]at h;cases h;rw[beq_self_eq_true]at n;cases n
theorem qB{H:Hp}{a b:Addr}{o u:HO}{x:Str}(h:H a=some o)(k:H b=some u)(n:(tg o==x)=false)(e:(tg u==x)=true:=by kernel_rfl):a≠b:=λz=>by rw[z,k]at h;cases h;rw[e]at n;cases n
theorem lY.WD{cA cM cS:Addr}{H H':Hp}{p m q o y s:Addr}{ws ws':List Int}{so sy ss:S3}(a:lY cA cM cS H p m q o y s ws so sy ss){z:S3}(mem:jL cM H' m q ws')(e:pN cS H' s z)(k:∀b x,H b=some x->b≠q->b≠s->H' b=some x):lY cA cM cS H' p m q o y s ws' so sy z:=
 {a with
  ob:=a.ob.imp λdx e=>k _ _ e (λz=>by rw[z,a.mem.ls]at e;cases e) a.pd.2.2.2
  mem:=mem
  old:=a.old.imp λdx e=>k _ _ e (pN.ne ⟨dx,e⟩ a.mem.ls) a.os
  oP:=a.oP.imp λdx e=>k _ _ e (pN.ne ⟨dx,e⟩ a.mem.ls) a.ys
  DB:=e}
theorem lY.wr{cA cM cS:Addr}{H H':Hp}{p m q o y s:Addr}{ws ws':List Int}{so sy ss:S3}(a:lY cA cM cS H p m q o y s ws so sy ss)(mem:jL cM H' m q ws')(k:∀b x,H b=some x->b≠q->H' b=some x):lY cA cM cS H' p m q o y s ws' so sy ss:=
 a.WD mem (a.DB.imp λdx e=>k _ _ e (pN.ne ⟨dx,e⟩ a.mem.ls)) λb x e n _=>k b x e n
structure Ax where
 p:Addr
 m:Addr
 q:Addr
 o:Addr
 y:Addr
 s:Addr
 r:Addr
 h:Addr
 g:Addr
 b:Addr
 d:Addr
 w:Addr
 v:Addr
 l:Addr
 e:Addr
noncomputable def mx (x:Ax):List Addr:=[x.q,x.g,x.v,x.d,x.e]
theorem lY.kg{cA cM cS:Addr}{H H':Hp}{p m q o y s:Addr}{ws:List Int}{so sy ss:S3}(a:lY cA cM cS H p m q o y s ws so sy ss)(f:∀b u,H b=some u->(tg u=="l")=false->(tg u=="d")=false->H' b=some u)(k:H' q=H q):lY cA cM cS H' p m q o y s ws so sy ss:=
 {a with
  ob:=a.ob.imp λd e=>f _ _ e (by kernel_rfl) (by kernel_rfl)
  mem:=⟨a.mem.ob.imp λd e=>f _ _ e (by kernel_rfl) (by kernel_rfl),k.trans a.mem.ls⟩
  old:=a.old.imp λd e=>f _ _ e (by kernel_rfl) (by kernel_rfl)
  oP:=a.oP.imp λd e=>f _ _ e (by kernel_rfl) (by kernel_rfl)
  DB:=a.DB.imp λd e=>f _ _ e (by kernel_rfl) (by kernel_rfl)}
noncomputable def OU (H:Hp) (t:Addr):Prop:=∃ps,H t=some (.vN ps)/\TriplesOk ps.toList
theorem OU.kg{H H':Hp}{t:Addr}(h:OU H t)(f:∀b u,H b=some u->(tg u=="b")=true->H' b=some u):OU H' t:=h.imp λ_ e=>⟨f _ _ e.1 (by kernel_rfl),e.2⟩
structure Wh(cA cM cS cR cH cB cW cL tY tA:Addr)(H:Hp)(x:Ax)(M:Mem):Prop where
 ar:lY cA cM cS H x.p x.m x.q x.o x.y x.s M.ws M.so M.sy M.ss
 ro:∃dx,H x.r=some (.ins cR dx (tW x.h x.b x.w x.l))
 hd:ub cH H x.h x.g M.hw
 bk:o7 cB H x.b x.d M.ks
 wk:Tv cW H x.w x.v
 la:U_ cL H x.l x.e
 tb:OU H tY/\OU H tA
 nd:(mx x).Nodup
noncomputable def Bd:HO->Bool
 | .lst _=>true
 | .dK _=>true
 | .tup _=>true
 | .rV _ _=>true
 |_=>false
def Kx(L:List Addr)(H H':Hp):Prop:=∀b u,H b=some u->Bd u=true->b∉L->H' b=some u
theorem Kx.refl{L:List Addr}(H:Hp):Kx L H H:=λ_ _ h _ _=>h
theorem Kx.trans{L:List Addr}{H H1 H2:Hp}(a:Kx L H H1)(b:Kx L H1 H2):Kx L H H2:=λc u h k n=>b c u (a c u h k n) k n
theorem Kx.mono{L L':List Addr}{H H':Hp}(a:Kx L H H')(h:∀b∈L,b∈L'):Kx L' H H':=λc u e k n=>a c u e k λz=>n (h c z)
theorem q_{L:List Addr}{H H':Hp}(s:ja H H'):Kx L H H':=λb u h _ _=>s b u h
def ue(L:List Addr)(H H':Hp)(L':List Addr):Prop:=Kx L H H'/\∀b∈L',b∈L∨∀u,H b=some u->Bd u=false
section
variable{L L' L'':List Addr}{H H' H'':Hp}
theorem ue.keep(h:ue L H H' L'){b:Addr}{u:HO}(e:H b=some u)(i:Bd u=true)(n:b∉L):H' b=some u/\b∉L':=⟨h.1 b u e i n,λz=>(h.2 b z).elim n λq=>by rw[q u e]at i;cases i⟩
theorem ue.trans(a:ue L H H' L')(b:ue L' H' H'' L''):ue L H H'' L'':=by
 refine⟨λc u e i n=>b.1 c u (a.keep e i n).1 i (a.keep e i n).2,λc hc=> ?_⟩;rcases b.2 c hc with z|z
 ·exact a.2 c z
 ·by_cases n:c∈L
  ·exact .inl n
  ·refine .inr λu e=> ?_
   cases i:Bd u with
   |false=>rfl
   |true=>have:=z u (a.1 c u e i n);rw[this]at i;cases i
theorem ue.of(f:Kx L H H'):ue L H H' L:=⟨f,λ_ z=> .inl z⟩
theorem ue.same(s:ja H H'):ue L H H' L:= .of (q_ s)
end
noncomputable def cM (M:Mem) (c:CS):Mem:={M with ws:=c.ws,so:=⟨M.so.b,M.so.e,c.ot⟩,ss:=⟨M.ss.b,M.ss.e,c.st⟩}
noncomputable def Vg (M:Mem) (c:CS) (hw:List Int):Mem:={M with ws:=c.ws,so:=⟨M.so.b,M.so.e,c.ot⟩,ss:=⟨M.ss.b,M.ss.e,c.st⟩,hw:=hw}
theorem NJ{x:Ax}(h:(mx x).Nodup):(x.q≠x.g/\x.q≠x.v)/\x.g≠x.v/\x.d≠x.e:=by
 simp only[mx,eW,a_,not_or,aI]at h;exact⟨⟨h.1.1,h.1.2.1⟩,h.2.1.1,h.2.2.2.1.1⟩
theorem Uv{x:Ax}{d:Addr}(h:(mx x).Nodup)(n:d∉mx x):(mx {x with d:=d}).Nodup:=by
 simp only[mx,eW,a_,not_or,aI]at h n⊢;exact⟨⟨h.1.1,h.1.2.1,aj n.1,h.1.2.2.2⟩,⟨h.2.1.1,aj n.2.1,h.2.1.2.2⟩,⟨aj n.2.2.1,h.2.2.1.2⟩,⟨n.2.2.2.2.1,h.2.2.2.1.2⟩,h.2.2.2.2⟩
theorem ux{x:Ax}{l:Addr}(h:l∉mx x):(l≠x.q/\l≠x.g/\l≠x.v)/\l≠x.d/\l≠x.e:=by
 simp only[mx,a_,not_or,aI]at h;exact⟨⟨h.1,h.2.1,h.2.2.1⟩,h.2.2.2.1,h.2.2.2.2.1⟩
section
variable{cA cM' cS cR cH cB cW cL tY tA:Addr}{H H':Hp}{x:Ax}{M:Mem}
theorem Wh.WK(w:Wh cA cM' cS cR cH cB cW cL tY tA H x M)(f:∀b u,H b=some u->(tg u=="l")=false->(tg u=="d")=false->H' b=some u)(k:∀b∈mx x,H' b=H b):Wh cA cM' cS cR cH cB cW cL tY tA H' x M where
 ar:=w.ar.kg f (k _ (by simp[mx]))
 ro:=w.ro.imp λ_ e=>f _ _ e (by kernel_rfl) (by kernel_rfl)
 hd:=⟨w.hd.ob.imp λ_ e=>f _ _ e (by kernel_rfl) (by kernel_rfl),(k _ (by simp[mx])).trans w.hd.ls⟩
 bk:=⟨w.bk.ob.imp λ_ e=>f _ _ e (by kernel_rfl) (by kernel_rfl),(k _ (by simp[mx])).trans w.bk.dc⟩
 wk:=⟨w.wk.ob.imp λ_ e=>f _ _ e (by kernel_rfl) (by kernel_rfl),(k _ (by simp[mx])).trans w.wk.ls⟩
 la:=⟨w.la.ob.imp λ_ e=>e.imp λ_ e=>f _ _ e (by kernel_rfl) (by kernel_rfl),(k _ (by simp[mx])).trans w.la.dc⟩
 tb:=⟨w.tb.1.kg λb u e h=>f _ _ e (by rw[eq_of_beq h];kernel_rfl) (by rw[eq_of_beq h];kernel_rfl),w.tb.2.kg λb u e h=>f _ _ e (by rw[eq_of_beq h];kernel_rfl) (by rw[eq_of_beq h];kernel_rfl)⟩
 nd:=w.nd
theorem Wh.OP(w:Wh cA cM' cS cR cH cB cW cL tY tA H x M):∀b∈mx x,∃u,H b=some u/\Bd u=true/\(∀xs,u≠ .tup xs)/\∀o v,u≠ .rV o v:=λb hb=>by
 simp only[mx,a_,aI,or_false]at hb;rcases hb with rfl|rfl|rfl|rfl|rfl
 ·exact⟨_,w.ar.mem.ls,rfl,(λ_ z=>nomatch z),λ_ _ z=>nomatch z⟩
 ·exact⟨_,w.hd.ls,rfl,(λ_ z=>nomatch z),λ_ _ z=>nomatch z⟩
 ·exact⟨_,w.wk.ls,rfl,(λ_ z=>nomatch z),λ_ _ z=>nomatch z⟩
 ·exact⟨_,w.bk.dc,rfl,(λ_ z=>nomatch z),λ_ _ z=>nomatch z⟩
 ·exact⟨_,w.la.dc,rfl,(λ_ z=>nomatch z),λ_ _ z=>nomatch z⟩
theorem Wh.WL(w:Wh cA cM' cS cR cH cB cW cL tY tA H x M){b:Addr}{xs:List V}(e:H b=some (.tup xs)):b∉mx x:=λz=>by
 obtain⟨u,q,_,n,_⟩:=w.OP b z;rw[e]at q;cases q;exact n _ rfl
theorem Wh.new(w:Wh cA cM' cS cR cH cB cW cL tY tA H x M){l:Addr}(h:H l=none):l∉mx x:=λz=>by
 obtain⟨u,e,_⟩:=w.OP l z;rw[h]at e;cases e
theorem Wh.fr(w:Wh cA cM' cS cR cH cB cW cL tY tA H x M)(f:∀b u,H b=some u->b∈mx x∨(tg u=="l")=false/\(tg u=="d")=false->H' b=some u):Wh cA cM' cS cR cH cB cW cL tY tA H' x M:=
 w.WK (λb u e h1 h2=>f b u e (.inr ⟨h1,h2⟩)) λb hb=>by
  obtain⟨u,e,_⟩:=w.OP b hb;rw[e];exact f b u e (.inl hb)
theorem Wh.same(w:Wh cA cM' cS cR cH cB cW cL tY tA H x M)(s:ja H H'):Wh cA cM' cS cR cH cB cW cL tY tA H' x M:=w.fr λb u e _=>s b u e
theorem Wh.BP(w:Wh cA cM' cS cR cH cB cW cL tY tA H x M){y s:Addr}{ws:List Int}{so sy ss:S3}(a:lY cA cM' cS H' x.p x.m x.q x.o y s ws so sy ss)
  (f:∀b u,H b=some u->b≠x.q->(tg u=="begin")=false->(tg u=="memory")=false->H' b=some u):Wh cA cM' cS cR cH cB cW cL tY tA H' {x with y:=y,s:=s} {M with ws:=ws,so:=so,sy:=sy,ss:=ss}:=by
 have q:=w.ar.mem.ls;have n:=NJ w.nd;exact
 {ar:=a
  ro:=w.ro.imp λ_ e=>f _ _ e (kB e q) (by kernel_rfl) (by kernel_rfl)
  hd:=⟨w.hd.ob.imp λ_ e=>f _ _ e (kB e q) (by kernel_rfl) (by kernel_rfl),f _ _ w.hd.ls (aj n.1.1) (by kernel_rfl) (by kernel_rfl)⟩
  bk:=⟨w.bk.ob.imp λ_ e=>f _ _ e (kB e q) (by kernel_rfl) (by kernel_rfl),f _ _ w.bk.dc (kB w.bk.dc q) (by kernel_rfl) (by kernel_rfl)⟩
  wk:=⟨w.wk.ob.imp λ_ e=>f _ _ e (kB e q) (by kernel_rfl) (by kernel_rfl),f _ _ w.wk.ls (aj n.1.2) (by kernel_rfl) (by kernel_rfl)⟩
  la:=⟨w.la.ob.imp λ_ e=>e.imp λ_ e=>f _ _ e (kB e q) (by kernel_rfl) (by kernel_rfl),f _ _ w.la.dc (kB w.la.dc q) (by kernel_rfl) (by kernel_rfl)⟩
  tb:=⟨w.tb.1.kg λb u e h=>f _ _ e (kB e q (by rw[eq_of_beq h];kernel_rfl)) (by rw[eq_of_beq h];kernel_rfl) (by rw[eq_of_beq h];kernel_rfl),w.tb.2.kg λb u e h=>f _ _ e (kB e q (by rw[eq_of_beq h];kernel_rfl)) (by rw[eq_of_beq h];kernel_rfl) (by rw[eq_of_beq h];kernel_rfl)⟩
  nd:=w.nd}
theorem Wh.hand(w:Wh cA cM' cS cR cH cB cW cL tY tA H x M){hw:List Int}(a:ub cH H' x.h x.g hw)(f:∀b u,H b=some u->b≠x.g->H' b=some u):Wh cA cM' cS cR cH cB cW cL tY tA H' x {M with hw:=hw}:=by
 have q:=w.hd.ls;have n:=NJ w.nd;exact
 {ar:=w.ar.kg (λb u e h _=>f b u e (kB e q h)) (by rw[w.ar.mem.ls];exact f _ _ w.ar.mem.ls n.1.1)
  ro:=w.ro.imp λ_ e=>f _ _ e (kB e q)
  hd:=a
  bk:=⟨w.bk.ob.imp λ_ e=>f _ _ e (kB e q),f _ _ w.bk.dc (kB w.bk.dc q)⟩
  wk:=⟨w.wk.ob.imp λ_ e=>f _ _ e (kB e q),f _ _ w.wk.ls (aj n.2.1)⟩
  la:=⟨w.la.ob.imp λ_ e=>e.imp λ_ e=>f _ _ e (kB e q),f _ _ w.la.dc (kB w.la.dc q)⟩
  tb:=⟨w.tb.1.kg λb u e h=>f _ _ e (kB e q (by rw[eq_of_beq h];kernel_rfl)),w.tb.2.kg λb u e h=>f _ _ e (kB e q (by rw[eq_of_beq h];kernel_rfl))⟩
  nd:=w.nd}
theorem Wh.book(w:Wh cA cM' cS cR cH cB cW cL tY tA H x M){d:Addr}{ks:List Int}(a:o7 cB H' x.b d ks)(nd:(mx {x with d:=d}).Nodup)(f:∀b u,H b=some u->b≠x.b->b≠x.d->H' b=some u):Wh cA cM' cS cR cH cB cW cL tY tA H' {x with d:=d} {M with ks:=ks}:=by
 obtain⟨db,eb⟩:=w.bk.ob;have g:∀{b u},H b=some u->(tg u=="written")=false->(tg u=="d")=false->H' b=some u:=λ{b u} e n1 n2=>f _ _ e (kB e eb n1) (kB e w.bk.dc n2);exact
 {ar:={w.ar with
   ob:=w.ar.ob.imp λ_ e=>g e (by kernel_rfl) (by kernel_rfl)
   mem:=⟨w.ar.mem.ob.imp λ_ e=>g e (by kernel_rfl) (by kernel_rfl),g w.ar.mem.ls (by kernel_rfl) (by kernel_rfl)⟩
   old:=w.ar.old.imp λ_ e=>g e (by kernel_rfl) (by kernel_rfl)
   oP:=w.ar.oP.imp λ_ e=>g e (by kernel_rfl) (by kernel_rfl)
   DB:=w.ar.DB.imp λ_ e=>g e (by kernel_rfl) (by kernel_rfl)}
  ro:=w.ro.imp λ_ e=>g e (by kernel_rfl) (by kernel_rfl)
  hd:=⟨w.hd.ob.imp λ_ e=>g e (by kernel_rfl) (by kernel_rfl),g w.hd.ls (by kernel_rfl) (by kernel_rfl)⟩
  bk:=a
  wk:=⟨w.wk.ob.imp λ_ e=>g e (by kernel_rfl) (by kernel_rfl),g w.wk.ls (by kernel_rfl) (by kernel_rfl)⟩
  la:=⟨w.la.ob.imp λ_ e=>e.imp λ_ e=>g e (by kernel_rfl) (by kernel_rfl),f _ _ w.la.dc (kB w.la.dc eb) (aj (NJ w.nd).2.2)⟩
  tb:=⟨w.tb.1.kg λb u e h=>g e (by rw[eq_of_beq h];kernel_rfl) (by rw[eq_of_beq h];kernel_rfl),w.tb.2.kg λb u e h=>g e (by rw[eq_of_beq h];kernel_rfl) (by rw[eq_of_beq h];kernel_rfl)⟩
  nd:=nd}
theorem Wh.U0(w:Wh cA cM' cS cR cH cB cW cL tY tA H x M){t:Addr}(et:t=tY∨t=tA){ps:Array Value}(tt:TriplesOk ps.toList):Wh cA cM' cS cR cH cB cW cL tY tA (upd H t (.vN ps)) x M:=by
 have q:OU H t:=by rcases et with rfl|rfl;exact w.tb.1;exact w.tb.2
 obtain⟨p0,q,_⟩:=q;have f:∀{b u},H b=some u->(tg u=="b")=false->upd H t (.vN ps) b=some u:=λ{b u} e n=>by rw[i4 (kB e q n)];exact e
 have g:∀{b},OU H b->OU (upd H t (.vN ps)) b:=λ{b} ⟨p1,e1,t1⟩=>by
  by_cases z:b=t
  ·subst z;exact⟨ps,iZ,tt⟩
  ·exact⟨p1,nA e1 z,t1⟩
 exact
 {ar:={w.ar with
   ob:=w.ar.ob.imp λ_ e=>f e (by kernel_rfl)
   mem:=⟨w.ar.mem.ob.imp λ_ e=>f e (by kernel_rfl),f w.ar.mem.ls (by kernel_rfl)⟩
   old:=w.ar.old.imp λ_ e=>f e (by kernel_rfl)
   oP:=w.ar.oP.imp λ_ e=>f e (by kernel_rfl)
   DB:=w.ar.DB.imp λ_ e=>f e (by kernel_rfl)}
  ro:=w.ro.imp λ_ e=>f e (by kernel_rfl)
  hd:=⟨w.hd.ob.imp λ_ e=>f e (by kernel_rfl),f w.hd.ls (by kernel_rfl)⟩
  bk:=⟨w.bk.ob.imp λ_ e=>f e (by kernel_rfl),f w.bk.dc (by kernel_rfl)⟩
  wk:=⟨w.wk.ob.imp λ_ e=>f e (by kernel_rfl),f w.wk.ls (by kernel_rfl)⟩
  la:=⟨w.la.ob.imp λ_ e=>e.imp λ_ e=>f e (by kernel_rfl),f w.la.dc (by kernel_rfl)⟩
  tb:=⟨g w.tb.1,g w.tb.2⟩
  nd:=w.nd}
theorem Wh.row(w:Wh cA cM' cS cR cH cB cW cL tY tA H x M){l:Addr}{xs ys:List V}(e:H l=some (.lst xs))(n:l∉mx x):Wh cA cM' cS cR cH cB cW cL tY tA (upd H l (.lst ys)) x M:=
 w.fr λb u eb h=>by
  rw[i4];exact eb;rintro rfl;rcases h with h|h
  ·exact n h
  ·rw[e]at eb;cases eb;have:=h.1;rw[show tg (.lst xs)="l" from rfl,beq_self_eq_true]at this;cases this
end
section
variable{x:Own}{M:Mem}{O Y:List (Nat×Int)}
theorem In.pl(I:In x M O Y){k:Nat}{a:Int}(m:(k,a)∈O∨(k,a)∈Y):k<x.G.length/\x.p k=some a/\0<=a/\a+x.z k<=M.ws.length:=by
 have f:=I.fr;have:=f.hv;have:=f.ot;have:=f.o0;have:=f.yw;have:=f.y0;have:=f.yt;rcases m with m|m
 ·obtain⟨h1,_,h3⟩:=(I.oe k a).mp m;have:=I.Jx m;exact⟨h1,h3,⋯,⋯⟩
 ·obtain⟨h1,_,h3⟩:=(I.ye k a).mp m;have:=I.Lk m;exact⟨h1,h3,⋯,⋯⟩
theorem In.at(I:In x M O Y){k:Nat}{a:Int}(hk:k<x.G.length)(e:x.p k=some a):(k,a)∈O∨(k,a)∈Y:=by
 have:=I.ag k hk;by_cases z:x.g k=2
 ·exact .inl ((I.oe k a).mpr ⟨hk,z,e⟩)
 ·exact .inr ((I.ye k a).mpr ⟨hk,⋯,e⟩)
theorem In.pb(I:In x M O Y){t:Th}(g:Gd x t):∀k,t= .ce k->0<=(x.p k).getD 0/\(x.p k).getD 0<=9999:=λk e=>by
 subst e;obtain⟨a,e⟩:=Option.isSome_iff_exists.mp g.2;have:=I.pl (I.at g.1 e);have:=I.fr.l2;have:=x.z1 k;rw[e];show 0<=a/\a<=9999;lia
theorem rW{α:Type}{l:List α}{v d:α}{k:Nat}:(l++[v]).getD k d=if k<l.length then l.getD k d else if k=l.length then v else d:=by
 rw[af];by_cases z:k<l.length
 ·rw[if_pos z,bj z,←af]
 ·rw[if_neg z,bp ⋯];by_cases y:k=l.length
  ·rw[if_pos y,y,d9];rfl
  ·rw[if_neg y,aS (by show 1<=k-l.length;lia)];rfl
noncomputable def Own.lay (x:Own) (a g:Int) (n:Nat):Own:=⟨x.P++[some a],x.G++[g],x.S++[ao n .no],x.D⟩
theorem In.lay(I:In x M O Y){a g:Int}{n:Nat}(n8:n<=8)(hl:x.G.length<20)(g0:0<=g)(g2:g<=2)(a0:0<=a)(al:a+n<M.ws.length){so sy:S3}(fr:Wm {M with ws:=kL M.ws a.toNat n g,so:=so,sy:=sy}){O' Y':List (Nat×Int)}
  (hO:(g=2/\O'=O++[(x.G.length,a)]/\Y'=Y)∨(g<2/\O'=O/\Y'=Y++[(x.G.length,a)])) (lo:oG (x.lay a g n).z 0 O' so.t) (ly:oG (x.lay a g n).z sy.b Y' sy.t)
  (away:∀k b,(k,b)∈O∨(k,b)∈Y->b+x.z k<=a∨a+n<b):In (x.lay a g n) {M with ws:=kL M.ws a.toNat n g,so:=so,sy:=sy} O' Y':=by
 have ep:∀k,(x.lay a g n).p k=if k<x.G.length then x.p k else if k=x.G.length then some a else none:=λk=>by show(x.P++[some a]).getD k none=_;rw[rW,I.lp];rfl
 have eg:∀k,(x.lay a g n).g k=if k<x.G.length then x.g k else if k=x.G.length then g else 0:=λk=>by show(x.G++[g]).getD k 0=_;rw[rW];rfl
 have es:∀k,(x.lay a g n).s k=if k<x.G.length then x.s k else if k=x.G.length then ao n .no else []:=λk=>by show(x.S++[ao n Th.no]).getD k []=_;rw[rW,I.ls];rfl
 have el:(x.lay a g n).G.length=x.G.length+1:=by show(x.G++[g]).length=_;rw[ay];rfl
 have et:∀k j,k<x.G.length->(x.lay a g n).t k j=x.t k j:=λk j h=>by unfold Own.t;rw[es,if_pos h]
 have tn:∀j,(x.lay a g n).t x.G.length j= .no:=λj=>by
  unfold Own.t;rw[es,if_neg ⋯,if_pos rfl,af,dj];by_cases z:j<n
  ·rw[if_pos z];rfl
  ·rw[if_neg z];rfl
 have to:∀k j,x.G.length<k->(x.lay a g n).t k j= .no:=λk j h=>by unfold Own.t;rw[es,if_neg ⋯,if_neg ⋯];rfl
 have th:∀{t:Th},Gd x t->Gd (x.lay a g n) t/\wd (x.lay a g n).p t=wd x.p t:=λ{t} h=>by
  cases t with
  |no=>exact⟨bB,rfl⟩
  |nu n=>exact⟨h,rfl⟩
  |ce k=>exact⟨⟨by rw[el];have:=h.1;lia,by rw[ep,if_pos h.1];exact h.2⟩,by show 2*((x.lay a g n).p k).getD 0+1=2*(x.p k).getD 0+1;rw[ep,if_pos h.1]⟩
 have old:∀{k:Nat} {b:Int},(k,b)∈O∨(k,b)∈Y->To (kL M.ws a.toNat n g) b ((x.lay a g n).g k) (λj=>wd (x.lay a g n).p ((x.lay a g n).t k j)) ((x.lay a g n).s k).length:=λ{k b} m=>by
  obtain⟨p1,p2,p3,p4⟩:=I.pl m;have aw:=away k b m;obtain⟨c1,c2⟩:=I.ce k b m;have ez:x.z k=(x.s k).length+1:=rfl;refine⟨?_,λj hj=> ?_⟩
  ·rw[eg,if_pos p1,es,if_pos p1];show(kL M.ws a.toNat n g).getD b.toNat 0=_;rw[Hw (by(clear c1 hO fr al hl;lia))];exact c1
  ·rw[es,if_pos p1]at hj;show lN (kL M.ws a.toNat n g) (b+1+j)=wd (x.lay a g n).p ((x.lay a g n).t k j);rw[et k j p1,(th (I.gs k b m _ (x.tm hj))).2];show(kL M.ws a.toNat n g).getD (b+1+(j:Int)).toNat 0=_;rw[Hw (by(clear p4 hO;lia))];exact c2 j hj
 have new:To (kL M.ws a.toNat n g) a ((x.lay a g n).g x.G.length) (λj=>wd (x.lay a g n).p ((x.lay a g n).t x.G.length j)) ((x.lay a g n).s x.G.length).length:=by
  rw[eg,if_neg (bD _),if_pos rfl,es,if_neg (bD _),if_pos rfl,bc];refine⟨Nz (by(clear el hO;lia)),λj hj=> ?_⟩;show lN (kL M.ws a.toNat n g) (a+1+j)=wd (x.lay a g n).p ((x.lay a g n).t x.G.length j);rw[tn];exact Jp (by(clear el hO;lia)) (by(clear el hO a0 n8;lia)) ⋯
 have mO:∀{k:Nat} {b:Int},(k,b)∈O'∨(k,b)∈Y'->((k,b)∈O∨(k,b)∈Y)∨(k=x.G.length/\b=a):=λ{k b} m=>by
  rcases hO with ⟨_,rfl,rfl⟩|⟨_,rfl,rfl⟩
  ·rcases m with m|m
   ·rcases List.mem_append.mp m with m|m
    ·exact .inl (.inl m)
    ·cases List.mem_singleton.mp m;exact .inr ⟨rfl,rfl⟩
   ·exact .inl (.inr m)
  ·rcases m with m|m
   ·exact .inl (.inl m)
   ·rcases List.mem_append.mp m with m|m
    ·exact .inl (.inr m)
    ·cases List.mem_singleton.mp m;exact .inr ⟨rfl,rfl⟩
 have oO:∀{e:Nat×Int},e∈O->e∈O':=λ{e} m=>by
  rcases hO with ⟨_,rfl,_⟩|⟨_,rfl,_⟩
  ·exact aZ _ m
  ·exact m
 have iff':∀(L L':List (Nat×Int)) (c:Int->Prop),(∀k b,(k,b)∈L↔k<x.G.length/\c (x.g k)/\x.p k=some b)->((c g/\L'=L++[(x.G.length,a)])∨(¬c g/\L'=L))->∀k b,(k,b)∈L'↔k<(x.lay a g n).G.length/\c ((x.lay a g n).g k)/\(x.lay a g n).p k=some b:=λL L' c h hc k b=>by
  rw[el,eg,ep];by_cases z:k<x.G.length
  ·rw[if_pos z,if_pos z];have:(k,b)∈L'↔(k,b)∈L:=by
    rcases hc with ⟨_,rfl⟩|⟨_,rfl⟩
    ·rw[cG,aA];exact⟨λy=>y.resolve_right (λe=>by cases e;lia),.inl⟩
    ·exact Iff.rfl
   rw[this,h k b];exact⟨λy=>⟨⋯,y.2⟩,λy=>⟨z,y.2⟩⟩
  ·rw[if_neg z,if_neg z];have nL:(k,b)∉L:=λm=>z ((h k b).mp m).1;by_cases y:k=x.G.length
   ·rw[if_pos y,if_pos y];rcases hc with ⟨c1,rfl⟩|⟨c1,rfl⟩
    ·rw[cG,aA];exact⟨λm=>by rcases m with m|m;exact absurd m nL;cases m;exact⟨⋯,c1,rfl⟩,λm=> .inr (by rw[y];have:=m.2.2;cases this;rfl)⟩
    ·exact⟨λm=>absurd m nL,λm=>absurd m.2.1 c1⟩
   ·refine⟨λm=> ?_,λm=>by lia⟩;rcases hc with ⟨_,rfl⟩|⟨_,rfl⟩
    ·rcases List.mem_append.mp m with m|m
     ·exact absurd m nL
     ·cases List.mem_singleton.mp m;exact absurd rfl y
    ·exact absurd m nL
 refine⟨?_,?_,by rw[el];lia,λk hk=> ?_,λk=> ?_,fr,I.wo.kL n8 g0 g2,?_,?_,λk hk e=> ?_,lo,ly,λk b m=> ?_,λk b m t ht=> ?_,λt ht=>(th (I.gd t ht)).1,?_,I.d4,λq hq=> ?_,λk b j i m hj e gi=> ?_,I.kn⟩
 ·rw[el];show(x.P++[some a]).length=_;rw[ay,I.lp];rfl
 ·rw[el];show(x.S++[_]).length=_;rw[ay,I.ls];rfl
 ·rw[el]at hk;rw[eg];by_cases z:k<x.G.length
  ·rw[if_pos z];exact I.ag k z
  ·rw[if_neg z,if_pos ⋯];exact⟨g0,g2⟩
 ·rw[es];by_cases z:k<x.G.length
  ·rw[if_pos z];exact I.s8 k
  ·rw[if_neg z];by_cases y:k=x.G.length
   ·rw[if_pos y,bc];exact n8
   ·rw[if_neg y];exact bh _
 ·refine iff' O O' (λv=>v=2) I.oe ?_;rcases hO with ⟨h1,h2,_⟩|⟨h1,h2,_⟩
  ·exact .inl ⟨h1,h2⟩
  ·exact .inr ⟨⋯,h2⟩
 ·refine iff' Y Y' (λv=>v<2) I.ye ?_;rcases hO with ⟨h1,_,h2⟩|⟨h1,_,h2⟩
  ·exact .inr ⟨⋯,h2⟩
  ·exact .inl ⟨h1,h2⟩
 ·rw[el]at hk;rw[eg]at e;rw[ep];by_cases z:k<x.G.length
  ·rw[if_pos z]at e⊢;exact I.od k z e
  ·rw[if_neg z,if_pos ⋯];rfl
 ·rcases mO m with m|⟨rfl,rfl⟩
  ·exact old m
  ·exact new
 ·rcases mO m with m|⟨rfl,rfl⟩
  ·rw[es,if_pos (I.pl m).1]at ht;exact(th (I.gs k b m t ht)).1
  ·rw[es,if_neg (bD _),if_pos rfl]at ht;rw[d5 ht];exact bB
 ·show M.hw=x.D.map _;rw[I.hd];exact cm λt ht=>(th (I.gd t ht)).2.symm
 ·obtain⟨k,b,j,i,m,hj,e,e2,gi⟩:=I.b1 q hq;have p:=I.pl (.inl m);have gi':=I.gs k b (.inl m) _ (x.tm hj);rw[e2]at gi';exact⟨k,b,j,i,oO m,by rw[es,if_pos p.1];exact hj,e,by rw[et k j p.1];exact e2,by rw[eg,if_pos gi'.1];exact gi⟩
 ·have m':(k,b)∈O:=by
   rcases hO with ⟨_,rfl,_⟩|⟨_,rfl,_⟩
   ·rcases List.mem_append.mp m with m|m
    ·exact m
    ·cases List.mem_singleton.mp m
     rw[tn]at e;cases e
   ·exact m
  have p:=I.pl (.inl m');rw[es,if_pos p.1]at hj;rw[et k j p.1]at e;have gi':=I.gs k b (.inl m') _ (x.tm hj);rw[e]at gi';rw[eg,if_pos gi'.1]at gi;exact I.b2 k b j i m' hj e gi
theorem In.held(I:In x M O Y){h:Nat}{t:Th}(g:Gd x t):In {x with D:=x.D.set h t} {M with hw:=M.hw.set h (wd x.p t)} O Y:=
 {I with
  fr:=⟨I.fr.l2,I.fr.ob,I.fr.o0,I.fr.ot,I.fr.hv,I.fr.yw,I.fr.y0,I.fr.yt,I.fr.st,I.fr.rm⟩
  gs:=λk a m t ht=>by have:=I.gs k a m t ht;cases t with|no=>exact this|nu n=>exact this|ce k=>exact this
  gd:=λu hu=>by
   have:Gd x u:=by rcases cY hu with z|rfl;exact I.gd u z;exact g
   cases u with|no=>exact this|nu n=>exact this|ce k=>exact this
  hd:=by show M.hw.set h (wd x.p t)=(x.D.set h t).map (wd x.p);rw[I.hd,fM]
  d4:=by show 1<=(x.D.set h t).length/\(x.D.set h t).length<=6;rw[aT];exact I.d4}
theorem In.QQ(I:In x M O Y){k k':Nat}{a a' i:Int}(m:(k,a)∈O∨(k,a)∈Y)(m':(k',a')∈O∨(k',a')∈Y)(h1:a<=i)(h2:i<a+x.z k)(h3:a'<=i)(h4:i<a'+x.z k'):k=k'/\a=a':=by
 have f:=I.fr;have:=f.hv;have:=f.ot;have:=f.o0;have:=f.yw;have:=f.y0;have:=f.yt;rcases m with m|m
 ·rcases m' with m'|m'
  ·exact rH x.z1 I.lo m m' h1 h2 h3 h4
  ·have:=I.Jx m;have:=I.Lk m';lia
 ·rcases m' with m'|m'
  ·have:=I.Jx m';have:=I.Lk m;lia
  ·exact rH x.z1 I.ly m m' h1 h2 h3 h4
noncomputable def Own.put (x:Own) (k j:Nat) (t:Th):Own:={x with S:=x.S.set k ((x.s k).set j t)}
theorem Own.K4{k j k':Nat}{t:Th}(h:k<x.S.length):(x.put k j t).s k'=if k'=k then(x.s k).set j t else x.s k':=by
 show(x.S.set k _).getD k' []=_;rw[af,aX];by_cases z:k=k'
 ·subst z;rw[if_pos rfl,if_pos h,if_pos rfl];rfl
 ·rw[if_neg z,if_neg (aj z),←af];rfl
theorem Own.QY{k j k' j':Nat}{t:Th}(h:k<x.S.length)(hj:j<(x.s k).length):(x.put k j t).t k' j'=if k'=k/\j'=j then t else x.t k' j':=by
 unfold Own.t;rw[Own.K4 h];by_cases z:k'=k
 ·subst z;rw[if_pos rfl,af,aX];by_cases y:j=j'
  ·subst y;rw[if_pos rfl,if_pos hj,if_pos ⟨rfl,rfl⟩];rfl
  ·rw[if_neg y,if_neg λe=>y e.2.symm,←af]
 ·rw[if_neg z,if_neg λe=>z e.1]
theorem In.put(I:In x M O Y){k j:Nat}{a:Int}{t:Th}(m:(k,a)∈O∨(k,a)∈Y)(hj:j<(x.s k).length)(g:Gd x t){ks:List Int}(kn:ks.Nodup)
  (hks:∀q,q∈ks↔(q∈M.ks/\q≠a+1+(j:Int))∨(q=a+1+(j:Int)/\x.g k=2/\LG x t=true)):In (x.put k j t) {M with ws:=M.ws.set (a+1+(j:Int)).toNat (wd x.p t),ks:=ks} O Y:=by
 have hS:k<x.S.length:=by rw[I.ls];exact(I.pl m).1
 have pm:=I.pl m;have es:=λk'=>Own.K4 (x:=x) (j:=j) (k':=k') (t:=t) hS;have et:=λk' j'=>Own.QY (x:=x) (k':=k') (j':=j') (t:=t) hS hj;have sl:∀k',((x.put k j t).s k').length=(x.s k').length:=λk'=>by
  rw[es];by_cases z:k'=k
  ·subst z;rw[if_pos rfl,aT]
  ·rw[if_neg z]
 have ez:(x.put k j t).z=x.z:=by funext k';unfold Own.z;rw[sl]
 have zk:∀k',x.z k'=(x.s k').length+1:=λ_=>rfl;have th:∀{u:Th},Gd x u->Gd (x.put k j t) u:=λ{u} h=>by cases u with|no=>exact h|nu n=>exact h|ce k=>exact h
 have wne:∀{p:Int},0<=p->p≠a+1+j->lN (M.ws.set (a+1+(j:Int)).toNat (wd x.p t)) p=lN M.ws p:=λ{p} h n=>tO ⋯ h (aj n);refine⟨I.lp,?_,I.LU,I.ag,λk'=>by rw[sl];exact I.s8 k',⟨?_,I.fr.ob,I.fr.o0,I.fr.ot,?_,I.fr.yw,I.fr.y0,I.fr.yt,I.fr.st,I.fr.rm⟩,I.wo.set (QV I g x.p (I.pb g)),I.oe,I.ye,I.od,by rw[ez];exact I.lo,by rw[ez];exact I.ly,λk' b m'=> ?_,λk' b m' u hu=> ?_,λu hu=>th (I.gd u hu),I.hd,I.d4,λq hq=> ?_,λk' b j' i m' hj' e gi=> ?_,kn⟩
 ·show(x.S.set k _).length=_;rw[aT];exact I.ls
 ·show(M.ws.set _ _).length<=200;rw[aT];exact I.fr.l2
 ·show(M.sy.b=M.so.e/\M.ss.b=M.sy.e/\M.ss.e=((M.ws.set _ _).length:Int))∨(M.ss.b=M.so.e/\M.sy.b=M.ss.e/\M.sy.e=((M.ws.set _ _).length:Int));rw[aT];exact I.fr.hv
 ·obtain⟨c1,c2⟩:=I.ce k' b m';have p':=I.pl m';have z':=zk k';have z'':=zk k;refine⟨?_,λj' hj'=> ?_⟩
  ·rw[sl];refine(wne p'.2.2.1 λe=> ?_).trans c1;have d:=I.QQ m' m (i:=b) (cO _) ⋯ (by(clear wne pm;lia)) (by(clear wne pm;lia))
   (clear wne pm;lia)
  ·rw[sl]at hj';show lN (M.ws.set _ _) (b+1+j')=wd x.p ((x.put k j t).t k' j');rw[et];by_cases e:b+1+(j':Int)=a+1+j
   ·have d:=I.QQ m' m (i:=b+1+j') (by(clear e;lia)) (by(clear e;lia)) ⋯ ⋯;obtain⟨rfl,rfl⟩:=d;have:j'=j:=by lia
    subst this;rw[if_pos ⟨rfl,rfl⟩,tN ⋯ ⋯]
   ·rw[wne ⋯ e,if_neg λy=>e ?_]
    ·exact c2 j' hj'
    ·obtain⟨rfl,rfl⟩:=y;have:=pm.2.1;rw[p'.2.1]at this
     cases this;rfl
 ·rw[es]at hu;by_cases z:k'=k
  ·subst z;rw[if_pos rfl]at hu;rcases cY hu with y|rfl
   ·exact th (I.gs k' b m' u y)
   ·exact th g
  ·rw[if_neg z]at hu;exact th (I.gs k' b m' u hu)
 ·rcases (hks q).mp hq with ⟨h1,h2⟩|⟨h1,h2,h3⟩
  ·obtain⟨k',b,j',i,m',hj',e,e2,gi⟩:=I.b1 q h1;refine⟨k',b,j',i,m',by rw[sl];exact hj',e,?_,gi⟩;rw[et,if_neg λy=> ?_];exact e2;obtain⟨rfl,rfl⟩:=y;have:=pm.2.1;rw[(I.pl (.inl m')).2.1]at this
   cases this
   exact h2 e
  ·cases t with
   |no=>cases h3
   |nu n=>cases h3
   |ce i=>
    have mO:(k,a)∈O:=(I.oe k a).mpr ⟨pm.1,h2,pm.2.1⟩;exact⟨k,a,j,i,mO,by rw[sl];exact hj,h1,by rw[et,if_pos ⟨rfl,rfl⟩],of_decide_eq_true h3⟩
 ·rw[sl]at hj';rw[et]at e;have p':=I.pl (.inl m');have z':=zk k';have z'':=zk k;by_cases y:k'=k/\j'=j
  ·rw[if_pos y]at e;obtain⟨rfl,rfl⟩:=y;have ea:=pm.2.1;rw[p'.2.1]at ea
   cases ea
   subst e;exact(hks _).mpr (.inr ⟨rfl,((I.oe _ _).mp m').2.1,decide_eq_true gi⟩)
  ·rw[if_neg y]at e;refine(hks _).mpr (.inl ⟨I.b2 k' b j' i m' hj' e gi,λe2=>y ?_⟩);have d:=I.QQ (.inl m') m (i:=b+1+j') ⋯ ⋯ ⋯ ⋯;exact⟨d.1,by(clear y wne pm;lia)⟩
theorem In.new{o y:Int}(o0:0<=o)(ol:o<=80)(y0:0<=y)(yl:y<=20){sy ss:S3}(h:(sy=⟨o,o+y,o⟩/\ss=⟨o+y,o+2*y,o+y⟩)∨(ss=⟨o,o+y,o⟩/\sy=⟨o+y,o+2*y,o+y⟩)):In ⟨[],[],[],[.no]⟩ ⟨ao (o+2*y).toNat (-1),⟨0,o,0⟩,sy,ss,[-1],[]⟩ [] [] where
 lp:=rfl
 ls:=rfl
 LU:=bh _
 ag:=λk h=>absurd h (cj _)
 s8:=λk=>bh _
 fr:=by
  have hl:((ao (o+2*y).toNat (-1:Int)).length:Int)=o+2*y:=by rw[bc];lia
  refine⟨by show(ao _ _).length<=200;rw[bc];lia,rfl,cO _,o0,?_,?_,?_,?_,?_,?_⟩
  ·show(sy.b=o/\ss.b=sy.e/\ss.e=((ao _ _).length:Int))∨(ss.b=o/\sy.b=ss.e/\sy.e=((ao _ _).length:Int));rw[hl];rcases h with ⟨rfl,rfl⟩|⟨rfl,rfl⟩
   ·exact .inl ⟨rfl,rfl,rfl⟩
   ·exact .inr ⟨rfl,rfl,rfl⟩
  all_goals (rcases h with ⟨rfl,rfl⟩|⟨rfl,rfl⟩<;>dsimp only<;>lia)
 wo:=λw hw=>by rw[d5 hw];decide
 oe:=λk a=>⟨(λz=>by cases z),λz=>absurd z.1 (cj _)⟩
 ye:=λk a=>⟨(λz=>by cases z),λz=>absurd z.1 (cj _)⟩
 od:=λk h=>absurd h (cj _)
 lo:=rfl
 ly:=by rcases h with ⟨rfl,_⟩|⟨_,rfl⟩<;>exact rfl
 ce:=λk a m=>by rcases m with m|m<;>cases m
 gs:=λk a m=>by rcases m with m|m<;>cases m
 gd:=λt ht=>by rw[List.mem_singleton.mp ht];exact bB
 hd:=rfl
 d4:=by decide
 b1:=λq h=>nomatch h
 b2:=λk a j i m=>nomatch m
 kn:=bC
end
theorem Own.NA{x:Own}{a g:Int}{n:Nat}(h:∀k j,x.t k j= .no)(k j:Nat):(x.lay a g n).t k j= .no:=by
 show((x.S++[ao n Th.no]).getD k []).getD j .no= .no;rw[rW];by_cases z:k<x.S.length
 ·rw[if_pos z];exact h k j
 ·rw[if_neg z];by_cases y:k=x.S.length
  ·rw[if_pos y,af,dj];by_cases w:j<n
   ·rw[if_pos w];rfl
   ·rw[if_neg w];rfl
  ·rw[if_neg y];rfl
theorem Own.RY{x:Own}{a g:Int}{n:Nat}(lp:x.P.length=x.G.length)(h:∀k,k<x.G.length->(x.p k).isSome=true)(k:Nat)(hk:k<(x.lay a g n).G.length):((x.lay a g n).p k).isSome=true:=by
 have hk:k<(x.G++[g]).length:=hk;rw[ay]at hk;have hk:k<x.G.length+1:=hk;show((x.P++[some a]).getD k none).isSome=true;rw[rW,lp];by_cases z:k<x.G.length
 ·rw[if_pos z];exact h k z
 ·rw[if_neg z,if_pos ⋯];rfl
theorem Own.lay_z{x:Own}{a g:Int}{n k:Nat}(ls:x.S.length=x.G.length):(k<x.G.length->(x.lay a g n).z k=x.z k)/\(x.lay a g n).z x.G.length=n+1:=by
 have e:∀k,(x.lay a g n).z k=(((x.S++[ao n Th.no]).getD k []).length:Int)+1:=λ_=>rfl;refine⟨λh=> ?_,?_⟩
 ·rw[e,rW,if_pos ⋯];rfl
 ·rw[e,rW,if_neg ⋯,if_pos ls.symm,bc]
theorem In.KN{x:Own}{M:Mem}{O Y:List (Nat×Int)}(I:In x M O Y){a g:Int}{n:Nat}:oG (x.lay a g n).z 0 O M.so.t/\oG (x.lay a g n).z M.sy.b Y M.sy.t:=
 ⟨EU (λe he=>(Own.lay_z I.ls).1 ((I.oe e.1 e.2).mp he).1) I.lo,EU (λe he=>(Own.lay_z I.ls).1 ((I.ye e.1 e.2).mp he).1) I.ly⟩
theorem KA{ks:List Int}{p i:Int}:i∈Je ks p↔i∈ks∨i=p:=by
 unfold Je;by_cases z:p∈ks
 ·rw[if_pos z];exact⟨.inl,λh=>h.elim id λe=>e▸z⟩
 ·rw[if_neg z,cG,aA]
theorem Nn{ks:List Int}{p:Int}(h:ks.Nodup):(Je ks p).Nodup:=by
 unfold Je;by_cases z:p∈ks
 ·rw[if_pos z];exact h
 ·rw[if_neg z];exact List.nodup_append.mpr ⟨h,List.nodup_cons.mpr ⟨aI,bC⟩,λu hu v hv e=>by rw[aA]at hv;subst hv;exact z (e▸hu)⟩
theorem PJ{ks:List Int}{p:Int}:(Je ks p).length<=ks.length+1:=by
 unfold Je;by_cases z:p∈ks
 ·rw[if_pos z];lia
 ·rw[if_neg z,ay];exact au _
theorem CB:∀{l:List Int},l.Pairwise (·<·)->l.Nodup:=λh=>h.imp λz e=>by lia
noncomputable def nj {α:Type} [DecidableEq α] (F:List α):List α->List α
 | []=>[]
 |a::W=>if a∈F then nj F W else a::nj (F++[a]) W
section
variable{α:Type} [DecidableEq α]
theorem rT{C:List α}:∀{W F:List α},nj F (W++C)=nj F W++nj (F++nj F W) C
 | [],F=>by simp[nj]
 |a::W,F=>by
  simp only[bX,nj];by_cases h:a∈F
  ·rw[if_pos h,if_pos h,rT]
  ·rw[if_neg h,if_neg h,rT,bX];simp
theorem qj{x:α}:∀{W F:List α},x∈nj F W->x∈W
 | [],F,h=>by cases h
 |a::W,F,h=>by
  simp only[nj]at h;by_cases z:a∈F
  ·rw[if_pos z]at h;exact ai _ (qj h)
  ·rw[if_neg z]at h;rcases List.mem_cons.mp h with rfl|h
   ·exact aq ..
   ·exact ai _ (qj h)
theorem sf{F:List α}{a:α}(h:F.Nodup)(z:a∉F):(F++[a]).Nodup:=by
 rw[iq];exact⟨h,by simp,λx hx y hy=>by rw[List.mem_singleton.mp hy];intro e;rw[e]at hx;exact z hx⟩
theorem pK:∀{W F:List α},F.Nodup->(F++nj F W).Nodup
 | [],F,h=>by simpa [nj] using h
 |a::W,F,h=>by
  simp only[nj];by_cases z:a∈F
  ·rw[if_pos z];exact pK h
  ·rw[if_neg z];have r:=pK (W:=W) (sf h z)
   rwa[cf]at r
theorem BB{x:α}:∀{W F:List α},x∈W->x∈F++nj F W
 | [],_,h=>by cases h
 |a::W,F,h=>by
  simp only[nj];by_cases z:a∈F
  ·rw[if_pos z];rcases List.mem_cons.mp h with rfl|h
   ·exact aZ _ z
   ·exact BB h
  ·rw[if_neg z];rcases List.mem_cons.mp h with rfl|h
   ·simp
   ·have:=BB (F:=F++[a]) h;simpa using this
inductive Reach (ch:α->List α):List α->Nat->List α->Prop
 |done {M:List α} {d:Nat}:M.length<=d->Reach ch M d M
 |step {M:List α} {d:Nat} {res:List α} (h:d<M.length):Reach ch (M++nj M (ch M[d])) (d+1) res->Reach ch M d res
theorem Reach.fn{ch:α->List α}{M r r':List α}{d:Nat}(h:Reach ch M d r):Reach ch M d r'->r=r':=by
 induction h with
 |done h1=>
  intro h'
  cases h' with
  |done _=>rfl
  |step h2 _=>lia
 |step h1 _ ih=>
  intro h'
  cases h' with
  |done h2=>lia
  |step _ h3=>exact ih h3
theorem Reach.all{ch:α->List α}{M res:List α}{d:Nat}(h:Reach ch M d res):M.Nodup->(∀(i:Nat) (h:i<M.length),i<d->∀q∈ch M[i],q∈M)->res.Nodup/\(∀p∈M,p∈res)/\∀p∈res,∀q∈ch p,q∈res:=by
 induction h with
 | @done M d hd=>
  intro nd hc;refine⟨nd,λ_ h=>h,λp hp q hq=> ?_⟩;obtain⟨i,hi,rfl⟩:=List.mem_iff_getElem.mp hp;exact hc i hi ⋯ q hq
 | @step M d res hd _ ih=>
  intro nd hc;have hh:∀(i:Nat) (h:i<(M++nj M (ch M[d])).length),i<d+1->∀q∈ch (M++nj M (ch M[d]))[i],q∈M++nj M (ch M[d]):=λi hi hid q hq=>by
   have il:i<M.length:=by lia
   rw[List.getElem_append_left il]at hq;by_cases c:i<d
   ·exact aZ _ (hc i il c q hq)
   ·obtain rfl:i=d:=by lia
    exact BB hq
  obtain⟨h1,h2,h3⟩:=ih (pK nd) hh;exact⟨h1,λp hp=>h2 p (aZ _ hp),h3⟩
theorem Reach.sub{ch:α->List α}{L M res:List α}{d:Nat}(h:Reach ch M d res)(hc:∀p∈L,∀q∈ch p,q∈L):(∀p∈M,p∈L)->∀p∈res,p∈L:=by
 induction h with
 |done _=>exact id
 | @step M d res hd _ ih=>
  intro hM;refine ih λp hp=> ?_;rcases List.mem_append.mp hp with hp|hp
  ·exact hM p hp
  ·exact hc _ (hM _ (aG hd)) p (qj hp)
theorem Reach.pop{ch:α->List α}{F W res:List α}{a:α}(h:a∉F)(r:Reach ch (F++[a]++nj (F++[a]) (W++ch a)) (F++[a]).length res):Reach ch (F++nj F (a::W)) F.length res:=by
 have em:F++nj F (a::W)=F++[a]++nj (F++[a]) W:=by simp only[nj];rw[if_neg h];simp
 have hlt:F.length<(F++nj F (a::W)).length:=by rw[em,ay,ay];simp;lia
 refine .step hlt ?_;have eg:(F++nj F (a::W))[F.length]=a:=by
  have:(F++nj F (a::W))[F.length]? =some a:=by rw[em,cf];simp
  rw[ab hlt]at this;exact aM this
 rw[eg,em,cf (F++[a]),←rT];rw[ay]at r;exact r
end
theorem HC{f:Nat->Int}{F:List Nat}{a:Nat}(h:∀b∈F,f b=f a->b=a):f a∈F.map f↔a∈F:=
 ⟨λz=>by obtain⟨b,hb,e⟩:=List.mem_map.mp z;rw[←h b hb e];exact hb,bz⟩
theorem Fi{f:Nat->Int}{L:List Nat}(inj:∀a∈L,∀b∈L,f a=f b->a=b):∀{W F:List Nat},(∀a∈F,a∈L)->(∀a∈W,a∈L)->nj (F.map f) (W.map f)=(nj F W).map f
 | [],_,_,_=>rfl
 |a::W,F,hF,hW=>by
  have ha:=hW a (aq ..);have e:=HC (f:=f) (F:=F) (a:=a) λb hb e=>inj b (hF b hb) a ha e;simp only[nj,az];by_cases z:a∈F
  ·rw[if_pos z,if_pos (e.mpr z)];exact Fi inj hF λb hb=>hW b (ai _ hb)
  ·rw[if_neg z,if_neg λy=>z (e.mp y),az,←Fi inj (F:=F++[a]) (λb hb=> ?_) λb hb=>hW b (ai _ hb),aF];rfl;rcases List.mem_append.mp hb with hb|hb
   ·exact hF b hb
   ·rw[List.mem_singleton.mp hb];exact ha
noncomputable def kn (ts:List Th):List Nat:=ts.filterMap λ| .ce k=>some k|_=>none
noncomputable def Ck (w:List Int):List Int:=(w.filter kj).map (· /2)
noncomputable def pz (p:Nat->Option Int) (k:Nat):Int:=(p k).getD 0
noncomputable def Gt (L:List Nat):Th->Prop
 | .no=>True
 | .nu n=> -1000000000000<=n/\n<=1000000000000
 | .ce k=>k∈L
theorem oS{ts:List Th}{k:Nat}:k∈kn ts↔Th.ce k∈ts:=by
 unfold kn;rw[List.mem_filterMap];constructor
 ·rintro⟨t,ht,e⟩
  cases t with
  |no=>cases e
  |nu n=>cases e
  |ce i=>cases e;exact ht
 ·exact λh=>⟨_,h,rfl⟩
theorem AH{ts:List Th}:(kn ts).length<=ts.length:=List.length_filterMap_le ..
theorem ES{p:Nat->Option Int}:∀{ts:List Th},(∀k,Th.ce k∈ts->0<=pz p k)->Ck (ts.map (wd p))=(kn ts).map (pz p)
 | [],_=>rfl
 |t::r,h=>by
  have ih:=ES (p:=p) (ts:=r) λk hk=>h k (ai _ hk);unfold Ck at ih⊢
  cases t with
  |no=>rw[az,bO (by show¬kj (-1)=true;decide)];exact ih
  |nu n=>rw[az,bO (by show¬kj (2*n)=true;rw[rX];decide)];exact ih
  |ce k=>
   have:=h k (aq ..);rw[az,cb (by show kj (2*pz p k+1)=true;exact o_ this),az,ih];show(2*pz p k+1)/2::_=pz p k::_;rw[show(2*pz p k+1)/2=pz p k by lia];rfl
theorem Cn{p:Nat->Option Int}{L:List Nat}{t:Th}(h:Gt L t)(hp:∀k∈L,0<=pz p k/\pz p k<=9999):(kd (.int (wd p t))).isSome=true:=by
 cases t with
 |no=>show(kd (.int (-1))).isSome=true;rw[lX,if_pos rfl];rfl
 |nu n=>have h: -1000000000000<=n/\n<=1000000000000:=h;show(kd (.int (2*n))).isSome=true;rw[lX,if_neg ⋯,if_pos ⋯];rfl
 |ce k=>have:=hp k h;show(kd (.int (2*pz p k+1))).isSome=true;rw[lX,if_neg ⋯,if_neg (by omega),if_pos ⋯];rfl
structure Vw(p:Nat->Option Int)(S:Nat->List Th)(D:List Th)(L:List Nat)(M:Mem):Prop where
 l2:M.ws.length<=200
 wo:jx M.ws
 ll:L.length<=20
 ce:∀k∈L,0<=pz p k/\pz p k+1+(S k).length<=M.ws.length/\(S k).length<=8/\∃n,kD M.ws (pz p k).toNat=some n/\n/4=(S k).length/\∀j:Nat,j<(S k).length->lN M.ws (pz p k+1+j)=wd p ((S k).getD j .no)
 inj:∀k∈L,∀i∈L,pz p k=pz p i->k=i
 gs:∀k∈L,∀t∈S k,Gt L t
 gd:∀t∈D,Gt L t
 hd:M.hw=D.map (wd p)
 dl:D.length<=6
section
variable{p:Nat->Option Int}{S:Nat->List Th}{D:List Th}{L:List Nat}{M:Mem}
theorem Vw.pp(v:Vw p S D L M):∀k∈L,0<=pz p k/\pz p k<=9999:=λk hk=>by
 have:=v.ce k hk;have:=v.l2;omega
theorem Vw.WU(v:Vw p S D L M){k:Nat}(hk:k∈L):(M.ws.drop ((pz p k).toNat+1)).take (S k).length=(S k).map (wd p):=by
 obtain⟨c0,c1,c2,n,c3,c4,c5⟩:=v.ce k hk;refine cV λi=> ?_;rw[fu,ak];by_cases z:i<(S k).length
 ·have:=c5 i z;unfold lN at this;rw[if_pos z,dB,ab z,bE,ab ⋯];rw[show(pz p k+1+(i:Int)).toNat=(pz p k).toNat+1+i by lia,af,ab ⋯,af,ab z]at this;exact congrArg some this
 ·rw[if_neg z,aS ⋯];rfl
theorem Vw.kids(v:Vw p S D L M){k:Nat}(hk:k∈L){n:Int}(hn:n/4=(S k).length):kids M.ws (pz p k).toNat n=(kn (S k)).map (pz p):=by
 unfold Internal.K21.kids;rw[hn,show((S k).length:Int).toNat=(S k).length from bf _,v.WU hk];exact ES λi hi=>(v.ce i (v.gs k hk _ hi)).1
theorem Vw.cl(v:Vw p S D L M):∀k∈L,∀q∈kn (S k),q∈L:=λk hk q hq=>v.gs k hk _ (oS.mp hq)
end
def Rd(S:Nat->List Th)(D:List Th)(res:List Nat):Prop:=Reach (λk=>kn (S k)) (nj [] (kn D)) 0 res
theorem Rd.all{S:Nat->List Th}{D:List Th}{res:List Nat}(h:Rd S D res):res.Nodup/\(∀t∈D,Gt res t∨∃n,t= .nu n)/\∀k∈res,∀q∈kn (S k),q∈res:=by
 obtain⟨h1,h2,h3⟩:=Reach.all h (by simpa using pK (W:=kn D) (F:=[]) bC) λi _ z=>by lia
 refine⟨h1,λt ht=> ?_,h3⟩
 cases t with
 |no=>exact .inl bB
 |nu n=>exact .inr ⟨n,rfl⟩
 |ce k=>exact .inl (h2 k (by simpa using BB (F:=[]) (oS.mpr ht)))
noncomputable def dr (res:List Nat):Th->Th
 | .ce k=> .ce (res.idxOf k)
 |t=>t
def OM(H:Hp):Th->V->Prop
 | .no,v=>v= .kr
 | .nu n,v=>v= .int n
 | .ce k,v=>∃a,v= .ref a/\H a=some (.tup [.str (aP "cell"),.int k])
structure Ar(H:Hp)(ts:List Th)(vs:List V):Prop where
 l:vs.length=ts.length
 g:∀(j:Nat) (t:Th) (v:V),ts[j]? =some t->vs[j]? =some v->OM H t v
theorem OM.kx{H H':Hp}{L:List Addr}{t:Th}{v:V}(h:OM H t v)(k:Kx L H H')(hT:∀a∈L,∀xs,H a≠some (.tup xs)):OM H' t v:=by
 cases t with
 |no=>exact h
 |nu n=>exact h
 |ce n=>obtain⟨a,e,z⟩:=h;exact⟨a,e,k _ _ z rfl λy=>hT a y _ z⟩
theorem Ar.kx{H H':Hp}{L:List Addr}{t:List Th}{v:List V}(h:Ar H t v)(k:Kx L H H')(hT:∀a∈L,∀xs,H a≠some (.tup xs)):Ar H' t v:=⟨h.l,λj t v e1 e2=>(h.g j t v e1 e2).kx k hT⟩
theorem OM.same{H H':Hp}{t:Th}{v:V}(h:OM H t v)(s:ja H H'):OM H' t v:=h.kx (L:=[]) (q_ s) λ_ z=>nomatch z
theorem Ar.same{H H':Hp}{ts:List Th}{vs:List V}(h:Ar H ts vs)(s:ja H H'):Ar H' ts vs:=h.kx (L:=[]) (q_ s) λ_ z=>nomatch z
theorem Ar.nil{H:Hp}:Ar H [] []:=⟨rfl,λ_ _ _ e=>nomatch e⟩
theorem Ar.snoc{H:Hp}{ts:List Th}{vs:List V}{t:Th}{v:V}(h:Ar H ts vs)(k:OM H t v):Ar H (ts++[t]) (vs++[v]):=by
 refine⟨by rw[ay,ay,h.l];rfl,λj t' v' e1 e2=> ?_⟩;by_cases z:j<ts.length
 ·rw[bj z]at e1;rw[bj (by rw[h.l];exact z)]at e2;exact h.g j t' v' e1 e2
 ·rw[bp ⋯]at e1;rw[bp (by rw[h.l];lia),h.l]at e2;by_cases y:j-ts.length=0
  ·rw[y]at e1 e2;cases e1;cases e2;exact k
  ·rw[aS (by show 1<=j-ts.length;lia)]at e1;cases e1
noncomputable def DQ (p:Nat->Option Int):Nat->List Nat->List (Key×V)
 |_,[]=>[]
 |i,k::r=>(aQ (pz p k),ι i)::DQ p (i+1) r
theorem KU{p:Nat->Option Int}:∀{res:List Nat} {i:Nat},(DQ p i res).length=res.length
 | [],_=>rfl
 |_::r,i=>by rw[DQ,aR,aR,KU]
theorem KW{p:Nat->Option Int}{k:Nat}:∀{res:List Nat} {i:Nat},k∈res->(∀a∈res,pz p a=pz p k->a=k)->mP (DQ p i res) (aQ (pz p k))=some (.int ((i+res.idxOf k:Nat):Int))
 | [],_,h,_=>nomatch h
 |a::r,i,h,inj=>by
  by_cases e:a=k
  ·subst e;rw[DQ,oM rfl,List.idxOf_cons_self];rfl
  ·rw[DQ,mQ (λz=>e (inj a (aq ..) (cP z))),KW ((List.mem_cons.mp h).resolve_left λz=>e z.symm) λb hb=>inj b (ai _ hb),fU,show(a==k)=false from beq_false_of_ne e];show ↥((i+1+r.idxOf k:Nat):Int)=↥((i+(r.idxOf k+1):Nat):Int);rw[show i+1+r.idxOf k=i+(r.idxOf k+1) by lia]
theorem NM{p:Nat->Option Int}{a:Int}:∀{res:List Nat} {i:Nat},(∀k∈res,pz p k≠a)->mP (DQ p i res) (aQ a)=none
 | [],_,_=>rfl
 |k::r,i,h=>by rw[DQ,mQ (λz=>h k (aq ..) (cP z)),NM λk hk=>h k (ai _ hk)]
theorem HJ{p:Nat->Option Int}{k:Nat}:∀{res:List Nat} {i:Nat},DQ p i (res++[k])=DQ p i res++[(aQ (pz p k),ι ((i+res.length:Nat):Int))]
 | [],i=>rfl
 |a::r,i=>by
  rw[bX,DQ,HJ,DQ,bX,aR];rw[show i+1+r.length=i+(r.length+1) by lia]
theorem P1{p:Nat->Option Int}{k:Nat}{res:List Nat}(h:∀a∈res,pz p a≠pz p k):putK (DQ p 0 res) (aQ (pz p k)) (ι (res.length:Int))=DQ p 0 (res++[k]):=by
 unfold putK;rw[rN,NM h,HJ,bR];rfl
theorem EJ{is:List Int}:(is.map ι).all l7=true:=by
 rw[fL];intro x hx;obtain⟨i,_,rfl⟩:=List.mem_map.mp hx;rfl
theorem KC{x:Int}{F:List Int}:QU (ι x) (F.map ι)=true↔x∈F:=by
 unfold QU;rw[List.any_eq_true];constructor
 ·rintro⟨y,hy,e⟩;obtain⟨z,hz,rfl⟩:=List.mem_map.mp hy;have:z=x:=by simpa [IG] using e
  rw[←this];exact hz
 ·intro h;exact⟨.int x,List.mem_map.mpr ⟨x,h,rfl⟩,by simp[IG]⟩
theorem Py{x:Int}{ks:List Int}:DI (ι x::ks.map ι) (some 1) none=ks.map ι:=by
 have e:HT.GX (ι x::ks.map ι).length (ι x::ks.map ι).length none=(ι x::ks.map ι).length:=rfl;have e1:HT.GX (ι x::ks.map ι).length 0 (some 1)=1:=(HT.Ga _ 0 1).trans (by rw[aR];lia);unfold DI;rw[e1,e,List.drop_one,List.tail_cons];exact gh (by simp)
theorem Ny{w:Int}{y:Str}(h:kd (.int w)=some y):decide (y=aP "place")=kj w:=by
 rcases Cm h with ⟨rfl,c⟩|⟨rfl,c⟩|⟨rfl,c⟩
 ·rw[decide_eq_false VT];exact(decide_eq_false ⋯).symm
 ·rw[decide_eq_false VS];exact(decide_eq_false ⋯).symm
 ·rw[decide_eq_true rfl];exact(decide_eq_true ⋯).symm
theorem mH{α:Type} [DecidableEq α]{M ks:List α}(nd:M.Nodup)(sub:∀x∈M,x∈ks):M.length<=ks.length:=len_sub nd sub
structure Pa where
 t:Addr
 l0:Addr
 l1:Addr
 v0:List V
 rs:List Addr
noncomputable def Pa.as (P:Pa):List Addr:=P.l0::P.l1::P.rs
structure Mt(H:Hp)(P:Pa)(ds:List Th)(rows:List (List Th)):Prop where
 tp:H P.t=some (.tup [.ref P.l0,.ref P.l1])
 h0:H P.l0=some (.lst P.v0)
 th:Ar H ds P.v0
 h1:H P.l1=some (.lst (P.rs.map ξ))
 rl:P.rs.length=rows.length
 row:∀(i:Nat) (a:Addr) (r:List Th),P.rs[i]? =some a->rows[i]? =some r->∃vs,H a=some (.lst vs)/\Ar H r vs
 nd:P.as.Nodup
noncomputable def dk (cs:List (Int×Int)):List (Key×V):=cs.map λc=>(aQ c.1,ι c.2)
noncomputable def Jr (cs:List (Int×Int)) (p:Int):Option Int:=(cs.find? λc=>decide (c.1=p)).map (·.2)
theorem RA{cs:List (Int×Int)}:(dk cs).length=cs.length:=ae ..
theorem KP{c:Int×Int}{r:List (Int×Int)}{p:Int}(e:c.1=p):Jr (c::r) p=some c.2:=by simp[Jr,cF,e]
theorem FI{c:Int×Int}{r:List (Int×Int)}{p:Int}(e:¬c.1=p):Jr (c::r) p=Jr r p:=by simp[Jr,cF,e]
theorem Fj{p:Int}:∀{cs:List (Int×Int)},mP (dk cs) (aQ p)=(Jr cs p).map ι
 | []=>rfl
 |c::r=>by
  by_cases e:c.1=p
  ·rw[KP e];exact oM (by show(aQ c.1:Key)=_;rw[e])
  ·rw[FI e,←Fj (cs:=r)];exact mQ (λz=>e (cP z))
theorem HB{p:Int}:∀{cs:List (Int×Int)},p∉cs.map (·.1)->Jr cs p=none
 | [],_=>rfl
 |c::r,h=>by
  rw[az,a_,not_or]at h;rw[FI (λz=>h.1 z.symm)];exact HB h.2
theorem RB{cs:List (Int×Int)}{p w:Int}(h:p∉cs.map (·.1)):putK (dk cs) (aQ p) (ι w)=dk (cs++[(p,w)]):=by
 have e:mP (dk cs) (aQ p)=none:=by rw[Fj,HB h];rfl
 unfold putK;rw[rN,e];simp[dk]
noncomputable def gl (f:Int->Int):List Int->Int->List (Int×Int)
 | [],_=>[]
 |p::r,g=>(p,g)::gl f r (g+f p)
theorem Ft{f:Int->Int}:∀{S:List Int} {g:Int},(gl f S g).map (·.1)=S
 | [],_=>rfl
 |p::r,g=>by rw[gl,az,Ft]
theorem RM{f:Int->Int}{S:List Int}{g:Int}:(gl f S g).length=S.length:=by rw[←ae (f:=(·.1)),Ft]
theorem Kw{f:Int->Int}{p:Int}:∀{S:List Int} {g:Int},gl f (S++[p]) g=gl f S g++[(p,g+(S.map f).sum)]
 | [],g=>by simp[gl]
 |q::r,g=>by simp only[bX,gl,Kw,az,bq];rw[show g+f q+(r.map f).sum=g+(f q+(r.map f).sum) by lia]
theorem Nd{f:Int->Int}:∀{S:List Int} {g:Int},S.Nodup->∀{i:Nat} (h:i<S.length),Jr (gl f S g) S[i]=some (g+((S.take i).map f).sum)
 | [],_,_,i,h=>by cases h
 |p::r,g,nd,0,h=>by rw[gl,List.getElem_cons_zero,KP rfl];simp
 |p::r,g,nd,i+1,h=>by
  rw[eW]at nd;have hi:i<r.length:=gj h;rw[gl,gc,FI (λz=>nd.1 (by rw[show p=r[i] from z];exact aG hi)),Nd nd.2 hi];simp only[gN,az,bq];rw[show g+f p+((r.take i).map f).sum=g+(f p+((r.take i).map f).sum) by lia]
theorem K_{f:Int->Int}:∀{S:List Int} {g:Int},(∀x∈S,g<=x)->S.Pairwise (λa b=>a+f a<=b)->(∀x∈S,0<=f x)->∀{i:Nat} (h:i<S.length),g+((S.take i).map f).sum<=S[i]
 | [],_,_,_,_,i,h=>by cases h
 |p::r,g,hg,hp,hf,0,h=>by simpa using hg p (aq ..)
 |p::r,g,hg,hp,hf,i+1,h=>by
  rw[cQ]at hp;have hi:i<r.length:=gj h;have h1:=hg p (aq ..);have z:=K_ (f:=f) (S:=r) (g:=g+f p) (λx hx=>by have:=hp.1 x hx;lia) hp.2 (λx hx=>hf x (ai _ hx)) hi;simp only[gN,az,bq,gc];lia
theorem B3{ws:List Int}{i j:Nat}{v:Int}:(ws.set i v).getD j 0=if i=j/\j<ws.length then v else ws.getD j 0:=by
 rw[af,af,aX];by_cases c:i=j
 ·subst c;by_cases d:i<ws.length
  ·rw[if_pos rfl,if_pos d,if_pos (And.intro rfl d)];rfl
  ·rw[if_pos rfl,if_neg d,if_neg (λz:i=i/\i<ws.length=>d z.2),aS ⋯]
 ·rw[if_neg c,if_neg (λz=>c z.1)]
noncomputable def tw (wh:List (Int×Int)) (w:Int):Int:=if kj w=true then 2*(Jr wh (w/2)).getD 0+1 else w
noncomputable def Wb (wh:List (Int×Int)) (w:Int):Prop:=(kd (.int w)).isSome=true/\(kj w=true->∃g,Jr wh (w/2)=some g/\0<=g/\g<=9999)
theorem tw_ok{wh:List (Int×Int)}{w:Int}(h:Wb wh w):(kd (.int (tw wh w))).isSome=true:=by
 unfold tw
 cases hp:kj w with
 |false=>rw[if_neg (by decide)];exact h.1
 |true=>
  obtain⟨g,e,g0,g1⟩:=h.2 hp;rw[if_pos rfl,e,dP,lX,if_neg ⋯,if_neg (by omega),if_pos ⋯];rfl
structure Vn(wh:List (Int×Int))(ws:List Int)(i n:Nat)(ws':List Int):Prop where
 len:ws'.length=ws.length
 ok:jx ws'
 hd:ws'.getD i 0=8*n+4
 sl:∀k,k<n->ws'.getD (i+1+k) 0=tw wh (ws.getD (i+1+k) 0)
 out:∀j,j<i∨i+n<j->ws'.getD j 0=ws.getD j 0
theorem KR{f:Int->Int}{ws:List Int}{i:Nat}(h:i<ws.length):((ws.take i).map f++ws.drop i).set i (f ws[i])=(ws.take (i+1)).map f++ws.drop (i+1):=by
 have hl:((ws.take i).map f).length=i:=by rw[ae,bP];lia
 rw[List.set_append_right _ _ ⋯,hl,d9,List.drop_eq_getElem_cons h,g_,bu h,aF,cf];rfl
theorem Kv{f g:Int->Int}:∀{S:List Int} {b:Int},(∀p∈S,f p=g p)->gl f S b=gl g S b
 | [],_,_=>rfl
 |p::r,b,h=>by rw[gl,gl,h p (aq ..),Kv λq hq=>h q (ai _ hq)]
theorem Ox{K:List Int}{e f:Int->Int}{T:Int}:∀{g:Int},K.Pairwise (λa b=>e a+f a<=e b)->(∀x∈K,g<=e x/\e x+f x<=T)->g<=T->g+(K.map f).sum<=T:=by
 induction K with
 |nil=>intro g _ _ h;simpa using h
 |cons x r ih=>
  intro g hp hx hg;rw[cQ]at hp;have h1:=hx x (aq ..);have:=ih (g:=e x+f x) hp.2 (λz hz=>⟨hp.1 z hz,(hx z (ai _ hz)).2⟩) h1.2;rw[az,bq];lia
noncomputable def GY (W:Int->List Int) (p:Int):Int:=1+(W p).length
noncomputable abbrev Au (W:Int->List Int) (K:List Int):List (Int×Int):=gl (GY W) K 0
noncomputable def ui (W:Int->List Int) (K:List Int) (i:Nat):Int:=((K.take i).map (GY W)).sum
section
variable{W:Int->List Int}{K:List Int}
theorem Lh(p:Int):1<=GY W p:=by unfold GY;lia
theorem uj{i:Nat}(h:i<K.length):ui W K (i+1)=ui W K i+GY W K[i]:=by
 unfold ui;rw[bu h,aF,fW];simp
theorem QS:ui W K 0=0:=rfl
theorem Fw{j:Nat}:∀{i:Nat},j<i->i<=K.length->ui W K j+1<=ui W K i
 |0,h,_=>by lia
 |i+1,h,hi=>by
  rw[uj (show i<K.length by lia)];have:=Lh (W:=W) K[i];by_cases c:j=i
  ·subst c;lia
  ·have:=Fw (j:=j) (i:=i) ⋯ ⋯;lia
theorem AD{i j:Nat}(h:i<=j)(hj:j<=K.length):ui W K i<=ui W K j:=by
 by_cases c:i=j
 ·subst c;exact cO _
 ·have:=Fw (W:=W) (K:=K) (j:=i) (i:=j) ⋯ hj;lia
theorem B5{i:Nat}(hi:i<=K.length):0<=ui W K i:=by have:=AD (W:=W) (K:=K) (i:=0) (j:=i) ⋯ hi;rw[QS]at this;exact this
theorem OG(nd:K.Nodup){i:Nat}(h:i<K.length):Jr (Au W K) K[i]=some (ui W K i):=by
 rw[Au,Nd nd h,dZ];rfl
theorem OH(nd:K.Nodup){p:Int}(h:p∈K):∃i,∃hi:i<K.length,K[i]=p/\Jr (Au W K) p=some (ui W K i):=by
 obtain⟨i,hi,rfl⟩:=List.mem_iff_getElem.mp h;exact⟨i,hi,rfl,OG nd hi⟩
end
structure Gw(W:Int->List Int)(K:List Int)(M:Mem):Prop where
 lt:K.Pairwise (·<·)
 l2:M.ws.length<=200
 ok:jx M.ws
 cl:∀a∈K,0<=a/\a+1+(W a).length<=M.ws.length/\(W a).length<=8/\∃n,kD M.ws a.toNat=some n/\n/4=(W a).length
 wd:∀a∈K,∀k,k<(W a).length->M.ws.getD (a.toNat+1+k) 0=(W a).getD k 0
 sep:K.Pairwise λa b=>a+GY W a<=b
 Mf:ui W K K.length<=M.so.e
 se:M.so.e<=M.ws.length/\M.so.b=0
 wb:∀a∈K,∀v∈W a,Wb (Au W K) v
 hb:∀v∈M.hw,Wb (Au W K) v
 kl:K.length<=20
structure Sd(W:Int->List Int)(K ws0:List Int)(i:Nat)(ws:List Int):Prop where
 len:ws.length=ws0.length
 ok:jx ws
 done:∀(j:Nat) (h:j<K.length),j<i->ws.getD (ui W K j).toNat 0=8*((W K[j]).length:Int)+4/\∀k,k<(W K[j]).length->ws.getD ((ui W K j).toNat+1+k) 0=tw (Au W K) ((W K[j]).getD k 0)
 rest:∀a:Nat,(∀(j:Nat) (h:j<K.length),j<i->K[j]+GY W K[j]<=a)->ws.getD a 0=ws0.getD a 0
theorem Sd.step{W:Int->List Int}{M:Mem}{K:List Int}(g:Gw W K M){i:Nat}(hi:i<K.length){ws ws1:List Int}(s:Sd W K M.ws i ws)(r:Vn (Au W K) ws K[i].toNat (W K[i]).length ws1):
  Sd W K M.ws (i+1) (cp ws1 ((ws1.drop K[i].toNat).take ((W K[i]).length+1)) (ui W K i).toNat ((W K[i]).length+1)):=by
 have Mf:=g.Mf;have l2:=g.l2;have se:=g.se;obtain⟨c0,c1,_⟩:=g.cl _ (aG hi);have sep:=g.sep;have h1:=uj (W:=W) hi;have h2:=AD (W:=W) (K:=K) (i:=i+1) (j:=K.length) hi (au _);have h3:=B5 (W:=W) (K:=K) (i:=i) ⋯;have gk:ui W K i<=K[i]:=by
  have:=K_ (f:=GY W) (S:=K) (g:=0) (λx hx=>(g.cl x hx).1) sep (λx _=>by have:=Lh (W:=W) x;lia) hi;unfold ui;lia
 have rl:=r.len;have sl:=s.len;have ez:GY W K[i]=1+(W K[i]).length:=rfl;have kl:((ws1.drop K[i].toNat).take ((W K[i]).length+1)).length=(W K[i]).length+1:=by rw[bP,eM];(clear ez;lia)
 have gd:∀k,k<(W K[i]).length+1->((ws1.drop K[i].toNat).take ((W K[i]).length+1)).getD k 0=ws1.getD (K[i].toNat+k) 0:=λk hk=>by
  rw[af,d8 hk,dB,←af]
 have inn:∀k,k<(W K[i]).length+1->(cp ws1 ((ws1.drop K[i].toNat).take ((W K[i]).length+1)) (ui W K i).toNat ((W K[i]).length+1)).getD ((ui W K i).toNat+k) 0=ws1.getD (K[i].toNat+k) 0:=λk hk=>by
  rw[Kp _ ⋯ ⋯ (by(clear ez l2;lia)),show(ui W K i).toNat+k-(ui W K i).toNat=k by lia,gd k hk]
 refine⟨by rw[rS];lia,MV r.ok (λz hz=>r.ok z (eT (eU hz))) _,λj hj hji=> ?_,λa ha=> ?_⟩
 ·by_cases z:j=i
  ·subst z;refine⟨by have:=inn 0 ⋯;simp only[eY]at this;rw[this,r.hd],λk hk=> ?_⟩;have:=inn (1+k) ⋯;rw[←Nat.add_assoc,←Nat.add_assoc]at this;rw[this,r.sl k hk,s.rest _ (λm hm hmj=> ?_),g.wd _ (aG hi) k hk];have:=List.pairwise_iff_getElem.mp sep m j hm hj hmj
   (clear hk c0 r;lia)
  ·have jl:ui W K (j+1)<=ui W K i:=AD ⋯ ⋯;have jn:=uj (W:=W) hj;have j0:=B5 (W:=W) (K:=K) (i:=j) (by(clear z;lia));have ej:GY W K[j]=1+(W K[j]).length:=rfl;obtain⟨q1,q2⟩:=s.done j hj ⋯;refine⟨?_,λk hk=> ?_⟩
   ·rw[AB _ (by(clear q1 kl ez Mf;lia)),r.out _ (by(clear q1 kl ez l2;lia))];exact q1
   ·rw[AB _ (by(clear q1 kl ez l2 Mf;omega)),r.out _ (by(clear q1 kl ez Mf;omega))];exact q2 k hk
 ·have q:=ha i hi ⋯;rw[AB _ (by(clear kl rl h3 h1 Mf;omega)),r.out _ (by(clear h1;lia))];exact s.rest a λj hj hji=>ha j hj ⋯
structure Lw(p:Nat->Option Int)(S:Nat->List Th)(L:List Nat)(M:Mem):Prop where
 so:M.so.b=0/\0<=M.so.t/\M.so.e<=M.ws.length
 sy:M.so.t<=M.sy.b/\M.sy.b<=M.sy.t
 us:M.so.t+(M.sy.t-M.sy.b)<=M.so.e
 pl:∀k∈L,pz p k+1+(S k).length<=M.so.t∨(M.sy.b<=pz p k/\pz p k+1+(S k).length<=M.sy.t)
 sep:∀k∈L,∀i∈L,pz p k<pz p i->pz p k+1+(S k).length<=pz p i
noncomputable def vz (p:Nat->Option Int) (S:Nat->List Th) (L:List Nat) (a:Int):List Int:=(S ((L.find? λk=>decide (pz p k=a)).getD 0)).map (wd p)
section
variable{p:Nat->Option Int}{S:Nat->List Th}{D:List Th}{L res:List Nat}{M:Mem}
theorem Vw.vz(v:Vw p S D L M){k:Nat}(hk:k∈L):vz p S L (pz p k)=(S k).map (wd p):=by
 unfold Internal.K21.vz
 cases e:L.find? λi=>decide (pz p i=pz p k) with
 |none=>have:=List.find?_eq_none.mp e k hk;simp at this
 |some i=>
  have h1:=List.mem_of_find?_eq_some e;have h2:pz p i=pz p k:=by simpa using List.find?_some e
  rw[v.inj i h1 k hk h2];rfl
noncomputable def Kz (p:Nat->Option Int) (res:List Nat):List Int:=jS (res.map (pz p))
theorem qz{a:Int}:a∈Kz p res↔∃k∈res,pz p k=a:=by
 unfold Kz;rw[(ko _).mem_iff,g9]
theorem Vw.rs(v:Vw p S D L M)(rd:Rd S D res):(∀k∈res,k∈L)/\(∀t∈D,Gt res t)/\∀k∈res,∀t∈S k,Gt res t:=by
 have sub:∀k∈res,k∈L:=Reach.sub rd v.cl λk hk=>v.gd _ (oS.mp (qj hk));refine⟨sub,λt ht=> ?_,λk hk t ht=> ?_⟩
 ·rcases rd.all.2.1 t ht with z|⟨n,z⟩
  ·exact z
  ·have:=v.gd t ht;rw[z]at this⊢;exact this
 ·cases t with
  |no=>exact bB
  |nu n=>exact v.gs k (sub k hk) _ ht
  |ce i=>exact rd.all.2.2 k hk i (oS.mpr ht)
theorem Vw.klt(v:Vw p S D L M)(rd:Rd S D res):(Kz p res).Pairwise (·<·):=by
 refine uv (rY _) ((ko _).nodup_iff.mpr (NK rd.all.1 λa ha b hb e=>v.inj a ((v.rs rd).1 a ha) b ((v.rs rd).1 b hb) e))
theorem Vw.gw(v:Vw p S D L M)(w:Lw p S L M)(rd:Rd S D res):Gw (Internal.K21.vz p S L) (Kz p res) M:=by
 obtain⟨sub,gd,gs⟩:=v.rs rd;have lt:=v.klt rd;have nd:=CB lt;have l2:=v.l2;obtain⟨so1,so2,so3⟩:=w.so;obtain⟨sy1,sy2⟩:=w.sy;have us:=w.us;have wl:∀k∈res,(Internal.K21.vz p S L (pz p k)).length=(S k).length:=λk hk=>by rw[v.vz (sub k hk),ae]
 have zw:∀k∈res,GY (Internal.K21.vz p S L) (pz p k)=1+(S k).length:=λk hk=>by unfold GY;rw[wl k hk]
 have sep:(Kz p res).Pairwise λa b=>a+GY (Internal.K21.vz p S L) a<=b:=lt.imp_of_mem λ{a b} ha hb hab=>by
  obtain⟨k,hk,rfl⟩:=qz.mp ha;obtain⟨i,hi,rfl⟩:=qz.mp hb;have:=w.sep k (sub k hk) i (sub i hi) hab;rw[zw k hk];lia
 have Mf:ui (Internal.K21.vz p S L) (Kz p res) (Kz p res).length<=M.so.e:=by
  have h:=Ox (K:=Kz p res) (e:=λa=>if a<M.so.t then a else a-M.sy.b+M.so.t) (f:=GY (Internal.K21.vz p S L)) (T:=M.so.t+(M.sy.t-M.sy.b)) (g:=0) (sep.imp_of_mem λ{a b} ha hb hab=> ?_) (λa ha=> ?_) ⋯
  ·unfold ui;rw[bt];lia
  ·obtain⟨k,hk,rfl⟩:=qz.mp ha;obtain⟨i,hi,rfl⟩:=qz.mp hb;have p1:=w.pl k (sub k hk);have p2:=w.pl i (sub i hi);rw[zw k hk]at hab⊢;have:=v.pp k (sub k hk)
   split<;>split<;>lia
  ·obtain⟨k,hk,rfl⟩:=qz.mp ha;have p1:=w.pl k (sub k hk);rw[zw k hk];have:=v.pp k (sub k hk)
   split<;>lia
 have wb:∀{t:Th},Gt L t->Gt res t->Wb (Au (Internal.K21.vz p S L) (Kz p res)) (wd p t):=λ{t} g gr=>by
  refine⟨Cn g v.pp,λhp=> ?_⟩
  cases t with
  |no=>exact absurd hp (show¬kj (-1)=true by decide)
  |nu n=>rw[show wd p (Th.nu n)=2*n from rfl,rX]at hp;cases hp
  |ce i=>
   obtain⟨j,hj,_,e⟩:=OH (W:=Internal.K21.vz p S L) nd (qz.mpr ⟨i,gr,rfl⟩);have h1:=B5 (W:=Internal.K21.vz p S L) (K:=Kz p res) (i:=j) ⋯;have h2:=AD (W:=Internal.K21.vz p S L) (K:=Kz p res) (i:=j) (j:=(Kz p res).length) ⋯ (au _);refine⟨_,?_,h1,⋯⟩;rw[show wd p (Th.ce i)=2*pz p i+1 from rfl,show(2*pz p i+1)/2=pz p i by lia];exact e
 refine⟨lt,l2,v.wo,λa ha=> ?_,λa ha j hj=> ?_,sep,Mf,⟨so3,so1⟩,λa ha x hx=> ?_,λx hx=> ?_,?_⟩
 ·obtain⟨k,hk,rfl⟩:=qz.mp ha;obtain⟨c0,c1,c2,n,c3,c4,_⟩:=v.ce k (sub k hk);rw[wl k hk];exact⟨c0,c1,c2,n,c3,c4⟩
 ·obtain⟨k,hk,rfl⟩:=qz.mp ha;rw[wl k hk]at hj;obtain⟨c0,c1,c2,n,c3,c4,c5⟩:=v.ce k (sub k hk);have:=c5 j hj;unfold lN at this;rw[show(pz p k+1+(j:Int)).toNat=(pz p k).toNat+1+j by lia]at this;rw[this,v.vz (sub k hk),af (l:=bV _ _),ak,af,ab hj];rfl
 ·obtain⟨k,hk,rfl⟩:=qz.mp ha;rw[v.vz (sub k hk)]at hx;obtain⟨t,ht,rfl⟩:=List.mem_map.mp hx;exact wb (v.gs k (sub k hk) t ht) (gs k hk t ht)
 ·rw[v.hd]at hx;obtain⟨t,ht,rfl⟩:=List.mem_map.mp hx;exact wb (v.gd t ht) (gd t ht)
 ·have:=mH rd.all.1 sub;have:=v.ll;unfold Kz;rw[(ko _).length_eq,ae];lia
noncomputable def VH (p:Nat->Option Int) (S:Nat->List Th) (L res:List Nat) (k:Nat):Option Int:=Jr (Au (Internal.K21.vz p S L) (Kz p res)) (pz p k)
theorem tw_wd{wh:List (Int×Int)}{t:Th}(hp:∀k,t= .ce k->0<=pz p k):tw wh (wd p t)=wd (λk=>Jr wh (pz p k)) t:=by
 unfold tw
 cases t with
 |no=>exact if_neg (show¬kj (-1)=true by decide)
 |nu n=>exact if_neg (show¬kj (2*n)=true by rw[rX];decide)
 |ce k=>rw[show wd p (Th.ce k)=2*pz p k+1 from rfl,if_pos (o_ (hp k rfl)),show(2*pz p k+1)/2=pz p k by lia];rfl
theorem Vw.Wd(v:Vw p S D L M)(w:Lw p S L M)(rd:Rd S D res){M':Mem}(sd:Sd (Internal.K21.vz p S L) (Kz p res) M.ws (Kz p res).length M'.ws)(hw:M'.hw=M.hw.map (tw (Au (Internal.K21.vz p S L) (Kz p res)))):Vw (VH p S L res) S D res M':=by
 obtain⟨sub,gd,gs⟩:=v.rs rd;have g:=v.gw w rd;have nd:=CB g.lt;have l2:=v.l2;have Mf:=g.Mf;have se:=g.se;have sl:=sd.len;have at':∀k∈res,∃i,∃hi:i<(Kz p res).length,(Kz p res)[i]=pz p k/\pz (VH p S L res) k=ui (Internal.K21.vz p S L) (Kz p res) i:=λk hk=>by
  obtain⟨i,hi,e1,e2⟩:=OH (W:=Internal.K21.vz p S L) nd (qz.mpr ⟨k,hk,rfl⟩);exact⟨i,hi,e1,by show((Jr _ (pz p k)).getD 0)=_;rw[e2];rfl⟩
 have twd:∀{t:Th},Gt L t->tw (Au (Internal.K21.vz p S L) (Kz p res)) (wd p t)=wd (VH p S L res) t:=λ{t} gt=>tw_wd λk e=>by subst e;exact(v.pp k gt).1
 refine⟨⋯,sd.ok,av (mH rd.all.1 sub) v.ll,λk hk=> ?_,λk hk i hi e=> ?_,gs,gd,?_,v.dl⟩
 ·obtain⟨i,hi,e1,e2⟩:=at' k hk;obtain⟨d1,d2⟩:=sd.done i hi hi;rw[e1,v.vz (sub k hk),ae]at d1 d2;have h1:=uj (W:=Internal.K21.vz p S L) hi;have h2:=AD (W:=Internal.K21.vz p S L) (K:=Kz p res) (i:=i+1) (j:=(Kz p res).length) hi (au _);have h3:=B5 (W:=Internal.K21.vz p S L) (K:=Kz p res) (i:=i) ⋯;have ez:GY (Internal.K21.vz p S L) (Kz p res)[i]=1+(S k).length:=by unfold GY;rw[e1,v.vz (sub k hk),ae]
  have c2:=(v.ce k (sub k hk)).2.2.1;rw[e2];refine⟨h3,⋯,c2,4*((S k).length:Int)+2,?_,⋯,λj hj=> ?_⟩
  ·rw[l6,d1,if_pos ⋯];congr 1;lia
  ·have:=d2 j hj;unfold lN;rw[show(ui (Internal.K21.vz p S L) (Kz p res) i+1+(j:Int)).toNat=(ui (Internal.K21.vz p S L) (Kz p res) i).toNat+1+j by(clear ez;lia),this,af (l:=bV _ _),ak,ab hj,af,ab hj];exact twd (v.gs k (sub k hk) _ (aG hj))
 ·obtain⟨a,ha,e1,e2⟩:=at' k hk;obtain⟨b,hb,f1,f2⟩:=at' i hi;rw[e2,f2]at e;rcases ir a b with z|z|z
  ·have:=Fw (W:=Internal.K21.vz p S L) z (dM hb);lia
  ·subst z;rw[e1]at f1;exact v.inj k (sub k hk) i (sub i hi) f1
  ·have:=Fw (W:=Internal.K21.vz p S L) z (dM ha);lia
 ·rw[hw,v.hd,bQ];exact cm λt ht=>twd (v.gd t ht)
end
section
variable{x:Own}{M:Mem}{O Y:List (Nat×Int)}
noncomputable def DP (O Y:List (Nat×Int)):List Nat:=(O++Y).map aD
theorem In.DP(I:In x M O Y){k:Nat}:k∈DP O Y↔∃a,(k,a)∈O∨(k,a)∈Y:=by
 unfold Internal.K21.DP;rw[g9];constructor
 ·rintro⟨e,he,rfl⟩;exact⟨e.2,List.mem_append.mp he⟩
 ·rintro⟨a,h⟩;exact⟨(k,a),List.mem_append.mpr h,rfl⟩
theorem In.gt(I:In x M O Y){t:Th}(g:Gd x t):Gt (Internal.K21.DP O Y) t:=by
 cases t with
 |no=>exact bB
 |nu n=>exact g
 |ce k=>
  obtain⟨a,e⟩:=Option.isSome_iff_exists.mp g.2;exact I.DP.mpr ⟨a,I.at g.1 e⟩
theorem In.vw(I:In x M O Y):Vw x.p x.s x.D (Internal.K21.DP O Y) M:=by
 have f:=I.fr;refine⟨f.l2,I.wo,?_,λk hk=> ?_,λk hk i hi e=> ?_,λk hk t ht=> ?_,λt ht=>I.gt (I.gd t ht),I.hd,I.d4.2⟩
 ·have nd:(Internal.K21.DP O Y).Nodup:=by
   unfold Internal.K21.DP;rw[aF,iq];refine⟨I.WM,FH x.z1 I.ly λk q q' m m'=> ?_,λa ha b hb e=> ?_⟩
   ·have e:=((I.ye k q).mp m).2.2;rw[((I.ye k q').mp m').2.2]at e
    cases e;rfl
   ·obtain⟨u,hu,rfl⟩:=List.mem_map.mp ha;obtain⟨v,hv,rfl⟩:=List.mem_map.mp hb;have h1:=((I.oe u.1 u.2).mp hu).2.1;have h2:=((I.ye v.1 v.2).mp hv).2.1;rw[e]at h1;lia
  have:=len_sub nd (m:=aW 20) λk hk=>by
   obtain⟨a,m⟩:=I.DP.mp hk;have:=(I.pl m).1;have:=I.LU;exact List.mem_range.mpr ⋯
  rwa[aY]at this
 ·obtain⟨a,m⟩:=I.DP.mp hk;obtain⟨p1,p2,p3,p4⟩:=I.pl m;obtain⟨c1,c2⟩:=I.ce k a m;have ag:=I.ag k p1;have s8:=I.s8 k;have ez:x.z k=(x.s k).length+1:=rfl;have ep:pz x.p k=a:=by unfold pz;rw[p2];rfl
  rw[ep];refine⟨p3,⋯,s8,4*((x.s k).length:Int)+x.g k,?_,by(clear ez;lia),c2⟩;rw[l6,show M.ws.getD a.toNat 0=lN M.ws a from rfl,c1,if_pos ⋯];congr 1;(clear ez;lia)
 ·obtain⟨a,m⟩:=I.DP.mp hk;obtain⟨b,m'⟩:=I.DP.mp hi;have e1:pz x.p k=a:=by unfold pz;rw[(I.pl m).2.1];rfl
  have e2:pz x.p i=b:=by unfold pz;rw[(I.pl m').2.1];rfl
  have:=x.z1 k;have:=x.z1 i;exact(I.QQ m m' (i:=a) ⋯ ⋯ ⋯ ⋯).1
 ·obtain⟨a,m⟩:=I.DP.mp hk;exact I.gt (I.gs k a m t ht)
theorem In.lw(I:In x M O Y):Lw x.p x.s (Internal.K21.DP O Y) M:=by
 have f:=I.fr;have hv:=f.hv;have:=f.ot;have:=f.o0;have:=f.yw;have:=f.y0;have:=f.yt;have:=f.rm;have ez:∀k,x.z k=(x.s k).length+1:=λ_=>rfl;refine⟨⟨f.ob,f.o0,⋯⟩,⟨⋯,f.y0⟩,⋯,λk hk=> ?_,λk hk i hi e=> ?_⟩
 ·obtain⟨a,m⟩:=I.DP.mp hk;have e1:pz x.p k=a:=by unfold pz;rw[(I.pl m).2.1];rfl
  have:=ez k;rw[e1];rcases m with m|m
  ·have:=I.Jx m;exact .inl ⋯
  ·have:=I.Lk m;exact .inr ⋯
 ·obtain⟨a,m⟩:=I.DP.mp hk;obtain⟨b,m'⟩:=I.DP.mp hi;have e1:pz x.p k=a:=by unfold pz;rw[(I.pl m).2.1];rfl
  have e2:pz x.p i=b:=by unfold pz;rw[(I.pl m').2.1];rfl
  rw[e1,e2]at e⊢;have:=ez k;have:=x.z1 i;refine Int.not_lt.mp λz=> ?_;have:=I.QQ m m' (i:=b) ⋯ ⋯ ⋯ ⋯;lia
end
noncomputable def ur (p:Nat->Option Int):Nat->List Addr->List (Key×V)
 |_,[]=>[]
 |i,a::r=>(aQ (pz p i),ξ a)::ur p (i+1) r
theorem Jq{p:Nat->Option Int}:∀{rs:List Addr} {i j:Nat},(ur p i rs)[j]? =rs[j]?.map λa=>(aQ (pz p (i+j)),ξ a)
 | [],_,_=>rfl
 |a::r,i,0=>rfl
 |a::r,i,j+1=>by rw[ur,di,di,Jq,show i+1+j=i+(j+1) by lia]
theorem x_{p:Nat->Option Int}:∀{rs:List Addr} {i:Nat},(ur p i rs).length=rs.length
 | [],_=>rfl
 |_::r,i=>by rw[ur,aR,aR,x_]
theorem KO{p:Nat->Option Int}{k:Nat}{b:Addr}:∀{rs:List Addr} {i:Nat},i<=k->rs[k-i]? =some b->(∀j,i<=j->j<k->pz p j≠pz p k)->mP (ur p i rs) (aQ (pz p k))=some (.ref b)
 | [],i,_,h,_=>by cases h
 |a::r,i,hi,h,inj=>by
  by_cases e:i=k
  ·subst e;rw[d9]at h;cases h
   exact oM rfl
  ·rw[ur,mQ (λz=>inj i (au _) ⋯ (cP z))];refine KO (i:=i+1) ⋯ ?_ λj h1 h2=>inj j ⋯ h2;rw[show k-i=(k-(i+1))+1 by lia]at h;exact h
theorem NC{p:Nat->Option Int}{a:Int}:∀{rs:List Addr} {i:Nat},(∀j,i<=j->j<i+rs.length->pz p j≠a)->mP (ur p i rs) (aQ a)=none
 | [],_,_=>rfl
 |b::r,i,h=>by
  rw[ur,mQ (λz=>h i (au _) (by rw[aR];lia) (cP z)),NC λj h1 h2=>h j ⋯ (by rw[aR];lia)]
theorem Hz{p:Nat->Option Int}{b:Addr}:∀{rs:List Addr} {i:Nat},ur p i (rs++[b])=ur p i rs++[(aQ (pz p (i+rs.length)),ξ b)]
 | [],i=>rfl
 |a::r,i=>by rw[bX,ur,Hz,ur,bX,aR,show i+1+r.length=i+(r.length+1) by lia]
theorem Hy{p p':Nat->Option Int}:∀{rs:List Addr} {i:Nat},(∀j,i<=j->j<i+rs.length->p j=p' j)->ur p i rs=ur p' i rs
 | [],_,_=>rfl
 |a::r,i,h=>by
  rw[ur,ur,Hy λj h1 h2=>h j ⋯ (by rw[aR];lia)];unfold pz;rw[h i (au _) (by rw[aR];lia)]
theorem Cr{p:Nat->Option Int}{rs:List Addr}:bV (λq=>kV q.fst) (ur p 0 rs)=((aW rs.length).map λk=>pz p k).map ι:=by
 refine cV λj=> ?_;rw[ak,Jq,ak,ak];by_cases z:j<rs.length
 ·rw[ab z,bT z,bR];rfl
 ·rw[aS ⋯,aS (by rw[aY];lia)];rfl
structure tS(H:Hp)(C:Addr)(rs:List Addr)(x:Own):Prop where
 dc:H C=some (.dK (ur x.p 0 rs))
 rl:rs.length=x.G.length
 row:∀(k:Nat) (a:Addr),rs[k]? =some a->H a=some (.lst (((x.s k).map (wd x.p)).map ι))
 nd:(C::rs).Nodup
structure All(x:Own):Prop where
 al:∀k,k<x.G.length->(x.p k).isSome=true
 inj:∀k i,k<x.G.length->i<x.G.length->pz x.p k=pz x.p i->k=i
 pp:∀k,k<x.G.length->0<=pz x.p k/\pz x.p k<=9999
 LU:x.G.length<=20
 s8:∀k,(x.s k).length<=8
 gs:∀k,k<x.G.length->∀t∈x.s k,Gd x t
 gd:∀t∈x.D,Gd x t
 d6:x.D.length<=6
theorem In.all{x:Own}{M:Mem}{O Y:List (Nat×Int)}(I:In x M O Y)(al:∀k,k<x.G.length->(x.p k).isSome=true):All x:=by
 have v:=I.vw;have lv:∀k,k<x.G.length->k∈Internal.K21.DP O Y:=λk hk=>I.gt (t:= .ce k) ⟨hk,al k hk⟩;refine⟨al,λk i hk hi e=>v.inj k (lv k hk) i (lv i hi) e,λk hk=>v.pp k (lv k hk),I.LU,I.s8,λk hk t ht=> ?_,I.gd,I.d4.2⟩;obtain⟨a,m⟩:=I.DP.mp (lv k hk);exact I.gs k a m t ht
theorem tS.val{H:Hp}{C:Addr}{rs:List Addr}{x:Own}(c:tS H C rs x)(w:All x){k:Nat}(hk:k<x.G.length):∃a,rs[k]? =some a/\mP (ur x.p 0 rs) (aQ (pz x.p k))=some (.ref a)/\H a=some (.lst (((x.s k).map (wd x.p)).map ι)):=by
 have hk':k<rs.length:=by rw[c.rl];exact hk
 exact⟨rs[k],ab hk',KO (bh _) (by rw[hE];exact ab hk') λj _ hj e=>by have:=w.inj j k ⋯ hk e;lia,c.row k _ (ab hk')⟩
noncomputable def J5 (n:Nat) (s:Int):Th:=if s/11%6=0∨(n=0/\1<s/11%6) then .no else if s/11%6=1 then .nu (s/66*40009%2000000000001-1000000000000) else .ce (s/66%n).toNat
theorem GR{x:Own}{s:Int}(al:∀k,k<x.G.length->(x.p k).isSome=true):Gd x (J5 x.G.length s):=by
 unfold J5;by_cases c0:s/11%6=0∨(x.G.length=0/\1<s/11%6)
 ·rw[if_pos c0];exact bB
 rw[if_neg c0];by_cases c1:s/11%6=1
 ·rw[if_pos c1];show _<=_/\_<=_;lia
 rw[if_neg c1];have pos:x.G.length≠0:=λz=>c0 (by by_cases q:s/11%6=0;exact .inl q;exact .inr ⟨z,⋯⟩);have i0:=dW (s/66) (show(x.G.length:Int)≠0 by lia);have i1:=dA (s/66) (show(0:Int)<x.G.length by lia);have:(s/66%x.G.length).toNat<x.G.length:=by lia
 exact⟨this,al _ this⟩
theorem Hx{z:Nat->Int}(hz:∀k,1<=z k):∀{l:List (Nat×Int)} {a b:Int},oG z a l b->(l.map aD).Pairwise (·<·)->∀{k i:Nat} {p q:Int},(k,p)∈l->(i,q)∈l->k<i->p+z k<=q
 | [],_,_,_,_,_,_,_,_,m,_,_=>nomatch m
 |e::r,a,b,h,s,k,i,p,q,m,m',lt=>by
  rw[az,cQ]at s;rcases List.mem_cons.mp m with m|m
  ·rcases List.mem_cons.mp m' with m'|m'
   ·rw[←m']at m;cases m;lia
   ·have:=oH hz h.2 m';have h1:=h.1;rw[←m]at h1 this;dsimp only at h1 this;lia
  ·rcases List.mem_cons.mp m' with m'|m'
   ·have:=s.1 k (List.mem_map.mpr ⟨(k,p),m,rfl⟩);rw[←m']at this;dsimp only at this
    (clear m';lia)
   ·exact Hx hz h.2 s.2 m m' lt
noncomputable def LV (x:Own) (ks:List Int) (k j:Nat) (a:Int) (t:Th):List Int:=if (decide (x.g k=2)&&LG x t)=true then Je (CV ks (a+1+j)) (a+1+j) else CV ks (a+1+j)
theorem K7{ks:List Int}{p:Int}(h:ks.Nodup):(CV ks p).Nodup:=h.filter _
theorem CY{ks:List Int}{p q:Int}:q∈CV ks p↔q∈ks/\q≠p:=by unfold CV;rw[iD];simp
theorem Sb{x:Own}{ks:List Int}{k j:Nat}{a:Int}{t:Th}(h:ks.Nodup):(LV x ks k j a t).Nodup:=by
 unfold LV
 split
 ·exact Nn (K7 h)
 ·exact K7 h
theorem P0{x:Own}{ks:List Int}{k j:Nat}{a:Int}{t:Th}(q:Int):q∈LV x ks k j a t↔(q∈ks/\q≠a+1+(j:Int))∨(q=a+1+(j:Int)/\x.g k=2/\LG x t=true):=by
 unfold LV;by_cases c:(decide (x.g k=2)&&LG x t)=true
 ·rw[if_pos c,KA,CY];rw[aV,decide_eq_true_eq]at c;exact⟨λz=>z.imp id λe=>⟨e,c⟩,λz=>z.imp id λe=>e.1⟩
 ·rw[if_neg c,CY];rw[aV,decide_eq_true_eq]at c;exact⟨.inl,λz=>z.resolve_right λe=>c e.2⟩
section
variable{x:Own}{M:Mem}{O Y:List (Nat×Int)}
theorem In.Wu(I:In x M O Y){k:Nat}{a:Int}(m:(k,a)∈O):ON (.int a) M.so M.sy= .str (aP "old"):=by
 have r:=I.Jx m;have:=x.z1 k;have:=I.fr.ob;unfold ON;rw[if_pos (BM ⋯ ⋯)]
theorem In.Wv(I:In x M O Y){k:Nat}{a:Int}(m:(k,a)∈Y):ON (.int a) M.so M.sy= .str (aP "young"):=by
 have r:=I.Lk m;have:=x.z1 k;have f:=I.fr;have:=f.hv;have:=f.ot;have:=f.o0;have:=f.yw;have:=f.y0;have:=f.yt;unfold ON;rw[if_neg (by unfold wi;simp;lia),if_pos (BM ⋯ ⋯)]
theorem tS.put{H H':Hp}{C:Addr}{rs:List Addr}(c:tS H C rs x)(hS:x.S.length=x.G.length){k j:Nat}{ra:Addr}(er:rs[k]? =some ra){t:Th}(e:H' ra=some (.lst ((((x.s k).set j t).map (wd x.p)).map ι)))(f:∀b∈C::rs,b≠ra->∀u,H b=some u->H' b=some u):tS H' C rs (x.put k j t):=by
 have hk:k<x.S.length:=by rw[hS,←c.rl];exact(List.getElem?_eq_some_iff.mp er).1
 have nC:C≠ra:=λz=>(List.nodup_cons.mp c.nd).1 (by rw[z];exact ba er);refine⟨f C (aq ..) nC _ c.dc,c.rl,λi b eb=> ?_,c.nd⟩;rw[Own.K4 hk];by_cases z:i=k
 ·subst z;rw[er]at eb;cases eb
  rw[if_pos rfl];exact e
 ·rw[if_neg z];refine f b (ai _ (ba eb)) (λy=>z ?_) _ (c.row i b eb);obtain⟨h1,e1⟩:=List.getElem?_eq_some_iff.mp eb;obtain⟨h2,e2⟩:=List.getElem?_eq_some_iff.mp er;have nd:=(List.nodup_cons.mp c.nd).2;rcases ir i k with l|l|l
  ·exact absurd (e1.trans (y.trans e2.symm)) ((List.pairwise_iff_getElem.mp nd) i k h1 h2 l)
  ·exact l
  ·exact absurd (e2.trans (y.symm.trans e1.symm)) ((List.pairwise_iff_getElem.mp nd) k i h2 h1 l)
end
theorem Uj{tc:TT}{t u:TS}{D:Ends}{σ:St}{H:Hp}(b:Bool)(h:∀K:Bool->Hp->Prop,K b H->tc σ H K)(ht:b=true->t D σ H)(hu:b=false->u D σ H):IA tc t u D σ H:=by
 cases b with
 |true=>exact RP h (ht rfl)
 |false=>exact Uk h (hu rfl)
noncomputable def UD:HO->Bool
 | .vN _=>true
 |u=>Bd u
noncomputable def Kb (L:List Addr) (H H':Hp):Prop:=∀b u,H b=some u->UD u=true->b∉L->H' b=some u
theorem C1{L:List Addr}{H H':Hp}(s:ja H H'):Kb L H H':=λb u h _ _=>s b u h
def o8(K:ah)(H:Hp)(a:Addr)(ns:List Int):Prop:=(∃o,H a=some (.rV o (.lst (ns.map ι))))∨∀H',jX K H' a (ns.map ι)
theorem o8.sq{K:ah}{H:Hp}{a:Addr}{ns:List Int}(h:o8 K H a ns):jX K H a (ns.map ι):=h.elim (λ⟨o,e⟩=> .inl (.inr ⟨o,e⟩)) λh=>h H
theorem o8.kx{K:ah}{H H':Hp}{a:Addr}{ns:List Int}(h:o8 K H a ns)(k:∀o v,H a=some (.rV o v)->H' a=some (.rV o v)):o8 K H' a ns:=h.imp (λ⟨o,e⟩=>⟨o,k _ _ e⟩) id
structure La(x:Own)(O:List (Nat×Int)):Prop where
 al:∀k,k<x.G.length->(x.p k).isSome=true
 no:∀k j,x.t k j= .no
 oi:(O.map aD).Pairwise (·<·)
section
variable{x:Own}{M:Mem}{O Y:List (Nat×Int)}
theorem In.VJ(I:In x M O Y){n:Nat}(n8:n<=8)(hl:x.G.length<20)(h1:M.so.t+n+1<=M.so.e)(h2:M.so.t+(M.sy.t-M.sy.b)+n+1<=M.so.e):In (x.lay M.so.t 2 n) {M with ws:=kL M.ws M.so.t.toNat n 2,so:=⟨M.so.b,M.so.e,M.so.t+(n+1)⟩} (O++[(x.G.length,M.so.t)]) Y:=by
 have f:=I.fr;have f1:=f.hv;have f2:=f.ot;have f3:=f.o0;have f4:=f.yw;have f5:=f.y0;have f6:=f.yt;have f7:=f.l2;refine I.lay (a:=M.so.t) (g:=2) (so:=⟨M.so.b,M.so.e,M.so.t+(n+1)⟩) (sy:=M.sy) n8 hl (by decide) (by decide) f3 (by(clear h2;lia)) ?_ (.inl ⟨rfl,rfl,rfl⟩) ?_ I.KN.2 λk b m=> ?_
 ·refine⟨by show(kL _ _ _ _).length<=200;rw[vm];exact f7,f.ob,by show 0<=M.so.t+_;lia,by show M.so.t+_<=M.so.e;lia,?_,f4,f5,f6,f.st,by show M.sy.t-M.sy.b<=M.so.e-(M.so.t+_);lia⟩;show(M.sy.b=M.so.e/\M.ss.b=M.sy.e/\M.ss.e=((kL _ _ _ _).length:Int))∨(M.ss.b=M.so.e/\M.sy.b=M.ss.e/\M.sy.e=((kL _ _ _ _).length:Int));rw[vm];exact f1
 ·have e:=vn (k:=x.G.length) (I.KN (a:=M.so.t) (g:=2) (n:=n)).1;rw[(Own.lay_z (k:=0) I.ls).2]at e;exact e
 ·rcases m with m|m
  ·have:=I.Jx m;lia
  ·have:=I.Lk m;lia
theorem In.VL(I:In x M O Y){n:Nat}(n8:n<=8)(hl:x.G.length<20)(h1:M.sy.t+n+1<=M.sy.e)(h2:M.so.t+(M.sy.t-M.sy.b)+n+1<=M.so.e):In (x.lay M.sy.t 0 n) {M with ws:=kL M.ws M.sy.t.toNat n 0,sy:=⟨M.sy.b,M.sy.e,M.sy.t+(n+1)⟩} O (Y++[(x.G.length,M.sy.t)]):=by
 have f:=I.fr;have f1:=f.hv;have f2:=f.ot;have f3:=f.o0;have f4:=f.yw;have f5:=f.y0;have f6:=f.yt;have f7:=f.l2;refine I.lay (a:=M.sy.t) (g:=0) (so:=M.so) (sy:=⟨M.sy.b,M.sy.e,M.sy.t+(n+1)⟩) n8 hl (by decide) (by decide) ⋯ (by(clear h2;lia)) ?_ (.inr ⟨by decide,rfl,rfl⟩) I.KN.1 ?_ λk b m=> ?_
 ·refine⟨by show(kL _ _ _ _).length<=200;rw[vm];exact f7,f.ob,f3,f2,?_,by show M.sy.e-M.sy.b=_;exact f4,by show M.sy.b<=M.sy.t+_;lia,by show M.sy.t+_<=M.sy.e;lia,f.st,by show M.sy.t+_-M.sy.b<=M.so.e-M.so.t;lia⟩;show(M.sy.b=M.so.e/\M.ss.b=M.sy.e/\M.ss.e=((kL _ _ _ _).length:Int))∨(M.ss.b=M.so.e/\M.sy.b=M.ss.e/\M.sy.e=((kL _ _ _ _).length:Int));rw[vm];exact f1
 ·have e:=vn (k:=x.G.length) (I.KN (a:=M.sy.t) (g:=0) (n:=n)).2;rw[(Own.lay_z (k:=0) I.ls).2]at e;exact e
 ·rcases m with m|m
  ·have:=I.Jx m;lia
  ·have:=I.Lk m;lia
theorem La.lay(l:La x O)(I:In x M O Y){a g:Int}{n:Nat}{O':List (Nat×Int)}(hO:O'=O++[(x.G.length,a)]∨O'=O):La (x.lay a g n) O':=by
 refine⟨λk hk=>Own.RY I.lp l.al k hk,Own.NA l.no,?_⟩;rcases hO with rfl|rfl
 ·rw[aF,gJ];refine⟨l.oi,by simp,λi hi j hj=> ?_⟩;obtain⟨e,he,rfl⟩:=List.mem_map.mp hi;rw[List.mem_singleton.mp hj];exact((I.oe e.1 e.2).mp he).1
 ·exact l.oi
theorem Own.NB(I:In x M O Y){a g:Int}{n k:Nat}:(x.lay a g n).p k=if k<x.G.length then x.p k else if k=x.G.length then some a else none:=by show(x.P++[some a]).getD k none=_;rw[rW,I.lp];rfl
theorem Own.RZ(I:In x M O Y){a g:Int}{n k:Nat}:(x.lay a g n).s k=if k<x.G.length then x.s k else if k=x.G.length then ao n .no else []:=by show(x.S++[ao n Th.no]).getD k []=_;rw[rW,I.ls];rfl
theorem HK{p:Nat->Option Int}{x:Own}(no:∀k j,x.t k j= .no)(k:Nat):(x.s k).map (wd p)=ao (x.s k).length (-1):=by
 refine List.eq_replicate_iff.mpr ⟨ae ..,λb hb=> ?_⟩;obtain⟨t,ht,rfl⟩:=List.mem_map.mp hb;obtain⟨j,hj,e⟩:=List.mem_iff_getElem.mp ht;have:=no k j;unfold Own.t at this;rw[af,ab hj]at this;rw[←e,show(x.s k)[j]=Th.no from this];rfl
theorem PV(I:In x M O Y){rs:List Addr}(rl:rs.length=x.G.length){a g:Int}{n:Nat}{r:Addr}(na:∀j,j<x.G.length->pz x.p j≠a):putK (ur x.p 0 rs) (aQ a) (.ref r)=ur (x.lay a g n).p 0 (rs++[r]):=by
 unfold putK;rw[rN,NC λj _ hj=>na j ⋯,Hz,Hy (p:=(x.lay a g n).p) (p':=x.p) λj _ hj=>by rw[Own.NB I,if_pos ⋯],show pz (x.lay a g n).p (0+rs.length)=a by unfold pz;rw[Own.NB I,if_neg ⋯,if_pos ⋯];rfl];rfl
theorem tS.lay{H H':Hp}{C r:Addr}{rs:List Addr}(c:tS H C rs x)(I:In x M O Y)(l:La x O){a g:Int}{n:Nat}(e:H' C=some (.dK (ur (x.lay a g n).p 0 (rs++[r]))))(er:H' r=some (.lst ((ao n (-1)).map ι)))(f:∀b∈rs,∀xs,H b=some (.lst xs)->H' b=some (.lst xs))(nr:r∉C::rs):tS H' C (rs++[r]) (x.lay a g n):=by
 have el:(x.lay a g n).G.length=x.G.length+1:=by show(x.G++[g]).length=_;rw[ay];rfl
 have no:=Own.NA (a:=a) (g:=g) (n:=n) l.no;refine⟨e,by rw[el,ay,c.rl];rfl,λk b eb=> ?_,?_⟩
 ·rw[HK no,Own.RZ I];by_cases z:k<rs.length
  ·rw[bj z]at eb;have:=c.row k b eb;rw[HK l.no]at this;rw[if_pos (by rw[←c.rl];exact z)];exact f b (ba eb) _ this
  ·rw[bp ⋯]at eb;by_cases y:k-rs.length=0
   ·rw[y]at eb;cases eb
    have rl:=c.rl;rw[if_neg ⋯,if_pos (by(clear el e;lia)),bc];exact er
   ·rw[aS (by show 1<=k-rs.length;lia)]at eb;cases eb
 ·rw[←bX];exact sf c.nd nr
end
theorem In.asc{x:Own}{M:Mem}{O Y:List (Nat×Int)}(I:In x M O Y)(oi:(O.map aD).Pairwise (·<·))(asc:M.ks.Pairwise (·<·)){k j:Nat}{a:Int}{t:Th}(no:∀k' j',(k<k'∨k'=k/\j<=j')->x.t k' j'= .no)(m:(k,a)∈O∨(k,a)∈Y):(LV x M.ks k j a t).Pairwise (·<·):=by
 unfold LV;by_cases c:(decide (x.g k=2)&&LG x t)=true
 ·rw[if_pos c];rw[aV,decide_eq_true_eq]at c;obtain⟨p1,p2,_⟩:=I.pl m;have mO:(k,a)∈O:=(I.oe k a).mpr ⟨p1,c.1,p2⟩;have lt:∀q∈M.ks,q<a+1+(j:Int):=λq hq=>by
   obtain⟨k',a',j',i,m',hj',e,et,_⟩:=I.b1 q hq;have n:¬(k<k'∨k'=k/\j<=j'):=λz=>by rw[no k' j' z]at et;cases et
   have ez:x.z k'=(x.s k').length+1:=rfl;by_cases y:k'=k
   ·subst y;have:=((I.oe k' a').mp m').2.2;rw[p2]at this;cases this
    lia
   ·have:=Hx x.z1 I.lo oi m' mO ⋯;lia
  have nin:¬(a+1+(j:Int))∈M.ks:=λz=>by have:=lt _ z;lia
  have er:CV M.ks (a+1+j)=M.ks:=List.filter_eq_self.mpr λy hy=>decide_eq_true λz=>nin (z▸hy);rw[er];unfold Je;rw[if_neg nin,gJ];exact⟨asc,by simp,λp hp q hq=>by rw[List.mem_singleton.mp hq];exact lt p hp⟩
 ·rw[if_neg c];exact asc.filter _
theorem Qt{l:List Int}(h:l.Pairwise (·<·))(q:Int):DD (l++[q]):=λi j hij hj=>by
 rw[ay,dI]at hj;rw[af,bj ⋯,af,bj ⋯,ab ⋯,ab ⋯];exact List.pairwise_iff_getElem.mp h i j ⋯ ⋯ hij
theorem K5{l:List Int}(h:l.Pairwise (·<·)):DD l:=λi j hij hj=>by
 rw[af,af,ab ⋯,ab ⋯];exact List.pairwise_iff_getElem.mp h i j ⋯ ⋯ hij
theorem NL{x:Own}{ks:List Int}{k j:Nat}{a:Int}{t:Th}(h:ks.Pairwise (·<·)):DD (LV x ks k j a t):=by
 unfold LV
 split
 ·unfold Je;rw[if_neg (by rw[CY];exact λz=>z.2 rfl)];exact Qt (h.filter _) _
 ·exact K5 (h.filter _)
theorem In.kl{x:Own}{M:Mem}{O Y:List (Nat×Int)}(I:In x M O Y)(RC:M.so.e<=80):M.ks.length<128:=by
 have:=len_sub I.kn (m:=(aW 80).map λi:Nat=>(i:Int)) λq hq=>by
  obtain⟨k,a,j,i,m,hj,e,_⟩:=I.b1 q hq;have r:=I.Jx m;have ez:x.z k=(x.s k).length+1:=rfl;have:=I.fr.ot;exact List.mem_map.mpr ⟨q.toNat,List.mem_range.mpr ⋯,⋯⟩
 rw[ae,aY]at this;lia
theorem In.WJ{x:Own}{M:Mem}{O Y:List (Nat×Int)}(I:In x M O Y){n:Nat}(n1:1<=n)(n6:n<=6):In {x with D:=ao n .no} {M with hw:=ao n (-1)} O Y:=
 {I with
  fr:=⟨I.fr.l2,I.fr.ob,I.fr.o0,I.fr.ot,I.fr.hv,I.fr.yw,I.fr.y0,I.fr.yt,I.fr.st,I.fr.rm⟩
  gs:=λk a m t ht=>by have:=I.gs k a m t ht;cases t with|no=>exact this|nu n=>exact this|ce k=>exact this
  gd:=λu hu=>by rw[d5 hu];exact bB
  hd:=by show ao n (-1)=(ao n Th.no).map (wd x.p);rw[fv];rfl
  d4:=by show 1<=(ao n Th.no).length/\(ao n Th.no).length<=6;rw[bc];exact⟨n1,n6⟩}
structure FG(K:ah)(mg:Str->Option Value)(x:Str)(st:Stmt)(f:Addr)(d:FuncData)(ps:List Str):Prop where
 fn:DC K x x st f d
 b:Binds K d ps []
 g:mg x=some (.ref f)
structure FM(K:ah)(C:Addr)(x q:Str)(st:Stmt)(f:Addr)(d:FuncData)(ps:List Str):Prop where
 fn:DC K x q st f d
 b:Binds K d ps []
 m:Meth K C x f
noncomputable def EG (K:ah) (mg:Str->Option Value) (x:Str) (st:Stmt) (ps:List Str):Prop:=∃f d,FG K mg x st f d ps
noncomputable def EM (K:ah) (C:Addr) (x q:Str) (st:Stmt) (ps:List Str):Prop:=∃f d,FM K C x q st f d ps
noncomputable def CG (P:Program) (w:World) (K:ah) (mg:Str->Option Value) (base:Heap) (ca:Bool) (k:Nat) (x:Str) (ps:List Str) (sp:Sp):Prop:=∃st f d,FG K mg x st f d ps/\lZ P w K mg base (tX P w) ca k f d ps sp
noncomputable def CM (P:Program) (w:World) (K:ah) (mg:Str->Option Value) (base:Heap) (ca:Bool) (k:Nat) (C:Addr) (x:Str) (ps:List Str) (sp:Sp):Prop:=∃q st f d,FM K C x q st f d ps/\lZ P w K mg base (tX P w) ca k f d ps sp
section
variable{P:Program}{w:World}{K:ah}{mg:Str->Option Value}{base:Heap}{x q:Str}{st:Stmt}{C:Addr}{N ps:List Str}{ca:Bool}{j k:Nat}{sp:Sp}
theorem CG.mono(D:CG P w K mg base ca j x ps sp)(h:j<=k:=by decide):CG P w K mg base ca k x ps sp:=let ⟨s,f,d,F,o⟩:=D;⟨s,f,d,F,o.mono h⟩
theorem CM.mono(D:CM P w K mg base ca j C x ps sp)(h:j<=k:=by decide):CM P w K mg base ca k C x ps sp:=let ⟨q,s,f,d,F,o⟩:=D;⟨q,s,f,d,F,o.mono h⟩
theorem EG.lK(F:EG K mg x st ps)(S:i8 N ps (i3 st))(len:∀vs H Q E,sp vs H Q E->vs.length=ps.length)(hbody:∀(f:Addr) (cdv:Value) (A:Around) (outer:List Env) (s:Shared) (H:Hp) (vs:List V) (Q:VK) (E:XK),lO ca k (A.deeper (gQ x (i3 st) s.heap.objs.size f cdv))->Exc (QP ca P w K mg base N x (i3 st) f cdv A outer s H E) (λ_=>E)->sp vs H Q E->∃t,G1 (QP ca P w K mg base N x (i3 st) f cdv A outer s H E) (mC st) t/\t {nx:=λ_ H'=>Q .kr H',rt:=Q} (start N vs) H):CG P w K mg base ca (k+1) x ps sp:=let ⟨f,d,F⟩:=F;⟨st,f,d,F,F.fn.NO S len (hbody f)⟩
theorem EM.lK(F:EM K C x q st ps)(S:i8 N ps (i3 st))(len:∀vs H Q E,sp vs H Q E->vs.length=ps.length)(hbody:∀(f:Addr) (cdv:Value) (A:Around) (outer:List Env) (s:Shared) (H:Hp) (vs:List V) (Q:VK) (E:XK),lO ca k (A.deeper (gQ q (i3 st) s.heap.objs.size f cdv))->Exc (QP ca P w K mg base N q (i3 st) f cdv A outer s H E) (λ_=>E)->sp vs H Q E->∃t,G1 (QP ca P w K mg base N q (i3 st) f cdv A outer s H E) (mC st) t/\t {nx:=λ_ H'=>Q .kr H',rt:=Q} (start N vs) H):CM P w K mg base ca (k+1) C x ps sp:=let ⟨f,d,F⟩:=F;⟨q,st,f,d,F,F.fn.NO S len (hbody f)⟩
end
section
variable{X:Cx}
theorem iW(D:CG X.prog X.w X.K X.mg X.base ca k x ps sp)(hr:lO ca k X.A)(hg:Gl X x)(hx:Exc X E)(ha:JA X (e::es) t)(hdb:(x==("__debug__":Str))=false:=by decide)(h:(e::es).all notStar=true:=by rfl):JE X (.Call (.Name x p) (e::es) [] pos) (A3 sp E t):=let ⟨_,_,_,D,F⟩:=D;⟨HV F hr hg D.g D.fn.kp D.b hx ha.run hdb h⟩
theorem jg{pl:Sem Bool}(he:JE X o ta)(c:Ez X.K C)(D:CM X.prog X.w X.K X.mg X.base ca k C m ps sp)(hr:lO ca k X.A)(hx:Exc X E)(ha:JA X (e::es) t)(hns:(e::es).all notStar=true:=by rfl)(ht:eval (.Call (.Attribute o m apos) (e::es) [] pos) X.env=(do
   let ov←eval o X.env
   standAt apos.atName
   let (f,first)←holding [ov] (getMethod ov m pl)
   callWith pos f first (backTo pos (starEach (e::es) X.env)) (backToKw pos (keywordEach [] X.env))):=by rfl):JE X (.Call (.Attribute o m apos) (e::es) [] pos) (Aw C m sp E ta t):=let ⟨_,_,_,_,D,F⟩:=D;⟨Rt he.run c D.m F hr D.b hx ha.run hns ht⟩
theorem jJ{pl:Sem Bool}(he:JE X o ta)(c:Ez X.K C)(D:CM X.prog X.w X.K X.mg X.base ca k C m ps sp)(hr:lO ca k X.A)(hx:Exc X E)(ht:eval (.Call (.Attribute o m apos) [] [] pos) X.env=(do
   let ov←eval o X.env
   standAt apos.atName
   let (f,first)←holding [ov] (getMethod ov m pl)
   callWith pos f first (backTo pos (starEach [] X.env)) (backToKw pos (keywordEach [] X.env))):=by rfl):JE X (.Call (.Attribute o m apos) [] [] pos) (Aw C m sp E ta IB):=let ⟨_,_,_,_,D,F⟩:=D;⟨Pq he.run c D.m F hr D.b hx ht⟩
end
set_option genInjectivity false in
structure Ad where
 k_:Addr
 mB:FuncData
 lE:Addr
 mY:FuncData
 kZ:Addr
 my:FuncData
 lF:Addr
 mZ:FuncData
 kK:Addr
 lR:FuncData
 kY:Addr
 mv:FuncData
 kX:Addr
 mn:FuncData
 k8:Addr
 mz:FuncData
 lj:Addr
 kJ:FuncData
 kG:Addr
 ke:FuncData
 Hi:Addr
 Kq:FuncData
 kW:Addr
 jw:Addr
 lT:Addr
 jC:Addr
 i7:Addr
 i_:Addr
 jh:Addr
 jB:Addr
 jF:Addr
 jG:Addr
 jM:Addr
 jz:Addr
structure Txt(K:ah)(mg:Str->Option Value)(A:Ad):Prop where
 wc:EG K mg "is_whole" wz ["thing"]
 we:EG K mg "meet_new" wA ["places","met","seen"]
 DO:DC K "__init__" "Space.__init__" sV A.k_ A.mB
 rQ:Binds K A.mB ["self","begin","end"] []
 sr:EM K A.i_ "room" "Space.room" sX ["self"]
 sv:EM K A.i_ "used" "Space.used" sZ ["self"]
 qJ:EM K A.i_ "empty" "Space.empty" qV ["self"]
 sh:EM K A.jh "flip" "Areas.flip" sO ["self"]
 Fm:DC K "__init__" "Book.__init__" uS A.lE A.mY
 G6:Binds K A.mY ["self"] []
 qG:EM K A.jB "places" "Book.places" qR ["self"]
 si:EM K A.jB "clear" "Book.clear" sQ ["self"]
 uF:EM K A.jF "row" "Hands.row" uU ["self"]
 DM:DC K "__init__" "Lasts.__init__" sT A.kZ A.my
 E8:Binds K A.my ["self"] []
 oX:EM K A.jG "pending" "Lasts.pending" mS ["self"]
 Fn:DC K "__init__" "Weak.__init__" uW A.lF A.mZ
 G7:Binds K A.mZ ["self"] []
 sx:EM K A.jM "names" "Weak.names" pG ["self"]
 pX:EG K mg "_law_cell_at" p_ ["_law_script","_law_k"]
 uL:EG K mg "_law_next" uX ["_law_seed"]
 uM:EG K mg "_law_word" uY ["_law_cells","_law_seed"]
 vZ:EG K mg "_law_met" qc ["_law_cells","_law_hands"]
 sD:EG K mg "_law_drawn" tf ["_law_word_here","_law_met_here"]
 sA:EG K mg "_law_alike" s_ ["_law_found","_law_due_here"]
 sC:EG K mg "_law_apart" pH ["_law_found"]
 uP:EG K mg "is_within" u4 ["thing","least","most"]
 su:EM K A.i_ "take" "Space.take" sY ["self","many"]
 vY:EG K mg "_law_due" qb ["_law_found","_law_cells","_law_hands"]
 uO:EG K mg "is_number" u3 ["thing"]
 wa:EG K mg "is_place" wy ["thing"]
 sN:EG K mg "want_slots" tF ["slots"]
 AM:EG K mg "is_head" AR ["number"]
 JC:EG K mg "fits" JL ["memory","at","slots"]
 BZ:DC K "__init__" "Memory.__init__" qT A.kK A.lR
 DE:Binds K A.lR ["self","size"] []
 mJ:EM K A.i7 "want_place" "Memory.want_place" mK ["self","at"]
 lU:EM K A.i7 "want_stretch" "Memory.want_stretch" lV ["self","begin","many"]
 uH:EM K A.i_ "has" "Space.has" uV ["self","at"]
 DL:DC K "__init__" "Hands.__init__" sS A.kY A.mv
 E7:Binds K A.mv ["self","many"] []
 nP:EM K A.jF "want_hand" "Hands.want_hand" nR ["self","hand"]
 uG:EM K A.jG "say" "Lasts.say" Bg ["self","ticket"]
 qP:EG K mg "want_number" q8 ["thing"]
 sL:EG K mg "want_place" tE ["thing"]
 JD:EG K mg "kind" JM ["word"]
 qI:EM K A.i7 "read" "Memory.read" qU ["self","at"]
 qH:EM K A.i7 "copy" "Memory.copy" qS ["self","start","goal","many"]
 oV:EM K A.jh "area_of" "Areas.area_of" oY ["self","at"]
 qM:EG K mg "number_word" qY ["n"]
 sI:EG K mg "place_word" tB ["at"]
 F9:EG K mg "worth" Gi ["word"]
 pU:EM K A.i7 "write" "Memory.write" pY ["self","at","word"]
 DK:DC K "__init__" "Areas.__init__" sP A.kX A.mn
 E6:Binds K A.mn ["self","old_words","young_words"] []
 sj:EM K A.jB "write" "Book.write" sR ["self","place"]
 vW:EM K A.jB "has" "Book.has" wm ["self","place"]
 uE:EM K A.jF "put" "Hands.put" uT ["self","hand","word"]
 sk:EM K A.jG "move" "Lasts.move" Ah ["self","ticket","at"]
 uJ:EM K A.jM "move" "Weak.move" Bi ["self","name","at"]
 uI:EM K A.jM "gone" "Weak.gone" Bh ["self","name"]
 DN:DC K "__init__" "Roots.__init__" sU A.k8 A.mz
 E9:Binds K A.mz ["self","many"] []
 uN:EG K mg "head_word" uZ ["slots","age"]
 qK:EG K mg "head_number" qW ["memory","at"]
 F4:EG K mg "shown" Gg ["numbers","word"]
 vX:EM K A.jB "rub" "Book.rub" wt ["self","place"]
 pW:EM K A.jz "starts" "Roots.starts" nS ["self"]
 qQ:EG K mg "word_behind" q9 ["where","word"]
 qL:EG K mg "is_of_young" qX ["areas","word"]
 Oc:EG K mg "lay" Od ["memory","at","slots"]
 wg:EG K mg "slots_of" wB ["memory","at"]
 CQ:EG K mg "age_of" CZ ["memory","at"]
 JH:EG K mg "send" JP ["memory","at","goal"]
 AQ:EG K mg "sent_to" AU ["memory","at"]
 sE:EG K mg "_law_write" tj ["_law_areas","_law_roots","_law_cells","_law_at","_law_slot","_law_word_here"]
 wj:EG K mg "words_of" wC ["memory","at"]
 JB:EG K mg "aged" JK ["memory","at","age"]
 qO:EG K mg "slot_places" qZ ["memory","at"]
 F2:EG K mg "moved" Ge ["memory","word"]
 v7:EG K mg "children" qd ["memory","at"]
 qN:EG K mg "shown_slots" ou ["memory","numbers","at"]
 n_:EM K A.jh "lay_into" "Areas.lay_into" oa ["self","space","slots","age"]
 pV:EM K A.jz "follow" "Roots.follow" pZ ["self","goal_of"]
 F1:EG K mg "goals" Gb ["areas","kept"]
 F3:EG K mg "renew" Gf ["memory","where","at"]
 F6:EG K mg "slide" Gh ["areas","at","goal"]
 CT:EG K mg "copied" C0 ["memory","at","space","age"]
 sJ:EG K mg "renew_book" tD ["areas","book","grown"]
 AO:EG K mg "reached" AS ["memory","starts"]
 nO:EM K A.jh "lay_young" "Areas.lay_young" nQ ["self","slots"]
 oW:EM K A.jh "lay_old" "Areas.lay_old" oZ ["self","slots"]
 sG:EG K mg "copy_young" tq ["areas","at"]
 AN:EG K mg "picture" rM ["areas","roots"]
 uh:DC K "collect_all" "collect_all" oq A.lj A.kJ
 DF:Binds K A.kJ ["areas","roots"] []
 pS:A.kJ.code= .ref A.lT
 pP:b7 K A.lT A.jC=true
 qy:mg "collect_all"=some (.ref A.lj)
 JF:EG K mg "meet" JN ["areas","word","copies"]
 uK:EG K mg "_law_laid" qu ["_law_areas","_law_rooms","_law_script"]
 uQ:EG K mg "meet_slot" u5 ["areas","place","copies"]
 v_:EG K mg "copy_met" wu ["areas","roots"]
 rB:DC K "collect_young" "collect_young" lP A.kG A.ke
 Bn:Binds K A.ke ["areas","roots"] []
 n9:A.ke.code= .ref A.kW
 nY:b7 K A.kW A.jw=true
 oQ:mg "collect_young"=some (.ref A.kG)
 RJ:DC K "law" "law" Ai A.Hi A.Kq
 B1:mg "Memory"=some (.ref A.i7)
 jv:Ez K A.i7
 AI:Mk K A.i7 A.kK
 lB:kF K A.i7 "size"
 kH:kF K A.i7 "words"
 wU:mg "Space"=some (.ref A.i_)
 jZ:Ez K A.i_
 uw:Mk K A.i_ A.k_
 kR:kF K A.i_ "begin"
 pq:kF K A.i_ "end"
 lb:kF K A.i_ "top"
 Fo:mg "Areas"=some (.ref A.jh)
 jq:Ez K A.jh
 Cw:Mk K A.jh A.kX
 ji:kF K A.jh "memory"
 j9:kF K A.jh "old"
 kA:kF K A.jh "young"
 kQ:kF K A.jh "spare"
 I_:mg "Book"=some (.ref A.jB)
 lW:Ez K A.jB
 FL:Mk K A.jB A.lE
 kh:kF K A.jB "written"
 Fp:mg "Hands"=some (.ref A.jF)
 lx:Ez K A.jF
 Cy:Mk K A.jF A.kY
 lA:kF K A.jF "words"
 Fq:mg "Lasts"=some (.ref A.jG)
 rp:Ez K A.jG
 Cz:Mk K A.jG A.kZ
 mG:kF K A.jG "waiting"
 oU:kF K A.jG "spoken"
 Ja:mg "Weak"=some (.ref A.jM)
 wQ:Ez K A.jM
 FN:Mk K A.jM A.lF
 pv:kF K A.jM "told"
 Fs:mg "Roots"=some (.ref A.jz)
 jO:Ez K A.jz
 CA:Mk K A.jz A.k8
 jQ:kF K A.jz "hands"
 kM:kF K A.jz "book"
 nI:kF K A.jz "weaks"
 nH:kF K A.jz "lasts"
 pL:Gv mg "NOTHING" (.int (-1))
 oC:Gv mg "MOST_NUMBER" (.int (1000000000000))
 tK:Gv mg "MOST_PLACE" (.int (9999))
 pI:Gv mg "MOST_SLOTS" (.int (8))
 mU:Gv mg "MOST_AGE" (.int (2))
 tL:Gv mg "MOST_WORDS" (.int (4000))
 nU:Gv mg "LEAST_OLD_WORDS" (.int (4))
 om:Gv mg "MOST_OLD_WORDS" (.int (2000))
 mM:Gv mg "LEAST_YOUNG_WORDS" (.int (2))
 mV:Gv mg "MOST_YOUNG_WORDS" (.int (500))
 tJ:Gv mg "MOST_HANDS" (.int (6))
 oR:bw K (.type "NoneType") (.type "int")=some false
 r0:bw K (.type "int") (.type "int")=some true
 qo:bw K (.type "int") (.type "bool")=some false
 pj:bw K (.type "list") (.type "list")=some true
 r6:bw K (.type "tuple") (.type "int")=some false
 pT:bw K (.type "tuple") (.type "tuple")=some true
 FO:mg "bool"=none
 m9:mg "enumerate"=none
 HI:mg "int"=none
 ky:mg "isinstance"=none
 mI:mg "len"=none
 qA:mg "list"=none
 mR:mg "range"=none
 rK:mg "sorted"=none
 FP:mg "tuple"=none
 KS:mg "zip"=none
section
variable{P:Program}{w:World}{K:ah}{mg:Str->Option Value}{base:Heap}{A:Ad}
def oJ:Sp:=λvs H Q _=>∃i,vs=[.int i]/\Q (.bl true) H
theorem Ia:i8 ["thing"] ["thing"] (i3 wz):=fsc
theorem qt{ca:Bool}(T:Txt K mg A):CG P w K mg base ca 1 "is_whole" ["thing"] oJ:=by
 specialize T.wc.lK Ia
 ·obtain⟨i,rfl,q⟩:=h;refine⟨_,kN.run (iV (i6 (rD (jo l_ (by rfl) T.ky ζi (iR (iU 0) (iR (qm T.HI ζn) iS))) (uo (Nv (jo l_ (by rfl) T.ky ζi (iR (iU 0) (iR (qm T.FO PyProof.Rows.Boot.«bool») iS)))))))),?_⟩;simp?[OB,Q4,IK,T.r0,T.qo];exact q
noncomputable def Ku (M:List Int):List (Key×V):=M.map λp=>(aQ p,V.bl true)
theorem BC{p:Int}:∀{M:List Int},(mP (Ku M) (aQ p)).isSome=decide (p∈M)
 | []=>rfl
 |a::r=>by
  by_cases e:a=p
  ·rw[show mP (Ku (a::r)) (aQ p)=some (.bl true) from oM (by show(aQ a:Key)=_;rw[e])];simp[e]
  ·rw[show mP (Ku (a::r)) (aQ p)=mP (Ku r) (aQ p) from mQ (λz=>e (cP z)),BC];simp[aj e]
theorem PB{p:Int}{M:List Int}(h:p∉M):putK (Ku M) (aQ p) (V.bl true)=Ku (M++[p]):=by
 unfold putK;rw[rN,BC,decide_eq_false h];simp[Ku]
noncomputable def Ip:Sp:=λvs H Q _=>Y5 λ(pl mt sn:Addr) (ps M:List Int)=>C8 (vs=[.ref pl,.ref mt,.ref sn]) (H pl=some (.lst (ps.map ι))) (H mt=some (.lst (M.map ι))) (H sn=some (.dK (Ku M))) (pl≠mt) (ps.length<=64) (M.length<=64) (∀H',H' mt=some (.lst ((M++nj M ps).map ι))->H' sn=some (.dK (Ku (M++nj M ps)))->(∀b u,H b=some u->b≠mt->b≠sn->H' b=some u)->Q .kr H')
theorem Bk:i8 ["places","met","seen","at"] ["places","met","seen"] (i3 wA):=fsc
theorem Bc(T:Txt K mg A):CG P w K mg base true 1 "meet_new" ["places","met","seen"] Ip:=by
 specialize T.we.lK Bk
 ·obtain⟨pl,mt,sn,ps,M,rfl,ep,em,es,npm,pl64,ml64,h⟩:=h;refine⟨_,kN.run (iV (jR hx.own rfl (jD (iU 0)) (ju (i:=3) Bk.nd rfl lo)
    (iV (jm (jf (Ji (wW hr)) (iU 3) (iU 2) (by with_unfolding_all rfl)) (iT (uk (wW hr) (iU 2) (iU 3) mD rfl)
   (iV (i9 (AF de df rZ (iU 1) (iR (iU 3) iS))))) jc)))),?_⟩
  simp?[];have nms:mt≠sn:=λz=>by rw[z,es]at em;cases em
  have nps:pl≠sn:=λz=>by rw[z,es]at ep;cases ep
  refine⟨⟨_,jX.of ep⟩,j8.list (xs:=ps.map ι) (λi σ H'=>H' mt=some (.lst ((M++nj M (ps.take i)).map ι))/\H' sn=some (.dK (Ku (M++nj M (ps.take i))))/\(∀b u,H b=some u->b≠mt->b≠sn->H' b=some u)/\(M++nj M (ps.take i)).length<=M.length+i/\∃a3,σ=[some (.ref pl),some (.ref mt),some (.ref sn),a3])
   ⟨by simp[nj,em],by simp[nj,es],λb u e _ _=>e,by simp[nj],_,rfl⟩ (λi σ H' _ hz=>by obtain⟨_,_,f,_⟩:=hz;exact jX.of (f _ _ ep npm nps)) ?_ ?_⟩
  ·rintro i x σ H1 hx ⟨e1,e2,f1,l1,a3,rfl⟩;have hi:i<ps.length:=by have:=(List.getElem?_eq_some_iff.mp hx).1;rw[ae]at this;exact this
   rw[ak,ab hi]at hx
   cases hx
   have et:nj M (ps.take (i+1))=nj M (ps.take i)++nj (M++nj M (ps.take i)) [ps[i]]:=by rw[bu hi,rT]
   rw[et,←cf];generalize M++nj M (ps.take i)=N at*;generalize ps[i]=x at*;by_cases hx:x∈N
   ·have e3:nj N [x]=[]:=by simp[nj,hx]
    rw[e3,bg];simp?[e2,BC,decide_eq_true hx];exact⟨e1,f1,⋯,_,rfl⟩
   ·have e3:nj N [x]=[x]:=by simp[nj,hx]
    rw[e3];simp?[e2,BC,decide_eq_false hx];rw[PB hx,i4 nms,e1];have nl:N.length<200:=by lia
    refine⟨by rw[Ku,ae];exact ax nl (by decide),by rw[ae];exact ax nl (by decide),by rw[aF];rfl,by rw[i4 (aj nms),iZ],λb u eb n1 n2=>by rw[i4 n1,i4 n2];exact f1 b u eb n1 n2,by rw[ay];exact dO l1,_,rfl⟩
  ·rintro σ H1 ⟨e1,e2,f1,l1,a3,rfl⟩;rw[ae,bt]at e1 e2;simp?[];exact h H1 e1 e2 f1
def oz(A:Ad):Sp:=λvs H Q _=>∃p dx b e,vs=[.ref p,.int b,.int e]/\H p=some (.ins A.i_ dx [])/\Q .kr (upd H p (.ins A.i_ dx (nV b e b)))
theorem D7:i8 ["self","begin","end"] ["self","begin","end"] (i3 sV):=fsc
theorem qC{ca:Bool}(T:Txt K mg A):lZ P w K mg base (tX P w) ca 1 A.k_ A.mB ["self","begin","end"] (oz A):=by
 refine T.DO.NO D7 (λvs H Q E h=> ?_) (λcdv A' outer s H vs Q E hr hx h=> ?_)
 ·obtain⟨_,_,_,_,rfl,_⟩:=h;rfl
 ·obtain⟨p,dx,b,e,rfl,hp,q⟩:=h;refine⟨_,kN.run (iT (jP (iU 0) (iU 1) rfl)
   (iT (jP (iU 0) (iU 2) rfl)
   (iV (jP (iU 0) (iU 1) rfl)))),?_⟩
  simp?[hp,T.jZ,T.kR,T.pq,T.lb,j4,Lj];exact q
def Eo(A:Ad):Sp:=λvs H Q _=>Y5 λp dx b e t=>C3 (vs=[.ref p]) (H p=some (.ins A.i_ dx (nV b e t))) (Q (.int (e-t)) H)
theorem D8:i8 ["self"] ["self"] (i3 sX):=fsc
theorem DW{ca:Bool}(T:Txt K mg A):CM P w K mg base ca 1 A.i_ "room" ["self"] (Eo A):=by
 specialize T.sr.lK D8
 ·obtain⟨p,dx,b,e,t,rfl,hp,q⟩:=h;refine⟨_,kN.run (iV (i6 (i5 oo (jd (iU 0) rfl) (jd (iU 0) rfl)))),?_⟩;simp?[hp,T.jZ,T.pq,T.lb,UW,Le];exact q
def Er(A:Ad):Sp:=λvs H Q _=>Y5 λp dx b e t=>C3 (vs=[.ref p]) (H p=some (.ins A.i_ dx (nV b e t))) (Q (.int (t-b)) H)
theorem D9:i8 ["self"] ["self"] (i3 sZ):=fsc
theorem DX{ca:Bool}(T:Txt K mg A):CM P w K mg base ca 1 A.i_ "used" ["self"] (Er A):=by
 specialize T.sv.lK D9
 ·obtain⟨p,dx,b,e,t,rfl,hp,q⟩:=h;refine⟨_,kN.run (iV (i6 (i5 oo (jd (iU 0) rfl) (jd (iU 0) rfl)))),?_⟩;simp?[hp,T.jZ,T.kR,T.lb,Lb,Le];exact q
def Dt(A:Ad):Sp:=λvs H Q _=>Y5 λp dx b e t=>C3 (vs=[.ref p]) (H p=some (.ins A.i_ dx (nV b e t))) (Q .kr (upd H p (.ins A.i_ dx (nV b e b))))
theorem Dd:i8 ["self"] ["self"] (i3 qV):=fsc
theorem nK{ca:Bool}(T:Txt K mg A):CM P w K mg base ca 1 A.i_ "empty" ["self"] (Dt A):=by
 specialize T.qJ.lK Dd
 ·obtain⟨p,dx,b,e,t,rfl,hp,q⟩:=h;refine⟨_,kN.run (iV (jP (iU 0) (jd (iU 0) rfl) rfl)),?_⟩;simp?[hp,T.jZ,T.kR,T.lb,Lb,Ld,Lc];exact q
def Eh(A:Ad):Sp:=λvs H Q _=>Y6 λp dx m o y s=>C3 (vs=[.ref p]) (H p=some (.ins A.jh dx (t_ m o y s))) (Q .kr (upd H p (.ins A.jh dx (t_ m o s y))))
theorem vI:i8 ["self","young"] ["self"] (i3 sO):=fsc
theorem vB{ca:Bool}(T:Txt K mg A):CM P w K mg base ca 1 A.jh "flip" ["self"] (Eh A):=by
 specialize T.sh.lK vI
 ·obtain⟨p,dx,m,o,y,s',rfl,hp,q⟩:=h;refine⟨_,kN.run (iT (je (i:=1) vI.nd rfl lo (jd (iU 0) rfl))
   (iT (jP (iU 0) (jd (iU 0) rfl) rfl)
   (iV (jP (iU 0) (iU 1) rfl)))),?_⟩
  simp?[hp,T.jq,T.kA,T.kQ,G4,Kf,My,Mx,OV,Lj];exact q
def An(A:Ad):Sp:=λvs H Q _=>∃p dx,vs=[.ref p]/\H p=some (.ins A.jB dx [])/\∀d H',H d=none->o7 A.jB H' p d []->(∀y o,y≠p->H y=some o->H' y=some o)->Q .kr H'
theorem Gj:i8 ["self"] ["self"] (i3 uS):=fsc
theorem FR{ca:Bool}(T:Txt K mg A):lZ P w K mg base (tX P w) ca 1 A.lE A.mY ["self"] (An A):=by
 refine T.Fm.NO Gj (λvs H Q E h=> ?_) (λcdv A' outer s H vs Q E hr hx h=> ?_)
 ·obtain⟨_,_,rfl,_⟩:=h;rfl
 ·obtain⟨p,dx,rfl,hp,h⟩:=h;refine⟨_,kN.run (iV (jP (iU 0) ma rfl)),?_⟩;simp?[];intro d hd;have npd:=iY hp hd;have e:upd H d (.dK []) p=some (.ins A.jB dx []):=nA hp npd;simp?[e,T.lW,T.kh,Rf];exact h d _ hd ⟨⟨dx,iZ⟩,by rw[i4 (aj npd),iZ];rfl⟩ λy o hy e=>by rw[i4 hy,i4 (iY e hd)];exact e
theorem G8:∀{ks:List Int},B6 (DH ks)=some ks
 | []=>rfl
 |k::r=>by show(B6 (DH r)).map _=_;rw[G8];rfl
def Dp(A:Ad):Sp:=λvs H Q _=>Y3 λp d ks=>C4 (vs=[.ref p]) (o7 A.jB H p d ks) ((ks.length<64∨ks.length<128/\DD ks)) (∀l,H l=none->Q (.ref l) (upd H l (.lst ((jS ks).map ι))))
theorem C2:i8 ["self"] ["self"] (i3 qR):=fsc
theorem uy(T:Txt K mg A):CM P w K mg base true 1 A.jB "places" ["self"] (Dp A):=by
 specialize T.qG.lK C2
 ·obtain⟨p,d,ks,rfl,m,hl,h⟩:=h;refine⟨_,kN.run (iV (i6 (jo (Hq (by rfl)) (by rfl) T.rK ζs (iR (jd (iU 0) rfl) iS)))),?_⟩;obtain⟨dx,e⟩:=m.ob;simp?[wN,e,T.lW,T.kh,Ki,m.dc,G8];exact⟨hl,h⟩
def Ej(A:Ad):Sp:=λvs H Q _=>Y3 λp d ks=>C3 (vs=[.ref p]) (o7 A.jB H p d ks) (∀d' H',H d'=none->o7 A.jB H' p d' []->(∀b o,H b=some o->b≠p->H' b=some o)->Q .kr H')
theorem D2:i8 ["self"] ["self"] (i3 sQ):=fsc
theorem vC{ca:Bool}(T:Txt K mg A):CM P w K mg base ca 1 A.jB "clear" ["self"] (Ej A):=by
 specialize T.si.lK D2
 ·obtain⟨p,d,ks,rfl,m,h⟩:=h;refine⟨_,kN.run (iV (jP (iU 0) ma rfl)),?_⟩;simp?[];intro d' hd';obtain⟨dx,e⟩:=(m.same (ja.upd (o:= .dK []) hd')).ob;simp?[e,T.lW,T.kh,O1,O0];obtain⟨dy,ey⟩:=m.ob;refine h d' _ hd' ⟨⟨dx,iZ⟩,?_⟩ λb o eb nb=> ?_
  ·rw[i4 (aj (iY ey hd')),iZ];rfl
  ·rw[i4 nb];exact ja.upd hd' _ _ eb
def GC(A:Ad):Sp:=λvs H Q _=>Y3 λp q ws=>C3 (vs=[.ref p]) (ub A.jF H p q ws) (∀l,H l=none->Q (.ref l) (upd H l (.lst (ws.map ι))))
theorem Gm:i8 ["self"] ["self"] (i3 uU):=fsc
theorem pB{ca:Bool}(T:Txt K mg A):CM P w K mg base ca 1 A.jF "row" ["self"] (GC A):=by
 specialize T.uF.lK Gm
 ·obtain⟨p,q,ws,rfl,m,h⟩:=h;refine⟨_,kN.run (iV (i6 (nE Cb (by rfl) T.qA ζt (iR (jd (iU 0) rfl) iS)))),?_⟩;obtain⟨dx,e⟩:=m.ob;simp?[e,T.lx,T.lA,Ng,m.ls];exact h
def vL(A:Ad):Sp:=λvs H Q _=>∃p dx,vs=[.ref p]/\H p=some (.ins A.jG dx [])/\∀d H',H d=none->(∀y o,y≠p->H y=some o->H' y=some o)->U_ A.jG H' p d->Q .kr H'
theorem D5:i8 ["self"] ["self"] (i3 sT):=fsc
theorem DT{ca:Bool}(T:Txt K mg A):lZ P w K mg base (tX P w) ca 1 A.kZ A.my ["self"] (vL A):=by
 refine T.DM.NO D5 (λvs H Q E h=> ?_) (λcdv A' outer s H vs Q E hr hx h=> ?_)
 ·obtain⟨_,_,rfl,_⟩:=h;rfl
 ·obtain⟨p,dx,rfl,hp,h⟩:=h;refine⟨_,kN.run (iT (jP (iU 0) ma rfl)
   (iV (jP (iU 0) (kP iS) rfl))),?_⟩
  simp?[];intro d hd;have npd:=iY hp hd;have e:upd H d (.dK []) p=some (.ins A.jG dx []):=nA hp npd;simp?[e,T.rp,T.mG];intro q hq;have nqp:q≠p:=λz=>by rw[z,iZ]at hq;cases hq
  have nqd:q≠d:=λz=>by rw[z,i4 (aj npd),iZ]at hq;cases hq
  have hq0:H q=none:=by rw[i4 nqp,i4 nqd]at hq;exact hq
  rw[i4 (aj nqp),iZ];simp?[T.rp,T.oU,R0];refine⟨PX,h d _ hd (λy o hy e=> ?_) ⟨⟨dx,q,iZ⟩,?_⟩⟩
  ·rw[i4 hy,i4 (iY e hq0),i4 hy,i4 (iY e hd)];exact e
  ·rw[i4 (aj npd),i4 (aj nqd),i4 (aj npd),iZ]
def A1(A:Ad):Sp:=λvs H Q _=>Y2 λp d=>C3 (vs=[.ref p]) (U_ A.jG H p d) (∀l H',ja H H'->H l=none->H' l=some (.lst [])->Q (.ref l) H')
theorem AX:i8 ["self"] ["self"] (i3 mS):=fsc
theorem AK(T:Txt K mg A):CM P w K mg base true 1 A.jG "pending" ["self"] (A1 A):=by
 specialize T.oX.lK AX
 ·obtain⟨p,d,rfl,m,h⟩:=h;refine⟨_,kN.run (iV (i6 (lz (fsc:=i3 mS) (N2:=["self"]) (js:=[0]) ⟨rfl,rfl,∅,∅,∅,∅,∅,∅,∅⟩ rfl rfl (by rfl) (jD (jo (Ho (by rfl)) (by rfl) T.rK ζs (iR (jd (iU 0) rfl) iS))) (λ_ _ _ _=>lq) (λ_ _ _ _=>(i5 Np (oF (iR (iU 0) iS)) (nD (B9 (K:=K) rfl (iU 1) rfl) (iU 0))))))),?_⟩;obtain⟨dx,q,e⟩:=m.ob;simp?[wM,e,T.rp,T.mG,Uo,m.dc,show B6 []=some [] from rfl];intro l0 hl0;have s0:ja H (upd H l0 (.lst [])):=ja.upd hl0;rw[show bV ι (jS [])=[] by simp[jS]];refine⟨⟨_,jX.of iZ⟩,mX (xs:=[]) (λ_ ys H'=>H'=upd H l0 (.lst [])/\ys=[]) ⟨rfl,rfl⟩ (λi ys H' hP=>by rw[hP.1];exact jX.of iZ) (bh _) (λi ys H' hP=>by rw[hP.2];exact bh _) (λi x ys H' hx'=>by cases hx') λys H' hP l hl=> ?_⟩;obtain⟨rfl,rfl⟩:=hP;exact h l _ (s0.trans (ja.upd hl)) (s0.free hl) iZ
def Ao(A:Ad):Sp:=λvs H Q _=>∃p dx,vs=[.ref p]/\H p=some (.ins A.jM dx [])/\∀d,H d=none->Q .kr (upd (upd H d (.lst [])) p (.ins A.jM dx (OF d)))
theorem Gp:i8 ["self"] ["self"] (i3 uW):=fsc
theorem FV{ca:Bool}(T:Txt K mg A):lZ P w K mg base (tX P w) ca 1 A.lF A.mZ ["self"] (Ao A):=by
 refine T.Fn.NO Gp (λvs H Q E h=> ?_) (λcdv A' outer s H vs Q E hr hx h=> ?_)
 ·obtain⟨_,_,rfl,_⟩:=h;rfl
 ·obtain⟨p,dx,rfl,hp,q⟩:=h;refine⟨_,kN.run (iV (jP (iU 0) (kP iS) rfl)),?_⟩;simp?[];intro d hd;have e:upd H d (.lst []) p=some (.ins A.jM dx []):=by rw[i4 (iY hp hd)];exact hp
  simp?[e,T.wQ,T.pv,Tb];exact q d hd
def Es(A:Ad):Sp:=λvs H Q _=>Y2 λp q=>C3 (vs=[.ref p]) (Tv A.jM H p q) (∀l H',ja H H'->H l=none->H' l=some (.lst [])->Q (.ref l) H')
theorem D_:i8 ["self"] ["self"] (i3 pG):=fsc
theorem DY(T:Txt K mg A):CM P w K mg base true 1 A.jM "names" ["self"] (Es A):=by
 specialize T.sx.lK D_
 ·obtain⟨p,q,rfl,m,h⟩:=h;refine⟨_,kN.run (iV (i6 (Jm (fsc:=i3 pG) (N2:=[]) (js:=[]) ⟨rfl,rfl,∅,∅,∅,∅,∅,∅,∅⟩ rfl rfl (by rfl) (vj rfl T.m9 (iR (jd (iU 0) rfl) iS)) (λ_ _ _ _=>(me (jf LJ (iU 1) nG (jr _)))) (λ_ _ _ _=>(oF (iR (iU 0) (iR (iU 1) iS))))))),?_⟩;obtain⟨dx,e⟩:=m.ob;simp?[J3,e,T.wQ,T.pv,U2];refine⟨⟨_,jX.of m.ls⟩,Ff (λi ys H'=>ja H H'/\ys=[]) ⟨ja.refl _,rfl⟩ (λi ys H' hP=>jX.of (hP.1 _ _ m.ls)) (by decide) (λi ys H' hP=>by rw[hP.2];exact bh _) (λi x ys H' hx' hP K' p1 hp1 hK=> ?_) λys H' hP l hl'=> ?_⟩
  ·cases hx'
  ·rw[hP.2];exact h l _ (hP.1.trans (ja.upd hl')) (hP.1.free hl') iZ
noncomputable def tR (K:ah):Sp:=λvs H Q _=>∃a ns k,vs=[.ref a,.int k]/\jX K H a (ns.map ι)/\0<=k/\Q (.int (cat ns k)) H
theorem Br:i8 ["_law_script","_law_k"] ["_law_script","_law_k"] (i3 p_):=fsc
theorem jA{ca:Bool}(T:Txt K mg A):CG P w K mg base ca 1 "_law_cell_at" ["_law_script","_law_k"] (tR K):=by
 specialize T.pX.lK Br
 ·obtain⟨a,ns,k,rfl,h⟩:=h;obtain⟨q,hS,h0⟩:=WG h;refine⟨_,kN.run (iT (jm (jf Cc (iU 1) (jo Nt (by rfl) T.mI ζl (iR (iU 0) iS)) (jr _)) (iV (i6 (jH PN (iU 0) (iU 1)))) jc)
   (iV (i6 iX))),?_⟩
  simp?[Pf,Kk];refine⟨_,hS,?_⟩
  split<;>rename_i h
  ·refine⟨_,hS,?_⟩;rw[Mz h0 h];exact q
  ·rw[Pr h0 h]at q;exact q
noncomputable def nx (s:Int):Int:=(s*48271+11)%2147483647
noncomputable def GJ:Sp:=λvs H Q _=>∃s,vs=[.int s]/\Q (.int (nx s)) H
theorem Gr:i8 ["_law_seed"] ["_law_seed"] (i3 uX):=fsc
theorem lL{ca:Bool}(T:Txt K mg A):CG P w K mg base ca 1 "_law_next" ["_law_seed"] GJ:=by
 specialize T.uL.lK Gr
 ·obtain⟨s',rfl,q⟩:=h;refine⟨_,kN.run (iV (i6 (i5 j6 (i5 jy (i5 qk (iU 0) iX) iX) iX))),?_⟩;simp?[];exact q
def GK:Sp:=λvs H Q _=>Y4 λ(c:Addr) (p:Nat->Option Int) (rs:List Addr) (s:Int)=>C3 (vs=[.ref c,.int s]) (H c=some (.dK (ur p 0 rs))) (∀H',ja H H'->Q (.int (wd p (J5 rs.length s))) H')
theorem Ak:i8 ["_law_cells","_law_seed","_law_pick"] ["_law_cells","_law_seed"] (i3 uY):=fsc
theorem pE(T:Txt K mg A):CG P w K mg base true 1 "_law_word" ["_law_cells","_law_seed"] GK:=by
 specialize T.uM.lK Ak
 ·obtain⟨c,p,rs,s',rfl,ec,h⟩:=h;refine⟨_,kN.run (iT (je (i:=2) Ak.nd rfl lo (i5 j6 (i5 jU (iU 1) iX) iX))
   (iT (jm (lJ (pe (jf (FC (Ky hr)) (iU 2) iX (jr _)) (pR (lJ (mN (jf (FC (Ky hr)) (iU 0) ma (jr _)) (m7 (jf B_ (iU 2) iX (jr _)))))))) (iV (i6 (w_ wZ iX))) jc)
   (iT (jm (jf (FC (Ky hr)) (iU 2) iX (jr _)) (iV (i6 (i5 qk iX (i5 oo (i5 j6 (i5 qk (i5 jU (iU 1) iX) iX) iX) iX)))) jc)
   (iV (i6 (i5 jy (i5 qk iX (jH jV (nE (EO (by rfl)) (by rfl) T.qA ζt (iR (iU 0) iS)) (i5 j6 (i5 jU (iU 1) iX) (jo Nr (by rfl) T.mI ζl (iR (iU 0) iS))))) iX)))))),?_⟩
  show oj _ _ _ [⇑c,↥s',none] H;exists H=H'/\σ'=[⇑c,↥s',↥(s'/11%6)]
  ·simp?[];exact hR _ _ ⟨rfl,rfl⟩
  ext _ _ ⟨rfl,rfl⟩;exists ja H H'/\¬(s'/11%6=0∨(rs.length=0/\1<s'/11%6))/\σ'=[⇑c,↥s',↥(s'/11%6)]
  ·by_cases c0:s'/11%6=0
   ·simp?[c0];have:=h H (ja.refl _);rw[J5,if_pos (.inl c0)]at this;exact this
   ·simp?[c0];intro q hq;have sp:=ja.upd (o:= .dK []) hq;rw[sp _ _ ec];dsimp only
    cases rs with
    |nil=>
     rw[if_pos (show(ur p 0 []).isEmpty=true from rfl)];by_cases c1:1<s'/11%6
     ·rw[if_pos c1];have:=h _ sp;rw[J5,if_pos (.inr ⟨rfl,c1⟩)]at this;exact this
     ·rw[if_neg c1];exact hR _ _ ⟨sp,λz=>z.elim c0 λz=>c1 z.2,rfl⟩
    |cons d r=>
     rw[if_neg (show¬(ur p 0 (d::r)).isEmpty=true by simp[ur])];exact hR _ _ ⟨sp,λz=>z.elim c0 λz=>by simp at z,rfl⟩
  ext _ H1 ⟨s1,nc,rfl⟩;have ec1:=s1 _ _ ec;by_cases c1:s'/11%6=1
  ·simp?[c1];have:=h H1 s1;rw[J5,if_neg nc,if_pos c1]at this;exact this
  simp?[Kj,c1,ec1];intro l hl;have sl:=ja.upd (o:= .lst (bV (λp=>kV p.fst) (ur p 0 rs))) hl;rw[sl _ _ ec1];dsimp only;have c2:rs.length≠0:=λz=>nc (by by_cases q:s'/11%6=0;exact .inl q;exact .inr ⟨z,⋯⟩);have pos:(0:Int)<rs.length:=by lia
  have i0:=dW (s'/66) (show(rs.length:Int)≠0 by lia);have i1:=dA (s'/66) pos;have il:(s'/66%rs.length).toNat<rs.length:=by lia
  have ll:((aW rs.length).map λk=>pz p k).length=rs.length:=by rw[ae,aY]
  rw[x_,Cr];refine⟨pos,?_⟩;rw[E5 i0 (by rw[ll];lia),af,ak,bT il];dsimp only[bE,dP];have:=h _ (s1.trans sl);rw[J5,if_neg nc,if_neg c1,Cr]at this
  first|exact this|exact⟨.inl ⟨by decide,by decide⟩,this⟩
theorem Ko{K:ah}{H:Hp}{l:Addr}{ws:List Int}{Q:VK}(el:H l=some (.lst (ws.map ι)))(hl:ws.length<=64)(q:∀p,H p=none->Q (.ref p) (upd H p (.lst ((Ck ws).map ι)))):
  pM (Mp K l) [] (QI (IC (Me Vd (Fd 0) (tC (ι 0)))) (IC (Me Fc (Me MI (Fd 0) (tC (ι 2))) (tC (ι 1))))) (Me G9 (Fd 0) (tC (ι 2))) H Q:=by
 refine pM.Hj (λy=>kj (iv y)) (λy=> .int (iv y/2)) (jX.of el) (by rw[ae];exact av hl (by decide)) (λy hy K' hK=> ?_) (λy hy hpl K' hK=> ?_) λl2 hl2=> ?_
 ·obtain⟨v,hv,rfl⟩:=List.mem_map.mp hy;simp?[];by_cases v0:0<v
  ·rw[if_pos v0,show decide (v%2=1)=kj (iv (ι v)) from decide_eq_decide.mpr ⟨λz=>⟨z,v0⟩,λz=>z.1⟩];exact hK
  ·rw[if_neg v0,show false=kj (iv (ι v)) from(decide_eq_false λz=>v0 z.2).symm];exact hK
 ·obtain⟨v,hv,rfl⟩:=List.mem_map.mp hy;simp?[];exact hK
 ·have ex:bV (λy=>ι (iv y/2)) (List.filter (λy=>kj (iv y)) (ws.map ι))=(Ck ws).map ι:=by
   simp only[Ck,cT,bQ];rfl
  rw[ex];exact q l2 hl2
noncomputable def Up (C lh f:Addr) (x:Own) (H:Hp):Nat->St->Hp->Prop:=λk σ H'=>Y4 λ(F W:List Nat) (r:Addr) (a4:Option V)=>Tn (k=(x.G.length-F.length)*9+W.length) (k<=300) (σ=[some (.ref C),some (.ref lh),some (.ref f),some (.ref r),a4]) (H' f=some (.lst ((F.map (pz x.p)).map ι))) (H' r=some (.lst ((W.map (pz x.p)).map ι))) (f≠r) (F.Nodup) ((∀i∈F,i<x.G.length)) ((∀i∈W,i<x.G.length)) ((∀res,Reach (λk=>kn (x.s k)) (F++nj F W) F.length res->Rd x.s x.D res)) (ja H H')
noncomputable def Il:Sp:=λvs H Q _=>Y4 λ(C lh:Addr) (rs:List Addr) (x:Own)=>C5 (vs=[.ref C,.ref lh]) (tS H C rs x) (All x) (H lh=some (.lst ((x.D.map (wd x.p)).map ι))) (∀l res H',ja H H'->H l=none->Rd x.s x.D res->H' l=some (.lst ((res.map (pz x.p)).map ι))->Q (.ref l) H')
theorem m_:i8 ["_law_cells","_law_hands","_law_found","_law_row","_law_at"] ["_law_cells","_law_hands"] (i3 qc):=fsc
theorem HQ(T:Txt K mg A):CG P w K mg base true 1 "_law_met" ["_law_cells","_law_hands"] Il:=by
 specialize T.vZ.lK m_
 ·obtain⟨C,lh,rs,x,rfl,lc,al,eh,h⟩:=h;refine⟨_,kN.run (iT (je (i:=2) m_.nd rfl lo (kP iS))
   (iT (mE (i:=3) (fsc:=i3 qc) (N2:=[]) (js:=[]) m_.nd rfl lo ⟨rfl,rfl,∅,∅,∅,∅,∅,∅,∅⟩ rfl rfl (by rfl) (jD (iU 1)) (λ_ _ _ _=>(me (lJ (mN (jf B_ (iU 0) iX (jr _)) (m7 (jf (FA (Ky hr)) (i5 j6 (iU 0) iX) iX (jr _))))))) (λ_ _ _ _=>(i5 jU (iU 0) iX)))
   (iT (vR hx.own (jf (FE (Ky hr)) (iU 3) (kP iS) (jr _))
    (iT (je (i:=4) m_.nd rfl lo (jH jV (iU 3) iX))
   (iT (je (i:=3) m_.nd rfl lo (Cj Nu (iU 3) (Ce iX) LK))
   (iV (jm (jf Jj (iU 4) (iU 2) (by with_unfolding_all rfl)) (iT (i9 (AF de df rZ (iU 2) (iR (iU 4) iS)))
   (iV (je (i:=3) m_.nd rfl lo (i5 PL (iU 3) (lz (fsc:=i3 qc) (N2:=[]) (js:=[]) ⟨rfl,rfl,∅,∅,∅,∅,∅,∅,∅⟩ rfl rfl (by rfl) (jD (nD (iU 0) (iU 4))) (λ_ _ _ _=>(me (lJ (mN (jf B_ (iU 0) iX (jr _)) (m7 (jf (FA (Ky hr)) (i5 j6 (iU 0) iX) iX (jr _))))))) (λ_ _ _ _=>(i5 jU (iU 0) iX))))))) jc)))))
   (iV (i6 (iU 2)))))),?_⟩
  have gn:∀{k:Nat} {ts:List Th},(∀t∈ts,Gd x t)->k∈kn ts->k<x.G.length:=λ{k ts} hg hk=>(hg _ (oS.mp hk)).1;have kdD:Ck (x.D.map (wd x.p))=(kn x.D).map (pz x.p):=ES λk hk=>(al.pp k (al.gd _ hk).1).1;have LU:=al.LU;show oj _ _ _ [⇑C,⇑lh,none,none,none] H;exists ∃f,C4 (H f=none) (ja H H') (H' f=some (.lst [])) (σ'=[⇑C,⇑lh,⇑f,none,none])
  ·simp?[];exact λd hd=>hR _ _ ⟨d,hd,ja.upd hd,iZ,rfl⟩
  ext _ H1 ⟨f,hf,s1,ef,rfl⟩;exists ∃r,C4 (H1 r=none) (ja H1 H') (H' r=some (.lst (((kn x.D).map (pz x.p)).map ι))) (σ'=[⇑C,⇑lh,⇑f,⇑r,none])
  ·simp?[s1 _ _ eh];refine⟨⟨_,jX.of (s1 _ _ eh)⟩,Ko (s1 _ _ eh) (by rw[ae];have:=al.d6;lia) λp hp=> ?_⟩;rw[kdD];exact hR _ _ ⟨p,hp,ja.upd hp,iZ,rfl⟩
  ext _ H2 ⟨r,hr2,s2,er,rfl⟩;have nfr:f≠r:=iY ef hr2;exists Y3 λF a3 a4=>C4 (σ'=[⇑C,⇑lh,⇑f,a3,a4]) (H' f=some (.lst ((F.map (pz x.p)).map ι))) (Rd x.s x.D F) (ja H H')
  ·have kl:(kn x.D).length<=6:=av AH al.d6;refine⟨Up C lh f x H,⟨_,[],kn x.D,r,none,rfl,by rw[eQ];lia,rfl,s2 _ _ ef,er,nfr,bC,(λ_ z=>nomatch z),λi hi=>gn al.gd hi,λres hr=>by unfold Rd;simpa using hr,s1.trans s2⟩,?_⟩;rintro k σ H3 ⟨F,W,r3,a4,hk,k300,rfl,e1,e2,nw,ndF,sF,sW,hres,s3⟩;have Fl:F.length<=x.G.length:=by have:=mH ndF λi hi=>List.mem_range.mpr (sF i hi);rwa[aY]at this
   simp?[GP,O9,MG];intro q hq;have sq:ja H3 (upd H3 q (HO.lst [])):=ja.upd hq;generalize upd H3 q (HO.lst [])=H4 at*;have e14:=sq _ _ e1;have e24:=sq _ _ e2;have s4:=s3.trans sq;rw[e24]
   cases W with
   |nil=>
    dsimp only;rw[if_pos (show(bV ι (bV (pz x.p) [])).length=([]:List V).length from rfl)];rw[show nj F []=[] from rfl,bg]at hres;exact hR _ _ ⟨F,_,_,rfl,e14,hres F (.done (au _)),s4⟩
   |cons a W=>
    dsimp only;rw[if_neg (show¬(bV ι (bV (pz x.p) (a::W))).length=([]:List V).length by simp)];refine⟨λσ' H'=>∃m',m'<k/\Up C lh f x H m' σ' H',λσ' H' hh=>hh,?_⟩;have ha:=sW a (aq ..);obtain⟨ra,_,va,ea⟩:=lc.val al ha;have kl2:(x.G.length-F.length)*9+(W.length+1)=k:=by rw[hk];rfl
    rw[show(bV ι (bV (pz x.p) (a::W)))[0]? =↥(pz x.p a) from rfl];dsimp only;intro w2 hw2;rw[show DI (bV ι (bV (pz x.p) (a::W))) (some 1) none=(W.map (pz x.p)).map ι from Py];have s5:ja H4 (upd H4 w2 (HO.lst ((W.map (pz x.p)).map ι))):=ja.upd hw2;have e5:upd H4 w2 (HO.lst ((W.map (pz x.p)).map ι)) w2=some (.lst ((W.map (pz x.p)).map ι)):=iZ;have nw2:f≠w2:=iY e14 hw2;generalize upd H4 w2 (HO.lst ((W.map (pz x.p)).map ι))=H5 at*;have e15:=s5 _ _ e14;rw[e15];dsimp only;have mF:=HC (f:=pz x.p) (F:=F) (a:=a) λb hb e=>al.inj b a (sF b hb) ha e;refine⟨rfl,EJ,?_⟩;by_cases hF:a∈F
    ·rw[if_neg (by rw[KC.mpr (mF.mpr hF)];decide)];refine⟨(x.G.length-F.length)*9+W.length,by(clear hk;lia),F,W,w2,_,rfl,by(clear hk;lia),rfl,e15,e5,nw2,ndF,sF,λy hy=>sW y (ai _ hy),λres hr=>hres res ?_,s4.trans s5⟩;simp only[nj];rw[if_pos hF];exact hr
    ·rw[if_pos (by rw[←Bool.not_eq_true,KC];exact λz=>hF (mF.mp z))];have ndF':=sf ndF hF;have sF':∀i∈F++[a],i<x.G.length:=λi hi=>by
      rcases List.mem_append.mp hi with hi|hi
      ·exact sF i hi
      ·rw[List.mem_singleton.mp hi];exact ha
     have Fl':F.length+1<=x.G.length:=by have:=mH ndF' λi hi=>List.mem_range.mpr (sF' i hi);rw[aY,ay]at this;exact this
     refine⟨by rw[ae,ae];exact bZ (show F.length<=20 by lia) (by decide),?_⟩;rw[show(F.map (pz x.p)).map ι++[ι (pz x.p a)]=((F++[a]).map (pz x.p)).map ι by rw[aF,aF];rfl];have f6:∀b u,H5 b=some u->b≠f->upd H5 f (HO.lst (((F++[a]).map (pz x.p)).map ι)) b=some u:=λb u eb nb=>nA eb nb;have e6:upd H5 f (HO.lst (((F++[a]).map (pz x.p)).map ι)) f=some (HO.lst (((F++[a]).map (pz x.p)).map ι)):=iZ;generalize upd H5 f (HO.lst (((F++[a]).map (pz x.p)).map ι))=H6 at*;have s6:ja H H6:=λb u eb=>f6 _ _ ((s4.trans s5) _ _ eb) (iY eb hf);have e56:=f6 _ _ e5 (aj nw2);rw[s6 _ _ lc.dc];dsimp only;rw[va];dsimp only;have er6:=s6 _ _ ea;have s8:=al.s8 a;have kdA:Ck ((x.s a).map (wd x.p))=(kn (x.s a)).map (pz x.p):=ES λk hk=>(al.pp k (al.gs a ha _ hk).1).1;refine⟨ra,rfl,⟨_,jX.of er6⟩,Ko er6 (by rw[ae];lia) λl2 hl2=> ?_⟩;rw[kdA];have s7:ja H6 (upd H6 l2 (HO.lst (((kn (x.s a)).map (pz x.p)).map ι))):=ja.upd hl2;have e7:upd H6 l2 (HO.lst (((kn (x.s a)).map (pz x.p)).map ι)) l2=some (HO.lst (((kn (x.s a)).map (pz x.p)).map ι)):=iZ;generalize upd H6 l2 (HO.lst (((kn (x.s a)).map (pz x.p)).map ι))=H7 at*;dsimp only;rw[s7 _ _ e56,e7];dsimp only;have kc:(kn (x.s a)).length<=8:=av AH s8;refine⟨by simp only[ae];exact av (show _<=400 by(clear hk;lia)) (by decide),λp5 hp5=>⟨(x.G.length-(F.length+1))*9+(W.length+(kn (x.s a)).length),by(clear hk Fl sF hr;lia),F++[a],W++kn (x.s a),p5,_,by rw[ay,ay];rfl,by(clear hk Fl sF hr;lia),rfl,?_,?_,iY (s7 _ _ e6) hp5,ndF',sF',λy hy=> ?_,λres hr=>hres res (Reach.pop hF hr),(s6.trans s7).trans (ja.upd hp5)⟩⟩
     ·exact(ja.upd hp5) _ _ (s7 _ _ e6)
     ·rw[iZ,aF,aF]
     ·rcases List.mem_append.mp hy with hy|hy
      ·exact sW y (ai _ hy)
      ·exact gn (al.gs a ha) hy
  ext _ H3 ⟨F,a3,a4,rfl,e3,rd,s3⟩;simp?[];exact h f F H3 s3 hf rd e3
theorem idx_map{f:Nat->Int}{k:Nat}:∀{l:List Nat},(∀a∈l,f a=f k->a=k)->(l.map f).idxOf (f k)=l.idxOf k
 | [],_=>rfl
 |a::r,h=>by
  rw[az,fU,fU,idx_map λb hb=>h b (ai _ hb)];by_cases e:a=k
  ·subst e;simp
  ·rw[show(f a==f k)=false from beq_false_of_ne λz=>e (h a (aq ..) z),show(a==k)=false from beq_false_of_ne e]
noncomputable def vM:Sp:=λvs H Q _=>∃(p:Nat->Option Int) (res:List Nat) (t:Th) (l:Addr),vs=[.int (wd p t),.ref l]/\H l=some (.lst ((res.map (pz p)).map ι))/\Gt res t/\(∀k∈res,0<=pz p k/\pz p k<=9999)/\(∀k∈res,∀i∈res,pz p k=pz p i->k=i)/\∀v H',ja H H'->OM H' (dr res t) v->Q v H'
theorem Ea:i8 ["_law_word_here","_law_met_here"] ["_law_word_here","_law_met_here"] (i3 tf):=fsc
theorem vF(T:Txt K mg A):CG P w K mg base true 1 "_law_drawn" ["_law_word_here","_law_met_here"] vM:=by
 specialize T.sD.lK Ea
 ·obtain⟨p,res,t,l,rfl,h⟩:=h;obtain⟨q,el,gt,pp,inj⟩:=Wt h;refine⟨_,kN.run (iT (jm (jf l9 (iU 0) (w_ wZ iX) (jr _)) (iV (i6 nG)) jc)
   (iT (jm (jf l9 (i5 j6 (iU 0) iX) iX (jr _)) (iV (i6 (i5 jU (iU 0) iX))) jc)
   (iV (i6 (oF (iR j3 (iR (AF fS PySem.F.type_list_index Jh (iU 1) (iR (i5 jU (iU 0) iX) iS)) iS))))))),?_⟩
  cases t with
  |no=>
   rw[show wd p Th.no= -1 from rfl];simp?[];exact q _ H (ja.refl _) rfl
  |nu n=>
   rw[show wd p (Th.nu n)=2*n from rfl];simp?[show¬2*n= -1 by lia,show 2*n%2=0 by lia,show 2*n/2=n by lia];exact q _ H (ja.refl _) rfl
  |ce k=>
   have hk:=pp k gt;rw[show wd p (Th.ce k)=2*pz p k+1 from rfl];simp?[By,show¬2*pz p k+1= -1 by lia,show¬(2*pz p k+1)%2=0 by lia,show(2*pz p k+1)/2=pz p k by lia,el];refine⟨_,rfl,bz gt,λb hb=>q _ _ (ja.upd hb) ⟨b,rfl,?_⟩⟩;rw[iZ,idx_map λa ha e=>inj a ha k gt e]
noncomputable def Et:Sp:=λvs H Q _=>Y5 λ(a b:Addr) (us ws:List V) (ts:List Th)=>C6 (vs=[.ref a,.ref b]) (H a=some (.lst us)) (H b=some (.lst ws)) (Ar H ts us) (Ar H ts ws) (∀H',ja H H'->Q (.bl true) H')
theorem rf:i8 ["_law_found","_law_due_here","_law_one","_law_other"] ["_law_found","_law_due_here"] (i3 s_):=fsc
theorem vE(T:Txt K mg A):CG P w K mg base true 1 "_law_alike" ["_law_found","_law_due_here"] Et:=by
 specialize T.sA.lK rf
 ·obtain⟨a,b,us,ws,ts,rfl,ea,eb,tu,tw',q⟩:=h;refine⟨_,kN.run (iT (jm (lJ (pe (jE (jj (jo l_ (by rfl) T.ky ζi (iR (iU 0) (iR (qm T.qA ζt) iS))) (λ_=>rfl))) (pR (jf (FF (Ky hr)) (jo kU (by rfl) T.mI ζl (iR (iU 0) iS)) (jo kU (by rfl) T.mI ζl (iR (iU 1) iS)) (jr _))))) (iV (i6 mD)) jc)
   (iT (jR hx.own rfl (Hu rfl T.KS (iR (iU 0) (iR (iU 1) iS))) (pQ (n:=2) (by rfl) (jY (ju (i:=2) rf.nd rfl lo) (jY (ju (i:=3) rf.nd rfl lo) nZ)))
    (iT (jm (lJ (mN (jj (jo l_ (by rfl) T.ky ζi (iR (iU 3) (iR (qm T.HI ζn) iS))) (λ_=>rfl)) (m7 (lJ (pe (jE (jj (jo l_ (by rfl) T.ky ζi (iR (iU 2) (iR (qm T.HI ζn) iS))) (λ_=>rfl))) (pR (jj (jo l_ (by rfl) T.ky ζi (iR (iU 2) (iR (qm T.FO PyProof.Rows.Boot.«bool») iS))) (λ_=>rfl)))))))) (iV (i6 mD)) jc)
   (iV (jm (jf (FF (Ky hr)) (iU 2) (iU 3) (jr _)) (iV (i6 mD)) jc))))
   (iV (i6 mD)))),?_⟩
  show oj _ _ _ [⇑a,⇑b,none,none] H;have ul:=tu.l;have wl:=tw'.l;exists H=H'/\σ'=[⇑a,⇑b,none,none]
  ·simp?[decide_eq_false_iff_not,ea,eb,Q4,IK,T.pj];rw[if_neg ⋯];exact hR _ _ ⟨rfl,rfl⟩
  ext _ _ ⟨rfl,rfl⟩;exists ja H H'
  ·simp?[];refine⟨⟨_,jX.of ea⟩,⟨_,jX.of eb⟩,j8.U5 (xs:=us) (ys:=ws) (λi σ H'=>ja H H'/\∃v2 v3,σ=[⇑a,⇑b,v2,v3]) ⋯ ⟨ja.refl _,none,none,rfl⟩ (λi σ H' _ hz=>by obtain⟨s,_⟩:=hz;exact⟨jX.of (s _ _ ea),jX.of (s _ _ eb)⟩) ?_ ?_⟩
   ·rintro i y z σ H1 pp hy hz ⟨s1,v2,v3,rfl⟩ hp R2 hR2;have s2:ja H1 (upd H1 pp (.tup [y,z])):=ja.upd hp;have tp:upd H1 pp (.tup [y,z]) pp=some (.tup [y,z]):=iZ;generalize upd H1 pp (.tup [y,z])=H2 at*;have s02:=s1.trans s2;have hi:i<ts.length:=by have:=(List.getElem?_eq_some_iff.mp hy).1;lia
    have t1:=(tu.g i _ _ (ab hi) hy).same s02;have t2:=(tw'.g i _ _ (ab hi) hz).same s02;refine⟨pp,_,rfl,.inl (.inl tp),rfl,?_⟩
    cases et:ts[i] with
    |no=>
     rw[et]at t1 t2
     cases t1;cases t2
     simp?[Q4,IK,T.oR];exact hR2 _ _ ⟨s02,_,_,rfl⟩
    |nu n=>
     rw[et]at t1 t2
     cases t1;cases t2
     simp?[Q4,IK,T.r0,T.qo];exact hR2 _ _ ⟨s02,_,_,rfl⟩
    |ce n=>
     rw[et]at t1 t2;obtain⟨b1,rfl,e1⟩:=t1;obtain⟨b2,rfl,e2⟩:=t2;have dq:tT (cI (tU H2 2) [V.str (aP "cell"),ι n] [V.str (aP "cell"),ι n])=some true:=by
      simp only[dD,dJ,tU,l7,IG,and_self,if_true,tT,bE,beq_self_eq_true,eJ]
     simp?[Q4,IK,e1,e2,T.r6,dq];exact hR2 _ _ ⟨s02,_,_,rfl⟩
   ·rintro σ H1 ⟨s1,_⟩;exact hR _ _ s1
  ext σ' H1 s1;simp?[];exact q H1 s1
theorem OX{xs:List V}{x:V}:Bm (xs++[x]) (-1)=some x:=by
 unfold Bm LH;rw[if_neg (by decide),ay,dI,if_pos ⋯,show(-1+((xs.length+1:Nat):Int)).toNat=xs.length by lia];simp
noncomputable def Eu:Sp:=λvs H Q _=>Y3 λ(P:Pa) (ds:List Th) (rows:List (List Th))=>C5 (vs=[.ref P.t]) (Mt H P ds rows) (rows.length<=20) ((∀r∈rows,r.length<=8)) (∀H',Kx P.rs H H'->Q (.bl true) H')
theorem vK:i8 ["_law_found","_law_k"] ["_law_found"] (i3 pH):=fsc
theorem DZ(T:Txt K mg A):CG P w K mg base true 1 "_law_apart" ["_law_found"] Eu:=by
 specialize T.sC.lK vK
 ·obtain⟨P,ds,rows,rfl,pc,rl,r8,q⟩:=h;refine⟨_,kN.run (iT (jR hx.own rfl (lG rfl T.mR (iR (jo kU (by rfl) T.mI ζl (iR (jH jV (iU 0) iX) iS)) iS)) (ju (i:=1) vK.nd rfl lo)
    (iV (i9 (AF de df rZ (jH jV (jH jV (iU 0) iX) (iU 1)) (iR (oF (iR j3 (iR (iU 1) iS))) iS)))))
   (iV (i6 (rE (FA (Ky hr)) (lz (fsc:=i3 pH) (N2:=["_law_found"]) (js:=[0]) ⟨rfl,rfl,∅,∅,∅,∅,∅,∅,∅⟩ rfl rfl (by rfl) (lG rfl T.mR (iR (jo kU (by rfl) T.mI ζl (iR (jH jV (iU 0) iX) iS)) iS)) (λ_ _ _ _=>(me (jf (FF (Ky hr)) (jH jV (jH jV (jH jV (iU 1) iX) (iU 0)) (w_ wZ iX)) (oF (iR j3 (iR (iU 0) iS))) (jr _)))) (λ_ _ _ _=>(iU 0))) (kP iS) (jr _))))),?_⟩
  show oj _ _ _ [⇑P.t,none] H;exists ∃v1,C3 (σ'=[⇑P.t,v1]) (Kx P.rs H H') (∀(i:Nat) (a:Addr),P.rs[i]? =some a->∃vs b,H' a=some (.lst (vs++[.ref b]))/\H' b=some (.tup [.str (aP "mark"),.int i]))
  ·simp?[pc.tp,pc.h1];have prl:=pc.rl;have lst:∀{i:Nat} {a:Addr},P.rs[i]? =some a->∃vs,H a=some (.lst vs)/\vs.length<=8:=λ{i a} e=>by
    have hi:=(List.getElem?_eq_some_iff.mp e).1;obtain⟨vs,h1,h2⟩:=pc.row i a _ e (ab ⋯);exact⟨vs,h1,by rw[h2.l];exact r8 _ (aG _)⟩
   have nt:P.t∉P.rs:=λz=>by
    obtain⟨i,hi,e⟩:=List.mem_iff_getElem.mp z;obtain⟨vs,h1,_⟩:=lst (i:=i) (a:=P.t) (by rw[ab hi,e]);rw[pc.tp]at h1;cases h1
   have nl:P.l1∉P.rs:=(List.nodup_cons.mp (List.nodup_cons.mp pc.nd).2).1;have ndr:=(List.nodup_cons.mp (List.nodup_cons.mp pc.nd).2).2;refine⟨⋯,by rw[ae];lia,?_⟩;rw[show((P.rs.map ξ).length:Int).toNat=P.rs.length by rw[ae];(clear prl;lia)];refine j8.range (λi σ H'=>∃v1,σ=[⇑P.t,v1]/\Kx P.rs H H'/\(∀(j:Nat) (a:Addr),P.rs[j]? =some a->j<i->∃vs b,H' a=some (.lst (vs++[.ref b]))/\H' b=some (.tup [.str (aP "mark"),.int j]))/\∀(j:Nat) (a:Addr),P.rs[j]? =some a->i<=j->H' a=H a)
    ⟨none,rfl,Kx.refl H,λj a _ z=>absurd z (cj _),λ_ _ _ _=>rfl⟩ ?_ ?_
   ·rintro i σ H1 hi ⟨v1,rfl,k1,d1,r1⟩;have eai:P.rs[i]? =some P.rs[i]:=ab hi;obtain⟨vs,ev,l8⟩:=lst eai;have ev1:=(r1 i _ eai (au _)).trans ev;have ea:Bm (P.rs.map ξ) (i:Int)=some (.ref P.rs[i]):=rP (by rw[ak,eai];rfl);simp?[k1 _ _ pc.tp rfl nt,k1 _ _ pc.h1 rfl nl,dZ,ea,ev1];intro b hb;have nb:P.rs[i]≠b:=iY ev1 hb;have ne:∀{j:Nat} {a:Addr},P.rs[j]? =some a->j≠i->a≠P.rs[i]:=λ{j a} e n z=>by
     obtain⟨hj,e⟩:=List.getElem?_eq_some_iff.mp e;rw[←e]at z;rcases Nat.lt_or_gt_of_ne n with y|y
     ·exact(List.pairwise_iff_getElem.mp ndr) j i hj hi y z
     ·exact(List.pairwise_iff_getElem.mp ndr) i j hi hj y z.symm
    rw[i4 nb,ev1];dsimp only;refine⟨bZ l8 (by decide),λc u e k n=> ?_,λj a e hj=> ?_,λj a e hj=> ?_⟩
    ·rw[i4 (λz=>n (by rw[z];exact aG hi)),i4 (iY (k1 c u e k n) hb)];exact k1 c u e k n
    ·by_cases z:j=i
     ·subst z;rw[eai]at e;cases e
      exact⟨vs,b,iZ,by rw[i4 (aj nb),iZ]⟩
     ·obtain⟨vs',b',e1,e2⟩:=d1 j a e ⋯;exact⟨vs',b',by rw[i4 (ne e z),i4 (iY e1 hb)];exact e1,by rw[i4 (kB e2 ev1),i4 (iY e2 hb)];exact e2⟩
    ·have e1:=r1 j a e ⋯;obtain⟨vs',e2,_⟩:=lst e;rw[i4 (ne e ⋯),i4 (iY (e1.trans e2) hb)];exact e1
   ·rintro σ H1 ⟨v1,rfl,k1,d1,_⟩;exact hR _ _ ⟨v1,rfl,k1,λi a e=>d1 i a e (List.getElem?_eq_some_iff.mp e).1⟩
  ext _ H1 ⟨v1,rfl,k1,m1⟩;have nt:P.t∉P.rs:=λz=>by
   obtain⟨i,hi,e⟩:=List.mem_iff_getElem.mp z;have prl:=pc.rl;obtain⟨vs,h1,_⟩:=pc.row i P.t _ (by rw[ab hi,e]) (ab ⋯);rw[pc.tp]at h1;cases h1
  have nl:P.l1∉P.rs:=(List.nodup_cons.mp (List.nodup_cons.mp pc.nd).2).1;have tp1:=k1 _ _ pc.tp rfl nt;have h11:=k1 _ _ pc.h1 rfl nl;simp?[tp1,h11,bK];refine⟨⋯,by rw[ae];have:=pc.rl;lia,?_⟩;rw[show((P.rs.map ξ).length:Int).toNat=P.rs.length by rw[ae];lia];refine rR (λi ys H'=>ja H1 H'/\ys=[]) ⟨ja.refl _,rfl⟩ (by have:=pc.rl;exact av (show _<=20 by lia) (by decide)) (λi ys H' z=>by rw[z.2];exact bh _) (λi ys H' hi hP K1 hK=> ?_) λys H' hP r hr=> ?_
  ·obtain⟨s2,rfl⟩:=hP;have eai:P.rs[i]? =some P.rs[i]:=ab hi;obtain⟨vs,b,e1,e2⟩:=m1 i _ eai;have ea:Bm (P.rs.map ξ) (i:Int)=some (.ref P.rs[i]):=rP (by rw[ak,eai];rfl);simp?[s2 _ _ tp1,s2 _ _ h11,dZ,ea,s2 _ _ e1,OX];intro p hp;have e3:=s2 _ _ e2;have s3:ja H' (upd H' p (HO.tup [V.str (aP "mark"),ι i])):=ja.upd hp;have e4:upd H' p (HO.tup [V.str (aP "mark"),ι i]) p=some (HO.tup [V.str (aP "mark"),ι i]):=iZ;generalize upd H' p (HO.tup [V.str (aP "mark"),ι i])=H3 at*;have dq:tT (cI (tU H3 2) [V.str (aP "mark"),ι i] [V.str (aP "mark"),ι i])=some true:=by
    simp only[dD,dJ,tU,l7,IG,and_self,if_true,tT,bE,beq_self_eq_true,eJ]
   rw[s3 _ _ e3]
   try rw[e4]
   dsimp only;refine⟨rfl,?_⟩;rw[dq];dsimp only;rw[if_neg (by decide)];exact hK _ _ ⟨s2.trans s3,rfl⟩
  ·obtain⟨s2,rfl⟩:=hP;intro p hp;have s3:=ja.upd (o:= .lst []) hr;dsimp only;rw[(ja.upd hp) r _ iZ,iZ];dsimp only;rw[if_pos rfl];exact q _ (k1.trans (q_ ((s2.trans s3).trans (ja.upd hp))))
def jI:Sp:=λvs H Q _=>∃i a b,vs=[.int i,.int a,.int b]/\Q (.bl (wi (.int i) a b)) H
theorem Gx:i8 ["thing","least","most"] ["thing","least","most"] (i3 u4):=fsc
theorem jN{ca:Bool}(T:Txt K mg A):CG P w K mg base ca 2 "is_within" ["thing","least","most"] jI:=by
 specialize T.uP.lK Gx
 ·obtain⟨i,a,b,rfl,q⟩:=h;refine⟨_,kN.run (iV (i6 (rD (iW (qt T).mono hr rfl hx (iR (iU 0) iS)) (uo (Jk Ca Ca (iU 1) (iU 0) (iU 2)))))),?_⟩;simp?[J0,oJ,wi]at q⊢;by_cases h:a<=i<;>simpa [h] using q
def Ep(A:Ad):Sp:=λvs H Q _=>Y6 λp dx b e t n=>C5 (vs=[.ref p,.int n]) (H p=some (.ins A.i_ dx (nV b e t))) (1<=n) (n<=e-t) (Q (.int t) (upd H p (.ins A.i_ dx (nV b e (t+n)))))
theorem vJ:i8 ["self","many","at"] ["self","many"] (i3 sY):=fsc
theorem qD(T:Txt K mg A):CM P w K mg base true 2 A.i_ "take" ["self","many"] (Ep A):=by
 specialize T.su.lK vJ
 ·obtain⟨p,dx,b,e,t,n,rfl,hp,n1,n2,q⟩:=h;refine⟨_,kN.run (iT (jm (lJ (pe (jE (jj (iW (qt T).mono hr rfl hx (iR (iU 1) iS)) (λ_=>rfl))) (pR (jf Cc (iU 1) iX (jr _))))) (iV jK) jc)
   (iT (jm (jf B_ (iU 1) (jJ (iU 0) T.jZ (DW T).mono hr hx) (jr _)) (iV jK) jc)
   (iT (je (i:=2) vJ.nd rfl lo (jd (iU 0) rfl))
   (iT (jP (iU 0) (i5 jy (iU 2) (iU 1)) rfl)
   (iV (i6 (iU 2))))))),?_⟩
  simp?[oJ,show¬n<1 by lia,hp,Oh];refine⟨p,dx,b,e,t,rfl,hp,?_⟩;simp?[show¬e-t<n by lia,hp,T.jZ,T.lb,Le,Ld,Lc];exact q
noncomputable def Ik:Sp:=λvs H Q _=>Y6 λ(P:Pa) (C lh:Addr) (rs:List Addr) (x:Own) (res:List Nat)=>C7 (vs=[.ref P.t,.ref C,.ref lh]) (tS H C rs x) (All x) (H lh=some (.lst ((x.D.map (wd x.p)).map ι))) (Rd x.s x.D res) (Mt H P (x.D.map (dr res)) (res.map λk=>(x.s k).map (dr res))) (∀H',ja H H'->Q (.bl true) H')
theorem qw:i8 ["_law_found","_law_cells","_law_hands","_law_met_here","_law_row","_law_at"] ["_law_found","_law_cells","_law_hands"] (i3 qb):=fsc
theorem qr(T:Txt K mg A):CG P w K mg base true 2 "_law_due" ["_law_found","_law_cells","_law_hands"] Ik:=by
 specialize T.vY.lK qw
 ·obtain⟨P,C,lh,rs,x,res,rfl,lc,al,eh,rd,pc,q⟩:=h;refine⟨_,kN.run (iT (je (i:=3) qw.nd rfl lo (iW (HQ T).mono hr rfl hx (iR (iU 1) (iR (iU 2) iS))))
   (iT (jm (lJ (pe (jE (jj (jo l_ (by rfl) T.ky ζi (iR (iU 0) (iR (qm T.FP PyProof.Rows.Boot.«tuple») iS))) (λ_=>rfl))) (pe (jf Cd (jo kU (by rfl) T.mI ζl (iR (iU 0) iS)) iX (jr _)) (pe (jE (jj (jo l_ (by rfl) T.ky ζi (iR (jH jV (iU 0) iX) (iR (qm T.qA ζt) iS))) (λ_=>rfl))) (pR (jf Cd (jo kU (by rfl) T.mI ζl (iR (jH jV (iU 0) iX) iS)) (jo kU (by rfl) T.mI ζl (iR (iU 3) iS)) (jr _))))))) (iV (i6 mD)) jc)
   (iT (jm (jE (jj (iW (vE T).mono hr rfl hx (iR (jH jV (iU 0) iX) (iR (lz (fsc:=i3 qb) (N2:=["_law_met_here"]) (js:=[3]) ⟨rfl,rfl,∅,∅,∅,∅,∅,∅,∅⟩ rfl rfl (by rfl) (jD (iU 2)) (λ_ _ _ _=>lq) (λ_ _ _ _=>(iW (vF T).mono hr rfl lI (iR (iU 0) (iR (iU 1) iS))))) iS))) (λ_=>rfl))) (iV (i6 mD)) jc)
   (iT (jR hx.own rfl (Hu rfl T.KS (iR (jH jV (iU 0) iX) (iR (iU 3) iS))) (pQ (n:=2) (by rfl) (jY (ju (i:=4) qw.nd rfl lo) (jY (ju (i:=5) qw.nd rfl lo) nZ)))
    (iV (jm (jE (jj (iW (vE T).mono hr rfl hx (iR (iU 4) (iR (lz (fsc:=i3 qb) (N2:=["_law_met_here"]) (js:=[3]) ⟨rfl,rfl,∅,∅,∅,∅,∅,∅,∅⟩ rfl rfl (by rfl) (jD (nD (iU 1) (iU 5))) (λ_ _ _ _=>lq) (λ_ _ _ _=>(iW (vF T).mono hr rfl lI (iR (iU 0) (iR (iU 1) iS))))) iS))) (λ_=>rfl))) (iV (i6 mD)) jc)))
   (iV (i6 mD)))))),?_⟩
  show oj _ _ _ [⇑P.t,⇑C,⇑lh,none,none,none] H;exists ∃l,C3 (ja H H') (H' l=some (.lst ((res.map (pz x.p)).map ι))) (σ'=[⇑P.t,⇑C,⇑lh,⇑l,none,none])
  ·simp?[];refine⟨C,lh,rs,x,rfl,lc,al,eh,λl res' H' s1 hl rd' el=>hR _ _ ⟨l,s1,?_,rfl⟩⟩;rw[Reach.fn rd rd'];exact el
  ext _ H1 ⟨l,s1,el,rfl⟩;have sub:∀k∈res,k<x.G.length:=λk hk=>List.mem_range.mp (Reach.sub (L:=aW x.G.length) rd (λk hk i hi=>List.mem_range.mpr (al.gs k (List.mem_range.mp hk) _ (oS.mp hi)).1) (λk hk=>List.mem_range.mpr (al.gd _ (oS.mp (qj hk))).1) k hk);have pp:∀k∈res,0<=pz x.p k/\pz x.p k<=9999:=λk hk=>al.pp k (sub k hk);have inj:∀k∈res,∀i∈res,pz x.p k=pz x.p i->k=i:=λk hk i hi e=>al.inj k i (sub k hk) (sub i hi) e;have LU:=al.LU;have rl:res.length<=20:=by have:=mH rd.all.1 λk hk=>List.mem_range.mpr (sub k hk);rw[aY]at this;lia
  have prl:P.rs.length=res.length:=by rw[pc.rl,ae]
  have tp1:=s1 _ _ pc.tp;have h11:=s1 _ _ pc.h1;exists H1=H'/\σ'=[⇑P.t,⇑C,⇑lh,⇑l,none,none]
  ·simp?[Int.cast_ofNat_Int,Q4,IK,tp1,h11,el,T.pT,T.pj,ae,prl];exact hR _ _ ⟨rfl,rfl⟩
  ext _ _ ⟨rfl,rfl⟩;have drw:∀{K:ah} {H2:Hp} {lw:Addr} {ts:List Th} {Q2:VK},ja H1 H2->H2 lw=some (.lst ((ts.map (wd x.p)).map ι))->ts.length<=8->(∀t∈ts,Gt res t)->(∀a vs H3,ja H2 H3->H3 a=some (.lst vs)->Ar H3 (ts.map (dr res)) vs->Q2 (.ref a) H3)->pM (Mp K lw) [⇑l] QK (A3 vM (λ_ _ _ _=>False) (E1 (Fd 0) (E1 (Fd 1) IB))) H2 Q2:=λ{K H2 lw ts Q2} s2 ew ln gt q2=>by
   refine mX (xs:=(ts.map (wd x.p)).map ι) (λi ys H'=>ja H2 H'/\Ar H' ((ts.take i).map (dr res)) ys/\ys.length<=i) ⟨ja.refl _,Ar.nil,au _⟩ (λi ys H' hP=>jX.of (hP.1 _ _ ew)) (by rw[ae,ae];exact av ln (by decide)) (λi ys H' hP=>hP.2.2) (λi y ys H' hx' hP K1 hK=> ?_) λys H' hP a ha=> ?_
   ·obtain⟨s5,th,hy⟩:=hP;obtain⟨hi,rfl,_⟩:=ints_get hx';have hi':i<ts.length:=by rw[ae]at hi;exact hi
    rw[cN];simp?[];refine⟨x.p,res,ts[i],l,rfl,s5 _ _ (s2 _ _ el),gt _ (aG hi'),pp,inj,λv H3 s3 tv=>hK _ _ ⟨s5.trans s3,?_,by rw[ay];exact dO hy⟩⟩;rw[cg,ab hi',aF];exact(th.same s3).snoc tv
   ·obtain⟨s5,th,_⟩:=hP;rw[ae,ae,bt]at th;exact q2 a ys _ (s5.trans (ja.upd ha)) iZ (th.same (ja.upd ha))
  have gtD:∀t∈x.D,Gt res t:=λt ht=>by
   rcases rd.all.2.1 t ht with z|⟨n,z⟩
   ·exact z
   ·have:=al.gd t ht;rw[z]at this⊢;exact this
  have gtS:∀k∈res,∀t∈x.s k,Gt res t:=λk hk t ht=>by
   cases t with
   |no=>exact bB
   |nu n=>exact al.gs k (sub k hk) _ ht
   |ce i=>exact rd.all.2.2 k hk i (oS.mpr ht)
  exists ja H1 H'/\σ'=[⇑P.t,⇑C,⇑lh,⇑l,none,none]
  ·simp?[tp1,bK];refine⟨⟨_,jX.of (s1 _ _ eh)⟩,drw (ja.refl _) (s1 _ _ eh) (by have:=al.d6;lia) gtD λa vs H2 s2 ea tv=>⟨P.l0,a,P.v0,vs,_,rfl,s2 _ _ (s1 _ _ pc.h0),ea,(pc.th.same s1).same s2,tv,λH3 s3=>⟨true,rfl,?_⟩⟩⟩;rw[if_neg (by decide)];exact hR _ _ ⟨s2.trans s3,rfl⟩
  ext _ H2 ⟨s2,rfl⟩;have tp2:=s2 _ _ tp1;have h12:=s2 _ _ h11;exists ja H2 H'
  ·simp?[tp2];have s12:=s1.trans s2;refine⟨⟨_,jX.of h12⟩,⟨_,jX.of (s2 _ _ el)⟩,j8.U5 (xs:=P.rs.map ξ) (ys:=(res.map (pz x.p)).map ι) (λi σ H'=>ja H2 H'/\∃v4 v5,σ=[⇑P.t,⇑C,⇑lh,⇑l,v4,v5]) (by simp only[ae];exact prl) ⟨ja.refl _,none,none,rfl⟩ (λi σ H' _ hz=>by obtain⟨s,_⟩:=hz;exact⟨jX.of (s _ _ h12),jX.of (s _ _ (s2 _ _ el))⟩) ?_ ?_⟩
   ·rintro i y z σ H3 pp' hy hz ⟨s3,v4,v5,rfl⟩ hp R2 hR2;obtain⟨hi,rfl,_⟩:=ints_get hz;have hi':i<res.length:=by rw[ae]at hi;exact hi
    rw[cN];have hir:i<P.rs.length:=by lia
    rw[ak,ab hir]at hy
    cases hy
    have hk:=aG hi';obtain⟨vs,ea,tv⟩:=pc.row i P.rs[i] ((x.s res[i]).map (dr res)) (ab hir) (by rw[ak,ab hi'];rfl);have s4:ja H3 (upd H3 pp' (.tup [.ref P.rs[i],.int (pz x.p res[i])])):=ja.upd hp;have tp:upd H3 pp' (.tup [.ref P.rs[i],.int (pz x.p res[i])]) pp'=some (.tup [.ref P.rs[i],.int (pz x.p res[i])]):=iZ;generalize upd H3 pp' (.tup [.ref P.rs[i],.int (pz x.p res[i])])=H4 at*;have s24:=s3.trans s4;have s04:=s12.trans s24;obtain⟨ra,_,va,era⟩:=lc.val al (sub _ hk);refine⟨pp',_,rfl,.inl (.inl tp),rfl,?_⟩;simp?[s04 _ _ lc.dc,va,bK];refine⟨⟨_,jX.of (s04 _ _ era)⟩,drw (s2.trans s24) (s04 _ _ era) (al.s8 _) (gtS _ hk) λb us H5 s5 eb tu=>⟨P.rs[i],b,vs,us,_,rfl,s5 _ _ (s04 _ _ ea),eb,(tv.same s04).same s5,tu,λH6 s6=>⟨true,rfl,?_⟩⟩⟩;rw[if_neg (by decide)];exact hR2 _ _ ⟨(s24.trans s5).trans s6,_,_,rfl⟩
   ·rintro σ H3 ⟨s3,_⟩;exact hR _ _ s3
  ext σ' H3 s3;simp?[];exact q H3 ((s1.trans s2).trans s3)
def tI:Sp:=λvs H Q _=>∃i,vs=[.int i]/\Q (.bl (wi (.int i) (-1000000000000) 1000000000000)) H
theorem Gu:i8 ["thing"] ["thing"] (i3 u3):=fsc
theorem Ac{ca:Bool}(T:Txt K mg A):CG P w K mg base ca 3 "is_number" ["thing"] tI:=by
 specialize T.uO.lK Gu
 ·obtain⟨i,rfl,q⟩:=h;refine⟨_,kN.run (iV (i6 (iW (jN T).mono hr rfl hx (iR (iU 0) (iR (w_ wZ (kE T.oC)) (iR (kE T.oC) iS)))))),?_⟩;simp?[jI];exact q
def vc:Sp:=λvs H Q _=>∃i,vs=[.int i]/\Q (.bl (wi (.int i) 0 9999)) H
theorem H_:i8 ["thing"] ["thing"] (i3 wy):=fsc
theorem Bb{ca:Bool}(T:Txt K mg A):CG P w K mg base ca 3 "is_place" ["thing"] vc:=by
 specialize T.wa.lK H_
 ·obtain⟨i,rfl,q⟩:=h;refine⟨_,kN.run (iV (i6 (iW (jN T).mono hr rfl hx (iR (iU 0) (iR iX (iR (kE T.tK) iS)))))),?_⟩;simp?[jI];exact q
def rj:Sp:=λvs H Q _=>∃i,vs=[.int i]/\wi (.int i) 0 8=true/\Q .kr H
theorem Ef:i8 ["slots"] ["slots"] (i3 tF):=fsc
theorem vH(T:Txt K mg A):CG P w K mg base true 3 "want_slots" ["slots"] rj:=by
 specialize T.sN.lK Ef
 ·obtain⟨i,rfl,w,q⟩:=h;refine⟨_,kN.run (iV (jm (jE (jj (iW (jN T).mono hr rfl hx (iR (iU 0) (iR iX (iR (kE T.pI) iS)))) (λ_=>rfl))) (iV jK) jc)),?_⟩;simp?[jI,w];exact q
def JU:Sp:=λvs H Q _=>∃n,C5 (vs=[.int n]) (0<=n) (n<=34) (n%4<=2) (Q (.bl true) H)
theorem JQ:i8 ["number"] ["number"] (i3 AR):=fsc
theorem Jw(T:Txt K mg A):CG P w K mg base true 3 "is_head" ["number"] JU:=by
 specialize T.AM.lK JQ
 ·obtain⟨n,rfl,n0,n1,n2,q⟩:=h;refine⟨_,kN.run (iV (i6 (rD (iW (jN T).mono hr rfl hx (iR (i5 jU (iU 0) iX) (iR iX (iR (kE T.pI) iS)))) (uo (rE Ca (i5 j6 (iU 0) iX) (kE T.mU) (jr _)))))),?_⟩;simp?[jI,BM (show 0<=n/4 by lia) (show n/4<=8 by lia),n2];exact q
def QE(A:Ad):Sp:=λvs H Q _=>Y5 λp q ws i k=>C5 (vs=[.ref p,.int i,.int k]) (jL A.i7 H p q ws) (0<=i) (i+k<ws.length) (Q (.bl true) H)
theorem Qx:i8 ["memory","at","slots"] ["memory","at","slots"] (i3 JL):=fsc
theorem KY{ca:Bool}(T:Txt K mg A):CG P w K mg base ca 3 "fits" ["memory","at","slots"] (QE A):=by
 specialize T.JC.lK Qx
 ·obtain⟨p,q,ws,i,k,rfl,m,i0,i1,h⟩:=h;refine⟨_,kN.run (iV (i6 (iW (jN T).mono hr rfl hx (iR (iU 1) (iR iX (iR (i5 oo (i5 oo (jd (iU 0) rfl) iX) (iU 2)) iS)))))),?_⟩;obtain⟨dx,e⟩:=m.ob;simp?[jI,e,T.jv,T.lB,Cv,BM i0 (show i<=(ws.length:Int)-1-k by lia)];exact h
def Dr(A:Ad):Sp:=λvs H Q _=>Y3 λp dx n=>C5 (vs=[.ref p,.int n]) (H p=some (.ins A.i7 dx [])) (1<=n) (n<=4000) (∀q H',H q=none->jL A.i7 H' p q (ao n.toNat (-1))->(∀b o,H b=some o->b≠p->H' b=some o)->Q .kr H')
theorem C_:i8 ["self","size"] ["self","size"] (i3 qT):=fsc
theorem CD(T:Txt K mg A):lZ P w K mg base (tX P w) true 3 A.kK A.lR ["self","size"] (Dr A):=by
 refine T.BZ.NO C_ (λvs H Q E h=> ?_) (λcdv A' outer s H vs Q E hr hx h=> ?_)
 ·obtain⟨_,_,_,rfl,_⟩:=h;rfl
 ·obtain⟨p,dx,n,rfl,e,h0,h1,h⟩:=h;refine⟨_,kN.run (iT (jm (jE (jj (iW (jN T).mono hr rfl hx (iR (iU 1) (iR iX (iR (kE T.tL) iS)))) (λ_=>rfl))) (iV jK) jc)
   (iT (jP (iU 0) (iU 1) rfl)
   (iV (jP (iU 0) (i5 KJ (kP (iR (kE T.pL) iS)) (iU 1)) rfl)))),?_⟩
  simp?[jI,e,T.jv,T.lB,BM h0 h1];intro l hl;obtain⟨nl,hl0⟩:=kC hl;refine⟨by omega,by omega,av (show [ι (-1)].length*n.toNat<=4000 by simp;omega) (by decide),λl2 hl2=> ?_⟩;obtain⟨nl2,hl2'⟩:=kC hl2;obtain⟨nl2p,hl20⟩:=kC hl2';rw[i4 (aj nl2p),i4 (aj nl),iZ];refine⟨T.jv,T.kH,by simp[j4],?_⟩;refine h l2 _ hl20 ⟨⟨dx,?_⟩,?_⟩ λb o eb nb=> ?_
  ·rw[iZ,R7,bc,show(n.toNat:Int)=n from bS (by omega)]
  ·rw[i4 nl2p,iZ,Hk,fv]
  ·rw[i4 nb,i4 (iY eb hl20),i4 (iY eb hl0),i4 nb];exact eb
def vb(A:Ad):Sp:=λvs H Q _=>Y4 λp q ws i=>C5 (vs=[.ref p,.int i]) (jL A.i7 H p q ws) (0<=i) (i<ws.length) (Q .kr H)
theorem u6:i8 ["self","at"] ["self","at"] (i3 mK):=fsc
theorem oI(T:Txt K mg A):CM P w K mg base true 3 A.i7 "want_place" ["self","at"] (vb A):=by
 specialize T.mJ.lK u6
 ·obtain⟨p,q,ws,i,rfl,m,i0,i1,h⟩:=h;refine⟨_,kN.run (iV (jm (jE (jj (iW (jN T).mono hr rfl hx (iR (iU 1) (iR iX (iR (i5 oo (jd (iU 0) rfl) iX) iS)))) (λ_=>rfl))) (iV jK) jc)),?_⟩;obtain⟨dx,e⟩:=m.ob;simp?[jI,e,T.jv,T.lB,Cv,BM i0 (cX i1)];exact h
def tH(A:Ad):Sp:=λvs H Q _=>Y5 λp q ws i k=>C5 (vs=[.ref p,.int i,.int k]) (jL A.i7 H p q ws) (0<=i) (i+k<=ws.length) (Q .kr H)
theorem tG:i8 ["self","begin","many"] ["self","begin","many"] (i3 lV):=fsc
theorem nJ(T:Txt K mg A):CM P w K mg base true 3 A.i7 "want_stretch" ["self","begin","many"] (tH A):=by
 specialize T.lU.lK tG
 ·obtain⟨p,q,ws,i,k,rfl,m,i0,i1,h⟩:=h;refine⟨_,kN.run (iV (jm (jE (jj (iW (jN T).mono hr rfl hx (iR (iU 1) (iR iX (iR (i5 oo (jd (iU 0) rfl) (iU 2)) iS)))) (λ_=>rfl))) (iV jK) jc)),?_⟩;obtain⟨dx,e⟩:=m.ob;simp?[jI,e,T.jv,T.lB,Cv,BM i0 (show i<=(ws.length:Int)-k by lia)];exact h
def GF(A:Ad):Sp:=λvs H Q _=>Y6 λp dx b e t i=>C3 (vs=[.ref p,.int i]) (H p=some (.ins A.i_ dx (nV b e t))) (Q (.bl (wi (.int i) b (t-1))) H)
theorem Gn:i8 ["self","at"] ["self","at"] (i3 uV):=fsc
theorem pC{ca:Bool}(T:Txt K mg A):CM P w K mg base ca 3 A.i_ "has" ["self","at"] (GF A):=by
 specialize T.uH.lK Gn
 ·obtain⟨p,dx,b,e,t,i,rfl,hp,q⟩:=h;refine⟨_,kN.run (iV (i6 (iW (jN T).mono hr rfl hx (iR (iU 1) (iR (jd (iU 0) rfl) (iR (i5 oo (jd (iU 0) rfl) iX) iS)))))),?_⟩;simp?[jI,hp,T.jZ,T.kR,T.lb,Lb,Le];exact q
def El(A:Ad):Sp:=λvs H Q _=>Y3 λp dx n=>C5 (vs=[.ref p,.int n]) (H p=some (.ins A.jF dx [])) (1<=n) (n<=6) (∀q H',H q=none->ub A.jF H' p q (ao n.toNat (-1))->(∀b o,H b=some o->b≠p->H' b=some o)->Q .kr H')
theorem D4:i8 ["self","many"] ["self","many"] (i3 sS):=fsc
theorem DS(T:Txt K mg A):lZ P w K mg base (tX P w) true 3 A.kY A.mv ["self","many"] (El A):=by
 refine T.DL.NO D4 (λvs H Q E h=> ?_) (λcdv A' outer s H vs Q E hr hx h=> ?_)
 ·obtain⟨_,_,_,rfl,_⟩:=h;rfl
 ·obtain⟨p,dx,n,rfl,e,h0,h1,h⟩:=h;refine⟨_,kN.run (iT (jm (jE (jj (iW (jN T).mono hr rfl hx (iR (iU 1) (iR iX (iR (kE T.tJ) iS)))) (λ_=>rfl))) (iV jK) jc)
   (iV (jP (iU 0) (i5 KJ (kP (iR (kE T.pL) iS)) (iU 1)) rfl))),?_⟩
  simp?[jI,BM h0 h1];intro l hl;refine⟨by omega,by omega,av (show [ι (-1)].length*n.toNat<=6 by show 1*n.toNat<=6;lia) (by decide),λp1 hp1=> ?_⟩;obtain⟨n1,hq⟩:=kC hp1;have npl:=iY e hl;have np1:=iY e hq;rw[i4 np1,i4 npl,e];dsimp only;refine⟨T.lx,T.lA,by decide,h p1 _ hq ⟨⟨dx,iZ⟩,?_⟩ λb o eb nb=> ?_⟩
  ·rw[i4 (aj np1),iZ,Hk,fv]
  ·rw[i4 nb,i4 (iY eb hq),i4 (iY eb hl)];exact eb
def wH(A:Ad):Sp:=λvs H Q _=>Y4 λp q ws i=>C5 (vs=[.ref p,.int i]) (ub A.jF H p q ws) (0<=i) (i<ws.length) (Q .kr H)
theorem wF:i8 ["self","hand"] ["self","hand"] (i3 nR):=fsc
theorem vV(T:Txt K mg A):CM P w K mg base true 3 A.jF "want_hand" ["self","hand"] (wH A):=by
 specialize T.nP.lK wF
 ·obtain⟨p,q,ws,i,rfl,m,i0,i1,h⟩:=h;refine⟨_,kN.run (iV (jm (jE (jj (iW (jN T).mono hr rfl hx (iR (iU 1) (iR iX (iR (i5 oo (jo kU (by rfl) T.mI ζl (iR (jd (iU 0) rfl) iS)) iX) iS)))) (λ_=>rfl))) (iV jK) jc)),?_⟩;obtain⟨dx,e⟩:=m.ob;simp?[jI,e,T.lx,T.lA,Ng,m.ls,ae,BM i0 (cX i1)];exact h
def GD:Sp:=λ_ _ _ _=>False
theorem FT{ca:Bool}(T:Txt K mg A):CM P w K mg base ca 3 A.jG "say" ["self","ticket"] GD:=let ⟨f,d,F⟩:=T.uG;⟨_,_,f,d,F,⟨λ_ _ _ _ h=>h.elim,λ_ _ _ _ _ _ _ _ _ _ _ _ _ h=>h.elim⟩⟩
def ve:Sp:=λvs H Q _=>∃i,vs=[.int i]/\wi (.int i) (-1000000000000) 1000000000000=true/\Q .kr H
theorem Di:i8 ["thing"] ["thing"] (i3 q8):=fsc
theorem CL(T:Txt K mg A):CG P w K mg base true 4 "want_number" ["thing"] ve:=by
 specialize T.qP.lK Di
 ·obtain⟨i,rfl,w,q⟩:=h;refine⟨_,kN.run (iV (jm (jE (jj (iW (Ac T).mono hr rfl hx (iR (iU 0) iS)) (λ_=>rfl))) (iV jK) jc)),?_⟩;simp?[tI,w];exact q
def oA:Sp:=λvs H Q _=>∃i,vs=[.int i]/\wi (.int i) 0 9999=true/\Q .kr H
theorem Ee:i8 ["thing"] ["thing"] (i3 tE):=fsc
theorem qF(T:Txt K mg A):CG P w K mg base true 4 "want_place" ["thing"] oA:=by
 specialize T.sL.lK Ee
 ·obtain⟨i,rfl,w,q⟩:=h;refine⟨_,kN.run (iV (jm (jE (jj (iW (Bb T).mono hr rfl hx (iR (iU 0) iS)) (λ_=>rfl))) (iV jK) jc)),?_⟩;simp?[vc,w];exact q
def QF:Sp:=λvs H Q _=>Y2 λi x=>C3 (vs=[.int i]) (kd (.int i)=some x) (Q (.str x) H)
theorem Qy:i8 ["word"] ["word"] (i3 JM):=fsc
theorem nN(T:Txt K mg A):CG P w K mg base true 4 "kind" ["word"] QF:=by
 specialize T.JD.lK Qy
 ·obtain⟨i,x,rfl,e,q⟩:=h;refine⟨_,kN.run (iT (jm (jE (jj (iW (qt T).mono hr rfl hx (iR (iU 0) iS)) (λ_=>rfl))) (iV jK) jc)
   (iT (jm (jf l9 (iU 0) (kE T.pL) (jr _)) (iV (i6 j3)) jc)
   (iT (jm (lJ (mN (jf l9 (i5 j6 (iU 0) iX) iX (jr _)) (m7 (jj (iW (Ac T).mono hr rfl hx (iR (i5 jU (iU 0) iX) iS)) (λ_=>rfl))))) (iV (i6 j3)) jc)
   (iT (jm (lJ (mN (jf l9 (i5 j6 (iU 0) iX) iX (jr _)) (m7 (jj (iW (Bb T).mono hr rfl hx (iR (i5 jU (iU 0) iX) iS)) (λ_=>rfl))))) (iV (i6 j3)) jc)
   (iV jK))))),?_⟩
  simp?[oJ,tI,vc];rcases Cm e with ⟨rfl,rfl⟩|⟨rfl,c,d,f⟩|⟨rfl,c,d,f⟩
  ·rw[if_pos rfl];exact q
  ·rw[if_neg ⋯,if_pos c,BM ⋯ ⋯];exact q
  ·rw[if_neg (by(clear c;lia)),if_neg ⋯];simp?[c,BM (show 0<=i/2 by lia) (show i/2<=9999 by lia)];exact q
def Ds(A:Ad):Sp:=λvs H Q _=>Y4 λp q ws i=>C5 (vs=[.ref p,.int i]) (jL A.i7 H p q ws) (0<=i) (i<ws.length) (Q (.int (ws.getD i.toNat 0)) H)
theorem Dc:i8 ["self","at"] ["self","at"] (i3 qU):=fsc
theorem kS(T:Txt K mg A):CM P w K mg base true 4 A.i7 "read" ["self","at"] (Ds A):=by
 specialize T.qI.lK Dc
 ·obtain⟨p,q,ws,i,rfl,m,i0,i1,h⟩:=h;refine⟨_,kN.run (iT (i9 (jg (iU 0) T.jv (oI T).mono hr hx (iR (iU 1) iS)))
   (iV (i6 (jH jV (jd (iU 0) rfl) (iU 1))))),?_⟩
  obtain⟨dx,e⟩:=m.ob;simp?[e,NH];refine⟨p,q,ws,i,rfl,m,i0,i1,?_⟩;simp?[e,T.jv,T.kH,vo,m.ls,E5 i0 (cX i1)];exact h
def Dq(A:Ad):Sp:=λvs H Q _=>Y6 λp q ws i j k=>C9 (vs=[.ref p,.int i,.int j,.int k]) (jL A.i7 H p q ws) (ws.length<=4000) (0<=i) (0<=j) (0<=k) (i+k<=ws.length) (j+k<=ws.length) (∀H',jL A.i7 H' p q (cp ws ((ws.drop i.toNat).take k.toNat) j.toNat k.toNat)->(∀b o,H b=some o->b≠q->H' b=some o)->Q .kr H')
theorem qe:i8 ["self","start","goal","many","stretch","step"] ["self","start","goal","many"] (i3 qS):=fsc
theorem uz(T:Txt K mg A):CM P w K mg base true 4 A.i7 "copy" ["self","start","goal","many"] (Dq A):=by
 specialize T.qH.lK qe
 ·obtain⟨p,q,ws,i,j,k,rfl,mm,hl,i0,j0,k0,ik,jk,h⟩:=h;refine⟨_,kN.run (iT (jm (lJ (pe (jE (jj (iW (qt T).mono hr rfl hx (iR (iU 3) iS)) (λ_=>rfl))) (pR (jf Cc (iU 3) iX (jr _))))) (iV jK) jc)
   (iT (i9 (jg (iU 0) T.jv (nJ T).mono hr hx (iR (iU 1) (iR (iU 3) iS))))
   (iT (i9 (jg (iU 0) T.jv (nJ T).mono hr hx (iR (iU 2) (iR (iU 3) iS))))
   (iT (je (i:=4) qe.nd rfl lo (Cj Nu (jd (iU 0) rfl) (Ce (iU 1)) (Ce (i5 jy (iU 1) (iU 3)))))
   (iV (jR hx.own rfl (lG rfl T.mR (iR (iU 3) iS)) (ju (i:=5) qe.nd rfl lo)
    (iV (rG (jH jV (iU 4) (iU 5)) (rF (jd (iU 0) rfl) (i5 jy (iU 2) (iU 5)) vi))))))))),?_⟩
  obtain⟨dx,e⟩:=mm.ob;simp?[oJ,e,NI,show¬k<0 by omega];refine⟨p,q,ws,i,k,rfl,mm,i0,ik,?_⟩;simp?[e,NI];refine⟨p,q,ws,j,k,rfl,mm,j0,jk,?_⟩;simp?[e,T.jv,T.kH,vo,mm.ls];intro l hl';refine⟨by omega,by omega,?_⟩;rw[MX i0 (by omega) (by omega)];have hks:((ws.drop i.toNat).take k.toNat).length=k.toNat:=by rw[bP,eM];omega
  generalize hK:(ws.drop i.toNat).take k.toNat=ks at*;refine j8.range (λt σ H'=>∃v5,σ=[some (.ref p),some (.int i),some (.int j),some (.int k),some (.ref l),v5]/\jL A.i7 H' p q (cp ws ks j.toNat t)/\H' l=some (.lst (ks.map ι))/\(∀b o,H b=some o->b≠q->H' b=some o))
   ⟨_,rfl,mm.same (ja.upd hl'),iZ,λb o eb _=>ja.upd hl' b o eb⟩ ?_ ?_
  ·rintro t σ H1 ht ⟨v5,rfl,m1,l1,b1⟩;obtain⟨dy,e1⟩:=m1.ob;have nlq:l≠q:=λz=>by rw[z]at hl';rw[mm.ls]at hl';cases hl'
   simp?[e1,l1,m1.ls,T.jv,T.kH,vo,dZ,Rc (show t<ks.length by lia)];rw[Jf ⋯ (by rw[ae,rS];lia),show(j+(t:Int)).toNat=j.toNat+t by lia];dsimp only;rw[Al];refine⟨m1.put (j.toNat+t) (ks.getD t 0),?_,λb o eb nb=> ?_⟩
   ·rw[i4 nlq];exact l1
   ·rw[i4 nb];exact b1 b o eb nb
  ·rintro σ H1 ⟨v5,rfl,m1,l1,b1⟩;exact h _ m1 b1
noncomputable def AZ (A:Ad):Sp:=λvs H Q _=>TB λp m q o y s ws so sy ss i=>C3 (vs=[.ref p,.int i]) (lY A.jh A.i7 A.i_ H p m q o y s ws so sy ss) (Q (ON (.int i) so sy) H)
theorem AV:i8 ["self","at"] ["self","at"] (i3 oY):=fsc
theorem rL{ca:Bool}(T:Txt K mg A):CM P w K mg base ca 4 A.jh "area_of" ["self","at"] (AZ A):=by
 specialize T.oV.lK AV
 ·obtain⟨p,m,q,o,y,s',ws,so,sy,ss,i,rfl,a,h⟩:=h;refine⟨_,kN.run (iT (jm (jj (jg (jd (iU 0) rfl) T.jZ (pC T).mono hr hx (iR (iU 1) iS)) (λ_=>rfl)) (iV (i6 j3)) jc)
   (iT (jm (jj (jg (jd (iU 0) rfl) T.jZ (pC T).mono hr hx (iR (iU 1) iS)) (λ_=>rfl)) (iV (i6 j3)) jc)
   (iV (i6 nG)))),?_⟩
  obtain⟨dx,hp⟩:=a.ob;obtain⟨d1,ho⟩:=a.old;obtain⟨d2,hy⟩:=a.oP;simp?[hp,T.jq,T.j9,A6,ho,BJ];unfold ON at h;refine⟨o,d1,so.b,so.e,so.t,i,rfl,ho,?_⟩
  cases w1:wi (.int i) so.b (so.t-1) with
  |true=>rw[w1,if_pos rfl]at h;simp?[];exact h
  |false=>
   rw[w1,if_neg (by decide)]at h;simp?[hp,T.jq,T.kA,G4,hy,BJ];refine⟨y,d2,sy.b,sy.e,sy.t,i,rfl,hy,?_⟩
   cases w2:wi (.int i) sy.b (sy.t-1) with
   |true=>rw[w2,if_pos rfl]at h;simp?[];exact h
   |false=>rw[w2,if_neg (by decide)]at h;simp?[];exact h
def vd:Sp:=λvs H Q _=>∃i,vs=[.int i]/\wi (.int i) (-1000000000000) 1000000000000=true/\Q (.int (2*i)) H
theorem Df:i8 ["n"] ["n"] (i3 qY):=fsc
theorem CH(T:Txt K mg A):CG P w K mg base true 5 "number_word" ["n"] vd:=by
 specialize T.qM.lK Df
 ·obtain⟨i,rfl,w,q⟩:=h;refine⟨_,kN.run (iT (i9 (iW (CL T).mono hr rfl hx (iR (iU 0) iS)))
   (iV (i6 (i5 qk iX (iU 0))))),?_⟩
  simp?[ve,w];exact q
def rh:Sp:=λvs H Q _=>∃i,vs=[.int i]/\wi (.int i) 0 9999=true/\Q (.int (2*i+1)) H
theorem Ed:i8 ["at"] ["at"] (i3 tB):=fsc
theorem qE(T:Txt K mg A):CG P w K mg base true 5 "place_word" ["at"] rh:=by
 specialize T.sI.lK Ed
 ·obtain⟨i,rfl,w,q⟩:=h;refine⟨_,kN.run (iT (i9 (iW (qF T).mono hr rfl hx (iR (iU 0) iS)))
   (iV (i6 (i5 jy (i5 qk iX (iU 0)) iX)))),?_⟩
  simp?[oA,w];exact q
def Ou:Sp:=λvs H Q _=>Y2 λi x=>C3 (vs=[.int i]) (kd (.int i)=some x) (Q (wo (.int i)) H)
theorem Og:i8 ["word"] ["word"] (i3 Gi):=fsc
theorem mj(T:Txt K mg A):CG P w K mg base true 5 "worth" ["word"] Ou:=by
 specialize T.F9.lK Og
 ·obtain⟨i,x,rfl,e,q⟩:=h;refine⟨_,kN.run (iT (jm (jf l9 (iW (nN T).mono hr rfl hx (iR (iU 0) iS)) j3 (jr _)) (iV (i6 nG)) jc)
   (iV (i6 (i5 jU (iU 0) iX)))),?_⟩
  simp?[];refine⟨i,x,rfl,e,?_⟩;simp?[];rcases Cm e with ⟨rfl,z⟩|⟨rfl,c,d,f⟩|⟨rfl,c,d,f⟩
  ·subst z;rw[if_pos rfl];exact q
  ·by_cases n:i= -1
   ·lia
   ·rw[o4 n]at q;rw[if_neg ∅];exact q
  ·rw[o4 (by(clear c;lia))]at q;rw[if_neg ∅];exact q
def Bs(A:Ad):Sp:=λvs H Q _=>Y5 λp q ws i x=>C6 (vs=[.ref p,.int i,.int x]) (jL A.i7 H p q ws) (0<=i) (i<ws.length) ((kd (.int x)).isSome=true) (Q .kr (upd H q (.lst ((ws.set i.toNat x).map ι))))
theorem Bp:i8 ["self","at","word"] ["self","at","word"] (i3 pY):=fsc
theorem kI(T:Txt K mg A):CM P w K mg base true 5 A.i7 "write" ["self","at","word"] (Bs A):=by
 specialize T.pU.lK Bp
 ·obtain⟨p,q,ws,i,x,rfl,m,i0,i1,k,h⟩:=h;refine⟨_,kN.run (iT (i9 (jg (iU 0) T.jv (oI T).mono hr hx (iR (iU 1) iS)))
   (iT (i9 (iW (nN T).mono hr rfl hx (iR (iU 2) iS)))
   (iV (rG (iU 2) (rF (jd (iU 0) rfl) (iU 1) vi))))),?_⟩
  obtain⟨dx,e⟩:=m.ob;obtain⟨y,k⟩:=Option.isSome_iff_exists.mp k;simp?[e,NH];refine⟨p,q,ws,i,rfl,m,i0,i1,x,y,rfl,k,?_⟩;simp?[e,T.jv,T.kH,vo,m.ls,BF i0 (cX i1),Al];exact h
def Ei(A:Ad):Sp:=λvs H Q _=>Y4 λp dx i j=>C7 (vs=[.ref p,.int i,.int j]) (H p=some (.ins A.jh dx [])) (4<=i) (i<=2000) (2<=j) (j<=500) (∀m q o y s H',lY A.jh A.i7 A.i_ H' p m q o y s (ao (i+2*j).toNat (-1)) ⟨0,i,0⟩ ⟨i,i+j,i⟩ ⟨i+j,i+2*j,i+j⟩->(∀b x,H b=some x->b≠p->H' b=some x)->(H m=none/\H q=none/\H o=none/\H y=none/\H s=none)->Q .kr H')
theorem rb:i8 ["self","old_words","young_words","middle","size"] ["self","old_words","young_words"] (i3 sP):=fsc
theorem DR(T:Txt K mg A):lZ P w K mg base (tX P w) true 5 A.kX A.mn ["self","old_words","young_words"] (Ei A):=by
 refine T.DK.NO rb (λvs H Q E h=> ?_) (λcdv A' outer s H vs Q E hr hx h=> ?_)
 ·obtain⟨_,_,_,_,rfl,_⟩:=h;rfl
 ·obtain⟨p,dx,i,j,rfl,hp,i0,i1,j0,j1,h⟩:=h;refine⟨_,kN.run (iT (jm (jE (jj (iW (jN T).mono hr rfl hx (iR (iU 1) (iR (kE T.nU) (iR (kE T.om) iS)))) (λ_=>rfl))) (iV jK) jc)
   (iT (jm (jE (jj (iW (jN T).mono hr rfl hx (iR (iU 2) (iR (kE T.mM) (iR (kE T.mV) iS)))) (λ_=>rfl))) (iV jK) jc)
   (iT (je (i:=3) rb.nd rfl lo (i5 jy (iU 1) (iU 2)))
   (iT (je (i:=4) rb.nd rfl lo (i5 jy (iU 3) (iU 2)))
   (iT (jP (iU 0) (mT T.AI (CD T).mono hr rfl T.B1 T.DE hx (iR (iU 4) iS)) rfl)
   (iT (jP (iU 0) (mT T.uw (qC T).mono hr rfl T.wU T.rQ hx (iR iX (iR (iU 1) iS))) rfl)
   (iT (jP (iU 0) (mT T.uw (qC T).mono hr rfl T.wU T.rQ hx (iR (iU 1) (iR (iU 3) iS))) rfl)
   (iV (jP (iU 0) (mT T.uw (qC T).mono hr rfl T.wU T.rQ hx (iR (iU 3) (iR (iU 4) iS))) rfl))))))))),?_⟩
  have Hs:∀{G:Hp} {x dx:Addr} {o:HO},G x=none->G dx=none->ja G (upd (upd G dx (HO.own x)) x o):=λ{G x dx o} hx hdx b u eb=>by rw[i4 (iY eb hx),i4 (iY eb hdx)];exact eb
  show oj _ _ _ [⇑p,↥i,↥j,none,none] H;exists σ'=[⇑p,↥i,↥j,none,none]/\H=H'
  ·simp?[jI,BM i0 i1];exact hR _ _ ⟨rfl,rfl⟩
  ext _ _ ⟨rfl,rfl⟩;exists σ'=[⇑p,↥i,↥j,none,none]/\H=H'
  ·simp?[jI,BM j0 j1];exact hR _ _ ⟨rfl,rfl⟩
  ext _ _ ⟨rfl,rfl⟩;exists σ'=[⇑p,↥i,↥j,↥(i+j),none]/\H=H'
  ·simp?[];exact hR _ _ ⟨rfl,rfl⟩
  ext _ _ ⟨rfl,rfl⟩;exists σ'=[⇑p,↥i,↥j,↥(i+j),↥(i+j+j)]/\H=H'
  ·simp?[];exact hR _ _ ⟨rfl,rfl⟩
  ext _ _ ⟨rfl,rfl⟩;exists Y2 λm q=>C6 (H m=none) (H q=none) (jL A.i7 H' m q (ao (i+j+j).toNat (-1))) (H' p=some (.ins A.jh dx (j4 "memory" (.ref m) []))) ((∀b o,H b=some o->b≠p->H' b=some o)) (σ'=[⇑p,↥i,↥j,↥(i+j),↥(i+j+j)])
  ·simp?[];intro x d1 hx hd1 _;refine⟨x,d1,_,rfl,iZ,by omega,by omega,λq H1 hq m1 f1=> ?_⟩;simp?[];obtain⟨_,hq1⟩:=kC hq;obtain⟨_,hq2⟩:=kC hq1;have npx:=iY hp hx;have npq:=iY hp hq2;rw[f1 _ _ (Hs hx hd1 _ _ hp) npx];refine⟨T.jq,T.ji,by decide,hR _ _ ⟨x,q,hx,hq2,m1.keep λb o eb hb=> ?_,iZ,λb o eb nb=> ?_,rfl⟩⟩
   ·rw[i4 (by rcases hb with rfl|rfl;exact aj npx;exact aj npq)];exact eb
   ·rw[i4 nb];exact f1 _ _ (Hs hx hd1 _ _ eb) (iY eb hx)
  ext _ H1 ⟨m,q,hm,hq,m1,e1,f1,rfl⟩;have npm:=iY hp hm;have npq:=iY hp hq;exists ∃o,C5 (H1 o=none) (pN A.i_ H' o ⟨0,i,0⟩) (H' p=some (.ins A.jh dx (j4 "old" (.ref o) (j4 "memory" (.ref m) [])))) ((∀b o,H1 b=some o->b≠p->H' b=some o)) (σ'=[⇑p,↥i,↥j,↥(i+j),↥(i+j+j)])
  ·simp?[oz];intro x d1 hx hd1 _;have npx:=iY e1 hx;refine⟨d1,rfl,?_⟩;rw[i4 npx,Hs hx hd1 _ _ e1];refine⟨T.jq,T.j9,(show(1:Nat)<1000 by decide),hR _ _ ⟨x,hx,⟨d1,?_⟩,iZ,λb o eb nb=> ?_,rfl⟩⟩
   ·rw[i4 (aj npx),iZ]
   ·rw[i4 nb,i4 (iY eb hx)];exact Hs hx hd1 _ _ eb
  ext _ H2 ⟨o,ho,so1,e2,f2,rfl⟩;have npo:=iY e1 ho;exists ∃y,C5 (H2 y=none) (pN A.i_ H' y ⟨i,i+j,i⟩) (H' p=some (.ins A.jh dx (j4 "young" (.ref y) (j4 "old" (.ref o) (j4 "memory" (.ref m) []))))) ((∀b o,H2 b=some o->b≠p->H' b=some o)) (σ'=[⇑p,↥i,↥j,↥(i+j),↥(i+j+j)])
  ·simp?[oz];intro x d1 hx hd1 _;have npx:=iY e2 hx;refine⟨d1,rfl,?_⟩;rw[i4 npx,Hs hx hd1 _ _ e2];refine⟨T.jq,T.kA,by simp[j4,R9],hR _ _ ⟨x,hx,⟨d1,?_⟩,iZ,λb o eb nb=> ?_,rfl⟩⟩
   ·rw[i4 (aj npx),iZ]
   ·rw[i4 nb,i4 (iY eb hx)];exact Hs hx hd1 _ _ eb
  ext _ H3 ⟨y,hy,sy1,e3,f3,rfl⟩;have npy:=iY e2 hy;simp?[oz];intro x d1 hx hd1 _;have npx:=iY e3 hx;refine⟨d1,rfl,?_⟩;rw[i4 npx,Hs hx hd1 _ _ e3];refine⟨T.jq,T.kQ,by simp[j4,R9,R_,Sa],?_⟩;rw[Ra];have sz:i+j+j=i+2*j:=by lia
  rw[sz]at m1⊢;have f4:∀b u,H3 b=some u->b≠p->upd (upd (upd (upd H3 d1 (HO.own x)) x (HO.ins A.i_ d1 [])) x (HO.ins A.i_ d1 (nV (i+j) (i+2*j) (i+j)))) p (HO.ins A.jh dx (t_ m o y x)) b=some u:=λb u eb nb=>by
   rw[i4 nb,i4 (iY eb hx)];exact Hs hx hd1 _ _ eb
  have e4:upd (upd (upd (upd H3 d1 (HO.own x)) x (HO.ins A.i_ d1 [])) x (HO.ins A.i_ d1 (nV (i+j) (i+2*j) (i+j)))) p (HO.ins A.jh dx (t_ m o y x)) p=some (HO.ins A.jh dx (t_ m o y x)):=iZ;have e5:upd (upd (upd (upd H3 d1 (HO.own x)) x (HO.ins A.i_ d1 [])) x (HO.ins A.i_ d1 (nV (i+j) (i+2*j) (i+j)))) p (HO.ins A.jh dx (t_ m o y x)) x=some (HO.ins A.i_ d1 (nV (i+j) (i+2*j) (i+j))):=by rw[i4 (aj npx),iZ]
  generalize upd (upd (upd (upd H3 d1 (HO.own x)) x (HO.ins A.i_ d1 [])) x (HO.ins A.i_ d1 (nV (i+j) (i+2*j) (i+j)))) p (HO.ins A.jh dx (t_ m o y x))=H4 at*;obtain⟨dm,em⟩:=m1.ob;obtain⟨do1,eo⟩:=so1;obtain⟨dy1,ey⟩:=sy1;have fresh:∀{G:Hp} {z:Addr},(∀b u,H b=some u->b≠p->G b=some u)->G z=none->p≠z->H z=none:=λ{G z} hG hz np=>by
   cases e:H z with
   |none=>rfl
   |some u=>rw[hG _ _ e (aj np)]at hz;cases hz
  have nmo:=iY em ho;have em2:=f2 _ _ em (aj npm);have nmy:=iY em2 hy;have em3:=f3 _ _ em2 (aj npm);have nmx:=iY em3 hx;have noy:=iY eo hy;have eo3:=f3 _ _ eo (aj npo);have nox:=iY eo3 hx;have nyx:=iY ey hx;refine h m q o y x H4 ⟨⟨dx,e4⟩,m1.keep λb u eb hb=> ?_,⟨do1,f4 _ _ eo3 (aj npo)⟩,⟨dy1,f4 _ _ ey (aj npy)⟩,⟨d1,e5⟩,noy,nox,nyx,⟨npm,npo,npy,npx⟩,⟨nmo,nmy,nmx⟩⟩ (λb u eb nb=>f4 _ _ (f3 _ _ (f2 _ _ (f1 _ _ eb nb) nb) nb) nb) ⟨hm,hq,fresh (λb u eb nb=>f1 _ _ eb nb) ho npo,fresh (λb u eb nb=>f2 _ _ (f1 _ _ eb nb) nb) hy npy,fresh (λb u eb nb=>f3 _ _ (f2 _ _ (f1 _ _ eb nb) nb) nb) hx npx⟩;have nb:b≠p:=by rcases hb with rfl|rfl;exact aj npm;exact aj npq
  exact f4 _ _ (f3 _ _ (f2 _ _ eb nb) nb) nb
def Ek(A:Ad):Sp:=λvs H Q _=>Y4 λp d ks i=>C6 (vs=[.ref p,.int i]) (o7 A.jB H p d ks) (ks.length<1000) (0<=i) (i<=9999) (Q .kr (upd H d (.dK (DH (Je ks i)))))
theorem D3:i8 ["self","place"] ["self","place"] (i3 sR):=fsc
theorem vD(T:Txt K mg A):CM P w K mg base true 5 A.jB "write" ["self","place"] (Ek A):=by
 specialize T.sj.lK D3
 ·obtain⟨p,d,ks,i,rfl,m,hl,i0,i1,h⟩:=h;refine⟨_,kN.run (iT (i9 (iW (qF T).mono hr rfl hx (iR (iU 1) iS)))
   (iV (uk (wW hr) (jd (iU 0) rfl) (iU 1) mD rfl))),?_⟩
  obtain⟨dx,e⟩:=m.ob;simp?[oA,BM i0 i1,e,T.lW,T.kh,Ki,m.dc,O5,O6];exact⟨ax hl (by decide),h⟩
def Ii(A:Ad):Sp:=λvs H Q _=>Y4 λp d ks i=>C5 (vs=[.ref p,.int i]) (o7 A.jB H p d ks) (0<=i) (i<=9999) (Q (.bl (decide (i∈ks))) H)
theorem O4{ks:List Int}{i:Int}:(mP (DH ks) (aQ i)).isSome=decide (i∈ks):=by
 rw[E_];by_cases z:i∈ks
 ·rw[if_pos z,decide_eq_true z];rfl
 ·rw[if_neg z,decide_eq_false z];rfl
theorem HY:i8 ["self","place"] ["self","place"] (i3 wm):=fsc
theorem HN(T:Txt K mg A):CM P w K mg base true 5 A.jB "has" ["self","place"] (Ii A):=by
 specialize T.vW.lK HY
 ·obtain⟨p,d,ks,i,rfl,m,i0,i1,h⟩:=h;refine⟨_,kN.run (iT (i9 (iW (qF T).mono hr rfl hx (iR (iU 1) iS)))
   (iV (i6 (rE (PM (wW hr)) (iU 1) (jd (iU 0) rfl) (by with_unfolding_all rfl))))),?_⟩
  obtain⟨dx,e⟩:=m.ob;simp?[Pd,oA,BM i0 i1,e,T.lW,T.kh,Ki,m.dc,O4];exact h
def GB(A:Ad):Sp:=λvs H Q _=>Y5 λp q ws i x=>C6 (vs=[.ref p,.int i,.int x]) (ub A.jF H p q ws) (0<=i) (i<ws.length) ((kd (.int x)).isSome=true) (Q .kr (upd H q (.lst ((ws.set i.toNat x).map ι))))
theorem Gk:i8 ["self","hand","word"] ["self","hand","word"] (i3 uT):=fsc
theorem pA(T:Txt K mg A):CM P w K mg base true 5 A.jF "put" ["self","hand","word"] (GB A):=by
 specialize T.uE.lK Gk
 ·obtain⟨p,q,ws,i,x,rfl,m,i0,i1,k,h⟩:=h;refine⟨_,kN.run (iT (i9 (jg (iU 0) T.lx (vV T).mono hr hx (iR (iU 1) iS)))
   (iT (i9 (iW (nN T).mono hr rfl hx (iR (iU 2) iS)))
   (iV (rG (iU 2) (rF (jd (iU 0) rfl) (iU 1) vi))))),?_⟩
  obtain⟨dx,e⟩:=m.ob;obtain⟨y,k⟩:=Option.isSome_iff_exists.mp k;simp?[e,Nh];refine⟨p,q,ws,i,rfl,m,i0,i1,x,y,rfl,k,?_⟩;simp?[e,T.lx,T.lA,Ng,m.ls,BF i0 (cX i1),Al];exact h
def Em:Sp:=λ_ _ _ _=>False
theorem DU{ca:Bool}(T:Txt K mg A):CM P w K mg base ca 5 A.jG "move" ["self","ticket","at"] Em:=let ⟨f,d,F⟩:=T.sk;⟨_,_,f,d,F,⟨λ_ _ _ _ h=>h.elim,λ_ _ _ _ _ _ _ _ _ _ _ _ _ h=>h.elim⟩⟩
def GH:Sp:=λ_ _ _ _=>False
theorem FW{ca:Bool}(T:Txt K mg A):CM P w K mg base ca 5 A.jM "move" ["self","name","at"] GH:=let ⟨f,d,F⟩:=T.uJ;⟨_,_,f,d,F,⟨λ_ _ _ _ h=>h.elim,λ_ _ _ _ _ _ _ _ _ _ _ _ _ h=>h.elim⟩⟩
def GG:Sp:=λ_ _ _ _=>False
theorem FU{ca:Bool}(T:Txt K mg A):CM P w K mg base ca 5 A.jM "gone" ["self","name"] GG:=let ⟨f,d,F⟩:=T.uI;⟨_,_,f,d,F,⟨λ_ _ _ _ h=>h.elim,λ_ _ _ _ _ _ _ _ _ _ _ _ _ h=>h.elim⟩⟩
def En(A:Ad):Sp:=λvs H Q _=>Y3 λr dx n=>C5 (vs=[.ref r,.int n]) (H r=some (.ins A.jz dx [])) (1<=n) (n<=6) (∀h q b d w wq l ld H',H q=none->H d=none->H wq=none->H ld=none->H' r=some (.ins A.jz dx (tW h b w l))->ub A.jF H' h q (ao n.toNat (-1))->o7 A.jB H' b d []->Tv A.jM H' w wq->U_ A.jG H' l ld->q≠wq->d≠ld->(∀y o,H y=some o->y≠r->H' y=some o)->Q .kr H')
theorem D6:i8 ["self","many"] ["self","many"] (i3 sU):=fsc
theorem DV(T:Txt K mg A):lZ P w K mg base (tX P w) true 5 A.k8 A.mz ["self","many"] (En A):=by
 refine T.DN.NO D6 (λvs H Q E h=> ?_) (λcdv A' outer s H vs Q E hr hx h=> ?_)
 ·obtain⟨_,_,_,rfl,_⟩:=h;rfl
 ·obtain⟨r,dx,n,rfl,e,n0,n1,k⟩:=h;refine⟨_,kN.run (iT (jP (iU 0) (mT T.Cy (DS T).mono hr rfl T.Fp T.E7 hx (iR (iU 1) iS)) rfl)
   (iT (jP (iU 0) (um T.FL (FR T).mono hr rfl T.I_ T.G6 hx) rfl)
   (iT (jP (iU 0) (um T.FN (FV T).mono hr rfl T.Ja T.G7 hx) rfl)
   (iV (jP (iU 0) (um T.Cz (DT T).mono hr rfl T.Fq T.E8 hx) rfl))))),?_⟩
  have Hs:∀{G:Hp} {x dx:Addr} {o:HO},G x=none->G dx=none->ja G (upd (upd G dx (HO.own x)) x o):=λ{G x dx o} hx hdx b u eb=>by rw[i4 (iY eb hx),i4 (iY eb hdx)];exact eb
  show oj _ _ _ [⇑r,↥n] H;exists Y2 λh q=>C6 (H h=none) (H q=none) (ub A.jF H' h q (ao n.toNat (-1))) (H' r=some (.ins A.jz dx (j4 "hands" (.ref h) []))) ((∀b o,H b=some o->b≠r->H' b=some o)) (σ'=[⇑r,↥n])
  ·simp?[];intro x d1 hx hd1 _;refine⟨x,d1,_,rfl,iZ,n0,n1,λq H1 hq m1 f1=> ?_⟩;simp?[];obtain⟨_,hq1⟩:=kC hq;obtain⟨_,hq2⟩:=kC hq1;have npx:=iY e hx;have npq:=iY e hq2;rw[f1 _ _ (Hs hx hd1 _ _ e) npx];refine⟨T.jO,T.jQ,by decide,hR _ _ ⟨x,q,hx,hq2,m1.keep λb o eb hb=> ?_,iZ,λb o eb nb=> ?_,rfl⟩⟩
   ·rw[i4 (by rcases hb with rfl|rfl;exact aj npx;exact aj npq)];exact eb
   ·rw[i4 nb];exact f1 _ _ (Hs hx hd1 _ _ eb) (iY eb hx)
  ext _ H1 ⟨h,q,hh,hq,m1,e1,f1,rfl⟩;have nrh:=iY e hh;have nrq:=iY e hq;have fresh:∀{G:Hp} {z:Addr},(∀b u,H b=some u->b≠r->G b=some u)->G z=none->r≠z->H z=none:=λ{G z} hG hz np=>by
   cases ez:H z with
   |none=>rfl
   |some u=>rw[hG _ _ ez (aj np)]at hz;cases hz
  exists Y2 λb d=>C6 (H1 b=none) (H1 d=none) (o7 A.jB H' b d []) (H' r=some (.ins A.jz dx (j4 "book" (.ref b) (j4 "hands" (.ref h) [])))) ((∀b o,H1 b=some o->b≠r->H' b=some o)) (σ'=[⇑r,↥n])
  ·simp?[An];intro x d1 hx hd1 _;refine⟨d1,rfl,λd H2 hd m2 f2=> ?_⟩;obtain⟨_,hq1⟩:=kC hd;obtain⟨_,hq2⟩:=kC hq1;have npx:=iY e1 hx;have npq:=iY e1 hq2;rw[f2 _ _ npx (Hs hx hd1 _ _ e1)];refine⟨T.jO,T.kM,(show(1:Nat)<1000 by decide),hR _ _ ⟨x,d,hx,hq2,m2.keep λb o eb hb=> ?_,iZ,λb o eb nb=> ?_,rfl⟩⟩
   ·rw[i4 (by rcases hb with rfl|rfl;exact aj npx;exact aj npq)];exact eb
   ·rw[i4 nb];exact f2 _ _ (iY eb hx) (Hs hx hd1 _ _ eb)
  ext _ H2 ⟨b,d,hb,hd,m2,e2,f2,rfl⟩;have nrb:=iY e1 hb;have nrd:=iY e1 hd;exists Y2 λw wq=>C6 (H2 w=none) (H2 wq=none) (Tv A.jM H' w wq) (H' r=some (.ins A.jz dx (j4 "weaks" (.ref w) (j4 "book" (.ref b) (j4 "hands" (.ref h) []))))) ((∀b o,H2 b=some o->b≠r->H' b=some o)) (σ'=[⇑r,↥n])
  ·simp?[Ao];intro x d1 hx hd1 _;refine⟨d1,rfl,λe5 he5=> ?_⟩;obtain⟨n5,h5⟩:=kC he5;obtain⟨_,h52⟩:=kC h5;have npx:=iY e2 hx;have np5:=iY e2 h52;have f3:∀y o,y≠x->upd (upd H2 d1 (HO.own x)) x (HO.ins A.jM d1 []) y=some o->upd (upd (upd (upd H2 d1 (HO.own x)) x (HO.ins A.jM d1 [])) e5 (.lst [])) x (.ins A.jM d1 (OF e5)) y=some o:=λy o hy ey=>by rw[i4 hy,i4 (iY ey he5)];exact ey
   have m3:Tv A.jM (upd (upd (upd (upd H2 d1 (HO.own x)) x (HO.ins A.jM d1 [])) e5 (.lst [])) x (.ins A.jM d1 (OF e5))) x e5:=⟨⟨d1,iZ⟩,by rw[i4 n5,iZ]⟩;generalize upd (upd (upd (upd H2 d1 (HO.own x)) x (HO.ins A.jM d1 [])) e5 (.lst [])) x (.ins A.jM d1 (OF e5))=H3 at*;rw[f3 _ _ npx (Hs hx hd1 _ _ e2)];refine⟨T.jO,T.nI,by simp[j4,R8],hR _ _ ⟨x,e5,hx,h52,⟨let ⟨dd,ee⟩:=m3.ob;⟨dd,by rw[i4 (aj npx)];exact ee⟩,by rw[i4 (aj np5)];exact m3.ls⟩,iZ,λb o eb nb=> ?_,rfl⟩⟩
   ·rw[i4 nb];exact f3 _ _ (iY eb hx) (Hs hx hd1 _ _ eb)
  ext _ H3 ⟨w,wq,hw2,hwq2,m3,e3,f3,rfl⟩;have nrw:=iY e2 hw2;have nrwq:=iY e2 hwq2;simp?[vL];intro x d1 hx hd1 _;refine⟨d1,rfl,λld H4 hld f4 m4=> ?_⟩;have un:∀{z:Addr},upd (upd H3 d1 (HO.own x)) x (HO.ins A.jG d1 []) z=none->H3 z=none:=λhz=>(kC (kC hz).2).2;have npx:=iY e3 hx;have npd:=iY e3 (un hld);rw[f4 _ _ npx (Hs hx hd1 _ _ e3)];refine⟨T.jO,T.nH,by simp[j4,R8,Ux,Uw],?_⟩;rw[Qu];have g:∀y o,H3 y=some o->y≠r->upd H4 r (.ins A.jz dx (tW h b w x)) y=some o:=λy o ey ny=>by
   rw[i4 ny];exact f4 _ _ (iY ey hx) (Hs hx hd1 _ _ ey)
  have bk:∀{z:Addr},H3 z=none->r≠z->H z=none:=λ{z} hz np=>by
   cases ez:H z with
   |none=>rfl
   |some u=>rw[f3 _ _ (f2 _ _ (f1 _ _ ez (aj np)) (aj np)) (aj np)]at hz;cases hz
  have bk2:∀{z:Addr},H2 z=none->r≠z->H z=none:=λ{z} hz np=>by
   cases ez:H z with
   |none=>rfl
   |some u=>rw[f2 _ _ (f1 _ _ ez (aj np)) (aj np)]at hz;cases hz
  have hd3:=f3 _ _ m2.dc (aj nrd);have hq2:=f2 _ _ m1.ls (aj nrq);refine k h q b d w wq x ld _ hq (fresh f1 hd nrd) (bk2 hwq2 nrwq) (bk (un hld) npd) iZ (m1.keep λy o ey hy=> ?_) (m2.keep λy o ey hy=> ?_) ⟨?_,?_⟩ ⟨?_,?_⟩ (iY hq2 hwq2) (iY hd3 (un hld)) λy o ey ny=>g _ _ (f3 _ _ (f2 _ _ (f1 _ _ ey ny) ny) ny) ny
  ·have ny:y≠r:=by rcases hy with rfl|rfl;exact aj nrh;exact aj nrq
   exact g _ _ (f3 _ _ (f2 _ _ ey ny) ny) ny
  ·have ny:y≠r:=by rcases hy with rfl|rfl;exact aj nrb;exact aj nrd
   exact g _ _ (f3 _ _ ey ny) ny
  ·obtain⟨dw,ew⟩:=m3.ob;exact⟨dw,g _ _ ew (aj nrw)⟩
  ·exact g _ _ m3.ls (aj nrwq)
  ·obtain⟨dl,ql,el⟩:=m4.ob;exact⟨dl,ql,by rw[i4 (aj npx)];exact el⟩
  ·rw[i4 (aj npd)];exact m4.dc
def GL:Sp:=λvs H Q _=>Y2 λs a=>C6 (vs=[.int s,.int a]) (0<=s) (s<=8) (0<=a) (a<=2) (Q (.int (2*(4*s+a))) H)
theorem Gs:i8 ["slots","age"] ["slots","age"] (i3 uZ):=fsc
theorem Ab(T:Txt K mg A):CG P w K mg base true 6 "head_word" ["slots","age"] GL:=by
 specialize T.uN.lK Gs
 ·obtain⟨s',a,rfl,s0,s1,a0,a1,q⟩:=h;refine⟨_,kN.run (iV (i6 (iW (CH T).mono hr rfl hx (iR (i5 jy (i5 qk iX (iU 0)) (iU 1)) iS)))),?_⟩;simp?[vd,BM (show -1000000000000<=4*s'+a by lia) (show 4*s'+a<=1000000000000 by lia)];exact q
def Dv(A:Ad):Sp:=λvs H Q _=>Y5 λp q ws i n=>C5 (vs=[.ref p,.int i]) (jL A.i7 H p q ws) (0<=i) (kD ws i.toNat=some n) (Q (.int n) H)
theorem Pu{n:Int}(h0:0<=n)(h1:n<=34):kd (.int (2*n))=some (aP "number"):=by rw[lX,if_neg ⋯,if_pos ⋯]
theorem qf:i8 ["memory","at","word","number"] ["memory","at"] (i3 qW):=fsc
theorem nM(T:Txt K mg A):CG P w K mg base true 6 "head_number" ["memory","at"] (Dv A):=by
 specialize T.qK.lK qf
 ·obtain⟨p,q,ws,i,n,rfl,m,i0,c,h⟩:=h;refine⟨_,kN.run (iT (je (i:=2) qf.nd rfl lo (jg (iU 0) T.jv (kS T).mono hr hx (iR (iU 1) iS)))
   (iT (jm (lJ (pe (jf Cd (iW (nN T).mono hr rfl hx (iR (iU 2) iS)) j3 (jr _)) (pR (jE (jj (iW (Jw T).mono hr rfl hx (iR (iW (mj T).mono hr rfl hx (iR (iU 2) iS)) iS)) (λ_=>rfl)))))) (iV jK) jc)
   (iT (je (i:=3) qf.nd rfl lo (iW (mj T).mono hr rfl hx (iR (iU 2) iS)))
   (iT (jm (jE (jj (iW (KY T).mono hr rfl hx (iR (iU 0) (iR (iU 1) (iR (i5 jU (iU 3) iX) iS)))) (λ_=>rfl))) (iV jK) jc)
   (iV (i6 (iU 3))))))),?_⟩
  obtain⟨dx,e⟩:=m.ob;obtain⟨c1,c2,c3,c4,c5⟩:=pO c;simp?[e,vS];refine⟨p,q,ws,i,rfl,m,i0,by(clear c4;lia),?_⟩;have k:=Pu c2 c3;have z:2*n/2=n:=by lia
  rw[c1];refine⟨_,_,rfl,k,?_⟩;simp?[];refine⟨_,_,rfl,k,?_⟩;rw[o4 ⋯,z];refine⟨_,rfl,c2,c3,c4,?_⟩;simp?[];refine⟨_,_,rfl,k,?_⟩;rw[o4 ⋯,z];simp?[];refine⟨p,q,ws,i,_,rfl,m,i0,⋯,?_⟩;simp?[];exact h
noncomputable def Oq:Sp:=λvs H Q _=>Y4 λ(d:Addr) (p:Nat->Option Int) (res:List Nat) (t:Th)=>C6 (vs=[.ref d,.int (wd p t)]) (H d=some (.dK (DQ p 0 res))) (Gt res t) ((∀k∈res,0<=pz p k/\pz p k<=9999)) ((∀k∈res,∀i∈res,pz p k=pz p i->k=i)) (∀v H',ja H H'->OM H' (dr res t) v->Q v H')
theorem Of:i8 ["numbers","word"] ["numbers","word"] (i3 Gg):=fsc
theorem HU(T:Txt K mg A):CG P w K mg base true 6 "shown" ["numbers","word"] Oq:=by
 specialize T.F4.lK Of
 ·obtain⟨d,p,res,t,rfl,ed,gt,hp,inj,q⟩:=h;refine⟨_,kN.run (iT (jm (jf l9 (iW (nN T).mono hr rfl hx (iR (iU 1) iS)) j3 (jr _)) (iV (i6 (oF (iR j3 (iR (nD (iU 0) (iW (mj T).mono hr rfl hx (iR (iU 1) iS))) iS))))) jc)
   (iV (i6 (iW (mj T).mono hr rfl hx (iR (iU 1) iS))))),?_⟩
  obtain⟨y,hy⟩:=Option.isSome_iff_exists.mp (Cn gt hp);refine⟨_,_,rfl,hy,?_⟩;have hpl:=Ny hy;simp?[]
  cases t with
  |no=>
   rw[if_neg (of_decide_eq_false (hpl.trans (show kj (-1)=false by decide)))];exact⟨_,_,rfl,hy,q _ H (ja.refl _) rfl⟩
  |nu n=>
   have hpl:decide (y=aP "place")=kj (2*n):=hpl;rw[rX]at hpl;rw[if_neg (of_decide_eq_false hpl)];refine⟨_,_,rfl,hy,?_⟩;show Q (wo (.int (2*n))) H;rw[o4 ⋯,show 2*n/2=n by lia];exact q _ H (ja.refl _) rfl
  |ce k=>
   have hk:=hp k gt;have hpl:decide (y=aP "place")=kj (2*pz p k+1):=hpl;rw[o_ hk.1]at hpl;rw[if_pos (of_decide_eq_true hpl)];refine⟨_,_,rfl,hy,?_⟩;rw[show wd p (Th.ce k)=2*pz p k+1 from rfl,o4 ⋯,show(2*pz p k+1)/2=pz p k by lia];dsimp only;rw[ed];dsimp only;rw[KW gt λa ha e=>inj a ha k gt e];dsimp only;intro b hb;refine q _ _ (ja.upd hb) ⟨b,rfl,?_⟩;rw[iZ,bR]
def Ij(A:Ad):Sp:=λvs H Q _=>Y4 λp d ks i=>C5 (vs=[.ref p,.int i]) (o7 A.jB H p d ks) (0<=i) (i<=9999) (∀H',o7 A.jB H' p d (CV ks i)->(∀b o,H b=some o->b≠d->H' b=some o)->Q .kr H')
theorem Qv{ks:List Int}{k:Int}(h:¬k∈ks):CV ks k=ks:=List.filter_eq_self.mpr λx hx=>decide_eq_true λz=>h (z▸hx)
theorem HZ:i8 ["self","place"] ["self","place"] (i3 wt):=fsc
theorem HP(T:Txt K mg A):CM P w K mg base true 6 A.jB "rub" ["self","place"] (Ij A):=by
 specialize T.vX.lK HZ
 ·obtain⟨p,d,ks,i,rfl,m,i0,i1,h⟩:=h;refine⟨_,kN.run (iV (jm (jj (jg (iU 0) T.lW (HN T).mono hr hx (iR (iU 1) iS)) (λ_=>rfl)) (iV (i9 (Nq (jd (iU 0) rfl) (iU 1) ⟨rfl,rfl,rfl,rfl⟩))) jc)),?_⟩;obtain⟨dx,e⟩:=m.ob;simp?[ME,e,OZ];refine⟨p,d,ks,i,rfl,m,i0,i1,?_⟩;by_cases z:i∈ks
  ·have e2:mP (DH ks) (aQ i)=some (.bl true):=by rw[E_,if_pos z]
   simp?[z,e,T.lW,T.kh,Ki,m.dc,e2,MB];exact h _ m.put λb o eb nb=>nA eb nb
  ·simp?[z];refine h H ?_ λb o eb _=>eb;rw[Qv z];exact m
noncomputable def Bu (A:Ad):Sp:=λvs H Q _=>Y7 λ(r h q b w l:Addr) (ws:List Int)=>C6 (vs=[.ref r]) ((∃dx,H r=some (.ins A.jz dx (tW h b w l)))) (ub A.jF H h q ws) (jx ws) (ws.length<=6) (∀f H',H f=none->ja H H'->H' f=some (.lst ((Ck ws).map ι))->Q (.ref f) H')
theorem Bq:i8 ["self"] ["self"] (i3 nS):=fsc
theorem tQ(T:Txt K mg A):CM P w K mg base true 6 A.jz "starts" ["self"] (Bu A):=by
 specialize T.pW.lK Bq
 ·obtain⟨r,ha,q,b,w,l,ws,rfl,er,m,wo',hl,k⟩:=h;refine⟨_,kN.run (iV (i6 (lz (fsc:=i3 nS) (N2:=[]) (js:=[]) ⟨rfl,rfl,∅,∅,∅,∅,∅,∅,∅⟩ rfl rfl (by rfl) (jD (jJ (jd (iU 0) rfl) T.lx (pB T).mono hr hx)) (λ_ _ _ _=>(me (jf l9 (iW (nN T).mono hr rfl lI (iR (iU 0) iS)) j3 (jr _)))) (λ_ _ _ _=>(iW (mj T).mono hr rfl lI (iR (iU 0) iS)))))),?_⟩;obtain⟨dx,e⟩:=er;obtain⟨dh,eh⟩:=m.ob;simp?[e,T.jO,T.jQ,uR,eh,BE];refine⟨ha,q,ws,rfl,m,λl0 hl0=>⟨_,rfl,⟨_,jX.of iZ⟩,?_⟩⟩;have hsl:upd H l0 (.lst (ws.map ι)) l0=some (.lst (ws.map ι)):=iZ;have s0:ja H (upd H l0 (.lst (ws.map ι))):=ja.upd hl0;refine pM.Hj (λx=>kj (iv x)) (λx=> .int (iv x/2)) (jX.of hsl) (by rw[ae];exact av hl (by decide)) (λx hx' K' hK=> ?_) (λx hx' hp K' hK=> ?_) λl2 hl2=> ?_
  ·obtain⟨w,hw',rfl⟩:=List.mem_map.mp hx';obtain⟨y,hy⟩:=Option.isSome_iff_exists.mp (wo' w hw');simp?[];refine⟨_,_,rfl,hy,?_⟩;simp?[];rw[Ny hy];exact hK
  ·obtain⟨w,hw',rfl⟩:=List.mem_map.mp hx';obtain⟨y,hy⟩:=Option.isSome_iff_exists.mp (wo' w hw');have hp':kj w=true:=hp;simp only[kj,decide_eq_true_eq]at hp';simp?[];refine⟨_,_,rfl,hy,?_⟩;rw[o4 ⋯];exact hK
  ·obtain⟨_,hl3⟩:=kC hl2;refine k _ _ hl3 (s0.trans (ja.upd hl2)) ?_;rw[iZ];simp only[Ck,cT,bQ];rfl
noncomputable def Dz:Sp:=λvs H Q _=>Y3 λ(d:Addr) (wh:List (Int×Int)) (w:Int)=>C4 (vs=[.ref d,.int w]) (H d=some (.dK (dk wh))) (Wb wh w) (Q (.int (tw wh w)) H)
theorem Dj:i8 ["where","word"] ["where","word"] (i3 q9):=fsc
theorem uC(T:Txt K mg A):CG P w K mg base true 6 "word_behind" ["where","word"] Dz:=by
 specialize T.qQ.lK Dj
 ·obtain⟨d,wh,w,rfl,ed,hw,h⟩:=h;refine⟨_,kN.run (iT (jm (jf Cd (iW (nN T).mono hr rfl hx (iR (iU 1) iS)) j3 (jr _)) (iV (i6 (iU 1))) jc)
   (iV (i6 (iW (qE T).mono hr rfl hx (iR (nD (iU 0) (iW (mj T).mono hr rfl hx (iR (iU 1) iS))) iS))))),?_⟩
  cases hp:kj w with
  |false=>
   obtain⟨x,ex,nx⟩:=Jv hp hw.1;simp?[];refine⟨_,_,rfl,ex,?_⟩;unfold tw at h;rw[if_neg (by rw[hp];decide)]at h;simp?[nx];exact h
  |true=>
   obtain⟨ex,w9,w0,ew⟩:=vg hp hw.1;obtain⟨g,eg,g0,g1⟩:=hw.2 hp;unfold tw at h;rw[if_pos hp,eg,dP]at h;simp?[];refine⟨_,_,rfl,ex,?_⟩;simp?[];refine⟨_,_,rfl,ex,?_⟩;rw[ew];simp?[ed,Fj,eg];exact⟨_,rfl,BM g0 g1,h⟩
abbrev Wx(A:Ad)(H:Hp)(x:Ax)(M:Mem):Prop:=Wh A.jh A.i7 A.i_ A.jz A.jF A.jB A.jM A.jG A.jw A.jC H x M
def Dw(A:Ad):Sp:=λvs H Q _=>Y3 λ(x:Ax) (M:Mem) (u:Int)=>C4 (vs=[.ref x.p,.int u]) (Wx A H x M) ((kd (.int u)).isSome=true) (Q (.bl (oP M.sy u)) H)
theorem De:i8 ["areas","word"] ["areas","word"] (i3 qX):=fsc
theorem uA(T:Txt K mg A):CG P w K mg base true 6 "is_of_young" ["areas","word"] (Dw A):=by
 specialize T.qL.lK De
 ·obtain⟨x,M,u,rfl,h,ku,q⟩:=h;refine⟨_,kN.run (iV (i6 (rD (rE l9 (iW (nN T).mono hr rfl hx (iR (iU 1) iS)) j3 (jr _)) (uo (jg (jd (iU 0) rfl) T.jZ (pC T).mono hr hx (iR (iW (mj T).mono hr rfl hx (iR (iU 1) iS)) iS)))))),?_⟩;obtain⟨dp,ep⟩:=h.ar.ob;obtain⟨dy,ey⟩:=h.ar.oP
  cases hp:kj u with
  |false=>
   obtain⟨v,ev,nv⟩:=Jv hp ku;rw[show oP M.sy u=false by unfold oP;rw[hp];rfl]at q;simp?[];refine⟨_,_,rfl,ev,?_⟩;simp?[nv];exact q
  |true=>
   obtain⟨ev,u9,u0,eu⟩:=vg hp ku;simp?[];refine⟨_,_,rfl,ev,?_⟩;simp?[ep,T.jq,T.kA,G4,ey,BJ];refine⟨_,_,rfl,ev,?_⟩;rw[o4 ⋯];refine⟨x.y,dy,_,_,_,_,rfl,ey,?_⟩;rw[show wi (ι (u/2)) M.sy.b (M.sy.t-1)=oP M.sy u by unfold oP wi;rw[hp];simp only[dQ,Bool.decide_and]];exact q
def SY(A:Ad):Sp:=λvs H Q _=>Y5 λp q ws i j=>C8 (vs=[.ref p,.int i,.int j]) (jL A.i7 H p q ws) (ws.length<=4000) (0<=j) (j<=8) (0<=i) (i+j<ws.length) (∀H',jL A.i7 H' p q (laid ws i.toNat j.toNat)->(∀b o,H b=some o->b≠q->H' b=some o)->Q .kr H')
theorem Oe:i8 ["memory","at","slots","place"] ["memory","at","slots"] (i3 Od):=fsc
theorem Sh(T:Txt K mg A):CG P w K mg base true 7 "lay" ["memory","at","slots"] (SY A):=by
 specialize T.Oc.lK Oe
 ·obtain⟨p,q,ws,i,j,rfl,m,hl,j0,j1,i0,i1,h⟩:=h;refine⟨_,kN.run (iT (i9 (iW (vH T).mono hr rfl hx (iR (iU 2) iS)))
   (iT (jm (jE (jj (iW (KY T).mono hr rfl hx (iR (iU 0) (iR (iU 1) (iR (iU 2) iS)))) (λ_=>rfl))) (iV jK) jc)
   (iT (i9 (jg (iU 0) T.jv (kI T).mono hr hx (iR (iU 1) (iR (iW (Ab T).mono hr rfl hx (iR (iU 2) (iR iX iS))) iS))))
   (iV (jR hx.own rfl (Ht rfl T.mR (iR (i5 jy (iU 1) iX) (iR (i5 jy (i5 jy (iU 1) iX) (iU 2)) iS))) (ju (i:=3) Oe.nd rfl lo)
    (iV (i9 (jg (iU 0) T.jv (kI T).mono hr hx (iR (iU 3) (iR (kE T.pL) iS)))))))))),?_⟩
  obtain⟨dx,e⟩:=m.ob;simp?[Nm,rj,BM j0 j1];refine⟨p,q,ws,i,j,rfl,m,i0,i1,?_⟩;simp?[e,vT];refine⟨_,_,rfl,j0,j1,by decide,by decide,p,q,ws,i,_,rfl,m,i0,by omega,by rw[lX,if_neg ⋯,if_pos (by omega)];rfl,?_⟩;simp?[];refine⟨by omega,by omega,by omega,by omega,?_⟩;rw[show(i+1+j-(i+1)).toNat=j.toNat by lia,show 2*(4*j+0)=8*(j.toNat:Int) by lia];refine j8.range (λt σ H'=>∃v3,σ=[some (.ref p),some (.int i),some (.int j),v3]/\jL A.i7 H' p q (blank (ws.set i.toNat (8*(j.toNat:Int))) (i.toNat+1) t)/\(∀b o,H b=some o->b≠q->H' b=some o))
   ⟨_,rfl,m.put _ _,λb o eb nb=>nA eb nb⟩ ?_ ?_
  ·rintro t σ H1 ht ⟨v3,rfl,m1,b1⟩;obtain⟨dy,e1⟩:=m1.ob;simp?[e1,vT];refine⟨p,q,_,_,_,rfl,m1,⋯,by rw[pJ,aT];omega,rfl,?_⟩;rw[show(i+1+(t:Int)).toNat=i.toNat+1+t by lia];exact⟨m1.put _ _,λb o eb nb=>by rw[i4 nb];exact b1 b o eb nb⟩
  ·rintro σ H1 ⟨v3,rfl,m1,b1⟩;rw[PR]at m1;exact h _ m1 b1
def Iq(A:Ad):Sp:=λvs H Q _=>Y5 λp q ws i n=>C5 (vs=[.ref p,.int i]) (jL A.i7 H p q ws) (0<=i) (kD ws i.toNat=some n) (Q (.int (n/4)) H)
theorem Ig:i8 ["memory","at"] ["memory","at"] (i3 wB):=fsc
theorem uB(T:Txt K mg A):CG P w K mg base true 7 "slots_of" ["memory","at"] (Iq A):=by
 specialize T.wg.lK Ig
 ·obtain⟨p,q,ws,i,n,rfl,m,i0,c,h⟩:=h;refine⟨_,kN.run (iV (i6 (i5 jU (iW (nM T).mono hr rfl hx (iR (iU 0) (iR (iU 1) iS))) iX))),?_⟩;simp?[];exact⟨p,q,ws,i,n,rfl,m,i0,c,by decide,by decide,h⟩
def Mb(A:Ad):Sp:=λvs H Q _=>Y5 λp q ws i n=>C5 (vs=[.ref p,.int i]) (jL A.i7 H p q ws) (0<=i) (kD ws i.toNat=some n) (Q (.int (n%4)) H)
theorem L9:i8 ["memory","at"] ["memory","at"] (i3 CZ):=fsc
theorem LX(T:Txt K mg A):CG P w K mg base true 7 "age_of" ["memory","at"] (Mb A):=by
 specialize T.CQ.lK L9
 ·obtain⟨p,q,ws,i,n,rfl,m,i0,c,h⟩:=h;refine⟨_,kN.run (iV (i6 (i5 j6 (iW (nM T).mono hr rfl hx (iR (iU 0) (iR (iU 1) iS))) iX))),?_⟩;simp?[];exact⟨p,q,ws,i,n,rfl,m,i0,c,by decide,h⟩
def QH(A:Ad):Sp:=λvs H Q _=>Y6 λp q ws i g n=>C7 (vs=[.ref p,.int i,.int g]) (jL A.i7 H p q ws) (0<=i) (kD ws i.toNat=some n) (0<=g) (g<=9999) (Q .kr (upd H q (.lst ((ws.set i.toNat (2*g+1)).map ι))))
theorem Qz:i8 ["memory","at","goal"] ["memory","at","goal"] (i3 JP):=fsc
theorem P7(T:Txt K mg A):CG P w K mg base true 7 "send" ["memory","at","goal"] (QH A):=by
 specialize T.JH.lK Qz
 ·obtain⟨p,q,ws,i,g,n,rfl,m,i0,c,g0,g2,h⟩:=h;refine⟨_,kN.run (iT (i9 (iW (nM T).mono hr rfl hx (iR (iU 0) (iR (iU 1) iS))))
   (iV (i9 (jg (iU 0) T.jv (kI T).mono hr hx (iR (iU 1) (iR (iW (qE T).mono hr rfl hx (iR (iU 2) iS)) iS)))))),?_⟩
  obtain⟨dx,e⟩:=m.ob;obtain⟨c1,c2,c3,c4,c5⟩:=pO c;simp?[];refine⟨p,q,ws,i,n,rfl,m,i0,c,?_⟩;simp?[rh,BM g0 g2,e,vT];exact⟨p,q,ws,i,_,rfl,m,i0,by(clear c4;lia),by rw[lX,if_neg ⋯,if_neg (by(clear c5 c4 c1;omega)),if_pos ⋯];rfl,h⟩
def JY(A:Ad):Sp:=λvs H Q _=>Y4 λp q ws i=>C6 (vs=[.ref p,.int i]) (jL A.i7 H p q ws) (jx ws) (0<=i) (i<ws.length) (if kj (ws.getD i.toNat 0)=true then Q (.int (ws.getD i.toNat 0/2)) H else∃n,kD ws i.toNat=some n/\Q .kr H)
theorem Dg:i8 ["memory","at","word"] ["memory","at"] (i3 AU):=fsc
theorem CJ(T:Txt K mg A):CG P w K mg base true 7 "sent_to" ["memory","at"] (JY A):=by
 specialize T.AQ.lK Dg
 ·obtain⟨p,q,ws,i,rfl,m,wo',i0,i1,h⟩:=h;refine⟨_,kN.run (iT (je (i:=2) Dg.nd rfl lo (jg (iU 0) T.jv (kS T).mono hr hx (iR (iU 1) iS)))
   (iT (jm (jf l9 (iW (nN T).mono hr rfl hx (iR (iU 2) iS)) j3 (jr _)) (iV (i6 (iW (mj T).mono hr rfl hx (iR (iU 2) iS)))) jc)
   (iT (i9 (iW (nM T).mono hr rfl hx (iR (iU 0) (iR (iU 1) iS))))
   (iV (i6 nG))))),?_⟩
  obtain⟨dx,e⟩:=m.ob;simp?[e,vS];refine⟨p,q,ws,i,rfl,m,i0,i1,?_⟩;obtain⟨x,hx'⟩:=KL wo' (show i.toNat<ws.length by omega);refine⟨_,_,rfl,hx',?_⟩
  cases hp:kj (ws.getD i.toNat 0) with
  |true=>
   rw[if_pos hp]at h;obtain⟨ex,w9,w0,_⟩:=vg hp (by rw[hx'];rfl);rw[ex]at hx'
   cases hx'
   simp?[];exact⟨_,_,rfl,ex,by rw[o4 ⋯];exact h⟩
  |false=>
   rw[if_neg (by rw[hp];decide)]at h;obtain⟨y,ey,ny⟩:=Jv hp (by rw[hx'];rfl);rw[ey]at hx'
   cases hx'
   obtain⟨n,c,h⟩:=h;simp?[ny];exact⟨p,q,ws,i,n,rfl,m,i0,c,h⟩
noncomputable def Ew (A:Ad):Sp:=λvs H Q _=>TB λ(x:Ax) (M:Mem) (ow:Own) (O Y:List (Nat×Int)) (C:Addr) (rs:List Addr) (k j:Nat) (a:Int) (t:Th)=>Tn (vs=[.ref x.p,.ref x.r,.ref C,.int a,.int j,.int (wd ow.p t)]) (Wx A H x M) (In ow M O Y) (tS H C rs ow) (All ow) ((∀b∈C::rs,b∉mx x)) (((k,a)∈O∨(k,a)∈Y)) (j<(ow.s k).length) (Gd ow t) (M.ks.length<=500) (∀H',Wx A H' x {M with ws:=M.ws.set (a+1+(j:Int)).toNat (wd ow.p t),ks:=LV ow M.ks k j a t}->tS H' C rs (ow.put k j t)->Kx (x.q::x.d::rs) H H'->Q .kr H')
theorem Eb:i8 ["_law_areas","_law_roots","_law_cells","_law_at","_law_slot","_law_word_here"] ["_law_areas","_law_roots","_law_cells","_law_at","_law_slot","_law_word_here"] (i3 tj):=fsc
theorem vG(T:Txt K mg A):CG P w K mg base true 7 "_law_write" ["_law_areas","_law_roots","_law_cells","_law_at","_law_slot","_law_word_here"] (Ew A):=by
 specialize T.sE.lK Eb
 ·obtain⟨x,M,ow,O,Y,C,rs,k,j,a,t,rfl,wx,I,lc,al,nm,mk,hj,gt,kl,q⟩:=h;refine⟨_,kN.run (iT (rG (iU 5) (rF (nD (iU 2) (iU 3)) (iU 4) vi))
   (iT (i9 (jg (jd (iU 0) rfl) T.jv (kI T).mono hr hx (iR (i5 jy (i5 jy (iU 3) iX) (iU 4)) (iR (iU 5) iS))))
   (iT (i9 (jg (jd (iU 1) rfl) T.lW (HP T).mono hr hx (iR (i5 jy (i5 jy (iU 3) iX) (iU 4)) iS)))
   (iV (jm (lJ (mN (jf l9 (jg (iU 0) T.jq (rL T).mono hr hx (iR (iU 3) iS)) j3 (jr _)) (mN (jf B_ (iU 5) iX (jr _)) (mN (jf l9 (i5 j6 (iU 5) iX) iX (jr _)) (m7 (jf l9 (jg (iU 0) T.jq (rL T).mono hr hx (iR (i5 jU (iU 5) iX) iS)) j3 (jr _))))))) (iV (i9 (jg (jd (iU 1) rfl) T.lW (vD T).mono hr hx (iR (i5 jy (i5 jy (iU 3) iX) (iU 4)) iS)))) jc))))),?_⟩
  obtain⟨p1,p2,p3,p4⟩:=I.pl mk;have ez:ow.z k=(ow.s k).length+1:=rfl;have l2:=I.fr.l2;have ep:pz ow.p k=a:=by unfold pz;rw[p2];rfl
  obtain⟨ra,era,va,ea⟩:=lc.val al p1;rw[ep]at va;have mra:ra∈C::rs:=ai _ (ba era);have kv:=Cn (I.gt gt) I.vw.pp;have nq:∀b∈C::rs,b≠x.q/\b≠x.d:=λb hb=>⟨(ux (nm b hb)).1.1,(ux (nm b hb)).2.1⟩;show oj _ _ _ [⇑x.p,⇑x.r,⇑C,↥a,↥j,↥(wd ow.p t)] H;exists σ'=[⇑x.p,⇑x.r,⇑C,↥a,↥j,↥(wd ow.p t)]/\H' ra=some (.lst ((((ow.s k).set j t).map (wd ow.p)).map ι))/\∀b u,H b=some u->b≠ra->H' b=some u
  ·simp?[lc.dc,va,ea,BF (show(0:Int)<=j by lia) (show(j:Int)<=((ow.s k).map (wd ow.p)).length-1 by rw[ae];(clear ep ez p4 p3 p1;omega)),Al];refine hR _ _ ⟨rfl,?_,λb u e n=>nA e n⟩;rw[iZ];simp only[fM,bf]
  ext _ H1 ⟨rfl,e1,f1⟩;have w1:=wx.fr (H':=H1) λb u e z=>f1 b u e (λy=>by
   rcases z with z|z
   ·rw[y]at z;exact nm _ mra z
   ·rw[y,ea]at e;cases e;have:=z.1;rw[show tg (.lst (((ow.s k).map (wd ow.p)).map ι))="l" from rfl,beq_self_eq_true]at this;cases this)
  have c1:tS H1 C rs (ow.put k j t):=lc.put I.ls era e1 λb _ n u e=>f1 b u e n;obtain⟨dp,ep'⟩:=w1.ar.ob;obtain⟨dm,em⟩:=w1.ar.mem.ob;exists σ'=[⇑x.p,⇑x.r,⇑C,↥a,↥j,↥(wd ow.p t)]/\jL A.i7 H' x.m x.q (M.ws.set (a+1+(j:Int)).toNat (wd ow.p t))/\∀b u,H1 b=some u->b≠x.q->H' b=some u
  ·simp?[ep',T.jq,T.ji,mW,em,vT];exact⟨x.m,x.q,M.ws,_,_,rfl,w1.ar.mem,⋯,by(clear ep p3 p1;omega),kv,hR _ _ ⟨rfl,w1.ar.mem.put _ _,λb u e n=>nA e n⟩⟩
  ext _ H2 ⟨rfl,m2,f2⟩;have w2:=w1.BP (w1.ar.wr m2 f2) λb u e n _ _=>f2 b u e n;obtain⟨dr2,er2⟩:=w2.ro;obtain⟨db2,eb2⟩:=w2.bk.ob;exists σ'=[⇑x.p,⇑x.r,⇑C,↥a,↥j,↥(wd ow.p t)]/\o7 A.jB H' x.b x.d (CV M.ks (a+1+j))/\∀b u,H2 b=some u->b≠x.d->H' b=some u
  ·simp?[er2,T.jO,T.kM,CU,eb2,O3];exact⟨x.b,x.d,M.ks,_,rfl,w2.bk,⋯,by(clear ep p1;omega),λH3 b3 f3=>hR _ _ ⟨rfl,b3,f3⟩⟩
  ext _ H3 ⟨rfl,b3,f3⟩;have w3:=w2.book b3 w2.nd λb u e _ n=>f3 b u e n;obtain⟨dr3,er3⟩:=w3.ro;obtain⟨db3,eb3⟩:=w3.bk.ob;obtain⟨dp3,ep3⟩:=w3.ar.ob;have fin:∀{H4:Hp},(∀b u,H3 b=some u->b≠x.d->H4 b=some u)->tS H4 C rs (ow.put k j t)/\Kx (x.q::x.d::rs) H H4:=λ{H4} f4=>by
   refine⟨⟨?_,c1.rl,λi b eb=> ?_,c1.nd⟩,λb u e i n=> ?_⟩
   ·have:=nq C (aq ..);exact f4 _ _ (f3 _ _ (f2 _ _ c1.dc this.1) this.2) this.2
   ·have:=nq b (ai _ (ba eb));exact f4 _ _ (f3 _ _ (f2 _ _ (c1.row i b eb) this.1) this.2) this.2
   ·rw[a_,a_,not_or,not_or]at n;exact f4 _ _ (f3 _ _ (f2 _ _ (f1 _ _ e λz=>n.2.2 (by rw[z];exact ba era)) n.1) n.2.1) n.2.1
  refine Uj (decide (ow.g k=2)&&LG ow t) (λK1 hK=> ?_) (λhb=> ?_) λhb=> ?_
  ·simp?[ep3,G2];refine⟨_,_,_,_,_,_,_,_,_,_,_,rfl,w3.ar,?_⟩;rcases mk with m|m
   ·rw[show ON (ι a) M.so M.sy=_ from I.Wu m];rw[decide_eq_true ((I.oe k a).mp m).2.1,dQ]at hK;simp?[]
    cases t with
    |no=>rw[show wd ow.p Th.no= -1 from rfl,if_neg (by decide)];exact hK
    |nu n=>
     rw[show wd ow.p (Th.nu n)=2*n from rfl];by_cases z:0<2*n
     ·rw[if_pos z,if_neg ⋯];exact hK
     ·rw[if_neg z];exact hK
    |ce i=>
     have pi:=(al.pp i gt.1).1;obtain⟨b,eb⟩:=Option.isSome_iff_exists.mp gt.2;have pb:pz ow.p i=b:=by unfold pz;rw[eb];rfl
     rw[show wd ow.p (Th.ce i)=2*pz ow.p i+1 from rfl,if_pos ⋯,if_pos ⋯,show(2*pz ow.p i+1)/2=b by lia];simp?[ep3,G2];refine⟨_,_,_,_,_,_,_,_,_,_,_,rfl,w3.ar,?_⟩;rcases I.at gt.1 eb with m'|m'
     ·rw[show ON (ι b) M.so M.sy=_ from I.Wu m'];simp?[];rw[show LG ow (Th.ce i)=false from decide_eq_false (by have:=((I.oe i b).mp m').2.1;lia)]at hK;exact hK
     ·rw[show ON (ι b) M.so M.sy=_ from I.Wv m'];simp?[];rw[show LG ow (Th.ce i)=true from decide_eq_true ((I.ye i b).mp m').2.1]at hK;exact hK
   ·rw[show ON (ι a) M.so M.sy=_ from I.Wv m];have:=((I.ye k a).mp m).2.1;rw[decide_eq_false ⋯,iK]at hK;simp?[];exact hK
  ·simp?[er3,T.jO,T.kM,CU,eb3,EB];have ll:=dH (λx=>decide (x≠a+1+(j:Int))) M.ks;refine⟨x.b,x.d,_,_,rfl,w3.bk,by show(List.filter _ M.ks).length<1000;(clear ep p4 p3 p1;omega),⋯,by(clear ep p1;omega),?_⟩;have b4:=w3.bk.put (ks':=Je (CV M.ks (a+1+j)) (a+1+j));have f4:∀b u,H3 b=some u->b≠x.d->upd H3 x.d (.dK (DH (Je (CV M.ks (a+1+j)) (a+1+j)))) b=some u:=λb u e n=>nA e n;have:=fin f4;refine q _ ?_ this.1 this.2;unfold LV;rw[if_pos hb];exact w3.book b4 w3.nd λb u e _ n=>f4 b u e n
  ·have:=fin (H4:=H3) λb u e _=>e;refine q H3 ?_ this.1 this.2;unfold LV;rw[if_neg (by rw[hb];decide)];exact w3
def Ir(A:Ad):Sp:=λvs H Q _=>Y5 λp q ws i n=>C5 (vs=[.ref p,.int i]) (jL A.i7 H p q ws) (0<=i) (kD ws i.toNat=some n) (Q (.int (n/4+1)) H)
theorem Ih:i8 ["memory","at"] ["memory","at"] (i3 wC):=fsc
theorem uD(T:Txt K mg A):CG P w K mg base true 8 "words_of" ["memory","at"] (Ir A):=by
 specialize T.wj.lK Ih
 ·obtain⟨p,q,ws,i,n,rfl,m,i0,c,h⟩:=h;refine⟨_,kN.run (iV (i6 (i5 jy (iW (uB T).mono hr rfl hx (iR (iU 0) (iR (iU 1) iS))) iX))),?_⟩;simp?[];exact⟨p,q,ws,i,n,rfl,m,i0,c,h⟩
def QD(A:Ad):Sp:=λvs H Q _=>Y6 λp q ws i g n=>C7 (vs=[.ref p,.int i,.int g]) (jL A.i7 H p q ws) (0<=i) (kD ws i.toNat=some n) (0<=g) (g<=2) (Q .kr (upd H q (.lst ((ws.set i.toNat (2*(4*(n/4)+g))).map ι))))
theorem K8:i8 ["memory","at","age","slots"] ["memory","at","age"] (i3 JK):=fsc
theorem FY(T:Txt K mg A):CG P w K mg base true 8 "aged" ["memory","at","age"] (QD A):=by
 specialize T.JB.lK K8
 ·obtain⟨p,q,ws,i,g,n,rfl,m,i0,c,g0,g2,h⟩:=h;refine⟨_,kN.run (iT (je (i:=3) K8.nd rfl lo (iW (uB T).mono hr rfl hx (iR (iU 0) (iR (iU 1) iS))))
   (iT (jm (jE (jj (iW (jN T).mono hr rfl hx (iR (iU 2) (iR iX (iR (kE T.mU) iS)))) (λ_=>rfl))) (iV jK) jc)
   (iV (i9 (jg (iU 0) T.jv (kI T).mono hr hx (iR (iU 1) (iR (iW (Ab T).mono hr rfl hx (iR (iU 3) (iR (iU 2) iS))) iS))))))),?_⟩
  obtain⟨dx,e⟩:=m.ob;obtain⟨c1,c2,c3,c4,c5⟩:=pO c;simp?[];refine⟨p,q,ws,i,n,rfl,m,i0,c,?_⟩;simp?[jI,BM g0 g2,e,vT];refine⟨_,_,rfl,⋯,⋯,g0,g2,p,q,ws,i,_,rfl,m,i0,by(clear c3 c1;lia),by rw[lX,if_neg ⋯,if_pos ⋯];rfl,h⟩
noncomputable def lD (i n:Int):List Int:=(aW (n/4).toNat).map λt:Nat=>i+1+(t:Int)
def Dy(A:Ad):Sp:=λvs H Q _=>Y5 λp q ws i n=>C6 (vs=[.ref p,.int i]) (jL A.i7 H p q ws) (ws.length<=4000) (0<=i) (kD ws i.toNat=some n) (∀l,H l=none->Q (.ref l) (upd H l (.lst ((lD i n).map ι))))
theorem u_:i8 ["memory","at","slots"] ["memory","at"] (i3 qZ):=fsc
theorem mh(T:Txt K mg A):CG P w K mg base true 8 "slot_places" ["memory","at"] (Dy A):=by
 specialize T.qO.lK u_
 ·obtain⟨p,q,ws,i,n,rfl,m,hl,i0,c,h⟩:=h;refine⟨_,kN.run (iT (je (i:=2) u_.nd rfl lo (iW (uB T).mono hr rfl hx (iR (iU 0) (iR (iU 1) iS))))
   (iV (i6 (Jn (by rfl) rfl T.qA rfl T.mR (iR (i5 jy (iU 1) iX) (iR (i5 jy (i5 jy (iU 1) iX) (iU 2)) iS)))))),?_⟩
  obtain⟨c1,c2,c3,c4,c5⟩:=pO c;simp?[IT];refine⟨p,q,ws,i,n,rfl,m,i0,c,?_⟩;simp?[];have z:(i+1+n/4-(i+1)).toNat=(n/4).toNat:=by lia
  refine⟨⋯,⋯,⋯,by(clear c4 c1;omega),av (show(i+1+n/4-(i+1)).toNat<=8 by lia) (by decide),λl hl0=> ?_⟩;have:=h l hl0;rw[lD,bQ]at this;rw[z];exact this
def Om(A:Ad):Sp:=λvs H Q _=>Y4 λm q ws w=>C8 (vs=[.ref m,.int w]) (jL A.i7 H m q ws) (jx ws) ((kd (.int w)).isSome=true) (kj w=true) (w/2<ws.length) (kj (ws.getD (w/2).toNat 0)=true) (Q (.int (ws.getD (w/2).toNat 0)) H)
theorem Ib:i8 ["memory","word","goal"] ["memory","word"] (i3 Ge):=fsc
theorem NQ(T:Txt K mg A):CG P w K mg base true 8 "moved" ["memory","word"] (Om A):=by
 specialize T.F2.lK Ib
 ·obtain⟨m,q,ws,w,rfl,mm,wo',kw,hp,wl,hp2,h⟩:=h;refine⟨_,kN.run (iT (jm (jf Cd (iW (nN T).mono hr rfl hx (iR (iU 1) iS)) j3 (jr _)) (iV (i6 (iU 1))) jc)
   (iT (je (i:=2) Ib.nd rfl lo (iW (CJ T).mono hr rfl hx (iR (iU 0) (iR (iW (mj T).mono hr rfl hx (iR (iU 1) iS)) iS))))
   (iT (jm (jf FD (iU 2) nG (jr _)) (iV (i6 (iU 1))) jc)
   (iV (i6 (iW (qE T).mono hr rfl hx (iR (iU 2) iS))))))),?_⟩
  obtain⟨ex,w9,w0,ew⟩:=vg hp kw;have hm:ws.getD (w/2).toNat 0∈ws:=by rw[af,ab (show(w/2).toNat<ws.length by(clear w9;omega))];exact aG _
  simp?[];refine⟨_,_,rfl,ex,?_⟩;simp?[];refine⟨_,_,rfl,ex,?_⟩;rw[o4 ⋯];refine⟨m,q,ws,_,rfl,mm,wo',w0,wl,?_⟩;rw[if_pos hp2];generalize ws.getD (w/2).toNat 0=x at*;obtain⟨_,x9,x0,_⟩:=vg hp2 (wo' x hm);simp?[rh,BM x0 x9];simp only[kj,decide_eq_true_eq]at hp2;rw[show 2*(x/2)+1=x by lia];exact h
noncomputable def Im (A:Ad):Sp:=λvs H Q _=>Y5 λp q ws i n=>C7 (vs=[.ref p,.int i]) (jL A.i7 H p q ws) (jx ws) (ws.length<=4000) (0<=i) (kD ws i.toNat=some n) (∀l H',ja H H'->H l=none->H' l=some (.lst ((kids ws i.toNat n).map ι))->Q (.ref l) H')
theorem Bj:i8 ["memory","at","words"] ["memory","at"] (i3 qd):=fsc
theorem HR(T:Txt K mg A):CG P w K mg base true 9 "children" ["memory","at"] (Im A):=by
 specialize T.v7.lK Bj
 ·obtain⟨p,q,ws,i,n,rfl,m,wo',hl,i0,hc,h⟩:=h;refine⟨_,kN.run (iT (mE (i:=2) (fsc:=i3 qd) (N2:=["memory"]) (js:=[0]) Bj.nd rfl lo ⟨rfl,rfl,∅,∅,∅,∅,∅,∅,∅⟩ rfl rfl (by rfl) (jD (iW (mh T).mono hr rfl hx (iR (iU 0) (iR (iU 1) iS)))) (λ_ _ _ _=>lq) (λ_ _ _ _=>(jg (iU 1) T.jv (kS T).mono hr lI (iR (iU 0) iS))))
   (iV (i6 (lz (fsc:=i3 qd) (N2:=[]) (js:=[]) ⟨rfl,rfl,∅,∅,∅,∅,∅,∅,∅⟩ rfl rfl (by rfl) (jD (iU 2)) (λ_ _ _ _=>(me (jf l9 (iW (nN T).mono hr rfl lI (iR (iU 0) iS)) j3 (jr _)))) (λ_ _ _ _=>(iW (mj T).mono hr rfl lI (iR (iU 0) iS))))))),?_⟩
  obtain⟨c1,c2,c3,c4,c5⟩:=pO hc;rw[show((i.toNat:Nat):Int)=i from bS i0]at c5;simp?[];refine⟨p,q,ws,i,n,rfl,m,hl,i0,hc,λl0 hl00=>⟨_,rfl,⟨_,jX.of iZ⟩,?_⟩⟩;have hsz:(n/4).toNat<=8:=by lia
  obtain⟨L,eL⟩:∃L,L=lD i n:=⟨_,rfl⟩;rw[←eL];have m0:=m.same (ja.upd (o:= .lst (L.map ι)) hl00);obtain⟨dx,e⟩:=m0.ob;have s0:ja H (upd H l0 (.lst (L.map ι))):=ja.upd hl00;have hsl:upd H l0 (.lst (L.map ι)) l0=some (.lst (L.map ι)):=iZ;have e8:(L.map ι).length=(n/4).toNat:=by rw[eL];simp[lD]
  refine pM.Hj (λ_=>true) (λx=> .int (ws.getD (iv x).toNat 0)) (jX.of hsl) (by rw[e8];exact av hsz (by decide)) (λx hx' K' hK=>hK) (λx hx' _ K' hK=> ?_) λl hl0=> ?_
  ·obtain⟨y,hy,rfl⟩:=List.mem_map.mp hx';rw[eL]at hy;obtain⟨t,ht,rfl⟩:=List.mem_map.mp hy;rw[gx]at ht;simp?[e,vS,bK];exact⟨p,q,ws,_,rfl,m0,⋯,by(clear e8 c4;lia),hK⟩
  ·have e2:(((L.map ι).filter λ_=>true).map λx=>ι (ws.getD (iv x).toNat 0))=((ws.drop (i.toNat+1)).take (n/4).toNat).map ι:=by
    rw[←PZ (by(clear e8 hsz c3 c1;omega)),List.filter_eq_self.mpr (λ_ _=>rfl),eL];simp only[lD,bQ];refine cm λt ht=> ?_;show ι (ws.getD (i+1+(t:Int)).toNat 0)=ι (ws.getD (i.toNat+1+t) 0);rw[show(i+1+(t:Int)).toNat=i.toNat+1+t by lia]
   have wk:∀w∈(ws.drop (i.toNat+1)).take (n/4).toNat,(kd (.int w)).isSome=true:=λw hw'=>wo' w (eT (eU hw'));have hn8:((ws.drop (i.toNat+1)).take (n/4).toNat).length<=8:=av (gM _ _) hsz;have hq:∀(l:Addr) (H':Hp),ja H H'->H l=none->H' l=some (HO.lst (((((ws.drop (i.toNat+1)).take (n/4).toNat).filter kj).map (· /2)).map ι))->Q (ξ l) H':=h;rw[e2];generalize (ws.drop (i.toNat+1)).take (n/4).toNat=ks at*;refine⟨l,rfl,⟨_,jX.of iZ⟩,?_⟩;refine pM.Hj (λx=>kj (iv x)) (λx=> .int (iv x/2)) (jX.of iZ) (by rw[ae];exact av hn8 (by decide)) (λx hx' K' hK=> ?_) (λx hx' hp K' hK=> ?_) λl2 hl2=> ?_
   ·obtain⟨w,hw',rfl⟩:=List.mem_map.mp hx';obtain⟨y,hy⟩:=Option.isSome_iff_exists.mp (wk w hw');simp?[];refine⟨_,_,rfl,hy,?_⟩;simp?[];rw[Ny hy];exact hK
   ·obtain⟨w,hw',rfl⟩:=List.mem_map.mp hx';obtain⟨y,hy⟩:=Option.isSome_iff_exists.mp (wk w hw');have hp':kj w=true:=hp;simp only[kj,decide_eq_true_eq]at hp';simp?[];refine⟨_,_,rfl,hy,?_⟩;rw[o4 ⋯];exact hK
   ·obtain⟨_,hl3⟩:=kC hl2;obtain⟨_,hl4⟩:=kC hl3;refine hq _ _ (s0.trans ((ja.upd hl0).trans (ja.upd hl2))) hl4 ?_;rw[iZ];simp only[cT,bQ];rfl
noncomputable def Dx (A:Ad):Sp:=λvs H Q _=>Vc λ(m q d:Addr) (M:Mem) (p:Nat->Option Int) (S:Nat->List Th) (D:List Th) (L res:List Nat) (k:Nat)=>C8 (vs=[.ref m,.ref d,.int (pz p k)]) (jL A.i7 H m q M.ws) (Vw p S D L M) (H d=some (.dK (DQ p 0 res))) ((∀k∈res,k∈L)) (k∈L) ((∀t∈S k,Gt res t)) (∀l vs H',ja H H'->H l=none->H' l=some (.lst vs)->Ar H' ((S k).map (dr res)) vs->Q (.ref l) H')
theorem Dh:i8 ["memory","numbers","at"] ["memory","numbers","at"] (i3 ou):=fsc
theorem CK(T:Txt K mg A):CG P w K mg base true 9 "shown_slots" ["memory","numbers","at"] (Dx A):=by
 specialize T.qN.lK Dh
 ·obtain⟨m,q,d,M,p,S,D,L,res,k,rfl,hm,vw,ed,sub,hk,gt,h⟩:=h;refine⟨_,kN.run (iV (i6 (lz (fsc:=i3 ou) (N2:=["memory","numbers"]) (js:=[0,1]) ⟨rfl,rfl,∅,∅,∅,∅,∅,∅,∅⟩ rfl rfl (by rfl) (jD (iW (mh T).mono hr rfl hx (iR (iU 0) (iR (iU 2) iS)))) (λ_ _ _ _=>lq) (λ_ _ _ _=>(iW (HU T).mono hr rfl lI (iR (iU 2) (iR (jg (iU 1) T.jv (kS T).mono hr lI (iR (iU 0) iS)) iS))))))),?_⟩;obtain⟨c0,c1,c2,n,c3,c4,c5⟩:=vw.ce k hk;have l2:=vw.l2;simp?[];refine⟨m,q,M.ws,pz p k,n,rfl,hm,⋯,c0,c3,λl0 hl0=>⟨_,rfl,⟨_,jX.of iZ⟩,?_⟩⟩;have s0:ja H (upd H l0 (.lst ((lD (pz p k) n).map ι))):=ja.upd hl0;have e0:upd H l0 (.lst ((lD (pz p k) n).map ι)) l0=some (.lst ((lD (pz p k) n).map ι)):=iZ;generalize upd H l0 (.lst ((lD (pz p k) n).map ι))=H0 at*;have sl:(lD (pz p k) n).length=(S k).length:=by unfold lD;rw[ae,aY];lia
  refine mX (xs:=(lD (pz p k) n).map ι) (λi ys H'=>ja H0 H'/\Ar H' (((S k).take i).map (dr res)) ys/\ys.length<=i) ⟨ja.refl _,Ar.nil,au _⟩ (λi ys H' hP=>jX.of (hP.1 _ _ e0)) (by rw[ae,sl];exact av c2 (by decide)) (λi ys H' hP=>hP.2.2) (λi x ys H' hx' hP K1 hK=> ?_) λys H' hP l hl'=> ?_
  ·obtain⟨s1,th,hy⟩:=hP;obtain⟨hi,rfl,_⟩:=ints_get hx';have hi':i<(S k).length:=by rw[←sl];exact hi
   have ep:(lD (pz p k) n)[i]? =some (pz p k+1+(i:Int)):=by unfold lD;rw[ak,bT ⋯];rfl
   rw[ab hi]at ep;rw[aM ep];have m1:=(hm.same s0).same s1;obtain⟨dx,e⟩:=m1.ob;simp?[e,vS,bK];refine⟨m,q,M.ws,_,rfl,m1,⋯,⋯,?_⟩;rw[show M.ws.getD (pz p k+1+(i:Int)).toNat 0=wd p ((S k).getD i .no) from c5 i hi'];have et:(S k).getD i .no=(S k)[i]:=by rw[af,ab hi'];rfl
   rw[et];refine⟨d,p,res,_,rfl,s1 _ _ (s0 _ _ ed),gt _ (aG hi'),λk hk=>vw.pp k (sub k hk),λk hk i hi e=>vw.inj k (sub k hk) i (sub i hi) e,λv H2 s2 tv=>hK _ _ ⟨s1.trans s2,?_,by rw[ay];exact dO hy⟩⟩;rw[cg,ab hi',aF];exact(th.same s2).snoc tv
  ·obtain⟨s1,th,_⟩:=hP;rw[ae,sl,bt]at th;exact h l ys _ ((s0.trans s1).trans (ja.upd hl')) ((s0.trans s1).free hl') iZ (th.same (ja.upd hl'))
def Am(A:Ad):Sp:=λvs H Q _=>∃(p dx m q o y s:Addr) (ws:List Int) (x dz:Addr) (z:S3) (n g:Int),vs=[.ref p,.ref x,.int n,.int g]/\H p=some (.ins A.jh dx (t_ m o y s))/\jL A.i7 H m q ws/\ws.length<=4000/\H x=some (.ins A.i_ dz (nV z.b z.e z.t))/\p≠x/\m≠x/\0<=z.t/\z.e<=ws.length/\0<=g/\g<=2/\0<=n/\n<=8/\n+1<=z.e-z.t/\
 ∀H',jL A.i7 H' m q (kL ws z.t.toNat n.toNat g)->H' x=some (.ins A.i_ dz (nV z.b z.e (z.t+(n+1))))->(∀b u,H b=some u->b≠q->b≠x->H' b=some u)->Q (.int z.t) H'
theorem qv:i8 ["self","space","slots","age","at"] ["self","space","slots","age"] (i3 oa):=fsc
theorem qq(T:Txt K mg A):CM P w K mg base true 9 A.jh "lay_into" ["self","space","slots","age"] (Am A):=by
 specialize T.n_.lK qv
 ·obtain⟨p,dx,m,q,o,y,s',ws,x,dz,z,n,g,rfl,h⟩:=h;obtain⟨h,hp,hm,hl,hx',npx,nmx,t0,el,g0,g2,n0,n8,hr'⟩:=Vr h;refine⟨_,kN.run (iT (i9 (iW (vH T).mono hr rfl hx (iR (iU 2) iS)))
   (iT (je (i:=4) qv.nd rfl lo (jg (iU 1) T.jZ (qD T).mono hr hx (iR (i5 jy (iU 2) iX) iS)))
   (iT (i9 (iW (Sh T).mono hr rfl hx (iR (jd (iU 0) rfl) (iR (iU 4) (iR (iU 2) iS)))))
   (iT (i9 (iW (FY T).mono hr rfl hx (iR (jd (iU 0) rfl) (iR (iU 4) (iR (iU 3) iS)))))
   (iV (i6 (iU 4))))))),?_⟩
  simp?[rj,BM n0 n8,hx',Dm];refine⟨x,dz,z.b,z.e,z.t,_,rfl,hx',by omega,hr',?_⟩;have nqx:q≠x:=λw=>by have:=hm.ls;rw[w,hx']at this;cases this
  have npq:p≠q:=λw=>by have:=hm.ls;rw[←w,hp]at this;cases this
  have hx1:upd H x (HO.ins A.i_ dz (nV z.b z.e (z.t+(n+1)))) x=some (.ins A.i_ dz (nV z.b z.e (z.t+(n+1)))):=iZ;have f1:∀b u,H b=some u->b≠x->upd H x (HO.ins A.i_ dz (nV z.b z.e (z.t+(n+1)))) b=some u:=λb u eb nb=>nA eb nb;generalize upd H x (HO.ins A.i_ dz (nV z.b z.e (z.t+(n+1))))=H1 at*;have m1:jL A.i7 H1 m q ws:=hm.keep λb u eb hb=>f1 b u eb (by rcases hb with rfl|rfl;exact nmx;exact nqx);simp?[f1 _ _ hp npx,T.jq,T.ji,mW];refine⟨m,q,ws,z.t,n,rfl,m1,hl,n0,n8,t0,by omega,λH2 m2 f2=> ?_⟩;simp?[f2 _ _ (f1 _ _ hp npx) npq,T.jq,T.ji,mW];refine⟨m,q,_,z.t,g,4*(n.toNat:Int),rfl,m2,t0,IU (by omega) (by omega),g0,g2,?_⟩;have eg:2*(4*(4*(n.toNat:Int)/4)+g)=2*(4*(n.toNat:Int)+g):=by lia
  rw[eg];simp?[];exact h _ (m2.put _ _) (by rw[i4 (aj nqx)];exact f2 _ _ hx1 (aj nqx)) λb u eb nb nx=>by
   rw[i4 nb];exact f2 _ _ (f1 _ _ eb nx) nb
def Bt(A:Ad):Sp:=λvs H Q _=>Y3 λ(x:Ax) (M:Mem) (v:V)=>C3 (vs=[.ref x.r,v]) (Wx A H x M) (∀H',ja H H'->Q .kr H')
theorem ki:i8 ["self","goal_of","name","at","goal","ticket","number"] ["self","goal_of"] (i3 pZ):=fsc
theorem tP(T:Txt K mg A):CM P w K mg base true 9 A.jz "follow" ["self","goal_of"] (Bt A):=by
 specialize T.pV.lK ki
 ·obtain⟨x,M,v,rfl,h,q⟩:=h;refine⟨_,kN.run (iT (jR hx.own rfl (jD (jJ (jd (iU 0) rfl) T.wQ (DY T).mono hr hx)) (pQ (n:=2) (by rfl) (jY (ju (i:=2) ki.nd rfl lo) (jY (ju (i:=3) ki.nd rfl lo) nZ)))
    (iT (je (i:=4) ki.nd rfl lo Ci)
   (iV (jm (jf FD (iU 4) nG (jr _)) (iV (i9 (jg (jd (iU 0) rfl) T.wQ (FU T).mono hr hx (iR (iU 2) iS)))) (iV (i9 (jg (jd (iU 0) rfl) T.wQ (FW T).mono hr hx (iR (iU 2) (iR (iU 4) iS)))))))))
   (iV (jR hx.own rfl (jD (jJ (jd (iU 0) rfl) T.rp (AK T).mono hr hx)) (pQ (n:=3) (by rfl) (jY (ju (i:=5) ki.nd rfl lo) (jY (ju (i:=3) ki.nd rfl lo) (jY (ju (i:=6) ki.nd rfl lo) nZ))))
    (iT (je (i:=4) ki.nd rfl lo Ci)
   (iV (jm (jf FD (iU 4) nG (jr _)) (iV (i9 (jg (jd (iU 0) rfl) T.rp (FT T).mono hr hx (iR (iU 5) iS)))) (iV (i9 (jg (jd (iU 0) rfl) T.rp (DU T).mono hr hx (iR (iU 5) (iR (iU 4) iS))))))))))),?_⟩
  obtain⟨dr,er⟩:=h.ro;obtain⟨dw,ew⟩:=h.wk.ob;obtain⟨dl,ql,el⟩:=h.la.ob;show oj _ _ _ [⇑x.r,some v,none,none,none,none,none] H;exists σ'=[⇑x.r,some v,none,none,none,none,none]/\ja H H'
  ·simp?[er,T.jO,T.nI,SV,ew,Mm];refine⟨x.w,x.v,rfl,h.wk,λl H' s1 _ e1=>⟨l,rfl,⟨_,jX.of e1⟩,?_⟩⟩;refine j8.list (xs:=[]) (λ_ σ H2=>σ=[⇑x.r,some v,none,none,none,none,none]/\H'=H2) ⟨rfl,rfl⟩ (λi σ H2 _ ⟨_,e⟩=>by rw[←e];exact jX.of e1) (λi y σ H2 z=>nomatch z) ?_;rintro _ _ ⟨rfl,rfl⟩;exact hR _ _ ⟨rfl,s1⟩
  ext _ H1 ⟨rfl,s1⟩;have er1:=s1 _ _ er;have As:=s1 _ _ el;simp?[er1,T.jO,T.nH,SU,As,HA];refine⟨x.l,x.e,rfl,(h.same s1).la,λl H' s2 _ e1=>⟨l,rfl,⟨_,jX.of e1⟩,?_⟩⟩;refine j8.list (xs:=[]) (λ_ σ H2=>H'=H2) rfl (λi σ H2 _ e=>by rw[←e];exact jX.of e1) (λi y σ H2 z=>nomatch z) ?_;rintro _ _ rfl;exact q _ (s1.trans s2)
noncomputable def OJ (ws:List Int) (p:Int):Int:=match kD ws p.toNat with
 |some n=>n/4+1
 |none=>0
noncomputable def Ol (A:Ad):Sp:=λvs H Q _=>Ws λp m q o y s ws so sy ss k ks=>C7 (vs=[.ref p,.ref k]) (lY A.jh A.i7 A.i_ H p m q o y s ws so sy ss) (H k=some (.lst (bV ι ks))) (ks.length<64) (ks.Nodup) ((∀x∈ks,0<=x/\(kD ws x.toNat).isSome=true)) (∀d H',H d=none->ja H H'->H' d=some (.dK (dk (gl (OJ ws) (jS ks) so.b)))->Q (.ref d) H')
theorem u7:i8 ["areas","kept","where","goal","at"] ["areas","kept"] (i3 Gb):=fsc
theorem NP(T:Txt K mg A):CG P w K mg base true 9 "goals" ["areas","kept"] (Ol A):=by
 specialize T.F1.lK u7
 ·obtain⟨p,m,q,o,y,s',ws,so,sy,ss,k,ks,rfl,a,ek,kl,nd,hc,h⟩:=h;refine⟨_,kN.run (iT (je (i:=2) u7.nd rfl lo ma)
   (iT (je (i:=3) u7.nd rfl lo (jd (jd (iU 0) rfl) rfl))
   (iT (jR hx.own rfl (jD (jo Cf (by rfl) T.rK ζs (iR (iU 1) iS))) (ju (i:=4) u7.nd rfl lo)
    (iT (uk (wW hr) (iU 2) (iU 4) (iU 3) rfl)
   (iV (je (i:=3) u7.nd rfl lo (i5 jy (iU 3) (iW (uD T).mono hr rfl hx (iR (jd (iU 0) rfl) (iR (iU 4) iS))))))))
   (iV (i6 (iU 2)))))),?_⟩
  obtain⟨dp,ep⟩:=a.ob;obtain⟨d0,eo⟩:=a.old;show oj _ _ _ [⇑p,⇑k,none,none,none] H;refine vp (λσ' H'=>∃d,C4 (H d=none) (ja H H') (H' d=some (.dK (dk []))) (σ'=[⇑p,⇑k,⇑d,none,none])) (λR' hR=> ?_) ?_
  ·simp?[];exact λd hd=>hR _ _ ⟨d,hd,ja.upd hd,iZ,rfl⟩
  rintro _ H1 ⟨d,hd,s1,ed,rfl⟩;have a1:=a.same s1;obtain⟨dp1,ep1⟩:=a1.ob;obtain⟨d01,eo1⟩:=a1.old;refine vp (λσ' H'=>H1=H'/\σ'=[⇑p,⇑k,⇑d,↥so.b,none]) (λR' hR=> ?_) ?_
  ·simp?[ep1,T.jq,T.j9,A6,eo1,T.jZ,T.kR,Lb];exact hR _ _ ⟨rfl,rfl⟩
  rintro _ _ ⟨rfl,rfl⟩;have ek1:=s1 _ _ ek;simp?[AE,ek1];refine⟨kl,λl hl=>⟨⟨_,jX.of iZ⟩,?_⟩⟩;have s2:ja H1 (upd H1 l (.lst ((jS ks).map ι))):=ja.upd hl;have el:upd H1 l (.lst ((jS ks).map ι)) l=some (.lst ((jS ks).map ι)):=iZ;generalize upd H1 l (.lst ((jS ks).map ι))=H2 at*;have ndl:l≠d:=λz=>by rw[z,ed]at hl;cases hl
  have pm:=ko ks;have ndS:(jS ks).Nodup:=pm.symm.nodup nd;have lS:(jS ks).length=ks.length:=pm.length_eq;have hcS:∀x∈jS ks,0<=x/\(kD ws x.toNat).isSome=true:=λx hx=>hc x (pm.mem_iff.mp hx);generalize jS ks=S at*;refine j8.list (xs:=S.map ι) (λi σ H'=>(∀b u,H2 b=some u->b≠d->H' b=some u)/\H' d=some (.dK (dk (gl (OJ ws) (S.take i) so.b)))/\∃a4,σ=[⇑p,⇑k,⇑d,↥(so.b+((S.take i).map (OJ ws)).sum),a4])
   ⟨λb u e _=>e,by rw[gz];exact s2 _ _ ed,none,by simp⟩ (λi σ H' _ hz=>by obtain⟨f,_⟩:=hz;exact jX.of (f _ _ el ndl)) ?_ ?_
  ·rintro i x σ H3 hx ⟨f3,e3,a4,rfl⟩;have hi:i<S.length:=by have:=(List.getElem?_eq_some_iff.mp hx).1;rw[ae]at this;exact this
   rw[ak,ab hi]at hx
   cases hx
   obtain⟨c0,c2⟩:=hcS _ (aG hi);obtain⟨n,cn⟩:=Option.isSome_iff_exists.mp c2;have nk:S[i]∉(gl (OJ ws) (S.take i) so.b).map (·.1):=by
    rw[Ft];intro z;obtain⟨j,hj,ej⟩:=List.mem_iff_getElem.mp z;rw[bP]at hj;rw[ig]at ej;exact(List.pairwise_iff_getElem.mp ndS) j i (by(clear lS;lia)) hi (by(clear lS;lia)) ej
   simp?[e3];rw[RB nk,←Kw,←bu hi];refine⟨by rw[RA,RM];exact bZ (gM ..) (ax (show i<64 by lia) (by decide)),?_⟩;have f4:∀b u,H3 b=some u->b≠d->upd H3 d (HO.dK (dk (gl (OJ ws) (S.take (i+1)) so.b))) b=some u:=λb u eb nb=>nA eb nb;have e4:upd H3 d (HO.dK (dk (gl (OJ ws) (S.take (i+1)) so.b))) d=some (HO.dK (dk (gl (OJ ws) (S.take (i+1)) so.b))):=iZ;generalize upd H3 d (HO.dK (dk (gl (OJ ws) (S.take (i+1)) so.b)))=H4 at*;have sm:∀b u,H1 b=some u->b≠d->H4 b=some u:=λb u eb nb=>f4 _ _ (f3 _ _ (s2 _ _ eb) nb) nb;have npd:p≠d:=λz=>by rw[z,ed]at ep1;cases ep1
   have m4:jL A.i7 H4 m q ws:=a1.mem.keep λb u eb hb=>sm _ _ eb (by
    rcases hb with rfl|rfl
    ·obtain⟨dm,em⟩:=a1.mem.ob;intro z;rw[z,ed]at em;cases em
    ·intro z;have:=a1.mem.ls;rw[z,ed]at this;cases this)
   rw[sm _ _ ep1 npd];dsimp only;rw[mW];dsimp only;refine⟨⟨T.jq,T.ji⟩,?_⟩;refine⟨m,q,ws,S[i],n,rfl,m4,c0,cn,?_⟩;refine⟨λb u eb nb=>f4 _ _ (f3 _ _ eb nb) nb,e4,?_,_,rfl⟩;have e5:OJ ws S[i]=n/4+1:=by unfold OJ;rw[cn]
   rw[bu hi,aF,fW,az,bY,bq,eX,e5];lia
  ·rintro σ H3 ⟨f3,e3,a4,rfl⟩;rw[ae,bt]at e3;simp?[];refine h d H3 hd (λb u eb=>f3 _ _ (s2 _ _ (s1 _ _ eb)) (iY eb hd)) e3
noncomputable def Oo (A:Ad):Sp:=λvs H Q _=>Y7 λ(m q d:Addr) (ws:List Int) (wh:List (Int×Int)) (i n:Nat)=>Wk (vs=[.ref m,.ref d,.int i]) (jL A.i7 H m q ws) (jx ws) (ws.length<=4000) (H d=some (.dK (dk wh))) (n<=8) (i+n<ws.length) ((∃a,kD ws i=some a/\a/4=n)) ((∀k,k<n->Wb wh (ws.getD (i+1+k) 0))) (∀H' ws',jL A.i7 H' m q ws'->Vn wh ws i n ws'->(∀b u,H b=some u->b≠q->H' b=some u)->Q .kr H')
theorem Ic:i8 ["memory","where","at","place"] ["memory","where","at"] (i3 Gf):=fsc
theorem NR(T:Txt K mg A):CG P w K mg base true 9 "renew" ["memory","where","at"] (Oo A):=by
 specialize T.F3.lK Ic
 ·obtain⟨m,q,d,ws,wh,i,n,rfl,hm,wo',wl,ed,n8,il,hc,hb,h⟩:=h;refine⟨_,kN.run (iT (i9 (iW (FY T).mono hr rfl hx (iR (iU 0) (iR (iU 2) (iR (kE T.mU) iS)))))
   (iV (jR hx.own rfl (jD (iW (mh T).mono hr rfl hx (iR (iU 0) (iR (iU 2) iS)))) (ju (i:=3) Ic.nd rfl lo)
    (iV (i9 (jg (iU 0) T.jv (kI T).mono hr hx (iR (iU 3) (iR (iW (uC T).mono hr rfl hx (iR (iU 1) (iR (jg (iU 0) T.jv (kS T).mono hr hx (iR (iU 3) iS)) iS))) iS)))))))),?_⟩
  obtain⟨a,ca,an⟩:=hc;simp?[];refine⟨m,q,ws,i,2,a,rfl,hm,⋯,by rw[show(i:Int).toNat=i from bf i];exact ca,by decide,by decide,?_⟩;rw[show(i:Int).toNat=i from bf i,an,show 2*(4*(n:Int)+2)=8*(n:Int)+4 by lia];have m1:=hm.put i (8*(n:Int)+4);have f1:∀b u,H b=some u->b≠q->upd H q (.lst ((ws.set i (8*(n:Int)+4)).map ι)) b=some u:=λb u e nb=>nA e nb;generalize upd H q (.lst ((ws.set i (8*(n:Int)+4)).map ι))=H1 at*;have gi:∀j,(ws.set i (8*(n:Int)+4)).getD j 0=if i=j then 8*(n:Int)+4 else ws.getD j 0:=λj=>by
   rw[af,aX];by_cases c:i=j
   ·rw[if_pos c,if_pos c,if_pos ⋯];rfl
   ·rw[if_neg c,if_neg c,←af]
  have wo1:jx (ws.set i (8*(n:Int)+4)):=wo'.set (by rw[lX,if_neg ⋯,if_pos ⋯];rfl);have ln:(ws.set i (8*(n:Int)+4)).length=ws.length:=aT ..;generalize ws.set i (8*(n:Int)+4)=w1 at*;have c1:kD w1 i=some (4*(n:Int)+2):=by
   rw[l6,gi,if_pos rfl,ln,if_pos ⋯];congr 1;lia
  simp?[];refine⟨m,q,w1,i,_,rfl,m1,⋯,⋯,by rw[show(i:Int).toNat=i from bf i];exact c1,λl hl=> ?_⟩;have hs:(lD i (4*(n:Int)+2)).map ι=(aW n).map λt:Nat=>ι (i+1+t):=by
   rw[lD,show((4*(n:Int)+2)/4).toNat=n by lia,bQ];rfl
  rw[hs];have ndq:d≠q:=λz=>by rw[z,hm.ls]at ed;cases ed
  have nlq:q≠l:=iY m1.ls hl;have s1:ja H1 (upd H1 l (.lst ((aW n).map λt:Nat=>ι (i+1+t)))):=ja.upd hl;have el:upd H1 l (.lst ((aW n).map λt:Nat=>ι (i+1+t))) l=some (.lst ((aW n).map λt:Nat=>ι (i+1+t))):=iZ;generalize upd H1 l (.lst ((aW n).map λt:Nat=>ι (i+1+t)))=H2 at*;refine⟨l,rfl,⟨_,jX.of el⟩,j8.list (xs:=(aW n).map λt:Nat=>ι (i+1+t)) (λt σ H'=>∃w2 v3,σ=[⇑m,⇑d,↥i,v3]/\jL A.i7 H' m q w2/\w2.length=ws.length/\jx w2/\w2.getD i 0=8*n+4/\(∀k,k<t->w2.getD (i+1+k) 0=tw wh (ws.getD (i+1+k) 0))/\
    (∀j,j<i∨i+t<j->w2.getD j 0=ws.getD j 0)/\∀b u,H2 b=some u->b≠q->H' b=some u)
   ⟨w1,none,rfl,m1.same s1,ln,wo1,by rw[gi,if_pos rfl],λk hk=>by lia,λj hj=>by rw[gi,if_neg (by(clear ln an;lia))],λb u e _=>e⟩ (λt σ H' _ ⟨_,_,_,_,_,_,_,_,_,f⟩=>jX.of (f _ _ el (aj nlq))) ?_ ?_⟩
  ·rintro t x σ H3 hx ⟨w2,v3,rfl,m3,l3,wo3,h3,k3,o3,f3⟩;have tn:t<n:=by have:=(List.getElem?_eq_some_iff.mp hx).1;rw[ae,aY]at this;exact this
   rw[ak,bT tn]at hx
   cases hx
   obtain⟨dx,e⟩:=m3.ob;have ed3:=f3 _ _ (s1 _ _ (f1 _ _ ed ndq)) ndq;have hwb:=hb t tn;have ti:((i:Int)+1+t).toNat=i+1+t:=by lia
   simp?[e,vS,vT];refine⟨m,q,w2,_,rfl,m3,⋯,⋯,?_⟩;rw[ti,o3 (i+1+t) (by(clear hwb;lia))];refine⟨d,wh,_,rfl,ed3,hwb,m,q,w2,_,_,rfl,m3,⋯,⋯,tw_ok hwb,?_⟩;rw[ti];refine⟨_,m3.put _ _,by rw[aT];exact l3,wo3.set (tw_ok hwb),?_,λk hk=> ?_,λj hj=> ?_,λb u e nb=>by rw[i4 nb];exact f3 b u e nb⟩
   ·rw[B3,if_neg ⋯];exact h3
   ·rw[B3];by_cases c:k=t
    ·subst c;rw[if_pos ⋯]
    ·rw[if_neg (by(clear hk hwb;lia))];exact k3 k ⋯
   ·rw[B3,if_neg (by(clear hwb tn h3 ln an;lia))];exact o3 j (by(clear ti tn h3 l3 ln an hr;lia))
  ·rintro σ H3 ⟨w2,v3,rfl,m3,l3,wo3,h3,k3,o3,f3⟩;rw[ae,aY]at k3 o3;exact h H3 w2 m3 ⟨l3,wo3,h3,k3,o3⟩ λb u e nb=>f3 _ _ (s1 _ _ (f1 _ _ e nb)) nb
noncomputable def Ot (A:Ad):Sp:=λvs H Q _=>∃p m q o y s ws so sy ss i n g,vs=[.ref p,.int i,.int g]/\lY A.jh A.i7 A.i_ H p m q o y s ws so sy ss/\jx ws/\ws.length<=4000/\0<=i/\i+n<ws.length/\0<=n/\n<=8/\(∃a,kD ws i.toNat=some a/\a/4=n)/\0<=g/\g+n<ws.length/\n+1<=so.e-so.t/\
 ∀H',lY A.jh A.i7 A.i_ H' p m q o y s (cp ws ((ws.drop i.toNat).take (n+1).toNat) g.toNat (n+1).toNat) ⟨so.b,so.e,so.t+(n+1)⟩ sy ss->(∀b u,H b=some u->b≠q->b≠o->H' b=some u)->Q .kr H'
theorem Ie:i8 ["areas","at","goal","words"] ["areas","at","goal"] (i3 Gh):=fsc
theorem NS(T:Txt K mg A):CG P w K mg base true 9 "slide" ["areas","at","goal"] (Ot A):=by
 specialize T.F6.lK Ie
 ·obtain⟨p,m,q,o,y,s',ws,so,sy,ss,i,n,g,rfl,h⟩:=h;obtain⟨h,a,wo',wl,i0,il,n0,n8,hc,g0,gl',ht⟩:=Vq h;refine⟨_,kN.run (iT (je (i:=3) Ie.nd rfl lo (iW (uD T).mono hr rfl hx (iR (jd (iU 0) rfl) (iR (iU 1) iS))))
   (iT (i9 (jg (jd (iU 0) rfl) T.jZ (qD T).mono hr hx (iR (iU 3) iS)))
   (iV (i9 (jg (jd (iU 0) rfl) T.jv (uz T).mono hr hx (iR (iU 1) (iR (iU 2) (iR (iU 3) iS)))))))),?_⟩
  obtain⟨dp,ep⟩:=a.ob;obtain⟨d0,eo⟩:=a.old;obtain⟨c,cc,cn⟩:=hc;show oj _ _ _ [⇑p,↥i,↥g,none] H;refine vp (λσ' H'=>H=H'/\σ'=[⇑p,↥i,↥g,↥(n+1)]) (λR hR=> ?_) ?_
  ·simp?[ep,T.jq,T.ji,mW];refine⟨m,q,ws,i,c,rfl,a.mem,i0,cc,?_⟩;rw[cn];exact hR _ _ ⟨rfl,rfl⟩
  rintro _ _ ⟨rfl,rfl⟩;have e1:upd H o (.ins A.i_ d0 (nV so.b so.e (so.t+(n+1)))) o=some (.ins A.i_ d0 (nV so.b so.e (so.t+(n+1)))):=iZ;have f1:∀b u,H b=some u->b≠o->upd H o (.ins A.i_ d0 (nV so.b so.e (so.t+(n+1)))) b=some u:=λb u e nb=>nA e nb;refine vp (λσ' H'=>upd H o (.ins A.i_ d0 (nV so.b so.e (so.t+(n+1))))=H'/\σ'=[⇑p,↥i,↥g,↥(n+1)]) (λR hR=> ?_) ?_
  ·simp?[ep,T.jq,T.j9,A6,eo,Dm];exact⟨o,d0,so.b,so.e,so.t,_,rfl,eo,by(clear cn;omega),by omega,hR _ _ ⟨rfl,rfl⟩⟩
  rintro _ _ ⟨rfl,rfl⟩;generalize upd H o (.ins A.i_ d0 (nV so.b so.e (so.t+(n+1))))=H1 at*;have m1:jL A.i7 H1 m q ws:=a.mem.keep λb u eb hb=>f1 _ _ eb (by
   rcases hb with rfl|rfl
   ·exact a.md.1
   ·exact aj (a.old.ne a.mem.ls))
  obtain⟨dm,em⟩:=m1.ob;simp?[f1 _ _ ep a.pd.2.1,T.jq,T.ji,mW,em,NG];refine⟨m,q,ws,i,g,_,rfl,m1,wl,i0,g0,by(clear cn;omega),by(clear cn;omega),by(clear cn;omega),λH2 m2 f2=> ?_⟩;refine h H2 (a.P8 m2 ⟨d0,f2 _ _ e1 (a.old.ne a.mem.ls)⟩ λb u eb nb no=>f2 _ _ (f1 _ _ eb no) nb) λb u eb nb no=>f2 _ _ (f1 _ _ eb no) nb
def Mc(A:Ad):Sp:=λvs H Q _=>Y8 λm q ws i sp z g n=>Vj (vs=[.ref m,.int i,.ref sp,.int g]) (jL A.i7 H m q ws) (pN A.i_ H sp z) (ws.length<=4000) (0<=i) (kD ws i.toNat=some n) (0<=g) (g<=2) (0<=z.t) (z.e<=ws.length) (m≠sp) (n/4+1<=z.e-z.t) ((i<z.t∨z.t+(n/4+1)<=i)) (∀H',jL A.i7 H' m q (wJ ws i.toNat z.t.toNat (n/4+1) n g)->pN A.i_ H' sp ⟨z.b,z.e,z.t+(n/4+1)⟩->(∀b u,H b=some u->b≠q->b≠sp->H' b=some u)->Q (.int z.t) H')
theorem AY:i8 ["memory","at","space","age","words","goal"] ["memory","at","space","age"] (i3 C0):=fsc
theorem EW(T:Txt K mg A):CG P w K mg base true 9 "copied" ["memory","at","space","age"] (Mc A):=by
 specialize T.CT.lK AY
 ·obtain⟨m,q,ws,i,sp',z,g,n,rfl,mm,hsp,w4,i0,cn,g0,g2,t0,e0,nms,hr',hd,h⟩:=h;refine⟨_,kN.run (iT (je (i:=4) AY.nd rfl lo (iW (uD T).mono hr rfl hx (iR (iU 0) (iR (iU 1) iS))))
   (iT (jm (jE (jj (iW (jN T).mono hr rfl hx (iR (iU 3) (iR iX (iR (kE T.mU) iS)))) (λ_=>rfl))) (iV jK) jc)
   (iT (je (i:=5) AY.nd rfl lo (jg (iU 2) T.jZ (qD T).mono hr hx (iR (iU 4) iS)))
   (iT (i9 (jg (iU 0) T.jv (uz T).mono hr hx (iR (iU 1) (iR (iU 5) (iR (iU 4) iS)))))
   (iT (i9 (iW (FY T).mono hr rfl hx (iR (iU 0) (iR (iU 5) (iR (iU 3) iS)))))
   (iT (i9 (iW (P7 T).mono hr rfl hx (iR (iU 0) (iR (iU 1) (iR (iU 5) iS)))))
   (iV (i6 (iU 5))))))))),?_⟩
  obtain⟨dz,ez⟩:=hsp;obtain⟨dm,em⟩:=mm.ob;obtain⟨c1,c2,c3,c4,c5⟩:=pO cn;simp?[];refine⟨m,q,ws,i,n,rfl,mm,i0,cn,?_⟩;simp?[jI,BM g0 g2,ez,Dm];refine⟨sp',dz,z.b,z.e,z.t,_,rfl,ez,⋯,hr',?_⟩;have nqs:q≠sp':=λy=>by have:=mm.ls;rw[y,ez]at this;cases this
  have e1:upd H sp' (HO.ins A.i_ dz (nV z.b z.e (z.t+(n/4+1)))) sp'=some (HO.ins A.i_ dz (nV z.b z.e (z.t+(n/4+1)))):=iZ;have f1:∀b u,H b=some u->b≠sp'->upd H sp' (HO.ins A.i_ dz (nV z.b z.e (z.t+(n/4+1)))) b=some u:=λb u eb nb=>nA eb nb;generalize upd H sp' (HO.ins A.i_ dz (nV z.b z.e (z.t+(n/4+1))))=H1 at*;have mm1:jL A.i7 H1 m q ws:=⟨⟨dm,f1 _ _ em nms⟩,f1 _ _ mm.ls nqs⟩;simp?[f1 _ _ em nms,NG];refine⟨m,q,ws,_,_,_,rfl,mm1,w4,i0,t0,⋯,by(clear c1;lia),⋯,λH2 mm2 f2=> ?_⟩;have wl2:(cp ws ((ws.drop i.toNat).take (n/4+1).toNat) z.t.toNat (n/4+1).toNat).length=ws.length:=rS _;have g2':(cp ws ((ws.drop i.toNat).take (n/4+1).toNat) z.t.toNat (n/4+1).toNat).getD z.t.toNat 0=ws.getD i.toNat 0:=by
   rw[Kp _ ⋯ (by(clear mm2 c4;lia)) (by(clear wl2 c5 c4 c3 c1;omega)),d9,af,d8 (by(clear mm2 c4;lia)),dB,←af];rfl
  have g3:(cp ws ((ws.drop i.toNat).take (n/4+1).toNat) z.t.toNat (n/4+1).toNat).getD i.toNat 0=ws.getD i.toNat 0:=AB _ (by(clear g2' wl2 c1;omega));unfold wJ at h;generalize cp ws ((ws.drop i.toNat).take (n/4+1).toNat) z.t.toNat (n/4+1).toNat=W at*;have cE:∀{X:List Int} {k:Nat},X.length=ws.length->X.getD k 0=ws.getD i.toNat 0->(k:Int)+n/4<ws.length->kD X k=some n:=λhX hk hl=>by
   rw[l6,hk,hX,c1,if_pos ⋯];exact congrArg some ⋯
  simp?[];refine⟨m,q,W,_,_,n,rfl,mm2,t0,cE wl2 g2' (by(clear g3 g2' wl2 c5 c1;omega)),g0,g2,?_⟩;have mm3:=mm2.put z.t.toNat (2*(4*(n/4)+g));have f3:∀b u,H2 b=some u->b≠q->upd H2 q (HO.lst ((W.set z.t.toNat (2*(4*(n/4)+g))).map ι)) b=some u:=λb u eb nb=>nA eb nb;generalize upd H2 q (HO.lst ((W.set z.t.toNat (2*(4*(n/4)+g))).map ι))=H3 at*;simp?[];refine⟨m,q,_,_,_,n,rfl,mm3,i0,cE (by rw[aT,wl2]) (by rw[af,aX,if_neg (by(clear g3 g2' wl2 c5 c4 c3 c1;omega)),←af,g3]) ⋯,t0,by(clear c4 c3 c1;omega),?_⟩;simp?[];have mm4:=mm3.put i.toNat (2*z.t+1);rw[show 2*z.t+1=2*(z.t.toNat:Int)+1 by lia]at mm4⊢;exact h _ mm4 ⟨dz,by rw[i4 (aj nqs)];exact f3 _ _ (f2 _ _ e1 (aj nqs)) (aj nqs)⟩ λb u eb n1 n2=>by
   rw[i4 n1];exact f3 _ _ (f2 _ _ (f1 _ _ eb n2) n1) n1
def Ey(A:Ad):Sp:=λvs H Q _=>Y5 λ(x:Ax) (M:Mem) (ow:Own) (G:List (Nat×Int)) (lg:Addr)=>Tn (vs=[.ref x.p,.ref x.b,.ref lg]) (Wx A H x M) (jx M.ws) (M.ws.length<=200) (H lg=some (.lst ((G.map dE).map ι))) ((M.ks.length<64∨M.ks.length<128/\DD M.ks)) (G.length<=20) ((∀k,(ow.s k).length<=8)) ((∀e∈G,0<=e.2/\e.2+ow.z e.1<=M.ws.length/\∃n,kD M.ws e.2.toNat=some n/\n/4=(ow.s e.1).length)) ((∀p∈M.ks,0<=p/\p<M.ws.length)) (∀(H':Hp) (d:Addr) (ks:List Int),(∀b u,H b=some u->Bd u=true->b≠d)->Wx A H' {x with d:=d} {M with ks:=ks}->Kx [] H H'->ks.Nodup->(∀p,p∈ks↔(p∈M.ks∨∃e∈G,p∈qx ow e)/\oP M.sy (lN M.ws p)=true)->Q .kr H')
theorem ox:i8 ["areas","book","grown","looked","at","place"] ["areas","book","grown"] (i3 tD):=fsc
theorem D1(T:Txt K mg A):CG P w K mg base true 9 "renew_book" ["areas","book","grown"] (Ey A):=by
 specialize T.sJ.lK ox
 ·obtain⟨x,M,ow,G,lg,rfl,h,wo',l2,eg,k64,g10,s8,cells,kb,q⟩:=h;refine⟨_,kN.run (iT (je (i:=3) ox.nd rfl lo (jJ (iU 1) T.lW (uy T).mono hr hx))
   (iT (jR hx.own rfl (jD (iU 2)) (ju (i:=4) ox.nd rfl lo)
    (iV (i9 (AF PySem.F.slot_list_extend PySem.F.type_list_extend Jg (iU 3) (iR (iW (mh T).mono hr rfl hx (iR (jd (iU 0) rfl) (iR (iU 4) iS))) iS)))))
   (iT (i9 (jJ (iU 1) T.lW (vC T).mono hr hx))
   (iV (jR hx.own rfl (jD (iU 3)) (ju (i:=5) ox.nd rfl lo)
    (iV (jm (jj (iW (uA T).mono hr rfl hx (iR (iU 0) (iR (jg (jd (iU 0) rfl) T.jv (kS T).mono hr hx (iR (iU 5) iS)) iS))) (λ_=>rfl)) (iV (i9 (jg (iU 1) T.lW (vD T).mono hr hx (iR (iU 5) iS)))) jc))))))),?_⟩
  have kl:M.ks.length<128:=k64.elim (λz=>by lia) (·.1);obtain⟨db,eb⟩:=h.bk.ob;obtain⟨da,ea⟩:=h.ar.ob;show oj _ _ _ [⇑x.p,⇑x.b,⇑lg,none,none,none] H;exists ∃ll,C3 (σ'=[⇑x.p,⇑x.b,⇑lg,⇑ll,none,none]) (H ll=none) (H'=upd H ll (.lst ((jS M.ks).map ι)))
  ·simp?[eb,BR];exact⟨x.b,x.d,M.ks,rfl,h.bk,k64,λll hl=>hR _ _ ⟨ll,rfl,hl,rfl⟩⟩
  ext _ _ ⟨ll,rfl,hl,rfl⟩;have s1:ja H (upd H ll (.lst ((jS M.ks).map ι))):=ja.upd hl;have e1:upd H ll (.lst ((jS M.ks).map ι)) ll=some (.lst ((jS M.ks).map ι)):=iZ;generalize upd H ll (.lst ((jS M.ks).map ι))=H1 at*;have h1:=h.same s1;have nlg:lg≠ll:=iY eg hl;exists ∃v4,C4 (σ'=[⇑x.p,⇑x.b,⇑lg,⇑ll,v4,none]) (Wx A H' x M) (Kx [] H H') (H' ll=some (.lst ((jS M.ks++G.flatMap (qx ow)).map ι)))
  ·simp?[];refine⟨⟨_,jX.of (s1 _ _ eg)⟩,?_⟩;refine j8.EV (xs:=(G.map dE).map ι) (λi σ H'=>∃v4,C4 (σ=[⇑x.p,⇑x.b,⇑lg,⇑ll,v4,none]) (Wx A H' x M) (Kx [] H H') (H' ll=some (.lst ((jS M.ks++(G.take i).flatMap (qx ow)).map ι))))
    ⟨_,rfl,h1,q_ s1,by rw[e1,gz,List.flatMap_nil,bg]⟩ (λi σ H' _ hz=>by obtain⟨_,_,_,k,_⟩:=hz;exact jX.of (k _ _ eg rfl aI)) ?_ ?_
   ·rintro i v σ H2 hv ⟨v4,rfl,w2,k2,e2⟩ R2 hR2;obtain⟨hi,rfl,tk⟩:=ints_get hv;have hi':i<G.length:=by rw[ae]at hi;exact hi
    have ee:(G.map dE)[i]=G[i].2:=cN ..;rw[ee];obtain⟨a0,a1,n,cn,n4⟩:=cells G[i] (aG hi');obtain⟨da2,ea2⟩:=w2.ar.ob;have ez:ow.z G[i].1=(ow.s G[i].1).length+1:=rfl;simp?[Bx,e2,ea2,T.jq,T.ji,mW];refine⟨x.m,x.q,M.ws,_,n,rfl,w2.ar.mem,⋯,a0,cn,λl3 hl3=> ?_⟩;have sp:lD G[i].2 n=qx ow G[i]:=by unfold lD qx;rw[n4]<;>rfl
    rw[sp];have s3:ja H2 (upd H2 l3 (.lst ((qx ow G[i]).map ι))):=ja.upd hl3;have e3:upd H2 l3 (.lst ((qx ow G[i]).map ι)) l3=some (.lst ((qx ow G[i]).map ι)):=iZ;have n3:ll≠l3:=iY e2 hl3;generalize upd H2 l3 (.lst ((qx ow G[i]).map ι))=H3 at*;have e4:=s3 _ _ e2;dsimp only;rw[e4,e3];dsimp only;have L1:=(GA s8 (G.take i)).2.1;have Internal:(qx ow G[i]).length=(ow.s G[i].1).length:=by unfold qx;rw[ae,aY]
    have L3:=s8 G[i].1;have L4:(G.take i).length<=20:=by rw[bP];lia
    have L5:(jS M.ks).length=M.ks.length:=(ko M.ks).length_eq;refine⟨n3,av (show _<=4000 by rw[ae,ae,ay];(clear ez n4;lia)) (by decide),hR2 _ _ ⟨_,rfl,(w2.same s3).row e4 (h.new hl),λb u eb kb nb=> ?_,?_⟩⟩
    ·rw[i4 (iY eb hl)];exact s3 _ _ (k2 b u eb kb nb)
    ·rw[iZ,←aF,cf,show G.take (i+1)=G.take i++[G[i]] by rw[cg,ab hi'];rfl,List.flatMap_append,List.flatMap_singleton]
   ·rintro σ H2 ⟨v4,rfl,w2,k2,e2⟩;rw[ae,ae,bt]at e2;exact hR _ _ ⟨v4,rfl,w2,k2,e2⟩
  ext _ H2 ⟨v4,rfl,w2,k2,e2⟩;obtain⟨db2,eb2⟩:=w2.bk.ob;exists ∃d,C6 (σ'=[⇑x.p,⇑x.b,⇑lg,⇑ll,v4,none]) ((∀b u,H b=some u->Bd u=true->b≠d)) (ll≠d) (Wx A H' {x with d:=d} {M with ks:=[]}) (Kx [] H H') (H' ll=some (.lst ((jS M.ks++G.flatMap (qx ow)).map ι)))
  ·simp?[eb2,EA];refine⟨x.b,x.d,M.ks,rfl,w2.bk,λd H3 hd b3 f3=>hR _ _ ⟨d,rfl,λb u e k=>iY (k2 b u e k aI) hd,iY e2 hd,w2.book b3 (Uv w2.nd (w2.new hd)) λb u e n1 _=>f3 b u e n1,λb u e k n=>f3 b u (k2 b u e k n) λz=> ?_,f3 _ _ e2 (kB e2 eb2)⟩⟩;rw[z,eb]at e;cases e;cases k
  ext _ H3 ⟨d,rfl,fd,nd,w3,k3,e3⟩;simp?[];refine⟨⟨_,jX.of e3⟩,?_⟩;generalize hL:jS M.ks++G.flatMap (qx ow)=L at*;have L1:=(GA s8 G).2.1;have L5:(jS M.ks).length=M.ks.length:=(ko M.ks).length_eq;have Ll:L.length<=300:=by rw[←hL,ay];omega
  have mL:∀p,p∈L↔p∈M.ks∨∃e∈G,p∈qx ow e:=λp=>by rw[←hL,cG,iz,(ko M.ks).mem_iff]
  have bL:∀p∈L,0<=p/\p<M.ws.length:=λp hp=>by
   rcases (mL p).mp hp with z|⟨e,he,z⟩
   ·exact kb p z
   ·obtain⟨j,hj,rfl⟩:=z_.mp z;obtain⟨a0,a1,_⟩:=cells e he;have ez:ow.z e.1=(ow.s e.1).length+1:=rfl;lia
  refine j8.EV (xs:=L.map ι) (λi σ H'=>Y2 λv5 ks=>C7 (σ=[⇑x.p,⇑x.b,⇑lg,⇑ll,v4,v5]) (Wx A H' {x with d:=d} {M with ks:=ks}) (Kx [] H H') (H' ll=some (.lst (L.map ι))) (ks.Nodup) (ks.length<=i) (∀p,p∈ks↔p∈L.take i/\oP M.sy (lN M.ws p)=true))
   ⟨_,[],rfl,w3,k3,e3,bC,au _,λp=>by simp⟩ (λi σ H' _ hz=>by obtain⟨_,_,_,_,_,e,_⟩:=hz;exact jX.of e) ?_ ?_
  ·rintro i v σ H4 hv ⟨v5,ks,rfl,w4,k4,e4,nd4,l4,m4⟩ R2 hR2;obtain⟨hi,rfl,tk⟩:=ints_get hv;obtain⟨p0,p1⟩:=bL _ (aG hi);generalize hp:L[i]=p at*;obtain⟨da4,ea4⟩:=w4.ar.ob;obtain⟨dm4,em4⟩:=w4.ar.mem.ob;obtain⟨db4,eb4⟩:=w4.bk.ob;have kw:(kd (.int (lN M.ws p))).isSome=true:=by obtain⟨y,ey⟩:=KL wo' (show p.toNat<M.ws.length by lia);unfold lN;rw[ey];rfl
   simp?[ea4,T.jq,T.ji,mW,em4,vS];refine⟨x.m,x.q,M.ws,p,rfl,w4.ar.mem,p0,by omega,?_⟩;refine⟨{x with d:=d},{M with ks:=ks},lN M.ws p,rfl,w4,kw,?_⟩;refine⟨_,rfl,?_⟩
   cases hy:oP M.sy (lN M.ws p) with
   |false=>
    rw[if_neg aK];refine hR2 _ _ ⟨_,ks,rfl,w4,k4,e4,nd4,⋯,λp'=> ?_⟩;rw[m4 p',tk,cG,aA];exact⟨λz=>⟨.inl z.1,z.2⟩,λz=>⟨z.1.resolve_right (λe=>by rw[e,hy]at z;cases z.2),z.2⟩⟩
   |true=>
    rw[if_pos rfl,eb4];dsimp only;refine⟨⟨rfl,EB⟩,x.b,d,ks,p,rfl,w4.bk,⋯,p0,by(clear hp l4 Ll L5 L1 kl;omega),?_⟩;have b5:=w4.bk.put (ks':=Je ks p);have f5:∀b u,H4 b=some u->b≠d->upd H4 d (.dK (DH (Je ks p))) b=some u:=λb u e n=>nA e n;refine hR2 _ _ ⟨_,Je ks p,rfl,w4.book b5 w4.nd λb u e _ n=>f5 b u e n,λb u e k n=>f5 b u (k4 b u e k n) (fd b u e k),f5 _ _ e4 nd,Nn nd4,by have:=PJ (ks:=ks) (p:=p);lia,λp'=> ?_⟩;rw[KA,m4 p',tk,cG,aA];constructor
    ·rintro(z|rfl)
     ·exact⟨.inl z.1,z.2⟩
     ·exact⟨.inr rfl,hy⟩
    ·rintro⟨z|z,y⟩
     ·exact .inl ⟨z,y⟩
     ·exact .inr z
  ·rintro σ H4 ⟨v5,ks,rfl,w4,k4,e4,nd4,l4,m4⟩;rw[ae,bt]at m4;exact q H4 d ks fd w4 k4 nd4 λp=>by rw[m4 p,mL p]
structure Kd(ws:List Int)(f:Nat->Int)(ch:Nat->List Nat)(L:List Nat):Prop where
 ll:L.length<=20
 ce:∀k∈L,0<=f k/\(ch k).length<=8/\(∀i∈ch k,i∈L)/\∃n,kD ws (f k).toNat=some n/\kids ws (f k).toNat n=(ch k).map f
 inj:∀k∈L,∀i∈L,f k=f i->k=i
noncomputable def Ur (m st mt sn:Addr) (f:Nat->Int) (ch:Nat->List Nat) (L S:List Nat) (H:Hp):Nat->St->Hp->Prop:=λk σ H'=>Y2 λ(M:List Nat) (d:Nat)=>C9 (k=L.length-d) (d<=M.length) (σ=[some (.ref m),some (.ref st),some (.ref mt),some (.ref sn),some (.int d)]) (H' mt=some (.lst ((M.map f).map ι))) (H' sn=some (.dK (Ku (M.map f)))) (M.Nodup) ((∀x∈M,x∈L)) ((∀res,Reach ch M d res->Reach ch (nj [] S) 0 res)) (ja H H')
noncomputable def JX (A:Ad):Sp:=λvs H Q _=>Y8 λ(m q st:Addr) (ws:List Int) (f:Nat->Int) (ch:Nat->List Nat) (L S:List Nat)=>C9 (vs=[.ref m,.ref st]) (jL A.i7 H m q ws) (jx ws) (ws.length<=4000) (H st=some (.lst ((S.map f).map ι))) (S.length<=64) ((∀x∈S,x∈L)) (Kd ws f ch L) (∀l H' res,H l=none->ja H H'->Reach ch (nj [] S) 0 res->H' l=some (.lst ((res.map f).map ι))->Q (.ref l) H')
theorem qg:i8 ["memory","starts","met","seen","done"] ["memory","starts"] (i3 AS):=fsc
theorem CI(T:Txt K mg A):CG P w K mg base true 10 "reached" ["memory","starts"] (JX A):=by
 specialize T.AO.lK qg
 ·obtain⟨m,q,st,ws,f,ch,L,S,rfl,hm,wo',wl,es,sl,sub,kd',h⟩:=h;refine⟨_,kN.run (iT (je (i:=2) qg.nd rfl lo (kP iS))
   (iT (je (i:=3) qg.nd rfl lo ma)
   (iT (i9 (iW (Bc T).mono hr rfl hx (iR (iU 1) (iR (iU 2) (iR (iU 3) iS)))))
   (iT (je (i:=4) qg.nd rfl lo iX)
   (iT (vR hx.own (jf Cc (iU 4) (jo kU (by rfl) T.mI ζl (iR (iU 2) iS)) (jr _))
    (iT (i9 (iW (Bc T).mono hr rfl hx (iR (iW (HR T).mono hr rfl hx (iR (iU 0) (iR (jH jV (iU 2) (iU 4)) iS))) (iR (iU 2) (iR (iU 3) iS)))))
   (iV (je (i:=4) qg.nd rfl lo (i5 jy (iU 4) iX)))))
   (iV (i6 (iU 2)))))))),?_⟩
  show oj _ _ _ [⇑m,⇑st,none,none,none] H;refine jb (λσ' H'=>∃mt,C4 (H mt=none) (ja H H') (H' mt=some (.lst [])) (σ'=[⇑m,⇑st,⇑mt,none,none])) (λR' hR=> ?_) ?_
  ·simp?[];exact λd hd=>hR _ _ ⟨d,hd,ja.upd hd,iZ,rfl⟩
  ext _ H1 ⟨mt,hmt,s1,em,rfl⟩;refine jb (λσ' H'=>∃sn,C4 (H1 sn=none) (ja H1 H') (H' sn=some (.dK (Ku []))) (σ'=[⇑m,⇑st,⇑mt,⇑sn,none])) (λR' hR=> ?_) ?_
  ·simp?[];exact λd hd=>hR _ _ ⟨d,hd,ja.upd hd,iZ,rfl⟩
  ext _ H2 ⟨sn,hsn,s2,esn,rfl⟩;have em2:=s2 _ _ em;have es2:=s2 _ _ (s1 _ _ es);have fre:∀b u,H b=some u->b≠mt/\b≠sn:=λb u eb=>⟨iY eb hmt,iY (s1 _ _ eb) hsn⟩;have dm:∀{W F:List Nat},(∀a∈F,a∈L)->(∀a∈W,a∈L)->nj (F.map f) (W.map f)=(nj F W).map f:=Fi kd'.inj;refine jb (λσ' H'=>C4 (H' mt=some (.lst (((nj [] S).map f).map ι))) (H' sn=some (.dK (Ku ((nj [] S).map f)))) (ja H H') (σ'=[⇑m,⇑st,⇑mt,⇑sn,none])) (λR' hR=> ?_) ?_
  ·simp?[];refine⟨st,mt,sn,S.map f,[],rfl,es2,em2,esn,(fre _ _ es).1,by rw[ae];exact sl,by simp,λH' e1 e2 f1=> ?_⟩;rw[eV,show nj [] (S.map f)=(nj [] S).map f from dm (F:=[]) (λ_ z=>nomatch z) sub]at e1 e2;exact hR _ _ ⟨e1,e2,λb u eb=>f1 _ _ (s2 _ _ (s1 _ _ eb)) (fre _ _ eb).1 (fre _ _ eb).2,rfl⟩
  ext _ H3 ⟨e1,e2,s3,rfl⟩;refine jb (λσ' H'=>H3=H'/\σ'=[⇑m,⇑st,⇑mt,⇑sn,↥((0:Nat):Int)]) (λR' hR=> ?_) ?_
  ·simp?[];exact hR _ _ ⟨rfl,rfl⟩
  ext _ _ ⟨rfl,rfl⟩;refine⟨Ur m st mt sn f ch L S H,⟨_,nj [] S,0,rfl,bh _,rfl,e1,e2,by simpa using pK (W:=S) (F:=[]) bC,λx hx=>sub x (qj hx),λres hr=>hr,s3⟩,?_⟩;rintro k σ H4 ⟨M,d,hk,dl,rfl,e3,e4,ndM,sM,hr',s4⟩;have Ml:M.length<=L.length:=mH ndM sM;have ll:=kd'.ll;simp?[e3,ae];by_cases z:d<M.length
  ·rw[if_pos ⋯];refine⟨λσ' H'=>∃m',m'<k/\Ur m st mt sn f ch L S H m' σ' H',λσ' H' hh=>hh,?_⟩;have hp:=sM _ (aG z);obtain⟨p0,p8,pc,n,cn,kn'⟩:=kd'.ce _ hp;have ea:Bm ((M.map f).map ι) (d:Int)=some (.int (f M[d])):=by rw[wL,ak,ak,ab z];rfl
   rw[ea];dsimp only;refine⟨m,q,ws,f M[d],n,rfl,hm.same s4,wo',wl,p0,cn,?_⟩;rw[kn'];intro l H5 s5 hl el;have e35:=s5 _ _ e3;have e45:=s5 _ _ e4;refine⟨l,mt,sn,(ch M[d]).map f,M.map f,rfl,el,e35,e45,(λz=>by rw[z,e3]at hl;cases hl),by rw[ae];lia,by rw[ae];lia,λH6 e6 e7 f6=> ?_⟩;rw[dm sM pc,←aF]at e6 e7;have s6:ja H H6:=λb u eb=>f6 _ _ (s5 _ _ (s4 _ _ eb)) (fre _ _ eb).1 (fre _ _ eb).2;refine⟨L.length-(d+1),⋯,M++nj M (ch M[d]),d+1,rfl,by rw[ay];lia,rfl,e6,e7,pK ndM,λx hx=> ?_,λres hres=>hr' res (.step z hres),s6⟩;rcases List.mem_append.mp hx with hx|hx
   ·exact sM x hx
   ·exact pc x (qj hx)
  ·rw[if_neg ⋯];have:d=M.length:=by lia
   exact h mt H4 M hmt s4 (hr' M (.done ⋯)) e3
def wG(A:Ad):Sp:=λvs H Q _=>TB λp m q o y s ws so sy ss n=>C9 (vs=[.ref p,.int n]) (lY A.jh A.i7 A.i_ H p m q o y s ws so sy ss) (ws.length<=4000) (0<=sy.t) (sy.e<=ws.length) (0<=n) (n<=8) (n+1<=sy.e-sy.t) (∀H',lY A.jh A.i7 A.i_ H' p m q o y s (kL ws sy.t.toNat n.toNat 0) so ⟨sy.b,sy.e,sy.t+(n+1)⟩ ss->(∀b u,H b=some u->b≠q->b≠y->H' b=some u)->Q (.int sy.t) H')
theorem wD:i8 ["self","slots"] ["self","slots"] (i3 nQ):=fsc
theorem vU(T:Txt K mg A):CM P w K mg base true 10 A.jh "lay_young" ["self","slots"] (wG A):=by
 specialize T.nO.lK wD
 ·obtain⟨p,m,q,o,y,s',ws,so,sy,ss,n,rfl,a,hl,t0,el,n0,n8,nr,h⟩:=h;refine⟨_,kN.run (iV (i6 (jg (iU 0) T.jq (qq T).mono hr hx (iR (jd (iU 0) rfl) (iR (iU 1) (iR iX iS)))))),?_⟩;obtain⟨dx,hp⟩:=a.ob;obtain⟨dy,hy⟩:=a.oP;simp?[hp,T.jq,T.kA,G4,Mw];exact⟨p,dx,m,q,o,y,s',ws,y,dy,sy,n,0,rfl,hp,a.mem,hl,hy,a.pd.2.2.1,a.md.2.1,t0,el,by decide,by decide,n0,n8,nr,λH' m' e' f'=>h H' (a.U4 m' ⟨dy,e'⟩ f') f'⟩
def A0(A:Ad):Sp:=λvs H Q _=>TB λp m q o y s ws so sy ss n=>C9 (vs=[.ref p,.int n]) (lY A.jh A.i7 A.i_ H p m q o y s ws so sy ss) (ws.length<=4000) (0<=so.t) (so.e<=ws.length) (0<=n) (n<=8) (n+1<=so.e-so.t) (∀H',lY A.jh A.i7 A.i_ H' p m q o y s (kL ws so.t.toNat n.toNat 2) ⟨so.b,so.e,so.t+(n+1)⟩ sy ss->(∀b u,H b=some u->b≠q->b≠o->H' b=some u)->Q (.int so.t) H')
theorem AW:i8 ["self","slots"] ["self","slots"] (i3 oZ):=fsc
theorem AJ(T:Txt K mg A):CM P w K mg base true 10 A.jh "lay_old" ["self","slots"] (A0 A):=by
 specialize T.oW.lK AW
 ·obtain⟨p,m,q,o,y,s',ws,so,sy,ss,n,rfl,a,hl,t0,el,n0,n8,nr,h⟩:=h;refine⟨_,kN.run (iV (i6 (jg (iU 0) T.jq (qq T).mono hr hx (iR (jd (iU 0) rfl) (iR (iU 1) (iR (kE T.mU) iS)))))),?_⟩;obtain⟨dx,hp⟩:=a.ob;obtain⟨dy,hy⟩:=a.old;simp?[hp,T.jq,T.j9,A6,Mw];exact⟨p,dx,m,q,o,y,s',ws,o,dy,so,n,2,rfl,hp,a.mem,hl,hy,a.pd.2.1,a.md.1,t0,el,by decide,by decide,n0,n8,nr,λH' m' e' f'=>h H' (a.P8 m' ⟨dy,e'⟩ f') f'⟩
def Ex(A:Ad):Sp:=λvs H Q _=>Y5 λ(x:Ax) (M:Mem) (c:CS) (a n:Int)=>Vj (vs=[.ref x.p,.int a]) (Wx A H x (cM M c)) (jx c.ws) (c.ws.length<=200) (M.so.e<=c.ws.length) (M.ss.e<=c.ws.length) (0<=a) (a<c.ws.length) (0<=c.ot) (0<=c.st) (kD c.ws a.toNat=some n) ((n%4=0->n/4+1<=M.ss.e-c.st/\(a<c.st∨c.st+(n/4+1)<=a))) ((n%4≠0->n/4+1<=M.so.e-c.ot/\(a<c.ot∨c.ot+(n/4+1)<=a))) (∀H',Kx [x.q] H H'->Wx A H' x (cM M (if n%4=0 then⟨wJ c.ws a.toNat c.st.toNat (n/4+1) n 1,c.ot,c.st+(n/4+1),c.cs⟩ else⟨wJ c.ws a.toNat c.ot.toNat (n/4+1) n 2,c.ot+(n/4+1),c.st,c.cs⟩))->Q (.int (if n%4=0 then c.st else c.ot)) H')
theorem Ec:i8 ["areas","at"] ["areas","at"] (i3 tq):=fsc
theorem D0(T:Txt K mg A):CG P w K mg base true 10 "copy_young" ["areas","at"] (Ex A):=by
 specialize T.sG.lK Ec
 ·obtain⟨x,M,c,a,n,rfl,h,wo',l2,oe,se,a0,a1,o0,s0,cn,h1,h2,q⟩:=h;refine⟨_,kN.run (iT (jm (jf l9 (iW (LX T).mono hr rfl hx (iR (jd (iU 0) rfl) (iR (iU 1) iS))) iX (jr _)) (iV (i6 (iW (EW T).mono hr rfl hx (iR (jd (iU 0) rfl) (iR (iU 1) (iR (jd (iU 0) rfl) (iR iX iS))))))) jc)
   (iV (i6 (iW (EW T).mono hr rfl hx (iR (jd (iU 0) rfl) (iR (iU 1) (iR (jd (iU 0) rfl) (iR iX iS)))))))),?_⟩
  obtain⟨dp,ep⟩:=h.ar.ob;obtain⟨ds,es⟩:=h.ar.DB;obtain⟨d0,eo⟩:=h.ar.old;by_cases z:n%4=0
  ·rw[if_pos z,if_pos z]at q;obtain⟨r1,r2⟩:=h1 z;refine vp (λ_ _=>False) (λR _=> ?_) (λ_ _ z=>z.elim);simp?[ep,T.jq,T.ji,mW];refine⟨x.m,x.q,c.ws,a,n,rfl,h.ar.mem,a0,cn,?_⟩;simp?[z,ep,T.jq,T.ji,T.kQ,mW,Kf];refine⟨x.m,x.q,c.ws,a,x.s,⟨M.ss.b,M.ss.e,c.st⟩,1,n,rfl,h.ar.mem,h.ar.DB,⋯,a0,cn,by decide,by decide,s0,se,h.ar.md.2.2,r1,r2,λH' m' s' f'=>q H' (λb u eb k nb=>f' b u eb (by simpa using nb) (λz=>by rw[z,es]at eb;cases eb;cases k)) ?_⟩
   exact h.BP (h.ar.WD m' s' f') λb u eb nb n1 _=>f' b u eb nb (qB eb es n1 (by kernel_rfl))
  ·rw[if_neg z,if_neg z]at q;obtain⟨r1,r2⟩:=h2 z;exists σ'=[⇑x.p,↥a]/\H=H'
   ·simp?[ep,T.jq,T.ji,mW];refine⟨x.m,x.q,c.ws,a,n,rfl,h.ar.mem,a0,cn,?_⟩;simp?[z];exact hR _ _ ⟨rfl,rfl⟩
   ext _ _ ⟨rfl,rfl⟩;simp?[ep,T.jq,T.ji,T.j9,mW,A6];refine⟨x.m,x.q,c.ws,a,x.o,⟨M.so.b,M.so.e,c.ot⟩,2,n,rfl,h.ar.mem,h.ar.old,⋯,a0,cn,by decide,by decide,o0,oe,h.ar.md.1,r1,r2,λH' m' s' f'=>q H' (λb u eb k nb=>f' b u eb (by simpa using nb) (λz=>by rw[z,eo]at eb;cases eb;cases k)) ?_⟩
   exact h.BP (h.ar.P8 m' s' f') λb u eb nb n1 _=>f' b u eb nb (qB eb eo n1 (by kernel_rfl))
noncomputable def JV (A:Ad):Sp:=λvs H Q _=>Y6 λ(x:Ax) (M:Mem) (p:Nat->Option Int) (S:Nat->List Th) (D:List Th) (L:List Nat)=>C4 (vs=[.ref x.p,.ref x.r]) (Wx A H x M) (Vw p S D L M) (∀(P:Pa) (res:List Nat) (H':Hp),ja H H'->H P.t=none->(∀a∈P.as,H a=none)->Rd S D res->Mt H' P (D.map (dr res)) (res.map λk=>(S k).map (dr res))->Q (.ref P.t) H')
theorem oh:i8 ["areas","roots","cells","numbers","number","at","held"] ["areas","roots"] (i3 rM):=fsc
theorem sg(T:Txt K mg A):CG P w K mg base true 11 "picture" ["areas","roots"] (JV A):=by
 specialize T.AN.lK oh
 ·obtain⟨x,M,p,S,D,L,rfl,w,vw,q⟩:=h;refine⟨_,kN.run (iT (je (i:=2) oh.nd rfl lo (iW (CI T).mono hr rfl hx (iR (jd (iU 0) rfl) (iR (jJ (iU 1) T.jO (tQ T).mono hr hx) iS))))
   (iT (je (i:=3) oh.nd rfl lo ma)
   (iT (jR hx.own rfl (vj rfl T.m9 (iR (iU 2) iS)) (pQ (n:=2) (by rfl) (jY (ju (i:=4) oh.nd rfl lo) (jY (ju (i:=5) oh.nd rfl lo) nZ)))
    (iV (uk (wW hr) (iU 3) (iU 5) (iU 4) rfl)))
   (iT (mE (i:=6) (fsc:=i3 rM) (N2:=["numbers"]) (js:=[3]) oh.nd rfl lo ⟨rfl,rfl,∅,∅,∅,∅,∅,∅,∅⟩ rfl rfl (by rfl) (jD (jJ (jd (iU 1) rfl) T.lx (pB T).mono hr hx)) (λ_ _ _ _=>lq) (λ_ _ _ _=>(iW (HU T).mono hr rfl lI (iR (iU 1) (iR (iU 0) iS)))))
   (iV (i6 (oF (iR (iU 6) (iR (lz (fsc:=i3 rM) (N2:=["areas","numbers"]) (js:=[0,3]) ⟨rfl,rfl,∅,∅,∅,∅,∅,∅,∅⟩ rfl rfl (by rfl) (jD (iU 2)) (λ_ _ _ _=>lq) (λ_ _ _ _=>(iW (CK T).mono hr rfl lI (iR (B9 (K:=K) rfl (iU 1) rfl) (iR (iU 2) (iR (iU 0) iS)))))) iS))))))))),?_⟩
  obtain⟨dp,ep⟩:=w.ar.ob;obtain⟨dr1,er⟩:=w.ro;have l2:=vw.l2;have kdw:jx M.hw:=by rw[vw.hd];intro v hv;obtain⟨t,ht,rfl⟩:=List.mem_map.mp hv;exact Cn (vw.gd t ht) vw.pp
  have kdl:M.hw.length<=6:=by rw[vw.hd,ae];exact vw.dl
  have ekn:Ck M.hw=(kn D).map (pz p):=by rw[vw.hd];exact ES λk hk=>(vw.pp k (vw.gd _ hk)).1
  show oj _ _ _ [⇑x.p,⇑x.r,none,none,none,none,none] H;exists Y2 λl res=>C4 (σ'=[⇑x.p,⇑x.r,⇑l,none,none,none,none]) (ja H H') (H' l=some (.lst ((res.map (pz p)).map ι))) (Rd S D res)
  ·simp?[ep,T.jq,T.ji,mW,er,Bf];refine⟨x.r,x.h,x.g,x.b,x.w,x.l,M.hw,rfl,w.ro,w.hd,kdw,kdl,λf H1 hf s1 ef=> ?_⟩;rw[ekn]at ef;refine⟨x.m,x.q,f,M.ws,pz p,λk=>kn (S k),L,kn D,rfl,(w.same s1).ar.mem,vw.wo,⋯,ef,av AH (av vw.dl (by decide)),λk hk=>vw.gd _ (oS.mp hk),⟨vw.ll,λk hk=> ?_,vw.inj⟩,λl H2 res hl s2 rd el=>hR _ _ ⟨l,res,rfl,s1.trans s2,el,rd⟩⟩;obtain⟨c0,c1,c2,n,c3,c4,c5⟩:=vw.ce k hk;exact⟨c0,av AH c2,vw.cl k hk,n,c3,vw.kids hk c4⟩
  ext _ H1 ⟨l,res,rfl,s1,el,rd⟩;have sub:∀k∈res,k∈L:=Reach.sub rd vw.cl λk hk=>vw.gd _ (oS.mp (qj hk));have nd:=rd.all.1;have inj:∀k∈res,∀i∈res,pz p k=pz p i->k=i:=λk hk i hi e=>vw.inj k (sub k hk) i (sub i hi) e;have rl:res.length<=20:=av (mH nd sub) vw.ll;exists ∃d,C4 (σ'=[⇑x.p,⇑x.r,⇑l,⇑d,none,none,none]) (ja H1 H') (H1 d=none) (H' d=some (.dK (DQ p 0 [])))
  ·simp?[];exact λd hd=>hR _ _ ⟨d,rfl,ja.upd hd,hd,iZ⟩
  ext _ H2 ⟨d,rfl,s2,hd,ed⟩;exists Y2 λv4 v5=>C3 (σ'=[⇑x.p,⇑x.r,⇑l,⇑d,v4,v5,none]) (ja H1 H') (H' d=some (.dK (DQ p 0 res)))
  ·simp?[];refine⟨⟨_,jX.of (s2 _ _ el)⟩,j8.enum (xs:=(res.map (pz p)).map ι) (λi σ H'=>Y2 λv4 v5=>C3 (σ=[⇑x.p,⇑x.r,⇑l,⇑d,v4,v5,none]) (ja H1 H') (H' d=some (.dK (DQ p 0 (res.take i))))) ⟨none,none,rfl,s2,ed⟩ (λi σ H' _ hz=>by obtain⟨_,_,_,s,_⟩:=hz;exact jX.of (s _ _ el)) ?_ ?_⟩
   ·rintro i v σ H3 pp hv ⟨v4,v5,rfl,s3,e3⟩ hp R2 hR2;obtain⟨hi,rfl,tk⟩:=ints_get hv;have hi':i<res.length:=by rw[ae]at hi;exact hi
    rw[cN];have s4:ja H3 (upd H3 pp (.tup [.int i,.int (pz p res[i])])):=ja.upd hp;have tp:upd H3 pp (.tup [.int i,.int (pz p res[i])]) pp=some (.tup [.int i,.int (pz p res[i])]):=iZ;generalize upd H3 pp (.tup [.int i,.int (pz p res[i])])=H4 at*;have e4:=s4 _ _ e3;have tl:(res.take i).length=i:=by rw[bP];lia
    have pu:putK (DQ p 0 (res.take i)) (aQ (pz p res[i])) (ι (i:Int))=DQ p 0 (res.take (i+1)):=by
     have:=P1 (p:=p) (k:=res[i]) (res:=res.take i) λa ha e=>by
      obtain⟨j,hj,rfl⟩:=List.mem_iff_getElem.mp ha;rw[ig]at e;have ej:=inj _ (aG ⋯) _ (aG hi') e;exact(List.pairwise_iff_getElem.mp nd) j i ⋯ hi' ⋯ ej
     rw[tl]at this;rw[this,bu hi']
    refine⟨pp,_,rfl,.inl (.inl tp),rfl,?_⟩;simp?[e4,pu];refine⟨by rw[KU,tl];exact ax (show i<20 by lia) (by decide),hR2 _ _ ⟨_,_,rfl,(s3.trans s4).put hd,iZ⟩⟩
   ·rintro σ H3 ⟨v4,v5,rfl,s3,e3⟩;rw[ae,ae,bt]at e3;exact hR _ _ ⟨v4,v5,rfl,s3,e3⟩
  ext _ H3 ⟨v4,v5,rfl,s3,ed3⟩;have w3:=w.same (s1.trans s3);obtain⟨dr3,er3⟩:=w3.ro;obtain⟨dh3,eh3⟩:=w3.hd.ob;exists Y2 λh v0=>C5 (σ'=[⇑x.p,⇑x.r,⇑l,⇑d,v4,v5,⇑h]) (ja H3 H') (H3 h=none) (H' h=some (.lst v0)) (Ar H' (D.map (dr res)) v0)
  ·simp?[er3,T.jO,T.jQ,uR,eh3,BE];refine⟨x.h,x.g,M.hw,rfl,w3.hd,λl3 hl3=>⟨_,rfl,⟨_,jX.of iZ⟩,?_⟩⟩;have s4:ja H3 (upd H3 l3 (.lst (M.hw.map ι))):=ja.upd hl3;have e4:upd H3 l3 (.lst (M.hw.map ι)) l3=some (.lst (M.hw.map ι)):=iZ;generalize upd H3 l3 (.lst (M.hw.map ι))=H4 at*;refine mX (xs:=M.hw.map ι) (λi ys H'=>ja H4 H'/\Ar H' ((D.take i).map (dr res)) ys/\ys.length<=i) ⟨ja.refl _,Ar.nil,au _⟩ (λi ys H' hP=>jX.of (hP.1 _ _ e4)) (by rw[ae];exact av kdl (by decide)) (λi ys H' hP=>hP.2.2) (λi y ys H' hx' hP K1 hK=> ?_) λys H' hP h hh=> ?_
   ·obtain⟨s5,th,hy⟩:=hP;obtain⟨hi,rfl,_⟩:=ints_get hx';have hi':i<D.length:=by rw[vw.hd,ae]at hi;exact hi
    have ew:M.hw[i]? =some (wd p D[i]):=by rw[vw.hd,ak,ab hi'];rfl
    rw[ab hi]at ew;rw[aM ew];simp?[bK];refine⟨d,p,res,D[i],rfl,s5 _ _ (s4 _ _ ed3),?_,λk hk=>vw.pp k (sub k hk),inj,λv H2 s2 tv=>hK _ _ ⟨s5.trans s2,?_,by rw[ay];exact dO hy⟩⟩
    ·rcases rd.all.2.1 _ (aG hi') with z|⟨n,z⟩
     ·exact z
     ·have:=vw.gd _ (aG hi');rw[z]at this⊢;exact this
    ·rw[cg,ab hi',aF];exact(th.same s2).snoc tv
   ·obtain⟨s5,th,_⟩:=hP;rw[ae,show M.hw.length=D.length by rw[vw.hd,ae],bt]at th;exact hR _ _ ⟨h,ys,rfl,(s4.trans s5).trans (ja.upd hh),(s4.trans s5).free hh,iZ,th.same (ja.upd hh)⟩
  ext _ H4 ⟨h,v0,rfl,s4,hh,eh,th⟩;have w4:=w3.same s4;obtain⟨dp4,ep4⟩:=w4.ar.ob;simp?[];have Tg:=s4 _ _ (s3 _ _ el);refine⟨⟨_,jX.of Tg⟩,mX (xs:=(res.map (pz p)).map ι) (λi ys H'=>∃rs:List Addr,ys=rs.map ξ/\ja H4 H'/\rs.length=i/\rs.Nodup/\(∀a∈rs,H4 a=none)/\∀(j:Nat) (a:Addr) (k:Nat),rs[j]? =some a->res[j]? =some k->∃vs,H' a=some (.lst vs)/\Ar H' ((S k).map (dr res)) vs)
   ⟨[],rfl,ja.refl _,rfl,bC,(λ_ z=>nomatch z),λ_ _ _ z=>nomatch z⟩ (λi ys H' ⟨_,_,s,_⟩=>jX.of (s _ _ Tg)) (by rw[ae,ae];exact av rl (by decide)) (λi ys H' ⟨rs,e,_,ln,_⟩=>by rw[e,ae,ln];exact au _) (λi y ys H' hx' hP K1 hK=> ?_) λys H' hP lr hlr=> ?_⟩
  ·obtain⟨rs,rfl,s5,ln,nd5,fr5,rw5⟩:=hP;obtain⟨hi,rfl,_⟩:=ints_get hx';have hi':i<res.length:=by rw[ae]at hi;exact hi
   rw[cN];have w5:=w4.same s5;obtain⟨dp5,ep5⟩:=w5.ar.ob;have hk:=sub _ (aG hi');simp?[ep5,T.jq,T.ji,mW,bK];refine⟨x.m,x.q,d,M,p,S,D,L,res,res[i],rfl,w5.ar.mem,vw,s5 _ _ (s4 _ _ ed3),sub,hk,λt ht=> ?_,λa vs H2 s2 ha ea tv=>hK _ _ ⟨rs++[a],by rw[aF];rfl,s5.trans s2,by rw[ay,ln];rfl,sf nd5 λz=> ?_,λb hb=> ?_,λj b k e1 e2=> ?_⟩⟩
   ·cases t with
    |no=>exact bB
    |nu n=>exact vw.gs _ hk _ ht
    |ce k=>exact rd.all.2.2 _ (aG hi') k (oS.mpr ht)
   ·obtain⟨j,hj,e⟩:=List.mem_iff_getElem.mp z;obtain⟨vs',e',_⟩:=rw5 j a res[j] (by rw[ab hj,e]) (ab ⋯);rw[ha]at e';cases e'
   ·rcases List.mem_append.mp hb with hb|hb
    ·exact fr5 b hb
    ·rw[List.mem_singleton.mp hb];exact s5.free ha
   ·by_cases z:j<rs.length
    ·rw[bj z]at e1;obtain⟨vs',e',t'⟩:=rw5 j b k e1 e2;exact⟨vs',s2 _ _ e',t'.same s2⟩
    ·rw[bp ⋯]at e1;by_cases y:j-rs.length=0
     ·rw[y]at e1;cases e1
      obtain rfl:j=i:=by lia
      rw[ab hi']at e2;cases e2
      exact⟨vs,ea,tv⟩
     ·rw[aS (by show 1<=j-rs.length;lia)]at e1;cases e1
  ·obtain⟨rs,rfl,s5,ln,nd5,fr5,rw5⟩:=hP;rw[ae,ae]at ln;intro t ht;have s6:ja H' (upd (upd H' lr (.lst (rs.map ξ))) t (.tup [.ref h,.ref lr])):=(ja.upd hlr).trans (ja.upd ht);have e6:upd (upd H' lr (.lst (rs.map ξ))) t (.tup [.ref h,.ref lr]) lr=some (.lst (rs.map ξ)):=(ja.upd ht) _ _ iZ;have sH:ja H H':=(((s1.trans s3).trans s4).trans s5);have f4:∀{a},H4 a=none->H a=none:=λ{a} z=>((s1.trans s3).trans s4).free z;have eh5:=s5 _ _ eh;have hrs:∀a∈rs,∃vs,H' a=some (.lst vs):=λa ha=>by
    obtain⟨j,hj,e⟩:=List.mem_iff_getElem.mp ha;obtain⟨vs',e',_⟩:=rw5 j a res[j] (by rw[ab hj,e]) (ab ⋯);exact⟨_,e'⟩
   refine q ⟨t,h,lr,v0,rs⟩ res _ (sH.trans s6) (sH.free (ja.free (ja.upd hlr) ht)) (λa ha=> ?_) rd ⟨iZ,s6 _ _ eh5,(th.same s5).same s6,e6,by rw[ae];exact ln,λi a r e1 e2=> ?_,?_⟩
   ·rcases List.mem_cons.mp ha with rfl|ha
    ·exact(s1.trans s3).free hh
    rcases List.mem_cons.mp ha with rfl|ha
    ·exact sH.free hlr
    ·exact f4 (fr5 a ha)
   ·rw[ak]at e2;obtain⟨k,hk,rfl⟩:=Option.map_eq_some_iff.mp e2;obtain⟨vs',e',t'⟩:=rw5 i a k e1 hk;exact⟨vs',s6 _ _ e',t'.same s6⟩
   ·refine List.nodup_cons.mpr ⟨λz=> ?_,List.nodup_cons.mpr ⟨λz=> ?_,nd5⟩⟩
    ·rcases List.mem_cons.mp z with z|z
     ·exact iY eh5 hlr z
     ·have:=fr5 _ z;rw[eh]at this;cases this
    ·obtain⟨vs,e⟩:=hrs _ z;rw[hlr]at e;cases e
section
variable{A:Ad}{H:Hp}{x:Ax}{M:Mem}{d:Addr}
theorem Wx.V_(w:Wx A H x M)(e:H x.o=some (.ins A.i_ d (nV M.so.b M.so.e M.so.t)))(z:Int):Wx A (upd H x.o (.ins A.i_ d (nV M.so.b M.so.e z))) x {M with so:=⟨M.so.b,M.so.e,z⟩}:=by
 have f:∀b u,H b=some u->b≠x.o->upd H x.o (.ins A.i_ d (nV M.so.b M.so.e z)) b=some u:=λb u e n=>nA e n;refine w.BP (w.ar.P8 (z:=⟨M.so.b,M.so.e,z⟩) (w.ar.mem.keep λb u eb hb=>f _ _ eb ?_) ⟨d,iZ⟩ λb u e _ n=>f _ _ e n) λb u eb _ ns _=>f _ _ eb (qB eb e ns (by kernel_rfl));rcases hb with rfl|rfl
 ·exact w.ar.md.1
 ·exact aj (w.ar.old.ne w.ar.mem.ls)
theorem Wx.Wc(w:Wx A H x M)(e:H x.y=some (.ins A.i_ d (nV M.sy.b M.sy.e M.sy.t)))(z:Int):Wx A (upd H x.y (.ins A.i_ d (nV M.sy.b M.sy.e z))) x {M with sy:=⟨M.sy.b,M.sy.e,z⟩}:=by
 have f:∀b u,H b=some u->b≠x.y->upd H x.y (.ins A.i_ d (nV M.sy.b M.sy.e z)) b=some u:=λb u e n=>nA e n;refine w.BP (w.ar.U4 (z:=⟨M.sy.b,M.sy.e,z⟩) (w.ar.mem.keep λb u eb hb=>f _ _ eb ?_) ⟨d,iZ⟩ λb u e _ n=>f _ _ e n) λb u eb _ ns _=>f _ _ eb (qB eb e ns (by kernel_rfl));rcases hb with rfl|rfl
 ·exact w.ar.md.2.1
 ·exact aj (w.ar.oP.ne w.ar.mem.ls)
theorem Wx.Wa(w:Wx A H x M)(e:H x.s=some (.ins A.i_ d (nV M.ss.b M.ss.e M.ss.t)))(z:Int):Wx A (upd H x.s (.ins A.i_ d (nV M.ss.b M.ss.e z))) x {M with ss:=⟨M.ss.b,M.ss.e,z⟩}:=by
 have f:∀b u,H b=some u->b≠x.s->upd H x.s (.ins A.i_ d (nV M.ss.b M.ss.e z)) b=some u:=λb u e n=>nA e n;exact w.BP (w.ar.UX (z:=⟨M.ss.b,M.ss.e,z⟩) ⟨d,iZ⟩ λb u e n=>f _ _ e n) λb u eb _ ns _=>f _ _ eb (qB eb e ns (by kernel_rfl))
end
theorem Kx.fresh{L:List Addr}{H H1:Hp}{r:Addr}(k:Kx L H H1)(hr:H1 r=none)(nr:r∉L):∀u,H r=some u->Bd u=false:=λu e=>by
 cases i:Bd u with
 |false=>rfl
 |true=>rw[k r u e i nr]at hr;cases hr
noncomputable def Du (A:Ad):Sp:=λvs H Q _=>Y6 λ(x:Ax) (M:Mem) (p:Nat->Option Int) (S:Nat->List Th) (D:List Th) (L:List Nat)=>C5 (vs=[.ref x.p,.ref x.r]) (Wx A H x M) (Vw p S D L M) (Lw p S L M) (∀(d:Addr) (M':Mem) (p':Nat->Option Int) (L':List Nat) (n:Int) (H':Hp),Vw p' S D L' M'->Wx A H' {x with d:=d} M'->ue (mx x) H H' (mx {x with d:=d})->Q (.int n) H')
theorem kT:i8 ["areas","roots","memory","kept","where","hand","word","at"] ["areas","roots"] (i3 oq):=fsc
theorem CF(T:Txt K mg A):lZ P w K mg base (tX P w) true 11 A.lj A.kJ ["areas","roots"] (Du A):=by
 refine T.uh.UC kT (λvs H Q E h=> ?_) (λcdv A' outer s H vs Q E hcd hr hx h=> ?_)
 ·obtain⟨_,_,_,_,_,_,rfl,_⟩:=h;rfl
 ·obtain⟨x,M,p,S,D,L,rfl,wx,vw,lw,h⟩:=h;refine⟨_,kN.run (iT (je (i:=2) kT.nd rfl lo (jd (iU 0) rfl))
   (iT (je (i:=3) kT.nd rfl lo (jo Cf (by rfl) T.rK ζs (iR (iW (CI T).mono hr rfl hx (iR (iU 2) (iR (jJ (iU 1) T.jO (tQ T).mono hr hx) iS))) iS)))
   (iT (je (i:=4) kT.nd rfl lo (iW (NP T).mono hr rfl hx (iR (iU 0) (iR (iU 3) iS))))
   (iT (jR hx.own rfl (vj rfl T.m9 (iR (jJ (jd (iU 1) rfl) T.lx (pB T).mono hr hx) iS)) (pQ (n:=2) (by rfl) (jY (ju (i:=5) kT.nd rfl lo) (jY (ju (i:=6) kT.nd rfl lo) nZ)))
    (iV (i9 (jg (jd (iU 1) rfl) T.lx (pA T).mono hr hx (iR (iU 5) (iR (iW (uC T).mono hr rfl hx (iR (iU 4) (iR (iU 6) iS))) iS))))))
   (iT (i9 (jg (iU 1) T.jO (tP T).mono hr hx (iR (Hr (fsc:=i3 oq) (hcd.symm.trans T.pS) T.pP rfl ∅ (by rfl)) iS)))
   (iT (i9 (jJ (jd (iU 1) rfl) T.lW (vC T).mono hr hx))
   (iT (i9 (jJ (jd (iU 0) rfl) T.jZ (nK T).mono hr hx))
   (iT (i9 (jJ (jd (iU 0) rfl) T.jZ (nK T).mono hr hx))
   (iT (i9 (jJ (jd (iU 0) rfl) T.jZ (nK T).mono hr hx))
   (iT (jR hx.own rfl (jD (iU 3)) (ju (i:=7) kT.nd rfl lo)
    (iT (i9 (iW (NR T).mono hr rfl hx (iR (iU 2) (iR (iU 4) (iR (iU 7) iS)))))
   (iV (i9 (iW (NS T).mono hr rfl hx (iR (iU 0) (iR (iU 7) (iR (nD (iU 4) (iU 7)) iS))))))))
   (iV (i6 (jJ (jd (iU 0) rfl) T.jZ (DX T).mono hr hx))))))))))))),?_⟩
  obtain⟨dp,ep⟩:=wx.ar.ob;obtain⟨dr1,er⟩:=wx.ro;have l2:=vw.l2;have kdw:jx M.hw:=by rw[vw.hd];intro v hv;obtain⟨t,ht,rfl⟩:=List.mem_map.mp hv;exact Cn (vw.gd t ht) vw.pp
  have kdl:M.hw.length<=6:=by rw[vw.hd,ae];exact vw.dl
  have ekn:Ck M.hw=(kn D).map (pz p):=by rw[vw.hd];exact ES λk hk=>(vw.pp k (vw.gd _ hk)).1
  show oj _ _ _ [⇑x.p,⇑x.r,none,none,none,none,none,none] H;exists σ'=[⇑x.p,⇑x.r,⇑x.m,none,none,none,none,none]/\H=H'
  ·simp?[ep,T.jq,T.ji,mW];exact hR _ _ ⟨rfl,rfl⟩
  ext _ _ ⟨rfl,rfl⟩;exists Y2 λk res=>C5 (σ'=[⇑x.p,⇑x.r,⇑x.m,⇑k,none,none,none,none]) (H k=none) (ja H H') (H' k=some (.lst ((Kz p res).map ι))) (Rd S D res)
  ·simp?[er,Bf];refine⟨x.r,x.h,x.g,x.b,x.w,x.l,M.hw,rfl,wx.ro,wx.hd,kdw,kdl,λf H1 hf s1 ef=> ?_⟩;rw[ekn]at ef;refine⟨x.m,x.q,f,M.ws,pz p,λk=>kn (S k),L,kn D,rfl,(wx.same s1).ar.mem,vw.wo,⋯,ef,av AH (av vw.dl (by decide)),λk hk=>vw.gd _ (oS.mp hk),⟨vw.ll,λk hk=> ?_,vw.inj⟩,λl H2 res hl s2 rd el=> ?_⟩
   ·obtain⟨c0,c1,c2,n,c3,c4,c5⟩:=vw.ce k hk;exact⟨c0,av AH c2,vw.cl k hk,n,c3,vw.kids hk c4⟩
   dsimp only;rw[el];dsimp only;rw[AE];dsimp only;have rl:(res.map (pz p)).length<=20:=by
    have:=(vw.gw lw rd).kl;unfold Kz at this
    rwa[(ko _).length_eq]at this
   exact⟨⋯,λk hk=>hR _ _ ⟨k,res,rfl,(s1.trans s2).free hk,(s1.trans s2).trans (ja.upd hk),iZ,rd⟩⟩
  ext _ H1 ⟨k,res,rfl,hk,s1,ek,rd⟩;have gw:=vw.gw lw rd;have fin:=λ{M':Mem}=>vw.Wd (M':=M') lw rd;generalize hW:vz p S L=W at gw fin;generalize hJ:Kz p res=J at gw fin ek;have Mf:=gw.Mf;have se:=gw.se;have ndJ:=CB gw.lt;have Jl:=gw.kl;have w1:=wx.same s1;exists ∃d,C4 (σ'=[⇑x.p,⇑x.r,⇑x.m,⇑k,⇑d,none,none,none]) (H1 d=none) (ja H1 H') (H' d=some (.dK (dk (Au W J))))
  ·simp?[];refine⟨_,_,_,_,_,_,_,_,_,_,k,J,rfl,w1.ar,ek,⋯,ndJ,λa ha=> ?_,λd H2 hd s2 ed=> ?_⟩
   ·obtain⟨q0,q1,_,n',q3,_⟩:=gw.cl a ha;exact⟨q0,by rw[q3];rfl⟩
   ·refine hR _ _ ⟨d,rfl,hd,s2,?_⟩;rw[ed,se.2,←wY (List.Perm.refl J) (gw.lt.imp λz=>gZ z),Au,Kv λa ha=> ?_];obtain⟨_,_,_,n',q3,q4⟩:=gw.cl a ha;unfold OJ GY;rw[q3];show n'/4+1=_;lia
  ext _ H2 ⟨wd',rfl,hwd,s2,ew⟩;have s12:=s1.trans s2;have w2:=wx.same s12;have ek2:=s2 _ _ ek;have hwd0:=s1.free hwd;have xk:k∉mx x:=wx.new hk;have xw:wd'∉mx x:=wx.new hwd0;exists Y2 λa5 a6=>C3 (σ'=[⇑x.p,⇑x.r,⇑x.m,⇑k,⇑wd',a5,a6,none]) (Wx A H' x {M with hw:=M.hw.map (tw (Au W J))}) (∀b u,H2 b=some u->b≠x.g->H' b=some u)
  ·obtain⟨dr2,er2⟩:=w2.ro;obtain⟨dh,eh⟩:=w2.hd.ob;simp?[er2,T.jO,T.jQ,uR,eh,BE];refine⟨x.h,x.g,M.hw,rfl,w2.hd,λr hr'=>⟨⟨_,jX.of iZ⟩,?_⟩⟩;have s3:=ja.upd (o:= .lst (M.hw.map ι)) hr';have er3:upd H2 r (.lst (M.hw.map ι)) r=some (.lst (M.hw.map ι)):=iZ;generalize upd H2 r (.lst (M.hw.map ι))=H3 at*;have xr:x.g≠r:=iY w2.hd.ls hr';have xwg:wd'≠x.g:=(ux xw).1.2.1;refine j8.enum (xs:=M.hw.map ι) (λi σ H'=>Y2 λa5 a6=>C3 (σ=[⇑x.p,⇑x.r,⇑x.m,⇑k,⇑wd',a5,a6,none]) (Wx A H' x {M with hw:=(M.hw.take i).map (tw (Au W J))++M.hw.drop i}) (∀b u,H3 b=some u->b≠x.g->H' b=some u))
    ⟨none,none,rfl,by rw[gz,List.drop_zero];exact w2.same s3,λb u e _=>e⟩ (λi σ H' _ hz=>by obtain⟨_,_,_,_,f⟩:=hz;exact jX.of (f _ _ er3 (aj xr))) ?_ ?_
   ·rintro i v σ H4 pp hv ⟨a5,a6,rfl,w4,f4⟩ hp R2 hR2;obtain⟨hi,rfl,_⟩:=ints_get hv;have s5:=ja.upd (o:= .tup [ι i,ι M.hw[i]]) hp;have e5:upd H4 pp (.tup [ι i,ι M.hw[i]]) pp=some (.tup [ι i,ι M.hw[i]]):=iZ;generalize upd H4 pp (.tup [ι i,ι M.hw[i]])=H5 at*;have w5:=w4.same s5;obtain⟨dr5,er5⟩:=w5.ro;obtain⟨dh5,eh5⟩:=w5.hd.ob;have ew5:=s5 _ _ (f4 _ _ (s3 _ _ ew) xwg);have wb:=gw.hb _ (aG hi);refine⟨pp,_,rfl,.inl (.inl e5),rfl,?_⟩;simp?[er5,T.jO,T.jQ,uR,eh5,BD];have hl5:((M.hw.take i).map (tw (Au W J))++M.hw.drop i).length=M.hw.length:=by rw[ay,ae,bP,eM];lia
    refine⟨wd',_,_,rfl,ew5,wb,x.h,x.g,_,i,_,rfl,w5.hd,⋯,by rw[hl5];lia,tw_ok wb,?_⟩;have pu:=w5.hd.put i (tw (Au W J) M.hw[i]);rw[show(i:Int).toNat=i from bf i,KR hi];rw[KR hi]at pu;exact hR2 _ _ ⟨_,_,rfl,w5.hand pu λb u e nb=>nA e nb,λb u e nb=>by rw[i4 nb];exact s5 _ _ (f4 _ _ e nb)⟩
   ·rintro σ H4 ⟨a5,a6,rfl,w4,f4⟩;rw[ae,bt,List.drop_length,bg]at w4;exact hR _ _ ⟨_,_,rfl,w4,λb u e nb=>f4 _ _ (s3 _ _ e) nb⟩
  ext _ H3 ⟨a5,a6,rfl,w3,f3⟩;have ew3:=f3 _ _ ew (ux xw).1.2.1;have ek3:=f3 _ _ ek2 (ux xk).1.2.1;exists σ'=[⇑x.p,⇑x.r,⇑x.m,⇑k,⇑wd',a5,a6,none]/\Wx A H' x {M with hw:=M.hw.map (tw (Au W J))}/\∀b u,H3 b=some u->Bd u=true->H' b=some u
  ·obtain⟨dr3,er3⟩:=w3.ro;obtain⟨ps,et,tt⟩:=w3.tb.2;simp?[er3,Be];refine⟨ps,et,tt,λf ps' _ tt'=> ?_⟩;have w3':=w3.U0 (.inr rfl) tt';have f1:∀b u,H3 b=some u->Bd u=true->upd H3 A.jC (.vN ps') b=some u:=λb u e k=>by rw[i4 λz=>by rw[z,et]at e;cases e;cases k];exact e
   exact⟨x,_,_,rfl,w3',λH' s'=>hR _ _ ⟨rfl,w3'.same s',λb u e k=>s' _ _ (f1 _ _ e k)⟩⟩
  ext _ H4 ⟨rfl,w4,f4⟩;have ew4:=f4 _ _ ew3 rfl;have ek4:=f4 _ _ ek3 rfl;have k04:Kx (mx x) H H4:=λb u e i n=>f4 _ _ (f3 _ _ (s12 _ _ e) (ux n).1.2.1) i;exists ∃d',C6 (σ'=[⇑x.p,⇑x.r,⇑x.m,⇑k,⇑wd',a5,a6,none]) (Wx A H' {x with d:=d'} {M with hw:=M.hw.map (tw (Au W J)),ks:=[]}) (H' wd'=some (.dK (dk (Au W J)))) (H' k=some (.lst (J.map ι))) (Kx (mx x) H H') (H4 d'=none)
  ·obtain⟨dr4,er4⟩:=w4.ro;obtain⟨db4,eb4⟩:=w4.bk.ob;simp?[er4,T.jO,T.kM,CU,eb4,EA];refine⟨x.b,x.d,_,rfl,w4.bk,λd' H5 hd' b5 f5=> ?_⟩;have g5:∀b u,H4 b=some u->Bd u=true->H5 b=some u:=λb u e i=>f5 _ _ e (λz=>by rw[z,eb4]at e;cases e;cases i)
   exact hR _ _ ⟨d',rfl,w4.book b5 (Uv w4.nd (w4.new hd')) λb u e n _=>f5 b u e n,g5 _ _ ew4 rfl,g5 _ _ ek4 rfl,λb u e i n=>g5 _ _ (k04 _ _ e i n) i,hd'⟩
  ext _ H5 ⟨d',rfl,w5,ew5,ek5,k5,hd'⟩;have kins:∀{G:Hp} {a:Addr} {c1 d1:Addr} {f1 f2:List (Str×V)},G a=some (.ins c1 d1 f1)->∀b u,G b=some u->Bd u=true->upd G a (.ins c1 d1 f2) b=some u:=λ{G a c1 d1 f1 f2} ea b u e i=>by rw[i4 (λz=>by rw[z,ea]at e;cases e;cases i)];exact e
  exists σ'=[⇑x.p,⇑x.r,⇑x.m,⇑k,⇑wd',a5,a6,none]/\Wx A H' {x with d:=d'} {M with hw:=M.hw.map (tw (Au W J)),ks:=[],so:=⟨M.so.b,M.so.e,M.so.b⟩}/\∀b u,H5 b=some u->Bd u=true->H' b=some u
  ·obtain⟨dp5,ep5⟩:=w5.ar.ob;obtain⟨d1,eo⟩:=w5.ar.old;simp?[ep5,T.jq,T.j9,A6,eo,vq];exact⟨x.o,d1,_,_,_,rfl,eo,hR _ _ ⟨rfl,w5.V_ eo _,kins eo⟩⟩
  ext _ H6 ⟨rfl,w6,f6⟩;exists σ'=[⇑x.p,⇑x.r,⇑x.m,⇑k,⇑wd',a5,a6,none]/\Wx A H' {x with d:=d'} {M with hw:=M.hw.map (tw (Au W J)),ks:=[],so:=⟨M.so.b,M.so.e,M.so.b⟩,sy:=⟨M.sy.b,M.sy.e,M.sy.b⟩}/\∀b u,H6 b=some u->Bd u=true->H' b=some u
  ·obtain⟨dp5,ep5⟩:=w6.ar.ob;obtain⟨d1,eo⟩:=w6.ar.oP;simp?[ep5,T.jq,T.kA,G4,eo,vq];exact⟨x.y,d1,_,_,_,rfl,eo,hR _ _ ⟨rfl,w6.Wc eo _,kins eo⟩⟩
  ext _ H7 ⟨rfl,w7,f7⟩;exists σ'=[⇑x.p,⇑x.r,⇑x.m,⇑k,⇑wd',a5,a6,none]/\Wx A H' {x with d:=d'} {M with hw:=M.hw.map (tw (Au W J)),ks:=[],so:=⟨M.so.b,M.so.e,M.so.b⟩,sy:=⟨M.sy.b,M.sy.e,M.sy.b⟩,ss:=⟨M.ss.b,M.ss.e,M.ss.b⟩}/\∀b u,H7 b=some u->Bd u=true->H' b=some u
  ·obtain⟨dp5,ep5⟩:=w7.ar.ob;obtain⟨d1,eo⟩:=w7.ar.DB;simp?[ep5,T.jq,T.kQ,Kf,eo,vq];exact⟨x.s,d1,_,_,_,rfl,eo,hR _ _ ⟨rfl,w7.Wa eo _,kins eo⟩⟩
  ext _ H8 ⟨rfl,w8,f8⟩;have F8:∀b u,H5 b=some u->Bd u=true->H8 b=some u:=λb u e i=>f8 _ _ (f7 _ _ (f6 _ _ e i) i) i;have ew8:=F8 _ _ ew5 rfl;have ek8:=F8 _ _ ek5 rfl;have kq:k≠x.q:=(ux xk).1.1;have wq:wd'≠x.q:=(ux xw).1.1;exists Y2 λa7 ws=>C4 (σ'=[⇑x.p,⇑x.r,⇑x.m,⇑k,⇑wd',a5,a6,a7]) (Wx A H' {x with d:=d'} {M with hw:=M.hw.map (tw (Au W J)),ks:=[],ws:=ws,so:=⟨M.so.b,M.so.e,ui W J J.length⟩,sy:=⟨M.sy.b,M.sy.e,M.sy.b⟩,ss:=⟨M.ss.b,M.ss.e,M.ss.b⟩}) (Sd W J M.ws J.length ws) (∀b u,H8 b=some u->Bd u=true->b≠x.q->H' b=some u)
  ·simp?[];refine⟨⟨_,jX.of ek8⟩,j8.EV (xs:=J.map ι) (λi σ H'=>Y2 λa7 ws=>C4 (σ=[⇑x.p,⇑x.r,⇑x.m,⇑k,⇑wd',a5,a6,a7]) (Wx A H' {x with d:=d'} {M with hw:=M.hw.map (tw (Au W J)),ks:=[],ws:=ws,so:=⟨M.so.b,M.so.e,ui W J i⟩,sy:=⟨M.sy.b,M.sy.e,M.sy.b⟩,ss:=⟨M.ss.b,M.ss.e,M.ss.b⟩}) (Sd W J M.ws i ws) (∀b u,H8 b=some u->Bd u=true->b≠x.q->H' b=some u))
    ⟨none,M.ws,rfl,by rw[QS];rw[se.2]at w8⊢;exact w8,⟨rfl,gw.ok,λj _ z=>by lia,λa _=>rfl⟩,λb u e _ _=>e⟩ (λi σ H' _ hz=>by obtain⟨_,_,_,_,_,f⟩:=hz;exact jX.of (f _ _ ek8 rfl kq)) ?_ ?_⟩
   ·rintro i v σ H9 hv ⟨a7,ws,rfl,w9,sd,f9⟩ R2 hR2;obtain⟨hi,rfl,_⟩:=ints_get hv;obtain⟨c0,c1,c8,n',q3,q4⟩:=gw.cl _ (aG hi);have rst:∀k',k'<=(W J[i]).length->ws.getD (J[i].toNat+k') 0=M.ws.getD (J[i].toNat+k') 0:=λk' hk'=>sd.rest _ λm hm hmj=>by
     have:=List.pairwise_iff_getElem.mp gw.sep m i hm hi hmj;lia
    have ew9:=f9 _ _ ew8 rfl wq;have h1:=uj (W:=W) hi;have ez:GY W J[i]=1+(W J[i]).length:=rfl;have h2:=AD (W:=W) (K:=J) (i:=i+1) (j:=J.length) hi (au _);have h3:=B5 (W:=W) (K:=J) (i:=i) ⋯;have sl:=sd.len;show oj _ _ _ [⇑x.p,⇑x.r,⇑x.m,⇑k,⇑wd',a5,a6,↥J[i]] H9;refine jb (λσ' H'=>∃ws1,C4 (σ'=[⇑x.p,⇑x.r,⇑x.m,⇑k,⇑wd',a5,a6,↥J[i]]) (jL A.i7 H' x.m x.q ws1) (Vn (Au W J) ws J[i].toNat (W J[i]).length ws1) (∀b u,H9 b=some u->b≠x.q->H' b=some u)) (λR3 hR3=> ?_) ?_
    ·simp?[];refine⟨x.m,x.q,wd',ws,Au W J,J[i].toNat,(W J[i]).length,by rw[bS (by omega)],w9.ar.mem,sd.ok,⋯,ew9,c8,by(clear h3 l2;lia),⟨n',?_,q4⟩,λk' hk'=> ?_,λH10 ws1 m10 rn IZ=>hR3 _ _ ⟨ws1,rfl,m10,rn,IZ⟩⟩
     ·have:=rst 0 (bh _);rw[eY]at this;rw[IV sl this];exact q3
     ·rw[show J[i].toNat+1+k'=J[i].toNat+(1+k') by lia,rst (1+k') ⋯,show J[i].toNat+(1+k')=J[i].toNat+1+k' by lia,gw.wd _ (aG hi) k' hk'];refine gw.wb _ (aG hi) _ ?_;rw[af,ab hk'];exact aG hk'
    ext _ H10 ⟨ws1,rfl,m10,rn,IZ⟩;have st:=sd.step gw hi rn;have a10:=w9.ar.wr (ws':=ws1) m10 IZ;have w10:=w9.BP a10 λb u e n _ _=>IZ b u e n;simp?[IZ _ _ ew9 wq,Fj,OG ndJ hi,bE];have rl:=rn.len;refine⟨x.p,x.m,x.q,x.o,x.y,x.s,ws1,_,_,_,J[i],((W J[i]).length:Int),ui W J i,rfl,a10,rn.ok,⋯,by omega,⋯,⋯,⋯,⟨4*((W J[i]).length:Int)+2,?_,⋯⟩,h3,⋯,?_,λH11 a11 f11=> ?_⟩
    ·rw[l6,rn.hd,if_pos (by(clear st h3 ez q3 Mf;lia))];congr 1;lia
    ·show((W J[i]).length:Int)+1<=M.so.e-ui W J i;lia
    rw[show(((W J[i]).length:Int)+1).toNat=(W J[i]).length+1 by lia]at a11;obtain⟨d1,eo⟩:=w10.ar.old;have g11:∀b u,H10 b=some u->b≠x.q->(tg u=="begin")=false->H11 b=some u:=λb u e nq ns=>f11 b u e nq (qB e eo ns (by kernel_rfl));have w11:=w10.BP a11 λb u e nq ns _=>g11 b u e nq ns;refine hR2 _ _ ⟨_,_,rfl,?_,st,λb u e i n=>g11 _ _ (IZ _ _ (f9 _ _ e i n) n) n (by cases u<;>first|(cases i;done)|kernel_rfl)⟩;rw[show ui W J (i+1)=ui W J i+(((W J[i]).length:Int)+1) by rw[h1,ez];lia];exact w11
   ·rintro σ H9 ⟨a7,ws,rfl,w9,sd,f9⟩;rw[ae]at w9 sd;exact hR _ _ ⟨_,_,rfl,w9,sd,f9⟩
  ext _ H9 ⟨a7,ws,rfl,w9,sd,f9⟩;obtain⟨dp9,ep9⟩:=w9.ar.ob;obtain⟨d1,eo⟩:=w9.ar.old;simp?[ep9,T.jq,T.j9,A6,eo,Oi];refine⟨x.o,d1,_,_,_,rfl,eo,?_⟩;refine h d' {M with hw:=M.hw.map (tw (Au W J)),ks:=[],ws:=ws,so:=⟨M.so.b,M.so.e,ui W J J.length⟩,sy:=⟨M.sy.b,M.sy.e,M.sy.b⟩,ss:=⟨M.ss.b,M.ss.e,M.ss.b⟩} _ _ _ H9 (fin sd rfl) w9 ⟨λb u e i n=>f9 _ _ (F8 _ _ (k5 _ _ e i n) i) i (ux n).1.1,λb hb=> ?_⟩;simp only[mx,a_,aI,or_false]at hb;rcases hb with rfl|rfl|rfl|rfl|rfl
  ·exact .inl (by simp[mx])
  ·exact .inl (by simp[mx])
  ·exact .inl (by simp[mx])
  ·exact .inr (k04.fresh hd' (w4.new hd'))
  ·exact .inl (by simp[mx])
structure Mr(A:Ad)(H:Hp)(x:Ax)(M:Mem)(c:CS)(l:Addr):Prop where
 wh:Wx A H x (cM M c)
 cl:H l=some (.lst (c.cs.map ι))
 nm:l∉mx x
 wo:jx c.ws
 l2:c.ws.length<=200
 oe:M.so.e<=c.ws.length
 se:M.ss.e<=c.ws.length
 c1:c.cs.length<=100
theorem Mr.nq{A:Ad}{H:Hp}{x:Ax}{M:Mem}{c:CS}{l:Addr}(h:Mr A H x M c l):l≠x.q:=(ux h.nm).1.1
theorem MW{ws:List Int}{i t:Nat}{k n g:Int}(h:i<ws.length):(wJ ws i t k n g).getD i 0=2*t+1:=by
 unfold wJ;rw[Fu (by rw[aT,rS];exact h)]
def QG(A:Ad):Sp:=λvs H Q _=>Y5 λ(x:Ax) (M:Mem) (c:CS) (l:Addr) (u:Int)=>C5 (vs=[.ref x.p,.int u,.ref l]) (Mr A H x M c l) (OS M c u) ((c.ot<=9999/\c.st<=9999)) (∀H',Wx A H' x (cM M (jW M.sy c u))->H' l=some (.lst ((jW M.sy c u).cs.map ι))->Kx [l,x.q] H H'->jx (jW M.sy c u).ws->Q (.int (mf M.sy c u)) H')
theorem K9:i8 ["areas","word","copies","at"] ["areas","word","copies"] (i3 JN):=fsc
theorem KZ(T:Txt K mg A):CG P w K mg base true 11 "meet" ["areas","word","copies"] (QG A):=by
 specialize T.JF.lK K9
 ·obtain⟨x,M,c,l,u,rfl,h,mo,t9,q⟩:=h;refine⟨_,kN.run (iT (jm (jE (jj (iW (uA T).mono hr rfl hx (iR (iU 0) (iR (iU 1) iS))) (λ_=>rfl))) (iV (i6 (iU 1))) jc)
   (iT (je (i:=3) K9.nd rfl lo (iW (mj T).mono hr rfl hx (iR (iU 1) iS)))
   (iT (jm (jf FD (iW (CJ T).mono hr rfl hx (iR (jd (iU 0) rfl) (iR (iU 3) iS))) nG (jr _)) (iV (i9 (AF de df rZ (iU 2) (iR (iW (D0 T).mono hr rfl hx (iR (iU 0) (iR (iU 3) iS))) iS)))) jc)
   (iV (i6 (iW (NQ T).mono hr rfl hx (iR (jd (iU 0) rfl) (iR (iU 1) iS)))))))),?_⟩
  obtain⟨dp,ep⟩:=h.wh.ar.ob
  cases hy:oP M.sy u with
  |false=>
   refine vp (λ_ _=>False) (λR _=> ?_) (λ_ _ z=>z.elim);simp?[];refine⟨x,_,u,rfl,h.wh,mo.kw,?_⟩;rw[show oP (cM M c).sy u=false from hy];have e1:jW M.sy c u=c:=by unfold jW;rw[hy];rfl
   have e2:mf M.sy c u=u:=by unfold mf;rw[hy];rfl
   rw[e1,e2]at q;simp?[];exact q H h.wh h.cl (Kx.refl H) h.wo
  |true=>
   have hp:kj u=true:=by unfold oP at hy;rw[aV]at hy;exact hy.1
   obtain⟨ev,u9,u0,eu⟩:=vg hp mo.kw;obtain⟨a0,a1,mc⟩:=mo.yg hy;exists σ'=[⇑x.p,↥u,⇑l,none]/\H=H'
   ·simp?[];refine⟨x,_,u,rfl,h.wh,mo.kw,?_⟩;rw[show oP (cM M c).sy u=true from hy];simp?[];exact hR _ _ ⟨rfl,rfl⟩
   ext _ _ ⟨rfl,rfl⟩;exists σ'=[⇑x.p,↥u,⇑l,↥(u/2)]/\H=H'
   ·simp?[];exact⟨_,_,rfl,ev,by rw[o4 ⋯];exact hR _ _ ⟨rfl,rfl⟩⟩
   ext _ _ ⟨rfl,rfl⟩;exists C7 (σ'=[⇑x.p,↥u,⇑l,↥(u/2)]) (Wx A H' x (cM M (jW M.sy c u))) (H' l=some (.lst ((jW M.sy c u).cs.map ι))) (Kx [l,x.q] H H') (jx (jW M.sy c u).ws) (kj (lN (jW M.sy c u).ws (u/2))=true) ((jW M.sy c u).ws.length=c.ws.length)
   ·cases ip:kj (lN c.ws (u/2)) with
    |true=>
     have e1:jW M.sy c u=c:=by unfold jW;rw[hy,if_pos rfl,if_pos ip]
     rw[e1]at hR;simp?[ep,T.jq,T.ji,mW];refine⟨x.m,x.q,c.ws,_,rfl,h.wh.ar.mem,h.wo,a0,a1,?_⟩;rw[if_pos (show kj (c.ws.getD (u/2).toNat 0)=true from ip)];simp?[];exact hR _ _ ⟨rfl,h.wh,h.cl,Kx.refl H,h.wo,ip,rfl⟩
    |false=>
     obtain⟨n,cn,h1,h2⟩:=mc ip;obtain⟨_,n0,n34,n2,_⟩:=pO cn;simp?[ep,T.jq,T.ji,mW];refine⟨x.m,x.q,c.ws,_,rfl,h.wh.ar.mem,h.wo,a0,a1,?_⟩;rw[if_neg (show¬kj (c.ws.getD (u/2).toNat 0)=true by rw[show c.ws.getD (u/2).toNat 0=lN c.ws (u/2) from rfl,ip];intro z;cases z)]
     refine⟨n,cn,?_⟩;simp?[h.cl];refine⟨x,M,c,u/2,n,rfl,h.wh,h.wo,h.l2,h.oe,h.se,a0,a1,mo.o0,mo.s0,cn,h1,h2,λH1 k1 w1=> ?_⟩;have l1:=k1 l _ h.cl rfl (by simpa using h.nq);have c1:=h.c1;have mc':jW M.sy c u=if n%4=0 then⟨wJ c.ws (u/2).toNat c.st.toNat (n/4+1) n 1,c.ot,c.st+(n/4+1),c.cs++[c.st]⟩ else⟨wJ c.ws (u/2).toNat c.ot.toNat (n/4+1) n 2,c.ot+(n/4+1),c.st,c.cs++[c.ot]⟩:=by
      unfold jW;rw[hy,if_pos rfl,ip,if_neg (by intro z;cases z),cn]
     have t0:=mo.o0;have t1:=mo.s0;have kx:∀{ys:List V},Kx [l,x.q] H (upd H1 l (.lst ys)):=λ{ys} b v eb kb nb=>by
      rw[a_,not_or]at nb;rw[i4 nb.1];exact k1 b v eb kb nb.2
     rw[mc']at hR;by_cases z:n%4=0
     ·rw[if_pos z]at hR w1⊢;simp?[l1];refine⟨by rw[ae];exact bZ c1 (by decide),hR _ _ ⟨rfl,w1.row l1 h.nm,?_,kx,IX h.wo n0 n34 (by decide) (by decide) (by(clear t1 c1 n2 ip a1 u9;omega)),?_,Fg⟩⟩
      ·rw[iZ,aF];rfl
      ·show kj (List.getD _ _ _)=true;rw[MW ⋯];exact o_ ⋯
     ·rw[if_neg z]at hR w1⊢;simp?[l1];refine⟨by rw[ae];exact bZ c1 (by decide),hR _ _ ⟨rfl,w1.row l1 h.nm,?_,kx,IX h.wo n0 n34 (by decide) (by decide) (by(clear t0 c1 n2 ip a1 u9;omega)),?_,Fg⟩⟩
      ·rw[iZ,aF];rfl
      ·show kj (List.getD _ _ _)=true;rw[MW ⋯];exact o_ ⋯
   ext _ H1 ⟨rfl,w1,l1,k1,o1,p1,n1⟩;obtain⟨dp1,ep1⟩:=w1.ar.ob;simp?[ep1,T.jq,T.ji,mW];have e:=q H1 w1 l1 k1 o1;unfold mf at e;rw[if_pos hy]at e;exact⟨x.m,x.q,_,u,rfl,w1.ar.mem,o1,mo.kw,hp,show u/2<((jW M.sy c u).ws.length:Int) by rw[n1];exact a1,p1,e⟩
structure Aa where
 p:Addr
 m:Addr
 q:Addr
 o:Addr
 y:Addr
 s:Addr
noncomputable abbrev Tj (A:Ad) (H:Hp) (z:Aa) (M:Mem):Prop:=lY A.jh A.i7 A.i_ H z.p z.m z.q z.o z.y z.s M.ws M.so M.sy M.ss
structure Lg(A:Ad)(H0 H:Hp)(z:Aa)(M0 M:Mem)(D:List Th)(ow:Own)(O Y:List (Nat×Int))(C lu:Addr)(rs:List Addr):Prop where
 ar:Tj A H z M
 I:In ow M O Y
 la:La ow O
 lc:tS H C rs ow
 us:H lu=some (.lst [.int M.so.t,.int (M.sy.t-M.sy.b)])
 kx:Kb [z.q] H0 H
 fr:∀b∈lu::C::rs,∀u,H0 b=some u->UD u=false
 nl:lu∉C::rs
 cs:M.so.e=M0.so.e/\M.sy.b=M0.sy.b/\M.sy.e=M0.sy.e/\M.ks=M0.ks/\M.hw=M0.hw/\ow.D=D
def GI(K:ah)(A:Ad):Sp:=λvs H Q _=>Y6 λ(z:Aa) (lr sc:Addr) (ns:List Int) (M:Mem) (ow:Own)=>Tn (vs=[.ref z.p,.ref lr,.ref sc]) (Tj A H z M) (In ow M [] []) (ow.G=[]) (ow.S=[]) (M.so.t=0) (M.sy.t=M.sy.b) (H lr=some (.lst [.int M.so.e,.int (M.sy.e-M.sy.b)])) (lr≠z.q) (o8 K H sc ns) (∀(H':Hp) (C lu:Addr) (rs:List Addr) (ow':Own) (M':Mem) (O Y:List (Nat×Int)),Lg A H H' z M M' ow.D ow' O Y C lu rs->Q (.ref C) H')
theorem j_:i8 ["_law_areas","_law_rooms","_law_script","_law_cells","_law_seed","_law_used","_law_k","_law_slots","_law_side","_law_at"] ["_law_areas","_law_rooms","_law_script"] (i3 qu):=fsc
theorem FX(T:Txt K mg A):CG P w K mg base true 11 "_law_laid" ["_law_areas","_law_rooms","_law_script"] (GI K A):=by
 specialize T.uK.lK j_
 ·obtain⟨z,lr,sc,ns,M,ow,rfl,ar,I,eG,eS,t0,y0,er,nrq,hS,q⟩:=h;refine⟨_,kN.run (iT (je (i:=3) j_.nd rfl lo ma)
   (iT (je (i:=4) j_.nd rfl lo (iW (lL T).mono hr rfl hx (iR (iW (jA T).mono hr rfl hx (iR (iU 2) (iR iX iS))) iS)))
   (iT (je (i:=5) j_.nd rfl lo (kP (iR iX (iR iX iS))))
   (iT (jR hx.own rfl (lG rfl T.mR (iR (i5 jy iX (i5 j6 (i5 jU (iW (jA T).mono hr rfl hx (iR (iU 2) (iR iX iS))) iX) iX)) iS)) (ju (i:=6) j_.nd rfl lo)
    (iT (je (i:=4) j_.nd rfl lo (iW (lL T).mono hr rfl hx (iR (i5 jy (iU 4) (iU 6)) iS)))
   (iT (je (i:=7) j_.nd rfl lo (i5 j6 (i5 jU (iU 4) iX) iX))
   (iT (jm (jf l9 (i5 j6 (i5 jU (iU 4) iX) iX) iX (jr _)) (iV (je (i:=7) j_.nd rfl lo (i5 j6 (i5 jU (iU 4) iX) iX))) jc)
   (iT (je (i:=8) j_.nd rfl lo (i5 j6 (i5 jU (iU 4) iX) iX))
   (iV (jm (lJ (mN (jf Ca (i5 jy (i5 jy (jH jV (iU 5) (iU 8)) (iU 7)) iX) (jH jV (iU 1) (iU 8)) (jr _)) (m7 (jf Ca (i5 jy (i5 jy (i5 jy (jH jV (iU 5) iX) (jH jV (iU 5) iX)) (iU 7)) iX) (jH jV (iU 1) iX) (jr _))))) (iT (jm (jf l9 (iU 8) iX (jr _)) (iV (je (i:=9) j_.nd rfl lo (jg (iU 0) T.jq (AJ T).mono hr hx (iR (iU 7) iS)))) (iV (je (i:=9) j_.nd rfl lo (jg (iU 0) T.jq (vU T).mono hr hx (iR (iU 7) iS)))))
   (iT (uk (wW hr) (iU 3) (iU 9) (lz (fsc:=i3 qu) (N2:=[]) (js:=[]) ⟨rfl,rfl,∅,∅,∅,∅,∅,∅,∅⟩ rfl rfl (by rfl) (lG rfl T.mR (iR (iU 7) iS)) (λ_ _ _ _=>lq) (λ_ _ _ _=>(w_ wZ iX))) rfl)
   (iV (rG (i5 jy (i5 jy (jH jV (iU 5) (iU 8)) (iU 7)) iX) (rF (iU 5) (iU 8) vi))))) jc)))))))
   (iV (i6 (iU 3))))))),?_⟩
  have hsc:∀{H':Hp},Kb [z.q] H H'->jX K H' sc (ns.map ι):=λ{H'} k=>(hS.kx λo v e=>k _ _ e rfl (by rw[aA];intro y;rw[y,ar.mem.ls]at e;cases e)).sq
  show oj _ _ _ [⇑z.p,⇑lr,⇑sc,none,none,none,none,none,none,none] H;exists ∃C,C4 (σ'=[⇑z.p,⇑lr,⇑sc,⇑C,none,none,none,none,none,none]) (H C=none) (ja H H') (H' C=some (.dK []))
  ·simp?[];exact λC hC=>hR _ _ ⟨C,rfl,hC,ja.upd hC,iZ⟩
  ext _ H1 ⟨C,rfl,hC,s1,eC⟩;exists ∃s,σ'=[⇑z.p,⇑lr,⇑sc,⇑C,↥s,none,none,none,none,none]/\H1=H'
  ·simp?[];exact⟨sc,ns,1,rfl,hsc (C1 s1),by decide,_,rfl,hR _ _ ⟨_,rfl,rfl⟩⟩
  ext _ _ ⟨s0,rfl,rfl⟩;exists ∃lu,C4 (σ'=[⇑z.p,⇑lr,⇑sc,⇑C,↥s0,⇑lu,none,none,none,none]) (H1 lu=none) (ja H1 H') (H' lu=some (.lst [.int 0,.int 0]))
  ·simp?[];exact λlu hlu=>hR _ _ ⟨lu,rfl,hlu,ja.upd hlu,iZ⟩
  ext _ H2 ⟨lu,rfl,hlu,s2,eu⟩;have s12:=s1.trans s2;have G0:Lg A H H2 z M M ow.D ow [] [] C lu []:=⟨ar.same s12,I,⟨λk hk=>by rw[eG]at hk;exact absurd hk (cj _),λk j=>by unfold Own.t Own.s;rw[eS];rfl,.nil⟩,⟨s2 _ _ eC,by rw[eG];rfl,(λk a e=>nomatch e),by simp⟩,by rw[eu,t0,y0,Int.sub_self],C1 s12,λb hb=> ?_,λh=> ?_,⟨rfl,rfl,rfl,rfl,rfl,rfl⟩⟩
  ·exists Vc λa4 a6 a7 a8 a9 rs ow' M' O Y=>σ'=[⇑z.p,⇑lr,⇑sc,⇑C,a4,⇑lu,a6,a7,a8,a9]/\Lg A H H' z M M' ow.D ow' O Y C lu rs
   ·simp?[];refine⟨sc,ns,0,rfl,hsc (C1 s12),by decide,?_⟩;dsimp only;refine⟨by decide,by decide,⋯,⋯,j8.JJ (λi σ H'=>Vc λs a6 a7 a8 a9 rs ow' M' O Y=>C3 (σ=[⇑z.p,⇑lr,⇑sc,⇑C,↥s,⇑lu,a6,a7,a8,a9]) (Lg A H H' z M M' ow.D ow' O Y C lu rs) (ow'.G.length<=i)) ⟨s0,none,none,none,none,[],ow,M,[],[],rfl,G0,by rw[eG];exact au _⟩ ?_ ?_⟩
    ·rintro i σ H3 hi ⟨s3,a6,a7,a8,a9,rs,ow1,M1,O,Y,rfl,g,gl⟩ R2 hR2;show oj _ _ _ [⇑z.p,⇑lr,⇑sc,⇑C,↥s3,⇑lu,↥(0+(i:Int)),a7,a8,a9] H3;refine jb (λσ' H'=>∃s4,σ'=[⇑z.p,⇑lr,⇑sc,⇑C,↥s4,⇑lu,↥(0+(i:Int)),a7,a8,a9]/\H3=H') (λR3 hR3=> ?_) ?_
     ·simp?[];exact⟨_,rfl,hR3 _ _ ⟨_,rfl,rfl⟩⟩
     ext _ _ ⟨s4,rfl,rfl⟩;refine jb (λσ' H'=>σ'=[⇑z.p,⇑lr,⇑sc,⇑C,↥s4,⇑lu,↥(0+(i:Int)),↥(s4/5%5),a8,a9]/\H3=H') (λR3 hR3=> ?_) ?_
     ·simp?[];exact hR3 _ _ ⟨rfl,rfl⟩
     ext _ _ ⟨rfl,rfl⟩;refine jb (λσ' H'=>∃n:Nat,C3 (n<=8) (σ'=[⇑z.p,⇑lr,⇑sc,⇑C,↥s4,⇑lu,↥(0+(i:Int)),↥n,a8,a9]) (H3=H')) (λR3 hR3=> ?_) ?_
     ·simp?[];by_cases c:s4/25%7=3
      ·rw[if_pos c];exact hR3 _ _ ⟨(s4/175%9).toNat,⋯,by rw[bS ⋯],rfl⟩
      ·rw[if_neg c];exact hR3 _ _ ⟨(s4/5%5).toNat,⋯,by rw[bS ⋯],rfl⟩
     ext _ _ ⟨n,n8,rfl,rfl⟩;refine jb (λσ' H'=>∃d:Int,C3 ((d=0∨d=1)) (σ'=[⇑z.p,⇑lr,⇑sc,⇑C,↥s4,⇑lu,↥(0+(i:Int)),↥n,↥d,a9]) (H3=H')) (λR3 hR3=> ?_) ?_
     ·simp?[];exact hR3 _ _ ⟨_,⋯,rfl,rfl⟩
     ext _ _ ⟨d,hd,rfl,rfl⟩;have er3:=g.kx _ _ er rfl (by rw[aA];exact nrq);have fr:=g.I.fr;have f1:=fr.hv;have f2:=fr.ot;have f3:=fr.o0;have f4:=fr.yw;have f5:=fr.y0;have f6:=fr.yt;have f7:=fr.l2;have f8:=fr.rm;obtain⟨c1,c2,c3,c4,c5,c6⟩:=g.cs;obtain⟨dp3,ep3⟩:=g.ar.ob;have i10:i<10:=by(clear f1;lia)
     refine Uj (if d=0 then decide (M1.so.t+n+1<=M1.so.e/\M1.so.t+(M1.sy.t-M1.sy.b)+n+1<=M1.so.e) else decide (M1.sy.t-M1.sy.b+n+1<=M1.sy.e-M1.sy.b/\M1.so.t+(M1.sy.t-M1.sy.b)+n+1<=M1.so.e)) (λK1 hK=> ?_) (λhb=> ?_) λhb=> ?_
     ·rcases hd with rfl|rfl
      ·simp?[g.us,er3];rw[if_pos rfl,c1]at hK;by_cases y:M1.so.t+n+1<=M.so.e
       ·rw[if_pos y];simpa only[y,true_and] using hK
       ·rw[if_neg y];simpa only[y,false_and,decide_false] using hK
      ·simp?[g.us,er3];rw[if_neg (by decide),c1,c2,c3]at hK;rw[c2];by_cases y:M1.sy.t-M.sy.b+n+1<=M.sy.e-M.sy.b
       ·rw[if_pos y];simpa only[y,true_and] using hK
       ·rw[if_neg y];simpa only[y,false_and,decide_false] using hK
     ·refine jb (λσ' H'=>Y5 λ(aa gg:Int) (M2:Mem) (O2 Y2:List (Nat×Int))=>C8 (σ'=[⇑z.p,⇑lr,⇑sc,⇑C,↥s4,⇑lu,↥(0+(i:Int)),↥n,↥d,↥aa]) (Tj A H' z M2) (In (ow1.lay aa gg n) M2 O2 Y2) (La (ow1.lay aa gg n) O2) ((∀b u,H3 b=some u->UD u=true->b≠z.q->H' b=some u)) ((∀j,j<ow1.G.length->pz ow1.p j≠aa)) ((M2.so.e=M1.so.e/\M2.sy.b=M1.sy.b/\M2.sy.e=M1.sy.e/\M2.ks=M1.ks/\M2.hw=M1.hw)) (((d=0/\M2.so.t=M1.so.t+n+1/\M2.sy.t=M1.sy.t)∨(d=1/\M2.so.t=M1.so.t/\M2.sy.t=M1.sy.t+n+1)))) (λR3 hR3=> ?_) ?_
      ·rcases hd with rfl|rfl
       ·rw[if_pos rfl,decide_eq_true_eq]at hb;obtain⟨d1,eo⟩:=g.ar.old;simp?[ep3,Q9];refine⟨z.p,z.m,z.q,z.o,z.y,z.s,M1.ws,M1.so,M1.sy,M1.ss,n,rfl,g.ar,⋯,f3,by(clear c2;lia),⋯,⋯,⋯,λH4 a4 f4'=>hR3 _ _ ⟨M1.so.t,2,{M1 with ws:=kL M1.ws M1.so.t.toNat n 2,so:=⟨M1.so.b,M1.so.e,M1.so.t+(n+1)⟩},_,Y,rfl,?_,g.I.VJ n8 ⋯ hb.1 hb.2,g.la.lay g.I (.inl rfl),λb u e k nq=>f4' b u e nq (λy=>by rw[y,eo]at e;cases e;cases k),λj hj e=> ?_,⟨rfl,rfl,rfl,rfl,rfl⟩,.inl ⟨rfl,by show M1.so.t+((n:Int)+1)=_;lia,rfl⟩⟩⟩
        ·rw[bf]at a4;exact a4
        ·obtain⟨b,eb⟩:=Option.isSome_iff_exists.mp (g.la.al j hj);have pb:pz ow1.p j=b:=by unfold pz;rw[eb];rfl
         have:=ow1.z1 j;rcases g.I.at hj eb with m|m
         ·have:=g.I.Jx m;lia
         ·have:=g.I.Lk m;(clear hj a4 hb c2;lia)
       ·rw[if_neg (by decide),decide_eq_true_eq]at hb;obtain⟨d1,eo⟩:=g.ar.oP;simp?[ep3,Q_];refine⟨z.p,z.m,z.q,z.o,z.y,z.s,M1.ws,M1.so,M1.sy,M1.ss,n,rfl,g.ar,⋯,by(clear hb c3;lia),⋯,⋯,⋯,by(clear c3 f4;lia),λH4 a4 f4'=>hR3 _ _ ⟨M1.sy.t,0,{M1 with ws:=kL M1.ws M1.sy.t.toNat n 0,sy:=⟨M1.sy.b,M1.sy.e,M1.sy.t+(n+1)⟩},O,_,rfl,?_,g.I.VL n8 ⋯ (by(clear c3 f4;lia)) hb.2,g.la.lay g.I (.inr rfl),λb u e k nq=>f4' b u e nq (λy=>by rw[y,eo]at e;cases e;cases k),λj hj e=> ?_,⟨rfl,rfl,rfl,rfl,rfl⟩,.inr ⟨rfl,rfl,by show M1.sy.t+((n:Int)+1)=_;lia⟩⟩⟩
        ·rw[bf]at a4;exact a4
        ·obtain⟨b,eb⟩:=Option.isSome_iff_exists.mp (g.la.al j hj);have pb:pz ow1.p j=b:=by unfold pz;rw[eb];rfl
         have:=ow1.z1 j;rcases g.I.at hj eb with m|m
         ·have:=g.I.Jx m;(clear hj a4 hb;lia)
         ·have:=g.I.Lk m;lia
      ext _ H4 ⟨aa,gg,M2,O2,Y2,rfl,ar4,I4,la4,f4',na,cs2,us2⟩;have nqC:C≠z.q:=kB g.lc.dc g.ar.mem.ls;have nqu:lu≠z.q:=λy=>by have:=g.fr lu (aq ..) _ (by rw[y];exact ar.mem.ls);cases this
      have eC4:=f4' _ _ g.lc.dc rfl nqC;have eu4:=f4' _ _ g.us rfl nqu;refine jb (λσ' H'=>∃r,C5 (σ'=[⇑z.p,⇑lr,⇑sc,⇑C,↥s4,⇑lu,↥(0+(i:Int)),↥n,↥d,↥aa]) (H4 r=none) (H' r=some (.lst ((ao n (-1)).map ι))) (H' C=some (.dK (ur (ow1.lay aa gg n).p 0 (rs++[r])))) (∀b u,H4 b=some u->b≠C->H' b=some u)) (λR3 hR3=> ?_) ?_
      ·simp?[];refine⟨⋯,⋯,rR (λj ys H'=>ys=(ao j (-1)).map ι/\H4=H') ⟨rfl,rfl⟩ (av (show(n:Int).toNat<=8 by lia) (by decide)) (λj ys H' y=>by rw[y.1];simp) (λj ys H' hj hP K1 hK=> ?_) λys H' hP r hr'=> ?_⟩
       ·obtain⟨rfl,rfl⟩:=hP;simp?[];exact hK _ _ ⟨by rw[List.replicate_succ',aF];rfl,rfl⟩
       obtain⟨rfl,rfl⟩:=hP;rw[bf];have s5:=ja.upd (o:= .lst ((ao n (-1)).map ι)) hr';have e5:upd H4 r (.lst ((ao n (-1)).map ι)) r=some (.lst ((ao n (-1)).map ι)):=iZ;generalize upd H4 r (.lst ((ao n (-1)).map ι))=H5 at*;rw[s5 _ _ eC4];dsimp only;rw[PV g.I g.lc.rl (g:=gg) (n:=n) na];have gl':=g.lc.rl;exact⟨by rw[x_];exact bZ (show rs.length<=10 by lia) (by decide),hR3 _ _ ⟨r,rfl,hr',by rw[i4 (aj (iY eC4 hr'))];exact e5,iZ,λb u e n=>by rw[i4 n];exact s5 _ _ e⟩⟩
      ext _ H5 ⟨r,rfl,hr',er5,eC5,f5'⟩;have nuC:lu≠C:=λy=>g.nl (by rw[y];exact aq ..);have eu5:=f5' _ _ eu4 nuC;have nru:r≠lu:=aj (iY eu4 hr');have fin:∀{H6:Hp},(∀b u,H5 b=some u->b≠lu->H6 b=some u)->H6 lu=some (.lst [.int M2.so.t,.int (M2.sy.t-M2.sy.b)])->Lg A H H6 z M M2 ow.D (ow1.lay aa gg n) O2 Y2 C lu (rs++[r]):=λ{H6} f6' eu6=>by
       have hrs:∀b∈rs,∃xs,H3 b=some (.lst xs)/\H4 b=some (.lst xs)/\b≠C/\b≠lu:=λb hb=>by
        obtain⟨k,hk⟩:=List.mem_iff_getElem?.mp hb;have e:=g.lc.row k b hk;have nb:b≠z.q:=λy=>by have:=g.fr b (ai _ (ai _ hb)) _ (by rw[y];exact ar.mem.ls);cases this
        exact⟨_,e,f4' _ _ e rfl nb,λy=>(List.nodup_cons.mp g.lc.nd).1 (by rw[←y];exact hb),λy=>g.nl (by rw[←y];exact ai _ hb)⟩
       have nrr:r∉C::rs:=λy=>by
        rcases List.mem_cons.mp y with rfl|y
        ·rw[eC4]at hr';cases hr'
        ·obtain⟨xs,_,e,_⟩:=hrs r y;rw[hr']at e;cases e
       have frr:∀u,H r=some u->UD u=false:=λu e=>by
        cases k:UD u with
        |false=>rfl
        |true=>
         by_cases y:r=z.q
         ·rw[y,ar4.mem.ls]at hr';cases hr'
         ·have:=f4' _ _ (g.kx _ _ e k (by rw[aA];exact y)) k y;rw[hr']at this;cases this
       refine⟨ar4.kg (λb u e n1 n2=> ?_) ?_,I4,la4,g.lc.lay g.I g.la ?_ ?_ (λb hb xs e=> ?_) nrr,eu6,λb u e k n=> ?_,λb hb=> ?_,λy=> ?_,?_⟩
       ·exact f6' _ _ (f5' _ _ e (qB e eC4 n2)) (qB e eu4 n1)
       ·rw[ar4.mem.ls];exact f6' _ _ (f5' _ _ ar4.mem.ls (aj nqC)) (aj nqu)
       ·exact f6' _ _ eC5 (aj nuC)
       ·exact f6' _ _ er5 nru
       ·obtain⟨xs',e3,e4,n1,n2⟩:=hrs b hb;rw[e3]at e;cases e
        exact f6' _ _ (f5' _ _ e4 n1) n2
       ·refine f6' _ _ (f5' _ _ (f4' _ _ (g.kx b u e k n) k (by rw[aA]at n;exact n)) λy=> ?_) λy=> ?_
        ·have:=g.fr C (by simp) u (by rw[←y];exact e);rw[this]at k;cases k
        ·have:=g.fr lu (by simp) u (by rw[←y];exact e);rw[this]at k;cases k
       ·rw[show lu::C::(rs++[r])=(lu::C::rs)++[r] by simp]at hb;rcases List.mem_append.mp hb with hb|hb
        ·exact g.fr b hb
        ·rw[List.mem_singleton.mp hb];exact frr
       ·rw[show C::(rs++[r])=(C::rs)++[r] by simp]at y;rcases List.mem_append.mp y with y|y
        ·exact g.nl y
        ·exact nru (List.mem_singleton.mp y).symm
       ·exact⟨cs2.1.trans c1,cs2.2.1.trans c2,cs2.2.2.1.trans c3,cs2.2.2.2.1.trans c4,cs2.2.2.2.2.trans c5,c6⟩
      have el:(ow1.lay aa gg n).G.length=ow1.G.length+1:=by show(ow1.G++[gg]).length=_;rw[ay];rfl
      rcases us2 with ⟨rfl,u1,u2⟩|⟨rfl,u1,u2⟩
      ·simp?[eu5];refine hR2 _ _ ⟨s4,_,_,_,_,rs++[r],_,M2,O2,Y2,rfl,fin (λb u e n=>nA e n) ?_,by rw[el];lia⟩;rw[iZ,u1,u2,cs2.2.1];rfl
      ·simp?[eu5];refine hR2 _ _ ⟨s4,_,_,_,_,rs++[r],_,M2,O2,Y2,rfl,fin (λb u e n=>nA e n) ?_,by rw[el];lia⟩;rw[iZ,u1,u2,cs2.2.1,show M1.sy.t+n+1-M1.sy.b=M1.sy.t-M1.sy.b+n+1 by lia];rfl
     ·exact hR2 _ _ ⟨s4,_,_,_,_,rs,ow1,M1,O,Y,rfl,g,⋯⟩
    ·rintro σ H3 ⟨s3,a6,a7,a8,a9,rs,ow1,M1,O,Y,rfl,g,gl⟩;exact hR _ _ ⟨_,_,_,_,_,rs,ow1,M1,O,Y,rfl,g⟩
   ext _ H3 ⟨a4,a6,a7,a8,a9,rs,ow',M',O,Y,rfl,g3⟩;simp?[];exact q H3 C lu rs ow' M' O Y g3
  ·rcases List.mem_cons.mp hb with rfl|hb
   ·exact λu e=>by rw[s1.free hlu]at e;cases e
   ·rw[List.mem_singleton.mp hb];exact λu e=>by rw[hC]at e;cases e
  ·rw[aA]at h;rw[h,eC]at hlu;cases hlu
noncomputable def WA (s:S3) (c:CS) (a:Int):CS:={jW s c (lN c.ws a) with ws:=(jW s c (lN c.ws a)).ws.set a.toNat (mf s c (lN c.ws a))}
def Ap(A:Ad):Sp:=λvs H Q _=>∃(x:Ax) (M:Mem) (c:CS) (l:Addr) (a:Int),vs=[.ref x.p,.int a,.ref l]/\Mr A H x M c l/\OS M c (lN c.ws a)/\(c.ot<=9999/\c.st<=9999)/\0<=a/\a<c.ws.length/\(kd (.int (mf M.sy c (lN c.ws a)))).isSome=true/\(jW M.sy c (lN c.ws a)).ws.length=c.ws.length/\
 ∀H',Wx A H' x (cM M (WA M.sy c a))->H' l=some (.lst ((WA M.sy c a).cs.map ι))->Kx [l,x.q] H H'->Q .kr H'
theorem Gy:i8 ["areas","place","copies"] ["areas","place","copies"] (i3 u5):=fsc
theorem Ae(T:Txt K mg A):CG P w K mg base true 12 "meet_slot" ["areas","place","copies"] (Ap A):=by
 specialize T.uQ.lK Gy
 ·obtain⟨x,M,c,l,a,rfl,h⟩:=h;obtain⟨q,h,mo,t9,a0,a1,kw,nl⟩:=WH h;refine⟨_,kN.run (iV (i9 (jg (jd (iU 0) rfl) T.jv (kI T).mono hr hx (iR (iU 1) (iR (iW (KZ T).mono hr rfl hx (iR (iU 0) (iR (jg (jd (iU 0) rfl) T.jv (kS T).mono hr hx (iR (iU 1) iS)) (iR (iU 2) iS)))) iS))))),?_⟩;obtain⟨dp,ep⟩:=h.wh.ar.ob;obtain⟨dm,em⟩:=h.wh.ar.mem.ob;simp?[ep,T.jq,T.ji,mW,em,vT,vS];refine⟨x.m,x.q,c.ws,a,rfl,h.wh.ar.mem,a0,a1,x,M,c,l,lN c.ws a,rfl,h,mo,t9,λH1 w1 l1 k1 o1=>⟨x.m,x.q,(jW M.sy c (lN c.ws a)).ws,a,_,rfl,w1.ar.mem,a0,show a<((jW M.sy c (lN c.ws a)).ws.length:Int) by rw[nl];exact a1,kw,?_⟩⟩;have m2:=w1.ar.mem.put a.toNat (mf M.sy c (lN c.ws a));have f2:∀b v,H1 b=some v->b≠x.q->upd H1 x.q (.lst (((jW M.sy c (lN c.ws a)).ws.set a.toNat (mf M.sy c (lN c.ws a))).map ι)) b=some v:=λb v eb nb=>nA eb nb;refine q _ (w1.BP (w1.ar.wr m2 f2) λb u eb nb _ _=>f2 b u eb nb) (f2 _ _ l1 h.nq) λb v eb kb nb=>f2 b v (k1 b v eb kb nb) λz=>nb (by rw[z];simp)
def Io(A:Ad):Sp:=λvs H Q _=>Y5 λ(x:Ax) (M:Mem) (ow:Own) (O Y:List (Nat×Int))=>C5 (vs=[.ref x.p,.ref x.r]) (Wx A H x M) (In ow M O Y) ((M.ks.length<64∨M.ks.length<128/\DD M.ks)) (∀(H':Hp) (l:Addr) (F:List (Nat×Int)) (Dn:List Int) (c:CS),H l=none->Wx A H' x (Vg M c (ow.D.map (wd (pp ow F))))->H' l=some (.lst (c.cs.map ι))->rO ow M O Y F Dn c->Td ow M F Dn->F.map aD=ord ow O->Kx [x.q,x.g] H H'->Q (.ref l) H')
structure Go(A:Ad)(H0 H:Hp)(x:Ax)(M:Mem)(ow:Own)(O Y F:List (Nat×Int))(Dn:List Int)(c:CS)(l:Addr)(hw:List Int):Prop where
 wh:Wx A H x (Vg M c hw)
 cl:H l=some (.lst (c.cs.map ι))
 md:rO ow M O Y F Dn c
 kx:Kx [x.q,x.g] H0 H
 nm:l∉mx x
theorem Go.ng{A:Ad}{H0 H:Hp}{x:Ax}{M:Mem}{ow:Own}{O Y F:List (Nat×Int)}{Dn:List Int}{c:CS}{l:Addr}{hw:List Int}(g:Go A H0 H x M ow O Y F Dn c l hw):l≠x.g:=(ux g.nm).1.2.1
section
variable{A:Ad}{H0 H H':Hp}{x:Ax}{M:Mem}{ow:Own}{O Y F:List (Nat×Int)}{Dn:List Int}{c:CS}{l:Addr}{hw:List Int}
theorem Go.pre(g:Go A H0 H x M ow O Y F Dn c l hw)(I:In ow M O Y):Mr A H x {M with hw:=hw} c l/\c.ot<=9999/\c.st<=9999:=by
 have t:=g.md.J6 I;have f:=I.fr;have:=f.hv;have:=f.yw;have:=f.y0;have:=f.yt;have:=f.l2;have:=f.ot;have:=f.o0;have e:=g.md.len;have IZ:=g.md.IZ I;refine⟨⟨g.wh,g.cl,g.nm,g.md.wo,⋯,?_,?_,by rw[g.md.cs,ae];lia⟩,by omega,by omega⟩
 ·show M.so.e<=_;lia
 ·show M.ss.e<=_;lia
theorem Go.same(g:Go A H0 H x M ow O Y F Dn c l hw)(s:ja H H'):Go A H0 H' x M ow O Y F Dn c l hw:=⟨g.wh.same s,s _ _ g.cl,g.md,g.kx.trans (q_ s),g.nm⟩
theorem OS.Wz{u:Int}(m:OS M c u):OS {M with hw:=hw} c u:=⟨m.kw,m.o0,m.s0,m.yg⟩
theorem Go.slot(g:Go A H0 H x M ow O Y F Dn c l hw)(I:In ow M O Y)(hl:H0 l=none){k:Nat}{a ag:Int}(m:At ow O F k a ag){j:Nat}(hj:j<(ow.s k).length)(w0:Bl ow F hw){Q:VK}{E:XK}
  (q:∀H' F' c',(∃ls,F'=F++ls)->Go A H0 H' x M ow O Y F' ((a+1+j)::Dn) c' l hw->Bl ow F' hw->F'.map aD=Mj ow (F.map aD) (ow.t k j)->Kx [l,x.q] H H'->Q .kr H'):
  Ap A [.ref x.p,.int (a+1+j),.ref l] H Q E:=by
 obtain⟨p,t1,t2⟩:=g.pre I;obtain⟨m1,m2,a0,a1,ls,md,e1⟩:=g.md.slot I m hj rfl rfl;have nl:(jW M.sy c (lN c.ws (a+1+j))).ws.length=c.ws.length:=by have:=md.len;rw[show({jW M.sy c (lN c.ws (a+1+j)) with ws:=(jW M.sy c (lN c.ws (a+1+j))).ws.set (a+1+(j:Int)).toNat (mf M.sy c (lN c.ws (a+1+j)))}:CS).ws.length=(jW M.sy c (lN c.ws (a+1+j))).ws.length from aT ..]at this;rw[this,g.md.len]
 refine⟨x,{M with hw:=hw},c,l,a+1+j,rfl,p,m1.Wz,⟨t1,t2⟩,a0,by rw[g.md.len];exact a1,m2,nl,λH' w1 l1 k1=>q H' (F++ls) _ ⟨ls,rfl⟩ ⟨w1,l1,md,λb v eb kb nb=>k1 b v (g.kx b v eb kb nb) kb λz=> ?_,g.nm⟩ (w0.app md I) e1 k1⟩;rcases List.mem_cons.mp z with rfl|z
 ·rw[hl]at eb;cases eb
 ·rw[aA]at z;subst z;exact nb (aq ..)
end
theorem lH:i8 ["areas","roots","copies","hand","word","place","done"] ["areas","roots"] (i3 wu):=fsc
theorem HS(T:Txt K mg A):CG P w K mg base true 13 "copy_met" ["areas","roots"] (Io A):=by
 specialize T.v_.lK lH
 ·obtain⟨x,M,ow,O,Y,rfl,h,I,ks1,q⟩:=h;refine⟨_,kN.run (iT (je (i:=2) lH.nd rfl lo (kP iS))
   (iT (jR hx.own rfl (vj rfl T.m9 (iR (jJ (jd (iU 1) rfl) T.lx (pB T).mono hr hx) iS)) (pQ (n:=2) (by rfl) (jY (ju (i:=3) lH.nd rfl lo) (jY (ju (i:=4) lH.nd rfl lo) nZ)))
    (iV (i9 (jg (jd (iU 1) rfl) T.lx (pA T).mono hr hx (iR (iU 3) (iR (iW (KZ T).mono hr rfl hx (iR (iU 0) (iR (iU 4) (iR (iU 2) iS)))) iS))))))
   (iT (jR hx.own rfl (jD (jJ (jd (iU 1) rfl) T.lW (uy T).mono hr hx)) (ju (i:=5) lH.nd rfl lo)
    (iV (i9 (iW (Ae T).mono hr rfl hx (iR (iU 0) (iR (iU 5) (iR (iU 2) iS)))))))
   (iT (je (i:=6) lH.nd rfl lo iX)
   (iT (vR hx.own (jf Cc (iU 6) (jo kU (by rfl) T.mI ζl (iR (iU 2) iS)) (jr _))
    (iT (jR hx.own rfl (jD (iW (mh T).mono hr rfl hx (iR (jd (iU 0) rfl) (iR (jH jV (iU 2) (iU 6)) iS)))) (ju (i:=5) lH.nd rfl lo)
    (iV (i9 (iW (Ae T).mono hr rfl hx (iR (iU 0) (iR (iU 5) (iR (iU 2) iS)))))))
   (iV (je (i:=6) lH.nd rfl lo (i5 jy (iU 6) iX)))))
   (iV (i6 (iU 2)))))))),?_⟩
  obtain⟨dr,er⟩:=h.ro;obtain⟨dh,eh⟩:=h.hd.ob;obtain⟨db,eb⟩:=h.bk.ob;show oj _ _ _ [⇑x.p,⇑x.r,none,none,none,none,none] H;exists ∃l,C3 (σ'=[⇑x.p,⇑x.r,⇑l,none,none,none,none]) (H l=none) (H'=upd H l (.lst []))
  ·simp?[];intro l hl;exact hR _ _ ⟨l,rfl,hl,rfl⟩
  ext _ _ ⟨l,rfl,hl,rfl⟩;have s1:ja H (upd H l (.lst [])):=ja.upd hl;have g1:Go A H (upd H l (.lst [])) x M ow O Y [] [] ⟨M.ws,M.so.t,M.ss.b,[]⟩ l M.hw:=⟨by
   have e:(⟨M.ss.b,M.ss.e,M.ss.b⟩:S3)=M.ss:=by show S3.mk M.ss.b M.ss.e M.ss.b=S3.mk M.ss.b M.ss.e M.ss.t;rw[I.fr.st]
   show Wx A _ x {M with ss:=⟨M.ss.b,M.ss.e,M.ss.b⟩};rw[e];exact h.same s1,iZ,I.mid,q_ s1,h.new hl⟩
  generalize upd H l (.lst [])=H1 at*;exists Y5 λv3 v4 F c hw=>C4 (σ'=[⇑x.p,⇑x.r,⇑l,v3,v4,none,none]) (Go A H H' x M ow O Y F [] c l hw) (Bl ow F hw) (F.map aD=tM ow [] ow.D)
  ·obtain⟨dr1,er1⟩:=g1.wh.ro;obtain⟨dh1,eh1⟩:=g1.wh.hd.ob;simp?[er1,T.jO,T.jQ,uR,eh1,BE];refine⟨x.h,x.g,M.hw,rfl,g1.wh.hd,λl2 hl2=>⟨⟨_,jX.of iZ⟩,?_⟩⟩;have s2:ja H1 (upd H1 l2 (.lst (M.hw.map ι))):=ja.upd hl2;have g2:=g1.same s2;have e2:upd H1 l2 (.lst (M.hw.map ι)) l2=some (.lst (M.hw.map ι)):=iZ;have n2l:=iY g1.cl hl2;have n2q:=iY g1.wh.ar.mem.ls hl2;have n2g:=iY g1.wh.hd.ls hl2;generalize upd H1 l2 (.lst (M.hw.map ι))=H2 at*;refine j8.enum (xs:=M.hw.map ι) (λi σ H'=>Y5 λv3 v4 F c hw=>C7 (σ=[⇑x.p,⇑x.r,⇑l,v3,v4,none,none]) (Go A H H' x M ow O Y F [] c l hw) (H' l2=some (.lst (M.hw.map ι))) (F.map aD=tM ow [] (ow.D.take i)) (hw.length=ow.D.length) ((∀j t,ow.D[j]? =some t->j<i->hw.getD j 0=wd (pp ow F) t/\Fy ow F t)) (∀j t,ow.D[j]? =some t->i<=j->hw.getD j 0=wd ow.p t))
    ⟨_,_,[],_,M.hw,rfl,g2,e2,rfl,by rw[I.hd,ae],λj t _ z=>absurd z (cj _),λj t ej _=> ?_⟩ (λi σ H' _ hz=>by obtain⟨_,_,_,_,_,_,_,e,_⟩:=hz;exact jX.of e) ?_ ?_
   ·rw[I.hd,af,ak,ej];rfl
   ·rintro i v σ H3 p hv ⟨v3,v4,F,c,hw,rfl,g3,e3,k3,hl3,h1,h2⟩ hp R2 hR2;obtain⟨hi,rfl,_⟩:=ints_get hv;have hi':i<ow.D.length:=by rw[I.hd,ae]at hi;exact hi
    have et:ow.D[i]? =some ow.D[i]:=ab hi';have ew:M.hw[i]=wd ow.p ow.D[i]:=by
     have:M.hw[i]? =some (wd ow.p ow.D[i]):=by rw[I.hd,ak,et];rfl
     rw[ab hi]at this;exact aM this
    rw[ew];have s3:ja H3 (upd H3 p (.tup [.int i,.int (wd ow.p ow.D[i])])):=ja.upd hp;have g4:=g3.same s3;have e4:=s3 _ _ e3;have tp:upd H3 p (.tup [.int i,.int (wd ow.p ow.D[i])]) p=some (.tup [.int i,.int (wd ow.p ow.D[i])]):=iZ;generalize upd H3 p (.tup [.int i,.int (wd ow.p ow.D[i])])=H4 at*;obtain⟨dr4,er4⟩:=g4.wh.ro;obtain⟨dh4,eh4⟩:=g4.wh.hd.ob;obtain⟨m1,m2,ls,md,e1,e2',e3'⟩:=g4.md.meet I (I.gd _ (aG hi')) (.inl rfl);obtain⟨pr,t1,t2⟩:=g4.pre I;refine⟨p,_,rfl,.inl (.inl tp),rfl,?_⟩;simp?[er4,T.jO,T.jQ,uR,eh4,BD];generalize hW:mf M.sy c (wd ow.p ow.D[i])=W at*;refine⟨x,{M with hw:=hw},c,l,_,rfl,pr,m1.Wz,⟨t1,t2⟩,λH5 w5 l5 k5 o5=>⟨x.h,x.g,hw,i,W,by rw[←hW],w5.hd,⋯,by rw[hl3];lia,m2,?_⟩⟩;have hd6:=w5.hd.put i W;have f6:∀b u,H5 b=some u->b≠x.g->upd H5 x.g (.lst ((hw.set i W).map ι)) b=some u:=λb u eb nb=>nA eb nb;refine hR2 _ _ ⟨_,_,F++ls,jW M.sy c (wd ow.p ow.D[i]),hw.set i W,rfl,⟨w5.hand hd6 f6,f6 _ _ l5 g4.ng,md,λb v eb kb nb=> ?_,g4.nm⟩,?_,?_,by rw[aT];exact hl3,λj t ej hj=> ?_,λj t ej hj=> ?_⟩
    ·rw[a_,not_or,aA]at nb;refine f6 b v (k5 b v (g4.kx b v eb kb (by rw[a_,not_or,aA];exact nb)) kb λz=> ?_) nb.2;rcases List.mem_cons.mp z with rfl|z
     ·rw[hl]at eb;cases eb
     ·exact nb.1 (List.mem_singleton.mp z)
    ·exact f6 _ _ (k5 _ _ e4 rfl (by rw[a_,not_or,aA];exact⟨aj n2l,aj n2q⟩)) (aj n2g)
    ·rw[e1,k3,cg,et];exact A5.symm
    ·by_cases e:j=i
     ·subst e;rw[et]at ej;cases ej
      rw[Fu ⋯];exact⟨e2',e3'⟩
     ·have z:=h1 j t ej ⋯;rw[Fv (aj e),z.1];have y:=md.app I z.2;exact⟨y.1.symm,y.2⟩
    ·rw[Fv ⋯];exact h2 j t ej ⋯
   ·rintro σ H3 ⟨v3,v4,F,c,hw,rfl,g3,e3,k3,hl3,h1,h2⟩;have ln:(M.hw.map ι).length=ow.D.length:=by rw[ae,I.hd,ae]
    rw[ln]at k3 h1;rw[bt]at k3;refine hR _ _ ⟨v3,v4,F,c,hw,rfl,g3,⟨cV λj=> ?_,λt ht=> ?_⟩,k3⟩
    ·by_cases z:j<ow.D.length
     ·have e:=(h1 j _ (ab z) z).1;rw[af,ab ⋯]at e;rw[ak,ab z,ab ⋯];exact congrArg some e
     ·rw[aS ⋯,aS (by rw[ae];lia)]
    ·obtain⟨j,hj,rfl⟩:=List.mem_iff_getElem.mp ht;exact(h1 j _ (ab hj) hj).2
  ext _ H2 ⟨v3,v4,F,c,hw,rfl,g2,w2,k2⟩;exists Y4 λv5 F c Dn=>C5 (σ'=[⇑x.p,⇑x.r,⇑l,v3,v4,v5,none]) (Go A H H' x M ow O Y F Dn c l hw) (Bl ow F hw) (F.map aD=tM ow [] (Vi ow O)) (∀p∈M.ks,p∈Dn)
  ·obtain⟨dr1,er1⟩:=g2.wh.ro;obtain⟨db1,eb1⟩:=g2.wh.bk.ob;simp?[er1,T.jO,T.kM,CU,eb1,BR];refine⟨x.b,x.d,M.ks,rfl,g2.wh.bk,ks1,λl2 hl2=>⟨l2,rfl,⟨_,jX.of iZ⟩,?_⟩⟩;have s2:ja H2 (upd H2 l2 (.lst ((jS M.ks).map ι))):=ja.upd hl2;have g3:=g2.same s2;have e2:upd H2 l2 (.lst ((jS M.ks).map ι)) l2=some (.lst ((jS M.ks).map ι)):=iZ;have n2l:=iY g2.cl hl2;have n2q:=iY g2.wh.ar.mem.ls hl2;generalize upd H2 l2 (.lst ((jS M.ks).map ι))=H3 at*;refine j8.EV (xs:=(jS M.ks).map ι) (λi σ H'=>Y4 λv5 F c Dn=>C6 (σ=[⇑x.p,⇑x.r,⇑l,v3,v4,v5,none]) (Go A H H' x M ow O Y F Dn c l hw) (Bl ow F hw) (H' l2=some (.lst ((jS M.ks).map ι))) (F.map aD=tM ow (tM ow [] ow.D) (((jS M.ks).take i).map (QL ow O))) (∀p∈(jS M.ks).take i,p∈Dn))
    ⟨_,F,c,[],rfl,g3,w2,e2,k2,λ_ z=>nomatch z⟩ (λi σ H' _ hz=>by obtain⟨_,_,_,_,_,_,_,e,_⟩:=hz;exact jX.of e) ?_ ?_
   ·rintro i v σ H4 hv ⟨v5,F,c,Dn,rfl,g4,w4,e4,k4,d4⟩ R2 hR2;obtain⟨hi,rfl,tk⟩:=ints_get hv;obtain⟨k,a,j,ii,m,hj,ep,et,gi⟩:=I.b1 _ ((ko M.ks).mem_iff.mp (aG hi));simp?[ep];refine g4.slot I hl (.inl ⟨m,rfl⟩) hj w4 λH5 F5 c5 _ g5 w5 k5 kx5=>hR2 _ _ ⟨_,F5,c5,_,rfl,g5,w5,?_,?_,λp hp=> ?_⟩
    ·exact kx5 _ _ e4 rfl (by rw[a_,not_or,aA];exact⟨aj n2l,aj n2q⟩)
    ·rw[k5,k4,tk,aF,az,bY,A5,ep,GQ I.lo m hj]
    ·rw[tk]at hp;rcases List.mem_append.mp hp with hp|hp
     ·exact ai _ (d4 p hp)
     ·rw[List.mem_singleton.mp hp,ep];exact aq ..
   ·rintro σ H4 ⟨v5,F,c,Dn,rfl,g4,w4,e4,k4,d4⟩;rw[ae,bt]at k4 d4;exact hR _ _ ⟨v5,F,c,Dn,rfl,g4,w4,by rw[k4];exact I.start,λp hp=>d4 p ((ko M.ks).mem_iff.mpr hp)⟩
  ext _ H3 ⟨v5,F,c,Dn,rfl,g3,w3,k3,d3⟩;exists σ'=[⇑x.p,⇑x.r,⇑l,v3,v4,v5,↥0]/\H3=H'
  ·simp?[];exact hR _ _ ⟨rfl,rfl⟩
  ext _ _ ⟨rfl,rfl⟩;exists Y5 λv5 d F c Dn=>C5 (σ'=[⇑x.p,⇑x.r,⇑l,v3,v4,v5,↥d]) (Go A H H' x M ow O Y F Dn c l hw) (Bl ow F hw) (F.map aD=ord ow O) (Td ow M F Dn)
  ·simp?[];refine⟨λk σ H'=>∃(v5:Option V) (d:Nat) (F:List (Nat×Int)) (c:CS) (Dn:List Int),σ=[⇑x.p,⇑x.r,⇑l,v3,v4,v5,↥d]/\k=21-d/\Go A H H' x M ow O Y F Dn c l hw/\Bl ow F hw/\Rw ow (21-d) (F.map aD) d=ord ow O/\(∀p∈M.ks,p∈Dn)/\∀k q,(k,q)∈F.take d->∀j:Nat,j<(ow.s k).length->q+1+j∈Dn,
    ⟨_,v5,0,F,c,Dn,rfl,rfl,g3,w3,by rw[k3];rfl,d3,λ_ _ z=>by simp at z⟩,?_⟩
   rintro k σ H4 ⟨v5,d,F,c,Dn,rfl,rfl,g4,w4,c4,d4,f4⟩;obtain⟨da4,ea4⟩:=g4.wh.ar.ob;have cl:c.cs.length=F.length:=by rw[g4.md.cs,ae]
   have IZ:=g4.md.IZ I;simp?[g4.cl,ea4,T.jq,T.ji,mW];by_cases z:d<F.length
   ·rw[if_pos (by rw[ae,cl];lia)];refine⟨λσ' H'=>∃(v5:Option V) (F:List (Nat×Int)) (c:CS) (Dn:List Int),σ'=[⇑x.p,⇑x.r,⇑l,v3,v4,v5,↥((d+1:Nat):Int)]/\Go A H H' x M ow O Y F Dn c l hw/\Bl ow F hw/\Rw ow (21-(d+1)) (F.map aD) (d+1)=ord ow O/\(∀p∈M.ks,p∈Dn)/\∀k q,(k,q)∈F.take (d+1)->∀j:Nat,j<(ow.s k).length->q+1+j∈Dn,
     λσ' H' ⟨v5,F,c,Dn,hh⟩=>⟨21-(d+1),⋯,v5,d+1,hh.1,rfl,F,c,Dn,hh.2⟩,?_⟩
    have eF:F[d]? =some F[d]:=ab z;generalize hkq:F[d]=kq at*;obtain⟨k,qa⟩:=kq;have mk:(k,qa)∈F:=ba eF;have at1:At ow O F k qa (ow.g k+1):= .inr ⟨mk,rfl⟩;have rg:=g4.md.arg I at1;have ez:ow.z k=(ow.s k).length+1:=rfl;have s8:=I.s8 k;have gk:=g4.md.fg I mk;have hdw:=(g4.md.ce k qa _ at1).1;have cn:kD c.ws qa.toNat=some (4*(ow.s k).length+(ow.g k+1)):=by
     rw[l6,show c.ws.getD qa.toNat 0=lN c.ws qa from rfl,hdw,g4.md.len,if_pos ⋯];congr 1;(clear ez;lia)
    have ecs:(c.cs.map ι)[d]? =↥qa:=by rw[g4.md.cs,ak,ak,eF];rfl
    rw[rP ecs];dsimp only;refine⟨x.m,x.q,c.ws,qa,_,rfl,g4.wh.ar.mem,by rw[g4.md.len];have:=I.fr.l2;lia,rg.1,cn,λl2 hl2=> ?_⟩;refine⟨l2,rfl,⟨_,jX.of iZ⟩,?_⟩;have sp:lD qa (4*((ow.s k).length:Int)+(ow.g k+1))=qx ow (k,qa):=by
     unfold lD qx;rw[show((4*((ow.s k).length:Int)+(ow.g k+1))/4).toNat=(ow.s k).length by(clear hdw s8 ez;lia)]<;>rfl
    rw[sp];have s2:ja H4 (upd H4 l2 (.lst ((qx ow (k,qa)).map ι))):=ja.upd hl2;have g5:=g4.same s2;have e2:upd H4 l2 (.lst ((qx ow (k,qa)).map ι)) l2=some (.lst ((qx ow (k,qa)).map ι)):=iZ;have n2l:=iY g4.cl hl2;have n2q:=iY g4.wh.ar.mem.ls hl2;generalize upd H4 l2 (.lst ((qx ow (k,qa)).map ι))=H5 at*;have sll:(qx ow (k,qa)).length=(ow.s k).length:=by unfold qx;rw[ae,aY]
    refine j8.EV (xs:=(qx ow (k,qa)).map ι) (λi σ H'=>Y4 λ(v5:Option V) (ls:List (Nat×Int)) (c:CS) (Dn':List Int)=>C7 (σ=[⇑x.p,⇑x.r,⇑l,v3,v4,v5,↥d]) (Go A H H' x M ow O Y (F++ls) Dn' c l hw) (Bl ow (F++ls) hw) (H' l2=some (.lst ((qx ow (k,qa)).map ι))) ((F++ls).map aD=tM ow (F.map aD) ((ow.s k).take i)) ((∀p∈Dn,p∈Dn')) (∀j:Nat,j<i->j<(ow.s k).length->qa+1+j∈Dn'))
     ⟨_,[],c,Dn,rfl,by rw[bg];exact g5,by rw[bg];exact w4,e2,by rw[bg];rfl,λ_ h=>h,λj z=>absurd z (cj _)⟩ (λi σ H' _ hz=>by obtain⟨_,_,_,_,_,_,_,e,_⟩:=hz;exact jX.of e) ?_ ?_
    ·rintro i v σ H6 hv ⟨v5,ls,c6,Dn6,rfl,g6,w6,e6,k6,d6,f6⟩ R2 hR2;obtain⟨hi,rfl,tk⟩:=ints_get hv;have hi':i<(ow.s k).length:=by(clear hdw ez;lia)
     have e0:(qx ow (k,qa))[i]? =some (qa+1+(i:Nat)):=by unfold qx;rw[ak,bT hi'];rfl
     have ep:(qx ow (k,qa))[i]=qa+1+(i:Nat):=aM ((ab hi).symm.trans e0);simp?[ep];refine g6.slot I hl (.inr ⟨aZ _ mk,rfl⟩) hi' w6 λH7 F7 c7 ⟨ls7,e7⟩ g7 w7 k7 kx7=> ?_;subst e7;rw[cf]at g7 w7 k7;refine hR2 _ _ ⟨_,ls++ls7,c7,_,rfl,g7,w7,?_,?_,λp hp=>ai _ (d6 p hp),λj j1 j2=> ?_⟩
     ·exact kx7 _ _ e6 rfl (by rw[a_,not_or,aA];exact⟨aj n2l,aj n2q⟩)
     ·have et:ow.t k i=(ow.s k)[i]:=by unfold Own.t;rw[af,ab hi'];rfl
      rw[k7,k6,cg,ab hi',←et];exact A5.symm
     ·by_cases e:j=i
      ·subst e;exact aq ..
      ·exact ai _ (f6 j ⋯ j2)
    ·rintro σ H6 ⟨v5,ls,c6,Dn6,rfl,g6,w6,e6,k6,d6,f6⟩;rw[ae,sll]at k6 f6;rw[bt]at k6;simp?[];refine⟨⋯,F++ls,c6,Dn6,g6,w6,?_,λp hp=>d6 p (d4 p hp),λk' q' m' j hj=> ?_⟩
     ·rw[k6,←c4,show 21-d=(21-(d+1))+1 by lia,Rx (by rw[ae];exact z)];congr 2;rw[af,ak,eF];rfl
     ·rw[List.take_append_of_le_length ⋯,cg,eF]at m';rcases List.mem_append.mp m' with m'|m'
      ·exact d6 _ (f4 k' q' m' j hj)
      ·have m':=List.mem_singleton.mp m'
       cases m'
       exact f6 j hj hj
   ·rw[if_neg (by rw[ae,cl];lia)];refine hR _ _ ⟨v5,d,F,c,Dn,rfl,g4,w4,?_,λk q m j hj=>f4 k q (by rw[gh ⋯];exact m) j hj,d4,w4.i⟩;rw[←c4,Pw (by rw[ae];lia)]
  ext _ H4 ⟨v5,d,F,c,Dn,rfl,g4,w4,k4,d4⟩;simp?[];have e:=g4.wh;rw[w4.e]at e;exact q H4 l F Dn c hl e g4.cl g4.md d4 k4 g4.kx
def A2(A:Ad):Sp:=λvs H Q _=>Y5 λ(x:Ax) (M:Mem) (ow:Own) (O Y:List (Nat×Int))=>C5 (vs=[.ref x.p,.ref x.r]) (Wx A H x M) (In ow M O Y) ((M.ks.length<64∨M.ks.length<128/\DD M.ks)) (∀(H':Hp) (d t:Addr) (F:List (Nat×Int)) (Dn:List Int) (c:CS) (ks:List Int),(∀b u,H b=some u->Bd u=true->b≠d)->Wx A H' {x with y:=x.s,s:=x.y,d:=d} (Ti ow M F c ks)->rO ow M O Y F Dn c->Td ow M F Dn->F.map aD=ord ow O->ks.Nodup->     (∀p,p∈ks↔(p∈M.ks∨∃e∈F,ow.g e.1=1/\p∈qx ow e)/\oP ⟨M.ss.b,M.ss.e,c.st⟩ (lN c.ws p)=true)->Kx (mx x) H H'->     H' t=some (.tup [.int (F.length-(F.filter λe=>decide (ow.g e.1=1)).length),.int (F.filter λe=>decide (ow.g e.1=1)).length])->Q (.ref t) H')
theorem og:i8 ["areas","roots","copies","grown"] ["areas","roots"] (i3 lP):=fsc
theorem AL(T:Txt K mg A):lZ P w K mg base (tX P w) true 14 A.kG A.ke ["areas","roots"] (A2 A):=by
 refine T.rB.UC og (λvs H Q E h=> ?_) (λcdv A' outer s H vs Q E hcd hr hx h=> ?_)
 ·obtain⟨_,_,_,_,_,rfl,_⟩:=h;rfl
 ·obtain⟨x,M,ow,O,Y,rfl,h,I,ks1,q⟩:=h;refine⟨_,kN.run (iT (je (i:=2) og.nd rfl lo (iW (HS T).mono hr rfl hx (iR (iU 0) (iR (iU 1) iS))))
   (iT (i9 (jg (iU 1) T.jO (tP T).mono hr hx (iR (Hr (fsc:=i3 lP) (hcd.symm.trans T.n9) T.nY rfl ∅ (by rfl)) iS)))
   (iT (i9 (jJ (iU 0) T.jq (vB T).mono hr hx))
   (iT (i9 (jJ (jd (iU 0) rfl) T.jZ (nK T).mono hr hx))
   (iT (mE (i:=3) (fsc:=i3 lP) (N2:=["areas"]) (js:=[0]) og.nd rfl lo ⟨rfl,rfl,∅,∅,∅,∅,∅,∅,∅⟩ rfl rfl (by rfl) (jD (iU 2)) (λ_ _ _ _=>(me (Nw (jg (B9 (K:=K) rfl (iU 1) rfl) T.jZ (pC T).mono hr lI (iR (iU 0) iS)) (λ_=>rfl)))) (λ_ _ _ _=>(iU 0)))
   (iT (i9 (iW (D1 T).mono hr rfl hx (iR (iU 0) (iR (jd (iU 1) rfl) (iR (iU 3) iS)))))
   (iV (i6 (oF (iR (i5 oo (jo kU (by rfl) T.mI ζl (iR (iU 2) iS)) (jo kU (by rfl) T.mI ζl (iR (iU 3) iS))) (iR (jo kU (by rfl) T.mI ζl (iR (iU 3) iS)) iS))))))))))),?_⟩
  show oj _ _ _ [⇑x.p,⇑x.r,none,none] H;exists Y4 λl F Dn c=>C8 (σ'=[⇑x.p,⇑x.r,⇑l,none]) (H l=none) (Wx A H' x (Vg M c (ow.D.map (wd (pp ow F))))) (H' l=some (.lst (c.cs.map ι))) (rO ow M O Y F Dn c) (Td ow M F Dn) (F.map aD=ord ow O) (Kx [x.q,x.g] H H')
  ·simp?[];exact⟨x,M,ow,O,Y,rfl,h,I,ks1,λH' l F Dn c hl w1 e1 md dn fo kx=>hR _ _ ⟨l,F,Dn,c,rfl,hl,w1,e1,md,dn,fo,kx⟩⟩
  ext _ H1 ⟨l,F,Dn,c,rfl,hl,w1,e1,md,dn,fo,k1⟩;exists C4 (σ'=[⇑x.p,⇑x.r,⇑l,none]) (Wx A H' x (Vg M c (ow.D.map (wd (pp ow F))))) (H' l=some (.lst (c.cs.map ι))) (Kx (mx x) H H')
  ·obtain⟨dr1,er1⟩:=w1.ro;obtain⟨ps,et,tt⟩:=w1.tb.1;simp?[er1,Be];refine⟨ps,et,tt,λf ps' _ tt'=> ?_⟩;have w1':=w1.U0 (.inl rfl) tt';have f1:∀b u,H1 b=some u->Bd u=true->upd H1 A.jw (.vN ps') b=some u:=λb u e k=>by rw[i4 λz=>by rw[z,et]at e;cases e;cases k];exact e
   refine⟨x,_,_,rfl,w1',λH' s'=>hR _ _ ⟨rfl,w1'.same s',s' _ _ (f1 _ _ e1 rfl),λb u e k n=>s' _ _ (f1 _ _ (k1 b u e k λz=>n ?_) k)⟩⟩;simp only[a_,aI,or_false]at z;rcases z with rfl|rfl<;>simp[mx]
  ext _ H2 ⟨rfl,w2,e2,k2⟩;obtain⟨da2,ea2⟩:=w2.ar.ob;exists C4 (σ'=[⇑x.p,⇑x.r,⇑l,none]) (Wx A H' {x with y:=x.s,s:=x.y} ⟨c.ws,⟨M.so.b,M.so.e,c.ot⟩,⟨M.ss.b,M.ss.e,c.st⟩,M.sy,ow.D.map (wd (pp ow F)),M.ks⟩) (H' l=some (.lst (c.cs.map ι))) (Kx (mx x) H H')
  ·simp?[ea2,G3];have f3:∀b u,H2 b=some u->b≠x.p->upd H2 x.p (.ins A.jh da2 (t_ x.m x.o x.s x.y)) b=some u:=λb u e n=>nA e n;exact⟨x.p,da2,x.m,x.o,x.y,x.s,rfl,ea2,hR _ _ ⟨rfl,w2.BP (w2.ar.flip iZ f3) λb u e _ _ n=>f3 b u e (qB e ea2 n (by kernel_rfl)),f3 _ _ e2 (kB e2 ea2),λb u e k n=>f3 b u (k2 b u e k n) λz=>by rw[z]at e;have:=k2 _ _ e k (by rw[←z];exact n);rw[ea2]at this;cases this;cases k⟩⟩
  ext _ H3 ⟨rfl,w3,e3,k3⟩;obtain⟨da3,ea3⟩:=w3.ar.ob;obtain⟨ds3,es3⟩:=w3.ar.DB;exists C4 (σ'=[⇑x.p,⇑x.r,⇑l,none]) (Wx A H' {x with y:=x.s,s:=x.y} (Ti ow M F c M.ks)) (H' l=some (.lst (c.cs.map ι))) (Kx (mx x) H H')
  ·simp?[ea3,T.jq,T.kQ,Kf,es3,vq];have f4:∀b u,H3 b=some u->b≠x.y->upd H3 x.y (.ins A.i_ ds3 (nV M.sy.b M.sy.e M.sy.b)) b=some u:=λb u e n=>nA e n;exact⟨x.y,ds3,_,_,_,rfl,es3,hR _ _ ⟨rfl,w3.BP (w3.ar.UX (z:=⟨M.sy.b,M.sy.e,M.sy.b⟩) ⟨ds3,iZ⟩ f4) λb u e _ n _=>f4 b u e (qB e es3 n (by kernel_rfl)),f4 _ _ e3 (kB e3 es3),λb u e k n=>f4 b u (k3 b u e k n) λz=>by have:=k3 b u e k n;rw[z,es3]at this;cases this;cases k⟩⟩
  ext _ H4 ⟨rfl,w4,e4,k4⟩;obtain⟨da4,ea4⟩:=w4.ar.ob;obtain⟨do4,eo4⟩:=w4.ar.old;have IZ:=md.IZ I;have tp:=md.J6 I;have ecs:=md.cs;have flt:(c.cs.map ι).filter (λv=>wi v M.so.b (c.ot-1))=((F.filter λe=>decide (ow.g e.1=1)).map dE).map ι:=by
   rw[I.fr.ob,ecs,cT,cT];congr 2;refine ic λe he=> ?_;have r:=md.Uh (k:=e.1) (q:=e.2) he;have:=ow.z1 e.1;have fr:=I.fr;have:=fr.hv;have:=fr.o0;have:=fr.yw;have:=fr.y0;have:=fr.yt;show wi (ι e.2) 0 (c.ot-1)=decide (ow.g e.1=1);rcases md.fg I (k:=e.1) (q:=e.2) he with z|z
   ·have:=r.2 z;rw[decide_eq_false ⋯];unfold wi;simp;(clear z;lia)
   ·have:=r.1 z;rw[decide_eq_true z];exact BM (by(clear z;lia)) (by(clear z tp;lia))
  exists ∃lg,C5 (σ'=[⇑x.p,⇑x.r,⇑l,⇑lg]) (H' lg=some (.lst (((F.filter λe=>decide (ow.g e.1=1)).map dE).map ι))) (Wx A H' {x with y:=x.s,s:=x.y} (Ti ow M F c M.ks)) (H' l=some (.lst (c.cs.map ι))) (Kx (mx x) H H')
  ·simp?[];refine⟨⟨_,jX.of e4⟩,pM.Hj (λv=>wi v M.so.b (c.ot-1)) (λv=>v) (jX.of e4) (by rw[ae,ecs,ae];exact av IZ (by decide)) (λv hv K' hK=> ?_) (λv hv _ K' hK=> ?_) λlg hlg=> ?_⟩
   ·obtain⟨q',_,rfl⟩:=List.mem_map.mp hv;simp?[ea4,T.jq,T.j9,A6,eo4,BJ,bK];exact⟨x.o,do4,_,_,_,_,rfl,eo4,_,rfl,hK⟩
   ·simp?[bK];exact hK
   ·rw[List.map_id',flt];have s5:ja H4 (upd H4 lg (.lst (((F.filter λe=>decide (ow.g e.1=1)).map dE).map ι))):=ja.upd hlg;exact hR _ _ ⟨lg,rfl,iZ,w4.same s5,s5 _ _ e4,k4.trans (q_ s5)⟩
  ext _ H5 ⟨lg,rfl,eg5,w5,e5,k5⟩;obtain⟨dr5,er5⟩:=w5.ro;exists Y2 λd ks=>C8 (σ'=[⇑x.p,⇑x.r,⇑l,⇑lg]) ((∀b u,H b=some u->Bd u=true->b≠d)) (Wx A H' {x with y:=x.s,s:=x.y,d:=d} (Ti ow M F c ks)) (ks.Nodup) ((∀p,p∈ks↔(p∈M.ks∨∃e∈F,ow.g e.1=1/\p∈qx ow e)/\oP ⟨M.ss.b,M.ss.e,c.st⟩ (lN c.ws p)=true)) (H' l=some (.lst (c.cs.map ι))) (H' lg=some (.lst (((F.filter λe=>decide (ow.g e.1=1)).map dE).map ι))) (Kx (mx x) H H')
  ·simp?[er5,T.jO,T.kM,CU];refine⟨{x with y:=x.s,s:=x.y},Ti ow M F c M.ks,ow,F.filter λe=>decide (ow.g e.1=1),lg,rfl,w5,md.wo,?_,eg5,ks1,av (dH ..) IZ,I.s8,λe he=> ?_,λp hp=> ?_,λH6 d ks fd w6 k6 nd6 m6=>hR _ _ ⟨d,ks,rfl,λb u e k=> ?_,w6,nd6,λp=> ?_,k6 _ _ e5 rfl aI,k6 _ _ eg5 rfl aI,k5.trans (k6.mono λ_ z=>nomatch z)⟩⟩
   ·show c.ws.length<=200;rw[md.len];exact I.fr.l2
   ·obtain⟨he,e1⟩:=List.mem_filter.mp he;have e1:=of_decide_eq_true e1;have at1:At ow O F e.1 e.2 (ow.g e.1+1):= .inr ⟨he,rfl⟩;have rg:=md.arg I at1;have hdw:=(md.ce e.1 e.2 _ at1).1;have s8:=I.s8 e.1;have ez:ow.z e.1=(ow.s e.1).length+1:=rfl;refine⟨rg.1,by show _<=(c.ws.length:Int);rw[md.len];exact rg.2.2.1,4*(ow.s e.1).length+(ow.g e.1+1),?_,by(clear ez;lia)⟩;show kD c.ws e.2.toNat=_;rw[l6,show c.ws.getD e.2.toNat 0=lN c.ws e.2 from rfl,hdw,md.len,if_pos ⋯];congr 1;(clear ez;lia)
   ·obtain⟨k,a,j,i,m,hj,rfl,_⟩:=I.b1 p hp;have r:=I.Jx m;have ez:ow.z k=(ow.s k).length+1:=rfl;have fr:=I.fr;have:=fr.hv;have:=fr.ot;have:=fr.yw;have:=fr.y0;have:=fr.yt;show _/\_<(c.ws.length:Int);rw[md.len];lia
   ·by_cases n:b∈mx x
    ·obtain⟨v,ev,kv,_⟩:=w5.OP b n;exact fd _ _ ev kv
    ·exact fd b u (k5 b u e k n) k
   ·rw[m6 p];refine and_congr (or_congr Iff.rfl ⟨λ⟨e,he,hp⟩=> ?_,λ⟨e,he,e1,hp⟩=>⟨e,List.mem_filter.mpr ⟨he,decide_eq_true e1⟩,hp⟩⟩) Iff.rfl;obtain⟨he,e1⟩:=List.mem_filter.mp he;exact⟨e,he,of_decide_eq_true e1,hp⟩
  ext _ H6 ⟨d,ks,rfl,fd,w6,nd6,m6,e6,g6,k6⟩;simp?[e6,g6];intro t ht';have s7:ja H6 (upd H6 t (.tup [.int ((c.cs.map ι).length-(((F.filter λe=>decide (ow.g e.1=1)).map dE).map ι).length),.int (((F.filter λe=>decide (ow.g e.1=1)).map dE).map ι).length])):=ja.upd ht';refine q _ d t F Dn c ks fd (w6.same s7) md dn fo nd6 m6 (k6.trans (q_ s7)) ?_;rw[iZ];simp only[ae,ecs]
structure Lv(A:Ad)(H:Hp)(x:Ax)(M:Mem)(ow:Own)(O Y:List (Nat×Int))(C lh:Addr)(rs:List Addr)(D:List Th):Prop where
 w:Wx A H x M
 I:In ow M O Y
 as:∀k,k<ow.G.length->(ow.p k).isSome=true
 lc:tS H C rs ow
 hd:H lh=some (.lst ((D.map (wd ow.p)).map ι))
 nm:∀b∈lh::C::rs,b∉mx x
 nh:lh∉C::rs
 oi:(O.map aD).Pairwise (·<·)
 RC:M.so.e<=80
 gD:∀t∈D,Gd ow t
 dl:D.length=ow.D.length
noncomputable def lw (x:Ax) (C lh:Addr) (rs:List Addr):List Addr:=mx x++lh::C::rs
section
variable{A:Ad}{H H':Hp}{x:Ax}{M:Mem}{ow:Own}{O Y:List (Nat×Int)}{C lh:Addr}{rs:List Addr}{D:List Th}
theorem Lv.all(v:Lv A H x M ow O Y C lh rs D):All ow:=v.I.all v.as
theorem Lv.same(v:Lv A H x M ow O Y C lh rs D)(s:ja H H'):Lv A H' x M ow O Y C lh rs D:=
 {v with w:=v.w.same s,lc:=⟨s _ _ v.lc.dc,v.lc.rl,λk a e=>s _ _ (v.lc.row k a e),v.lc.nd⟩,hd:=s _ _ v.hd}
theorem Lv.put(v:Lv A H x M ow O Y C lh rs D){k j:Nat}{a:Int}{t:Th}(m:(k,a)∈O∨(k,a)∈Y)(hj:j<(ow.s k).length)(g:Gd ow t)(w:Wx A H' x {M with ws:=M.ws.set (a+1+(j:Int)).toNat (wd ow.p t),ks:=LV ow M.ks k j a t})(lc:tS H' C rs (ow.put k j t))(kx:Kx (x.q::x.d::rs) H H'):
  Lv A H' x {M with ws:=M.ws.set (a+1+(j:Int)).toNat (wd ow.p t),ks:=LV ow M.ks k j a t} (ow.put k j t) O Y C lh rs D/\ue (lw x C lh rs) H H' (lw x C lh rs):=by
 have nl:lh∉x.q::x.d::rs:=λz=>by
  rcases List.mem_cons.mp z with z|z
  ·exact v.nm lh (by simp) (by rw[z];simp[mx])
  rcases List.mem_cons.mp z with z|z
  ·exact v.nm lh (by simp) (by rw[z];simp[mx])
  ·exact v.nh (ai _ z)
 refine⟨⟨w,v.I.put m hj g (Sb v.I.kn) P0,v.as,lc,kx _ _ v.hd rfl nl,v.nm,v.nh,v.oi,v.RC,λu hu=> ?_,v.dl⟩,.of (kx.mono λb hb=> ?_)⟩
 ·have:=v.gD u hu;cases u with|no=>exact this|nu n=>exact this|ce i=>exact this
 ·unfold lw;rcases List.mem_cons.mp hb with rfl|hb
  ·simp[mx]
  rcases List.mem_cons.mp hb with rfl|hb
  ·simp[mx]
  ·simp[hb]
theorem Lv.hand(v:Lv A H x M ow O Y C lh rs D){i:Nat}{t:Th}(g:Gd ow t):Lv A (upd H x.g (.lst ((M.hw.set i (wd ow.p t)).map ι))) x {M with hw:=M.hw.set i (wd ow.p t)} {ow with D:=ow.D.set i t} O Y C lh rs D/\ue (lw x C lh rs) H (upd H x.g (.lst ((M.hw.set i (wd ow.p t)).map ι))) (lw x C lh rs):=by
 have f:∀b u,H b=some u->b≠x.g->upd H x.g (.lst ((M.hw.set i (wd ow.p t)).map ι)) b=some u:=λb u e n=>nA e n;have ng:∀b∈lh::C::rs,b≠x.g:=λb hb z=>v.nm b hb (by rw[z];simp[mx]);refine⟨⟨v.w.hand (v.w.hd.put i _) f,v.I.held g,v.as,⟨f _ _ v.lc.dc (ng C (by simp)),v.lc.rl,λk a e=>f _ _ (v.lc.row k a e) (ng a (by simp[ba e])),v.lc.nd⟩,f _ _ v.hd (ng lh (by simp)),v.nm,v.nh,v.oi,v.RC,λu hu=> ?_,?_⟩,.of λb u e _ n=>f b u e λz=>n ?_⟩
 ·have:=v.gD u hu;cases u with|no=>exact this|nu n=>exact this|ce i=>exact this
 ·show D.length=(ow.D.set i t).length;rw[aT];exact v.dl
 ·rw[z];simp[lw,mx]
theorem Lv.sc{K:ah}{sc:Addr}{ns:List Int}{L':List Addr}(v:Lv A H x M ow O Y C lh rs D)(hS:o8 K H sc ns)(s:ue (lw x C lh rs) H H' L'):o8 K H' sc ns:=hS.kx λo u e=>s.1 _ _ e rfl λz=>by
 unfold lw at z;rcases List.mem_append.mp z with z|z
 ·obtain⟨u,q,_,_,n⟩:=v.w.OP sc z;rw[e]at q;cases q;exact n _ _ rfl
 rcases List.mem_cons.mp z with rfl|z
 ·rw[v.hd]at e;cases e
 rcases List.mem_cons.mp z with rfl|z
 ·rw[v.lc.dc]at e;cases e
 ·obtain⟨k,hk⟩:=List.mem_iff_getElem?.mp z;rw[v.lc.row k sc hk]at e;cases e
theorem Lv.new(v:Lv A H x M ow O Y C lh rs D){l:Addr}(h:H l=none):l∉lw x C lh rs:=λz=>by
 unfold lw at z;rcases List.mem_append.mp z with z|z
 ·exact v.w.new h z
 rcases List.mem_cons.mp z with rfl|z
 ·rw[v.hd]at h;cases h
 rcases List.mem_cons.mp z with rfl|z
 ·rw[v.lc.dc]at h;cases h
 ·obtain⟨k,hk⟩:=List.mem_iff_getElem?.mp z;rw[v.lc.row k l hk]at h;cases h
theorem Lv.tup(v:Lv A H x M ow O Y C lh rs D){l:Addr}{xs:List V}(h:H l=some (.tup xs)):l∉lw x C lh rs:=λz=>by
 unfold lw at z;rcases List.mem_append.mp z with z|z
 ·exact v.w.WL h z
 rcases List.mem_cons.mp z with rfl|z
 ·rw[v.hd]at h;cases h
 rcases List.mem_cons.mp z with rfl|z
 ·rw[v.lc.dc]at h;cases h
 ·obtain⟨k,hk⟩:=List.mem_iff_getElem?.mp z;rw[v.lc.row k l hk]at h;cases h
end
noncomputable def WB (x:Own) (F:List (Nat×Int)):Own:=⟨(aW x.G.length).map λk=>if x.g k=2 then x.p k else lk F k,(aW x.G.length).map λk=>if k∈F.map aD then x.g k+1 else x.g k,x.S,x.D⟩
theorem Sf{x:Own}{F:List (Nat×Int)}(h:x.P.length=x.G.length):Nx x F (WB x F) where
 S:=rfl
 D:=rfl
 P:=by show((aW _).map _).length=_;rw[ae,aY,h]
 G:=by show((aW _).map _).length=_;rw[ae,aY]
 p:=λk hk=>by show((aW _).map _).getD k none=_;rw[af,ak,bT hk];rfl
 g:=λk hk=>by show((aW _).map _).getD k 0=_;rw[af,ak,bT hk];rfl
theorem Mt.kx{H H':Hp}{P:Pa}{ds:List Th}{rows:List (List Th)}(p:Mt H P ds rows){L:List Addr}(k:Kx L H H')(n:∀a∈P.as,a∉L)(nt:∀a∈L,∀xs,H a≠some (.tup xs)):Mt H' P ds rows:=
 ⟨k _ _ p.tp rfl λz=>nt _ z _ p.tp,k _ _ p.h0 rfl (n _ (by simp[Pa.as])),p.th.kx k nt,k _ _ p.h1 rfl (n _ (by simp[Pa.as])),p.rl,λi a r e1 e2=>by
  obtain⟨vs,h1,h2⟩:=p.row i a r e1 e2;exact⟨vs,k _ _ h1 rfl (n _ (by simp[Pa.as,ba e1])),h2.kx k nt⟩,p.nd⟩
theorem Mt.same{H H':Hp}{P:Pa}{ds:List Th}{rows:List (List Th)}(p:Mt H P ds rows)(s:ja H H'):Mt H' P ds rows:=p.kx (L:=[]) (q_ s) (λ_ _ z=>nomatch z) λ_ z=>nomatch z
theorem Lv.own{A:Ad}{H:Hp}{x:Ax}{M:Mem}{ow:Own}{O Y:List (Nat×Int)}{C lh:Addr}{rs:List Addr}{D:List Th}(v:Lv A H x M ow O Y C lh rs D){i:Nat}{t:Th}(g:Gd ow t):Lv A (upd H lh (.lst (((D.set i t).map (wd ow.p)).map ι))) x M ow O Y C lh rs (D.set i t)/\ue (lw x C lh rs) H (upd H lh (.lst (((D.set i t).map (wd ow.p)).map ι))) (lw x C lh rs):=by
 have f:∀b u,H b=some u->b≠lh->upd H lh (.lst (((D.set i t).map (wd ow.p)).map ι)) b=some u:=λb u e n=>nA e n;have nl:∀b∈C::rs,b≠lh:=λb hb z=>v.nh (by rw[←z];exact hb);refine⟨⟨v.w.row v.hd (v.nm lh (by simp)),v.I,v.as,⟨f _ _ v.lc.dc (nl C (by simp)),v.lc.rl,λk a e=>f _ _ (v.lc.row k a e) (nl a (by simp[ba e])),v.lc.nd⟩,iZ,v.nm,v.nh,v.oi,v.RC,λu hu=> ?_,by rw[aT];exact v.dl⟩,.of λb u e _ n=>f b u e λz=>n ?_⟩
 ·rcases cY hu with z|rfl
  ·exact v.gD u z
  ·exact g
 ·rw[z];simp[lw]
theorem RO{tc:TT}{t u:TS}{D:Ends}{σ:St}{H:Hp}(h:∀K:Bool->Hp->Prop,(∀H',ja H H'->K false H')->tc σ H K)(ht:∀H',ja H H'->u D σ H'):IA tc t u D σ H:=h _ λH' s=>by rw[if_neg (by intro z;cases z)];exact ht H' s
theorem PH{tc:TT}{t u:TS}{D:Ends}{σ:St}{H:Hp}(h:∀K:Bool->Hp->Prop,(∀H',ja H H'->K true H')->tc σ H K)(ht:∀H',ja H H'->t D σ H'):IA tc t u D σ H:=h _ λH' s=>by rw[if_pos rfl];exact ht H' s
theorem ue.add{L L' X:List Addr}{H H':Hp}(h:ue L H H' L'):ue (L++X) H H' (L'++X):=⟨λb u e i n=>h.1 b u e i λz=>n (aZ _ z),λb z=>(List.mem_append.mp z).elim (λz=>(h.2 b z).elim (λz=> .inl (aZ _ z)) .inr) λz=> .inl (aN _ z)⟩
structure Lo(H:Hp)(x:Ax)(C lh:Addr)(rs:List Addr)(ow:Own):Prop where
 lc:tS H C rs ow
 hd:H lh=some (.lst ((ow.D.map (wd ow.p)).map ι))
 nm:∀b∈lh::C::rs,b∉mx x
theorem Lo.UZ{H H':Hp}{x x':Ax}{C lh:Addr}{rs:List Addr}{ow:Own}(o:Lo H x C lh rs ow)(s:ue (mx x) H H' (mx x')):Lo H' x' C lh rs ow:=by
 have k:∀b∈lh::C::rs,∀u,H b=some u->Bd u=true->H' b=some u/\b∉mx x':=λb hb u e i=>s.keep e i (o.nm b hb);refine⟨⟨(k C (by simp) _ o.lc.dc rfl).1,o.lc.rl,λi a e=>(k a (by simp[ba e]) _ (o.lc.row i a e) rfl).1,o.lc.nd⟩,(k lh (by simp) _ o.hd rfl).1,λb hb=> ?_⟩;have:∃u,H b=some u/\Bd u=true:=by
  rcases List.mem_cons.mp hb with rfl|hb
  ·exact⟨_,o.hd,rfl⟩
  rcases List.mem_cons.mp hb with rfl|hb
  ·exact⟨_,o.lc.dc,rfl⟩
  ·obtain⟨i,hi⟩:=List.mem_iff_getElem?.mp hb;exact⟨_,o.lc.row i b hi,rfl⟩
 obtain⟨u,e,i⟩:=this;exact(k b hb u e i).2
theorem IL:∀{l:List (Option Bool)},(∀o∈l,o=some true)->tT l=some true
 | [],_=>rfl
 |o::r,h=>by
  rw[h o (aq ..)];simp only[tT,IL λo ho=>h o (ai _ ho),bE,eJ]
theorem Ar.tU{H:Hp}{ts:List Th}{vs:List V}(h:Ar H ts vs)(d:Nat):tT (cI (Internal.tU H (d+1)) vs vs)=some true:=by
 refine IL λo ho=> ?_;obtain⟨i,hi⟩:=List.mem_iff_getElem?.mp ho;rw[bx]at hi
 cases e:vs[i]? with
 |none=>rw[e]at hi;cases hi
 |some v=>
  rw[e]at hi
  cases hi
  have hi':i<ts.length:=by rw[←h.l];exact(List.getElem?_eq_some_iff.mp e).1
  have tv:=h.g i _ v (ab hi') e
  cases et:ts[i] with
  |no=>rw[et]at tv;cases tv;rfl
  |nu n=>rw[et]at tv;cases tv;simp only[Internal.tU,l7,IG,and_self,if_true,beq_self_eq_true]
  |ce n=>
   rw[et]at tv;obtain⟨a,rfl,ea⟩:=tv;simp only[Internal.tU,ea,if_true]
   cases d<;>simp only[dD,dJ,Internal.tU,l7,IG,and_self,if_true,tT,bE,beq_self_eq_true,eJ]
def BK(K:ah)(p p':Addr):Sp:=λvs H Q _=>∃(a:Addr) (ns:List Int),vs=[.ref a]/\o8 K H a ns/\ns.length<=63/\H p=some (.vN #[])/\H p'=some (.vN #[])/\∀H',Q (.bl true) H'
def SX(K:ah)(A:Ad):Sp:=BK K A.jw A.jC
theorem V9{K:ah}{H:Hp}{a:Addr}{ps:List Addr}{ns:List Int}(hO:Ka ps H)(h:jX K H a (ns.map ι)):o8 K H a ns:=by
 rcases h with (h|⟨o,h⟩)|h
 ·by_cases z:a∈ps
  ·rw[hO.2 a z]at h;cases h
  ·rcases hO.1 a z with y|⟨o,xs,y⟩<;>rw[y]at h<;>cases h
 ·exact .inl ⟨o,h⟩
 ·exact .inr λH'=> .inr h
theorem lM:i8 ["_law_script","_law_rooms","_law_areas","_law_cells","_law_many","_law_hands","_law_roots","_law_seed","_law_at","_law_slot","_law_hand","_law_first","_law_held","_law_wide","_law_last"] ["_law_script"] (i3 Ai):=fsc
theorem Sg(T:Txt K mg A):lZ P w K mg base (tX P w) true 15 A.Hi A.Kq ["_law_script"] (SX K A):=by
 refine T.RJ.NO lM (λvs H Q E h=> ?_) (λcdv A' outer s H vs Q E hr hx h=> ?_)
 ·obtain⟨_,_,rfl,_⟩:=h;rfl
 ·obtain⟨sc,ns,rfl,h⟩:=h;obtain⟨q,hS,l63,t1,t2⟩:=Wt h;refine⟨_,kN.run (iT (je (i:=1) lM.nd rfl lo (kP (iR (i5 jy iX (i5 j6 (iW (jA T).mono hr rfl hx (iR (iU 0) (iR iX iS))) iX)) (iR (i5 jy iX (i5 j6 (i5 jU (iW (jA T).mono hr rfl hx (iR (iU 0) (iR iX iS))) iX) iX)) iS))))
   (iT (je (i:=2) lM.nd rfl lo (mT T.Cw (DR T).mono hr rfl T.Fo T.E6 hx (iR (jH jV (iU 1) iX) (iR (jH jV (iU 1) iX) iS))))
   (iT (jm (jf (KI (Ky hr)) (i5 j6 (iW (jA T).mono hr rfl hx (iR (iU 0) (iR iX iS))) iX) iX (jr _)) (iV (i9 (jJ (iU 2) T.jq (vB T).mono hr hx))) jc)
   (iT (je (i:=3) lM.nd rfl lo (iW (FX T).mono hr rfl hx (iR (iU 2) (iR (iU 1) (iR (iU 0) iS)))))
   (iT (je (i:=4) lM.nd rfl lo (i5 jy iX (i5 j6 (iW (jA T).mono hr rfl hx (iR (iU 0) (iR iX iS))) iX)))
   (iT (mE (i:=5) (fsc:=i3 Ai) (N2:=["_law_script","_law_cells"]) (js:=[0,3]) lM.nd rfl lo ⟨rfl,rfl,∅,∅,∅,∅,∅,∅,∅⟩ rfl rfl (by rfl) (lG rfl T.mR (iR (iU 4) iS)) (λ_ _ _ _=>lq) (λ_ _ _ _=>(iW (pE T).mono hr rfl lI (iR (iU 2) (iR (iW (lL T).mono hr rfl lI (iR (i5 jy (iW (jA T).mono hr rfl lI (iR (iU 1) (iR iX iS))) (i5 qk iX (iU 0))) iS)) iS)))))
   (iT (je (i:=6) lM.nd rfl lo (mT T.CA (DV T).mono hr rfl T.Fs T.E9 hx (iR (iU 4) iS)))
   (iT (je (i:=7) lM.nd rfl lo (iW (lL T).mono hr rfl hx (iR (iW (jA T).mono hr rfl hx (iR (iU 0) (iR iX iS))) iS)))
   (iT (jR hx.own rfl (jD (nE (EO (by rfl)) (by rfl) T.qA ζt (iR (iU 3) iS))) (ju (i:=8) lM.nd rfl lo)
    (iV (jR hx.own rfl (lG rfl T.mR (iR (jo kU (by rfl) T.mI ζl (iR (nD (iU 3) (iU 8)) iS)) iS)) (ju (i:=9) lM.nd rfl lo)
    (iT (je (i:=7) lM.nd rfl lo (iW (lL T).mono hr rfl hx (iR (i5 jy (iU 7) (iU 9)) iS)))
   (iV (i9 (iW (vG T).mono hr rfl hx (iR (iU 2) (iR (iU 6) (iR (iU 3) (iR (iU 8) (iR (iU 9) (iR (iW (pE T).mono hr rfl hx (iR (iU 3) (iR (iU 7) iS))) iS)))))))))))))
   (iT (jR hx.own rfl (lG rfl T.mR (iR (jo kU (by rfl) T.mI ζl (iR (iU 5) iS)) iS)) (ju (i:=10) lM.nd rfl lo)
    (iV (i9 (jg (jd (iU 6) rfl) T.lx (pA T).mono hr hx (iR (iU 10) (iR (jH jV (iU 5) (iU 10)) iS))))))
   (iT (je (i:=11) lM.nd rfl lo (iW (sg T).mono hr rfl hx (iR (iU 2) (iR (iU 6) iS))))
   (iT (jm (jE (jj (iW (qr T).mono hr rfl hx (iR (iU 11) (iR (iU 3) (iR (iU 5) iS)))) (λ_=>rfl))) (iV (i6 mD)) jc)
   (iT (je (i:=12) lM.nd rfl lo (kP (iR (nE Cb (by rfl) T.qA ζt (iR (jH jV (iU 11) iX) iS)) (iR (lz (fsc:=i3 Ai) (N2:=[]) (js:=[]) ⟨rfl,rfl,∅,∅,∅,∅,∅,∅,∅⟩ rfl rfl (by rfl) (jD (jH jV (iU 11) iX)) (λ_ _ _ _=>lq) (λ_ _ _ _=>(nE Cb (by rfl) T.qA ζt (iR (iU 0) iS)))) iS))))
   (iT (je (i:=10) lM.nd rfl lo (i5 j6 (iW (jA T).mono hr rfl hx (iR (iU 0) (iR iX iS))) (jo kU (by rfl) T.mI ζl (iR (iU 5) iS))))
   (iT (rG (iW (pE T).mono hr rfl hx (iR (iU 3) (iR (iW (lL T).mono hr rfl hx (iR (iW (jA T).mono hr rfl hx (iR (iU 0) (iR iX iS))) iS)) iS))) (rF (iU 5) (iU 10) vi))
   (iT (i9 (jg (jd (iU 6) rfl) T.lx (pA T).mono hr hx (iR (iU 10) (iR (jH jV (iU 5) (iU 10)) iS))))
   (iT (LL (mE (i:=13) (fsc:=i3 Ai) (N2:=["_law_cells"]) (js:=[3]) lM.nd rfl lo ⟨rfl,rfl,∅,∅,∅,∅,∅,∅,∅⟩ rfl rfl (by rfl) (Jo (iU 3)) (λ_ _ _ _=>(me (jf (FE (Ky hr)) (LI (by exact wW hr) (iU 1) (iU 0) (λ_ _=>rfl)) (kP iS) (jr _)))) (λ_ _ _ _=>(iU 0))))
   (iT (jm (jf (FE (Ky hr)) (iU 13) (kP iS) (jr _)) (iT (je (i:=8) lM.nd rfl lo (jH jV (iU 13) (i5 j6 (iW (jA T).mono hr rfl hx (iR (iU 0) (iR iX iS))) (jo kU (by rfl) T.mI ζl (iR (iU 13) iS)))))
   (iT (je (i:=9) lM.nd rfl lo (i5 j6 (i5 jU (iW (jA T).mono hr rfl hx (iR (iU 0) (iR iX iS))) iX) (jo kU (by rfl) T.mI ζl (iR (nD (iU 3) (iU 8)) iS))))
   (iV (i9 (iW (vG T).mono hr rfl hx (iR (iU 2) (iR (iU 6) (iR (iU 3) (iR (iU 8) (iR (iU 9) (iR (iW (pE T).mono hr rfl hx (iR (iU 3) (iR (iW (lL T).mono hr rfl hx (iR (iW (jA T).mono hr rfl hx (iR (iU 0) (iR iX iS))) iS)) iS))) iS))))))))))) jc)
   (iT (jm (jE (jj (iW (qr T).mono hr rfl hx (iR (iW (sg T).mono hr rfl hx (iR (iU 2) (iR (iU 6) iS))) (iR (iU 3) (iR (iU 5) iS)))) (λ_=>rfl))) (iV (i6 mD)) jc)
   (iT (i9 (Cg (AL T).mono hr rfl T.oQ T.rB.kp T.Bn hx (iR (iU 2) (iR (iU 6) iS))))
   (iT (jm (jE (jj (iW (qr T).mono hr rfl hx (iR (iW (sg T).mono hr rfl hx (iR (iU 2) (iR (iU 6) iS))) (iR (iU 3) (iR (iU 5) iS)))) (λ_=>rfl))) (iV (i6 mD)) jc)
   (iT (i9 (Cg (CF T).mono hr rfl T.qy T.uh.kp T.DF hx (iR (iU 2) (iR (iU 6) iS))))
   (iT (je (i:=14) lM.nd rfl lo (iW (sg T).mono hr rfl hx (iR (iU 2) (iR (iU 6) iS))))
   (iV (i6 (rD (iW (qr T).mono hr rfl hx (iR (iU 14) (iR (iU 3) (iR (iU 5) iS)))) (rD (iW (DZ T).mono hr rfl hx (iR (iU 14) iS)) (uo (rE (KI (Ky hr)) (kP (iR (jH jV (iU 11) iX) (iR (jH jV (iU 11) iX) iS))) (iU 12) (jr _)))))))))))))))))))))))))))))),?_⟩
  have cat0:∀{H':Hp} {k:Int} {Q':VK} {E':XK},jX K H' sc (ns.map ι)->0<=k->Q' (.int (cat ns k)) H'->tR K [.ref sc,.int k] H' Q' E':=λ{H' k Q' E'} h1 h2 h3=>⟨sc,ns,k,rfl,h1,h2,h3⟩;show oj _ _ _ [⇑sc,none,none,none,none,none,none,none,none,none,none,none,none,none,none] H;exists Y3 λ(lr:Addr) (o y:Int)=>C4 (σ'=[⇑sc,⇑lr,none,none,none,none,none,none,none,none,none,none,none,none,none]) ((20<=o/\o<=80/\4<=y/\y<=20)) (ja H H') (H' lr=some (.lst [.int o,.int y]))
  ·simp?[];refine cat0 hS.sq (by decide) ?_;dsimp only;refine⟨by decide,cat0 hS.sq (by decide) ?_⟩;dsimp only;exact⟨by decide,by decide,λlr hlr=>hR _ _ ⟨lr,_,_,rfl,⋯,ja.upd hlr,iZ⟩⟩
  ext _ H1 ⟨lr,o,y,rfl,oy,s1,er⟩;have b1:Kb [] H H1:=C1 s1;have hS1:o8 K H1 sc ns:=hS.kx λo v e=>s1 _ _ e;exists ∃z:Aa,C4 (σ'=[⇑sc,⇑lr,⇑z.p,none,none,none,none,none,none,none,none,none,none,none,none]) (Tj A H' z ⟨ao (o+2*y).toNat (-1),⟨0,o,0⟩,⟨o,o+y,o⟩,⟨o+y,o+2*y,o+y⟩,[-1],[]⟩) (ja H1 H') (z.q≠lr)
  ·simp?[er];intro xa dx hx hdx _;have Hs:ja H1 (upd (upd H1 dx (HO.own xa)) xa (HO.ins A.jh dx [])):=λb u eb=>by rw[i4 (iY eb hx),i4 (iY eb hdx)];exact eb
   exact⟨xa,dx,o,y,rfl,iZ,⋯,⋯,⋯,⋯,λm q' o' y' s' H2 ar f fr=>⟨rfl,hR _ _ ⟨⟨xa,m,q',o',y',s'⟩,rfl,ar,λb u e=>f _ _ (Hs _ _ e) (iY e hx),aj (iY (Hs _ _ er) fr.2.1)⟩⟩⟩
  ext _ H2 ⟨z0,rfl,ar2,s2,nq0⟩;exists Y2 λ(z:Aa) (M:Mem)=>C6 (σ'=[⇑sc,⇑lr,⇑z.p,none,none,none,none,none,none,none,none,none,none,none,none]) (Tj A H' z M) (In ⟨[],[],[],[.no]⟩ M [] []) ((M.so.t=0/\M.sy.t=M.sy.b/\M.so.e=o/\M.sy.e-M.sy.b=y/\M.hw=[-1]/\M.ks=[])) (Kb [] H2 H') (z.q≠lr)
  ·simp?[];refine cat0 (hS1.kx λo v e=>s2 _ _ e).sq (by decide) ?_;dsimp only;refine⟨by decide,?_⟩;by_cases c:cat ns 2%3=1
   ·rw[if_pos c];obtain⟨dp,ep⟩:=ar2.ob;rw[ep];dsimp only;have f3:∀b u,H2 b=some u->b≠z0.p->upd H2 z0.p (.ins A.jh dp (t_ z0.m z0.o z0.s z0.y)) b=some u:=λb u e n=>nA e n;refine⟨⟨rfl,G3⟩,z0.p,dp,z0.m,z0.o,z0.y,z0.s,rfl,ep,hR _ _ ⟨⟨z0.p,z0.m,z0.q,z0.o,z0.s,z0.y⟩,⟨ao (o+2*y).toNat (-1),⟨0,o,0⟩,⟨o+y,o+2*y,o+y⟩,⟨o,o+y,o⟩,[-1],[]⟩,rfl,ar2.flip iZ f3,In.new ⋯ ⋯ ⋯ ⋯ (.inr ⟨rfl,rfl⟩),⟨rfl,rfl,rfl,by show o+2*y-(o+y)=y;lia,rfl,rfl⟩,λb u e k _=>f3 b u e λw=> ?_,nq0⟩⟩;rw[w,ep]at e;cases e;cases k
   ·rw[if_neg c];exact hR _ _ ⟨z0,_,rfl,ar2,In.new ⋯ ⋯ ⋯ ⋯ (.inl ⟨rfl,rfl⟩),⟨rfl,rfl,rfl,by show o+y-o=y;lia,rfl,rfl⟩,C1 (ja.refl _),nq0⟩
  ext _ H3 ⟨z,M0,rfl,ar3,I0,⟨m1,m2,m3,m4,m5,m6⟩,b3,nq⟩;have b03:Kb [] H H3:=λb u e k _=>b3 _ _ (s2 _ _ (s1 _ _ e)) k aI;have er3:=b3 _ _ (s2 _ _ er) rfl aI;exists Y7 λ(C lu:Addr) (rs:List Addr) (ow:Own) (M:Mem) (O Y:List (Nat×Int))=>σ'=[⇑sc,⇑lr,⇑z.p,⇑C,none,none,none,none,none,none,none,none,none,none,none]/\Lg A H3 H' z M0 M [.no] ow O Y C lu rs
  ·simp?[];exact⟨z,lr,sc,ns,M0,_,rfl,ar3,I0,rfl,rfl,m1,m2,by rw[m3,m4];exact er3,aj nq,hS.kx λo v e=>b03 _ _ e rfl aI,λH' C lu rs ow' M' O Y g=>hR _ _ ⟨C,lu,rs,ow',M',O,Y,rfl,g⟩⟩
  ext _ H4 ⟨C,lu,rs,ow,M,O,Y,rfl,g⟩;have hS4:o8 K H4 sc ns:=hS.kx λo v e=>g.kx _ _ (b03 _ _ e rfl aI) rfl (by rw[aA];intro y;rw[y]at e;have:=b03 _ _ e rfl aI;rw[ar3.mem.ls]at this;cases this)
  exists ∃n:Nat,C3 (σ'=[⇑sc,⇑lr,⇑z.p,⇑C,↥n,none,none,none,none,none,none,none,none,none,none]) ((1<=n/\n<=6)) (H4=H')
  ·simp?[];refine cat0 hS4.sq (by decide) ?_;simp?[];exact hR _ _ ⟨(1+cat ns 3%6).toNat,by rw[bS ⋯],⋯,rfl⟩
  ext _ _ ⟨n,rfl,hn,rfl⟩;have al4:=g.I.all g.la.al;exists Y2 λ(lh:Addr) (D:List Th)=>C6 (σ'=[⇑sc,⇑lr,⇑z.p,⇑C,↥n,⇑lh,none,none,none,none,none,none,none,none,none]) (D.length=n) ((∀t∈D,Gd ow t)) (H4 lh=none) (ja H4 H') (H' lh=some (.lst ((D.map (wd ow.p)).map ι)))
  ·simp?[bK];refine⟨⋯,⋯,rR (λi ys H'=>ja H4 H'/\∃D:List Th,D.length=i/\(∀t∈D,Gd ow t)/\ys=(D.map (wd ow.p)).map ι) ⟨ja.refl _,[],rfl,(λ_ h=>nomatch h),rfl⟩ (av (show(n:Int).toNat<=6 by lia) (by decide)) (λi ys H' ⟨_,D,h1,_,h2⟩=>by rw[h2,ae,ae,h1];exact au _) (λi ys H' hi hP K1 hK=> ?_) λys H' hP lh hlh=> ?_⟩
   ·obtain⟨s5,D,h1,h2,rfl⟩:=hP;simp?[];refine cat0 (hS4.kx λo v e=>s5 _ _ e).sq (by decide) ?_;dsimp only;refine⟨_,rfl,C,ow.p,rs,_,rfl,s5 _ _ g.lc.dc,λH6 s6=>hK _ _ ⟨s5.trans s6,D++[J5 rs.length (nx (cat ns 5+977*(0+(i:Int))))],by rw[ay,h1];rfl,λt ht=> ?_,by rw[aF,aF];rfl⟩⟩;rcases List.mem_append.mp ht with ht|ht
    ·exact h2 t ht
    ·rw[List.mem_singleton.mp ht,g.lc.rl];exact GR g.la.al
   ·obtain⟨s5,D,h1,h2,rfl⟩:=hP;exact hR _ _ ⟨lh,D,rfl,by rw[h1];lia,h2,s5.free hlh,s5.trans (ja.upd hlh),iZ⟩
  ext _ H5 ⟨lh,D,rfl,Dl,gD,hlh,s5,eh⟩;exists Y2 λ(x:Ax) (M':Mem)=>C5 (σ'=[⇑sc,⇑lr,⇑z.p,⇑C,↥n,⇑lh,⇑x.r,none,none,none,none,none,none,none,none]) (x.p=z.p) (M'.ks=[]) (Lv A H' x M' {ow with D:=ao n .no} O Y C lh rs D) (o8 K H' sc ns)
  ·simp?[];intro xr dx hx hdx _;have Hs:ja H5 (upd (upd H5 dx (HO.own xr)) xr (HO.ins A.jz dx [])):=λb u eb=>by rw[i4 (iY eb hx),i4 (iY eb hdx)];exact eb
   refine⟨xr,dx,n,rfl,iZ,⋯,⋯,λh q' b d w wq l ld H6 hq hd hwq hld er6 hh bk wk la n1 n2 f=>⟨rfl,?_⟩⟩;have s6:ja H5 H6:=λb u e=>f _ _ (Hs _ _ e) (iY e hx);have s46:=s5.trans s6;have nn:∀{c b:Addr} {u:HO},upd (upd H5 dx (HO.own xr)) xr (HO.ins A.jz dx []) c=none->H5 b=some u->b≠c:=λhc e=>iY (Hs _ _ e) hc;have vN:∀{b:Addr},H b=some (.vN #[])->OU H6 b:=λ{b} e=>⟨#[],s46 _ _ (g.kx _ _ (b03 _ _ e rfl aI) rfl (by rw[aA];intro y;have e3:=b03 _ _ e rfl aI;rw[y,ar3.mem.ls]at e3;cases e3)),trivial⟩
   have eq5:=s5 _ _ g.ar.mem.ls;have rw5:∀b∈rs,∃xs,H5 b=some (.lst xs):=λb hb=>by
    obtain⟨k,hk⟩:=List.mem_iff_getElem?.mp hb;exact⟨_,s5 _ _ (g.lc.row k b hk)⟩
   refine hR _ _ ⟨⟨z.p,z.m,z.q,z.o,z.y,z.s,xr,h,q',b,d,w,wq,l,ld⟩,{M with hw:=ao n (-1)},rfl,rfl,g.cs.2.2.2.1.trans m6,⟨⟨g.ar.same s46,⟨dx,er6⟩,by rw[bf]at hh;exact hh,by rw[show M.ks=[] from g.cs.2.2.2.1.trans m6];exact bk,wk,la,⟨vN t1,vN t2⟩,?_⟩,?_,g.la.al,⟨s46 _ _ g.lc.dc,g.lc.rl,λk a e=>s46 _ _ (g.lc.row k a e),g.lc.nd⟩,s6 _ _ eh,λc hc=> ?_,?_,g.la.oi,by show M.so.e<=80;rw[g.cs.1,m3];lia,λt ht=> ?_,?_⟩,hS4.kx λo v e=>s46 _ _ e⟩
   ·have e1:=nn hq eq5;have e2:=nn hwq eq5;have e3:=kB (s6 _ _ eq5) bk.dc;have e4:=kB (s6 _ _ eq5) la.dc;have e5:=kB hh.ls bk.dc;have e6:=kB hh.ls la.dc;have e7:=kB wk.ls bk.dc;have e8:=kB wk.ls la.dc;simp only[mx,eW,a_,not_or,aI,not_false_eq_true,bC,and_true];exact⟨⟨e1,e2,e3,e4⟩,⟨n1,e5,e6⟩,⟨e7,e8⟩,n2⟩
   ·have:=g.I.WJ (n:=n) ⋯ ⋯;exact this
   ·have hc5:∃u,H5 c=some u/\c≠z.q:=by
     rcases List.mem_cons.mp hc with rfl|hc
     ·exact⟨_,eh,aj (iY g.ar.mem.ls hlh)⟩
     rcases List.mem_cons.mp hc with rfl|hc
     ·exact⟨_,s5 _ _ g.lc.dc,kB g.lc.dc g.ar.mem.ls⟩
     ·obtain⟨xs,e⟩:=rw5 c hc;exact⟨_,e,λy=>by have:=g.fr c (by simp[hc]) _ (by rw[y];exact ar3.mem.ls);cases this⟩
    obtain⟨u,eu,nz⟩:=hc5;simp only[mx,a_,not_or,aI,not_false_eq_true,and_true];exact⟨nz,nn hq eu,nn hwq eu,nn hd eu,nn hld eu⟩
   ·intro y;rcases List.mem_cons.mp y with rfl|y
    ·rw[g.lc.dc]at hlh;cases hlh
    ·obtain⟨k,hk⟩:=List.mem_iff_getElem?.mp y;rw[g.lc.row k lh hk]at hlh;cases hlh
   ·have:=gD t ht;cases t with|no=>exact this|nu n=>exact this|ce i=>exact this
   ·show D.length=(ao n Th.no).length;rw[bc];exact Dl
  ext _ H6 ⟨x,M6,rfl,exp,ek6,v6,hS6⟩;have no6:∀k j,Own.t {ow with D:=ao n .no} k j= .no:=g.la.no;clear g;rw[←exp];generalize ({ow with D:=ao n .no}:Own)=ow6 at*;exists ∃s7:Int,σ'=[⇑sc,⇑lr,⇑x.p,⇑C,↥n,⇑lh,⇑x.r,↥s7,none,none,none,none,none,none,none]/\H6=H'
  ·simp?[];refine cat0 hS6.sq (by decide) ?_;exact⟨_,rfl,hR _ _ ⟨_,rfl,rfl⟩⟩
  ext _ _ ⟨s7,rfl,rfl⟩;exists Y5 λ(s8:Int) (a8 a9:Option V) (M8:Mem) (ow8:Own)=>C4 (σ'=[⇑sc,⇑lr,⇑x.p,⇑C,↥n,⇑lh,⇑x.r,↥s8,a8,a9,none,none,none,none,none]) (Lv A H' x M8 ow8 O Y C lh rs D) (o8 K H' sc ns) (M8.ks.Pairwise (·<·))
  ·simp?[v6.lc.dc];intro l hl;rw[Cr];refine⟨⟨_,jX.of iZ⟩,?_⟩;have sl:=ja.upd (o:=(.lst (((aW rs.length).map λk=>pz ow6.p k).map ι))) hl;have el:upd H6 l (.lst (((aW rs.length).map λk=>pz ow6.p k).map ι)) l=some (.lst (((aW rs.length).map λk=>pz ow6.p k).map ι)):=iZ;have nl:=v6.new hl;generalize upd H6 l (.lst (((aW rs.length).map λk=>pz ow6.p k).map ι))=H7 at*;refine j8.EV (xs:=((aW rs.length).map λk=>pz ow6.p k).map ι) (λk σ H'=>Y5 λ(s8:Int) (a8 a9:Option V) (M8:Mem) (ow8:Own)=>C7 (σ=[⇑sc,⇑lr,⇑x.p,⇑C,↥n,⇑lh,⇑x.r,↥s8,a8,a9,none,none,none,none,none]) (Lv A H' x M8 ow8 O Y C lh rs D) (o8 K H' sc ns) (M8.ks.Pairwise (·<·)) (H' l=some (.lst (((aW rs.length).map λk=>pz ow6.p k).map ι))) (ow8.P=ow6.P) (∀k' j',k<=k'->ow8.t k' j'= .no))
    ⟨s7,none,none,M6,ow6,rfl,v6.same sl,hS6.kx λo v e=>sl _ _ e,by rw[ek6];exact .nil,el,rfl,λ_ _ _=>no6 _ _⟩ (λi σ H' _ hz=>by obtain⟨_,_,_,_,_,_,_,_,_,e,_⟩:=hz;exact jX.of e) ?_ ?_
   ·rintro k y σ H8 hy ⟨s8,a8,a9,M8,ow8,rfl,v8,hS8,asc,el8,eP,no8⟩ R2 hR2;obtain⟨hk,rfl,_⟩:=ints_get hy;have hk':k<rs.length:=by rw[ae,aY]at hk;exact hk
    rw[cN,g8];have hG:k<ow8.G.length:=by rw[←v8.lc.rl];exact hk'
    rw[show pz ow6.p k=pz ow8.p k by unfold pz Own.p;rw[eP]];obtain⟨ra,era,va,ea⟩:=v8.lc.val v8.all hG;have s8':=v8.I.s8 k;simp?[v8.lc.dc,va,ea];refine⟨⋯,by rw[ae,ae];lia,?_⟩;rw[show((((ow8.s k).map (wd ow8.p)).map ι).length:Int).toNat=(ow8.s k).length by rw[ae,ae];lia];refine j8.JJ (λj σ H'=>Y4 λ(s9:Int) (a9:Option V) (M9:Mem) (ow9:Own)=>C7 (σ=[⇑sc,⇑lr,⇑x.p,⇑C,↥n,⇑lh,⇑x.r,↥s9,↥(pz ow8.p k),a9,none,none,none,none,none]) (Lv A H' x M9 ow9 O Y C lh rs D) (o8 K H' sc ns) (M9.ks.Pairwise (·<·)) (H' l=some (.lst (((aW rs.length).map λk=>pz ow6.p k).map ι))) ((ow9.P=ow8.P/\(ow9.s k).length=(ow8.s k).length)) (∀k' j',(k<k'∨k'=k/\j<=j')->ow9.t k' j'= .no))
     ⟨s8,a9,M8,ow8,rfl,v8,hS8,asc,el8,⟨rfl,rfl⟩,λk' j' h=>no8 k' j' ⋯⟩ ?_ ?_
    ·rintro j σ H9 hj ⟨s9,a9,M9,ow9,rfl,v9,hS9,asc9,el9,⟨eP9,eS9⟩,no9⟩ R3 hR3;have hG9:k<ow9.G.length:=by rw[←v9.lc.rl];exact hk'
     obtain⟨b,eb⟩:=Option.isSome_iff_exists.mp (v9.as k hG9);have pb:pz ow8.p k=b:=by unfold pz Own.p at*;rw[←eP9,eb];rfl
     have mk:=v9.I.at hG9 eb;have hS9':k<ow9.S.length:=by rw[v9.I.ls];exact hG9
     rw[pb];show oj _ _ _ [⇑sc,⇑lr,⇑x.p,⇑C,↥n,⇑lh,⇑x.r,↥s9,↥b,↥(0+(j:Int)),none,none,none,none,none] H9;refine jb (λσ' H'=>∃s10:Int,σ'=[⇑sc,⇑lr,⇑x.p,⇑C,↥n,⇑lh,⇑x.r,↥s10,↥b,↥(0+(j:Int)),none,none,none,none,none]/\H9=H') (λR4 hR4=> ?_) ?_
     ·simp?[];exact⟨_,rfl,hR4 _ _ ⟨_,rfl,rfl⟩⟩
     ext _ _ ⟨s10,rfl,rfl⟩;simp?[];have gt:Gd ow9 (J5 rs.length s10):=by rw[v9.lc.rl];exact GR v9.as
     refine⟨C,ow9.p,rs,_,rfl,v9.lc.dc,λH10 s10'=> ?_⟩;have v10:=v9.same s10';have hS10:o8 K H10 sc ns:=hS9.kx λo v e=>s10' _ _ e;refine⟨x,M9,ow9,O,Y,C,rs,k,j,b,J5 rs.length s10,by rw[dZ],v10.w,v10.I,v10.lc,v10.all,λc hc=>v10.nm c (ai _ hc),mk,⋯,gt,by have:=v9.I.kl v9.RC;lia,λH11 w11 lc11 kx11=> ?_⟩;obtain⟨v11,st⟩:=v10.put mk ⋯ gt w11 lc11 kx11;refine hR3 _ _ ⟨s10,_,_,_,by rw[pb],v11,v10.sc hS10 st,v9.I.asc v9.oi asc9 no9 mk,(st.keep (s10' _ _ el9) rfl nl).1,⟨eP9,by rw[Own.K4 hS9',if_pos rfl,aT];exact eS9⟩,λk' j' h=> ?_⟩;rw[Own.QY hS9' ⋯,if_neg ⋯];exact no9 k' j' ⋯
    ·rintro σ H9 ⟨s9,a9,M9,ow9,rfl,v9,hS9,asc9,el9,⟨eP9,_⟩,no9⟩;exact hR2 _ _ ⟨s9,_,_,M9,ow9,rfl,v9,hS9,asc9,el9,eP9.trans eP,λk' j' h=>no9 k' j' (.inl h)⟩
   ·rintro σ H8 ⟨s8,a8,a9,M8,ow8,rfl,v8,hS8,asc,_⟩;exact hR _ _ ⟨s8,a8,a9,M8,ow8,rfl,v8,hS8,asc⟩
  ext _ H8 ⟨s8,a8,a9,M8,ow8,rfl,v8,hS8,asc8⟩;exists Y3 λ(a10:Option V) (M9:Mem) (ow9:Own)=>C4 (σ'=[⇑sc,⇑lr,⇑x.p,⇑C,↥n,⇑lh,⇑x.r,↥s8,a8,a9,a10,none,none,none,none]) (Lv A H' x M9 ow9 O Y C lh rs ow9.D) (o8 K H' sc ns) (M9.ks.Pairwise (·<·))
  ·simp?[v8.hd];have Dl':D.length<=6:=by rw[v8.dl];exact v8.I.d4.2
   refine⟨⋯,by rw[ae,ae];lia,?_⟩;rw[show(((D.map (wd ow8.p)).map ι).length:Int).toNat=D.length by rw[ae,ae];lia];refine j8.JJ (λi σ H'=>Y3 λ(a10:Option V) (M9:Mem) (ow9:Own)=>C5 (σ=[⇑sc,⇑lr,⇑x.p,⇑C,↥n,⇑lh,⇑x.r,↥s8,a8,a9,a10,none,none,none,none]) (Lv A H' x M9 ow9 O Y C lh rs D) (o8 K H' sc ns) (M9.ks=M8.ks) (∀j,j<i->ow9.D[j]? =D[j]?)) ⟨none,M8,ow8,rfl,v8,hS8,rfl,λj h=>absurd h (cj _)⟩ ?_ ?_
   ·rintro i σ H9 hi ⟨a10,M9,ow9,rfl,v9,hS9,ek,eD⟩ R2 hR2;obtain⟨dr9,er9⟩:=v9.w.ro;obtain⟨dh9,eh9⟩:=v9.w.hd.ob;have ea:Bm ((D.map (wd ow9.p)).map ι) (i:Int)=some (.int (wd ow9.p D[i])):=rP (by rw[ak,ak,ab hi];rfl);have gt:=v9.gD _ (aG hi);have hl:M9.hw.length=D.length:=by rw[v9.I.hd,ae,v9.dl]
    simp?[v9.hd,er9,T.jO,T.jQ,uR,eh9,BD,dZ,ea];refine⟨x.h,x.g,M9.hw,i,_,rfl,v9.w.hd,⋯,by(clear Dl;lia),Cn (v9.I.gt gt) v9.I.vw.pp,?_⟩;rw[bf];have hd:=v9.hand (i:=i) gt;refine hR2 _ _ ⟨_,_,_,rfl,hd.1,v9.sc hS9 hd.2,ek,λj hj=> ?_⟩;show(ow9.D.set i D[i])[j]? =D[j]?;rw[aX];by_cases z:i=j
    ·subst z;rw[if_pos rfl,if_pos (by rw[←v9.dl];exact hi),ab hi]
    ·rw[if_neg z];exact eD j ⋯
   ·rintro σ H9 ⟨a10,M9,ow9,rfl,v9,hS9,ek,eD⟩;have e:ow9.D=D:=cV λj=>by
     by_cases z:j<D.length
     ·exact eD j z
     ·rw[aS (by rw[←v9.dl];(clear Dl;lia)),aS (by(clear Dl;lia))]
    exact hR _ _ ⟨a10,M9,ow9,rfl,by rw[e];exact v9,hS9,by rw[ek];exact asc8⟩
  ext _ H9 ⟨a10,M9,ow9,rfl,v9,hS9,asc9⟩;exists Y2 λ(P:Pa) (res:List Nat)=>C6 (σ'=[⇑sc,⇑lr,⇑x.p,⇑C,↥n,⇑lh,⇑x.r,↥s8,a8,a9,a10,⇑P.t,none,none,none]) (ja H9 H') (H9 P.t=none) ((∀a∈P.as,H9 a=none)) (Rd ow9.s ow9.D res) (Mt H' P (ow9.D.map (dr res)) (res.map λk=>(ow9.s k).map (dr res)))
  ·simp?[];exact⟨x,M9,ow9.p,ow9.s,ow9.D,DP O Y,rfl,v9.w,v9.I.vw,λP res H' s ht ha rd pc=>hR _ _ ⟨P,res,rfl,s,ht,ha,rd,pc⟩⟩
  ext _ H10 ⟨P,res,rfl,s10,htP,haP,rd,pc⟩;have v10:=v9.same s10;exists σ'=[⇑sc,⇑lr,⇑x.p,⇑C,↥n,⇑lh,⇑x.r,↥s8,a8,a9,a10,⇑P.t,none,none,none]/\ja H10 H'
  ·simp?[];refine⟨P,C,lh,rs,ow9,res,rfl,v10.lc,v10.all,v10.hd,rd,pc,λH' s=>⟨true,rfl,?_⟩⟩;rw[if_neg (by decide)];exact hR _ _ ⟨rfl,s⟩
  ext _ H11 ⟨rfl,s11⟩;have v11:=v10.same s11;have pc11:=pc.same s11;exists Y4 λ(hl g0 g1:Addr) (gs:List Addr)=>C8 (σ'=[⇑sc,⇑lr,⇑x.p,⇑C,↥n,⇑lh,⇑x.r,↥s8,a8,a9,a10,⇑P.t,⇑hl,none,none]) (ja H11 H') ((∀b∈hl::g0::g1::gs,H11 b=none)) (H' hl=some (.lst [.ref g0,.ref g1])) (H' g0=some (.lst P.v0)) (H' g1=some (.lst (gs.map ξ))) (gs.length=P.rs.length) (∀(i:Nat) (a b:Addr),P.rs[i]? =some a->gs[i]? =some b->∃vs,H' a=some (.lst vs)/\H' b=some (.lst vs))
  ·simp?[pc11.tp,pc11.h0];intro l hl0;have s0:=ja.upd (o:= .lst P.v0) hl0;have e0:upd H11 l (.lst P.v0) l=some (.lst P.v0):=iZ;generalize upd H11 l (.lst P.v0)=Ha at*;rw[s0 _ _ pc11.tp];dsimp only;have h1a:=s0 _ _ pc11.h1;have prl:P.rs.length<=20:=by
    have:=pc11.rl;rw[ae]at this;rw[this];have sub:=(v9.I.vw.rs rd).1;exact av (mH rd.all.1 sub) v9.I.vw.ll
   refine⟨P.l1,rfl,⟨_,jX.of h1a⟩,mX (xs:=P.rs.map ξ) (λi ys H'=>∃gs:List Addr,ys=gs.map ξ/\ja Ha H'/\gs.length=i/\(∀b∈gs,Ha b=none)/\∀(j:Nat) (a b:Addr),P.rs[j]? =some a->gs[j]? =some b->∃vs,H' a=some (.lst vs)/\H' b=some (.lst vs))
    ⟨[],rfl,ja.refl _,rfl,(λ_ z=>nomatch z),λ_ _ _ _ z=>nomatch z⟩ (λi ys H' ⟨_,_,s,_⟩=>jX.of (s _ _ h1a)) (by rw[ae];exact av prl (by decide)) (λi ys H' ⟨gs,e,_,ln,_⟩=>by rw[e,ae,ln];exact au _) (λi y ys H' hx' hP K1 hK=> ?_) λys H' hP g1 hg1 hl' hhl'=> ?_⟩
   ·obtain⟨gs,rfl,sa,ln,fra,rwa⟩:=hP;rw[ak]at hx';obtain⟨a,ha,rfl⟩:=Option.map_eq_some_iff.mp hx';have hi:=(List.getElem?_eq_some_iff.mp ha).1;obtain⟨vs,ea,_⟩:=pc11.row i a _ ha (ab (by have:=pc11.rl;lia));have ea':=sa _ _ (s0 _ _ ea);simp?[ea'];intro b hb;have sb:=ja.upd (o:= .lst vs) hb;refine hK _ _ ⟨gs++[b],by rw[aF];rfl,sa.trans sb,by rw[ay,ln];rfl,λc hc=> ?_,λj a' b' e1 e2=> ?_⟩
    ·rcases List.mem_append.mp hc with hc|hc
     ·exact fra c hc
     ·rw[List.mem_singleton.mp hc];exact sa.free hb
    ·by_cases z:j<gs.length
     ·rw[bj z]at e2;obtain⟨vs',h1,h2⟩:=rwa j a' b' e1 e2;exact⟨vs',sb _ _ h1,sb _ _ h2⟩
     ·rw[bp ⋯]at e2;by_cases y:j-gs.length=0
      ·rw[y]at e2;cases e2
       obtain rfl:j=i:=by lia
       rw[ha]at e1;cases e1
       exact⟨vs,sb _ _ ea',iZ⟩
      ·rw[aS (by show 1<=j-gs.length;lia)]at e2;cases e2
   ·obtain⟨gs,rfl,sa,ln,fra,rwa⟩:=hP;rw[ae]at ln;have sb:=ja.upd (o:= .lst (gs.map ξ)) hg1;have sc':=ja.upd (o:= .lst [.ref l,.ref g1]) hhl';have s1':=sb.trans sc';refine hR _ _ ⟨hl',l,g1,gs,rfl,(s0.trans sa).trans s1',λb hb=> ?_,iZ,s1' _ _ (sa _ _ e0),sc' _ _ iZ,ln,λi a b e1 e2=> ?_⟩
    ·rcases List.mem_cons.mp hb with rfl|hb
     ·exact(s0.trans sa).free (sb.free hhl')
     rcases List.mem_cons.mp hb with rfl|hb
     ·exact hl0
     rcases List.mem_cons.mp hb with rfl|hb
     ·exact(s0.trans sa).free hg1
     ·exact s0.free (fra b hb)
    ·obtain⟨vs',h1,h2⟩:=rwa i a b e1 e2;exact⟨vs',s1' _ _ h1,s1' _ _ h2⟩
  ext _ H12 ⟨hl,g0,g1,gs,rfl,s12,fr12,ehl,eg0,eg1,gl,grow⟩;have v12:=v11.same s12;have hS12:o8 K H12 sc ns:=hS9.kx λo v e=>s12 _ _ (s11 _ _ (s10 _ _ e));have d6:=v12.I.d4;exists ∃i:Nat,C3 (i<ow9.D.length) (σ'=[⇑sc,⇑lr,⇑x.p,⇑C,↥n,⇑lh,⇑x.r,↥s8,a8,a9,↥i,⇑P.t,⇑hl,none,none]) (H12=H')
  ·simp?[];refine cat0 hS12.sq (by decide) ?_;simp?[];rw[v12.hd];dsimp only;have l0:(((ow9.D.map (wd ow9.p)).map ι).length:Int)=ow9.D.length:=by rw[ae,ae]
   rw[l0];have i0:=dW (cat ns 6) (show(ow9.D.length:Int)≠0 by lia);have i1:=dA (cat ns 6) (show(0:Int)<ow9.D.length by lia);exact⟨⋯,hR _ _ ⟨(cat ns 6%ow9.D.length).toNat,⋯,by rw[bS i0],rfl⟩⟩
  ext _ _ ⟨i,hi,rfl,rfl⟩;exists ∃t:Th,C5 (σ'=[⇑sc,⇑lr,⇑x.p,⇑C,↥n,⇑lh,⇑x.r,↥s8,a8,a9,↥i,⇑P.t,⇑hl,none,none]) (Gd ow9 t) (Lv A H' x M9 ow9 O Y C lh rs (ow9.D.set i t)) (ue (lw x C lh rs) H12 H' (lw x C lh rs)) (o8 K H' sc ns)
  ·simp?[];refine cat0 hS12.sq (by decide) ?_;refine⟨_,rfl,C,ow9.p,rs,_,rfl,v12.lc.dc,λH13 s13=> ?_⟩;have v13:=v12.same s13;have gt:Gd ow9 (J5 rs.length (nx (cat ns 7))):=by rw[v12.lc.rl];exact GR v12.as
   obtain⟨v14,st⟩:=v13.own (i:=i) gt;simp?[v13.hd];rw[BF ⋯ (by rw[ae];lia)];dsimp only;have es:((ow9.D.map (wd ow9.p)).map ι).set (i:Int).toNat (ι (wd ow9.p (J5 rs.length (nx (cat ns 7)))))=((ow9.D.set i (J5 rs.length (nx (cat ns 7)))).map (wd ow9.p)).map ι:=by simp only[fM,bf]
   rw[es];have st':=(ue.same (L:=lw x C lh rs) s13).trans st;exact hR _ _ ⟨_,rfl,gt,v14,st',v12.sc hS12 st'⟩
  ext _ H13 ⟨t,rfl,gt,v13,st13,hS13⟩;exists Y2 λ(M14:Mem) (ow14:Own)=>C5 (σ'=[⇑sc,⇑lr,⇑x.p,⇑C,↥n,⇑lh,⇑x.r,↥s8,a8,a9,↥i,⇑P.t,⇑hl,none,none]) (Lv A H' x M14 ow14 O Y C lh rs ow14.D) (ue (lw x C lh rs) H12 H' (lw x C lh rs)) (o8 K H' sc ns) (M14.ks.Pairwise (·<·))
  ·obtain⟨dr9,er9⟩:=v13.w.ro;obtain⟨dh9,eh9⟩:=v13.w.hd.ob;have hl':M9.hw.length=ow9.D.length:=by rw[v13.I.hd,ae]
   have ea:Bm (((ow9.D.set i t).map (wd ow9.p)).map ι) (i:Int)=some (.int (wd ow9.p t)):=rP (by rw[ak,ak,aX,if_pos rfl,if_pos hi];rfl);simp?[v13.hd,er9,T.jO,T.jQ,uR,eh9,BD,ea];refine⟨x.h,x.g,M9.hw,i,_,rfl,v13.w.hd,⋯,⋯,Cn (v13.I.gt gt) v13.I.vw.pp,?_⟩;rw[bf];have hd:=v13.hand (i:=i) gt;exact hR _ _ ⟨_,_,rfl,hd.1,st13.trans hd.2,v13.sc hS13 hd.2,asc9⟩
  ext _ H14 ⟨M14,ow14,rfl,v14,st14,hS14,asc14⟩;exists Y2 λ(lw':Addr) (W:List Nat)=>C5 (σ'=[⇑sc,⇑lr,⇑x.p,⇑C,↥n,⇑lh,⇑x.r,↥s8,a8,a9,↥i,⇑P.t,⇑hl,⇑lw',none]) (ja H14 H') (H' lw'=some (.lst ((W.map (pz ow14.p)).map ι))) (W.length<=20) (∀k∈W,k<ow14.G.length/\0<(ow14.s k).length)
  ·refine⟨C,ur ow14.p 0 rs,v14.lc.dc,λob=> ?_⟩;have f9:∀b u,H14 b=some u->b≠C->upd H14 C (.rV ob (.dK (ur ow14.p 0 rs))) b=some u:=λb u e n=>nA e n;have e9:upd H14 C (.rV ob (.dK (ur ow14.p 0 rs))) C=some (.rV ob (.dK (ur ow14.p 0 rs))):=iZ;have b9:∀b,b≠C->upd H14 C (.rV ob (.dK (ur ow14.p 0 rs))) b=H14 b:=λb n=>i4 n;generalize upd H14 C (.rV ob (.dK (ur ow14.p 0 rs)))=H15 at*;simp?[Jd,e9,bK];refine Hd (λk ys H'=>ja H15 H'/\∃W:List Nat,ys=(W.map (pz ow14.p)).map ι/\W.length<=k/\∀k∈W,k<ow14.G.length/\0<(ow14.s k).length) ⟨ja.refl _,[],rfl,au _,λ_ z=>nomatch z⟩ (λk ys H' hP=>hP.1 _ _ e9) (by rw[x_,v14.lc.rl];exact av v14.I.LU (by decide)) (λk ys H' ⟨_,W,e,l,_⟩=>by rw[e,ae,ae];exact l) (λk kv ys H' hkv hP K1 hK=> ?_) λys H' hP l hl=> ?_
   ·obtain⟨s16,W,rfl,Wl,hW⟩:=hP;rw[Jq,bR]at hkv;obtain⟨a,ha,rfl⟩:=Option.map_eq_some_iff.mp hkv;have hk:k<ow14.G.length:=by rw[←v14.lc.rl];exact(List.getElem?_eq_some_iff.mp ha).1
    obtain⟨ra,era,va,ea⟩:=v14.lc.val v14.all hk;rw[ha]at era;cases era
    have ea':=s16 _ _ (f9 _ _ ea (kB ea v14.lc.dc));simp?[IP,s16 _ _ e9,kV,va];intro p hp;have sp:=ja.upd (o:= .lst []) hp;rw[sp _ _ ea'];dsimp only;by_cases z:ow14.s k=[]
    ·rw[z,if_pos (show(bV ι (bV (wd ow14.p) [])).length=([]:List V).length from rfl)];exact hK _ _ ⟨s16.trans sp,W,rfl,⋯,hW⟩
    ·have z':0<(ow14.s k).length:=List.length_pos_iff.mpr z;rw[if_neg (by rw[ae,ae];show¬(ow14.s k).length=0;lia)];refine hK _ _ ⟨s16.trans sp,W++[k],by rw[aF,aF];rfl,by rw[ay];exact dO Wl,λi hi=> ?_⟩;rcases List.mem_append.mp hi with hi|hi
     ·exact hW i hi
     ·rw[List.mem_singleton.mp hi];exact⟨hk,z'⟩
   ·obtain⟨s16,W,rfl,Wl,hW⟩:=hP;have lC:l≠C:=λz=>by rw[z,s16 _ _ e9]at hl;cases hl
    refine⟨by rw[i4 (aj lC)];exact s16 _ _ e9,hR _ _ ⟨l,W,rfl,λb u e=> ?_,by rw[i4 lC,iZ],by rw[x_,v14.lc.rl]at Wl;exact av Wl v14.I.LU,hW⟩⟩;by_cases z:b=C
    ·rw[z,v14.lc.dc]at e;cases e;rw[z,iZ]
    ·have e':=s16 _ _ (f9 _ _ e z);rw[i4 z,i4 (iY e' hl)];exact e'
  ext _ H15 ⟨lw',W,rfl,s15,ew,Wl,hW⟩;have v15:=v14.same s15;have hS15:o8 K H15 sc ns:=hS14.kx λo v e=>s15 _ _ e;have st15:=st14.trans (ue.same (L:=lw x C lh rs) s15);exists Y4 λ(b8 b9:Option V) (M17:Mem) (ow17:Own)=>C4 (σ'=[⇑sc,⇑lr,⇑x.p,⇑C,↥n,⇑lh,⇑x.r,↥s8,b8,b9,↥i,⇑P.t,⇑hl,⇑lw',none]) (Lv A H' x M17 ow17 O Y C lh rs ow17.D) (ue (lw x C lh rs) H12 H' (lw x C lh rs)) (DD M17.ks)
  ·by_cases z:W=[]
   ·refine RO (λK1 hK=> ?_) λH16 s16=> ?_
    ·simp?[];intro p hp;rw[ja.upd hp _ _ ew];dsimp only;subst z;rw[if_pos (show(bV ι (bV (pz ow14.p) [])).length=([]:List V).length from rfl)];exact hK _ (ja.upd hp)
    ·exact hR _ _ ⟨_,_,M14,ow14,rfl,v15.same s16,st15.trans (ue.same s16),K5 asc14⟩
   ·have Wp:0<W.length:=List.length_pos_iff.mpr z;refine PH (λK1 hK=> ?_) λH16 s16=> ?_
    ·simp?[];intro p hp;rw[ja.upd hp _ _ ew];dsimp only;rw[if_neg (by rw[ae,ae];show¬W.length=0;lia)];exact hK _ (ja.upd hp)
    ·have v16:=v15.same s16;have hS16:o8 K H16 sc ns:=hS15.kx λo v e=>s16 _ _ e;have ew16:=s16 _ _ ew;refine jb (λσ' H'=>∃k:Nat,C3 (σ'=[⇑sc,⇑lr,⇑x.p,⇑C,↥n,⇑lh,⇑x.r,↥s8,↥(pz ow14.p k),a9,↥i,⇑P.t,⇑hl,⇑lw',none]) (k∈W) (H16=H')) (λR2 hR2=> ?_) ?_
     ·simp?[];refine cat0 hS16.sq (by decide) ?_;simp?[ew16];have l0:(((W.map (pz ow14.p)).map ι).length:Int)=W.length:=by rw[ae,ae]
      rw[l0];have i0:=dW (cat ns 8) (show(W.length:Int)≠0 by lia);have i1:=dA (cat ns 8) (show(0:Int)<W.length by lia);refine⟨⋯,?_⟩;have hm:(cat ns 8%W.length).toNat<W.length:=by lia
      rw[E5 i0 (by rw[ae];lia),af,ak,ab hm];exact hR2 _ _ ⟨W[(cat ns 8%W.length).toNat],rfl,aG hm,rfl⟩
     ext _ _ ⟨k,rfl,hk,rfl⟩;obtain⟨hkG,hkl⟩:=hW k hk;obtain⟨ra,era,va,ea⟩:=v16.lc.val v16.all hkG;refine jb (λσ' H'=>∃j:Nat,C3 (σ'=[⇑sc,⇑lr,⇑x.p,⇑C,↥n,⇑lh,⇑x.r,↥s8,↥(pz ow14.p k),↥j,↥i,⇑P.t,⇑hl,⇑lw',none]) (j<(ow14.s k).length) (H16=H')) (λR2 hR2=> ?_) ?_
     ·simp?[];refine cat0 hS16.sq (by decide) ?_;simp?[v16.lc.dc,va,ea];have l0:((((ow14.s k).map (wd ow14.p)).map ι).length:Int)=(ow14.s k).length:=by rw[ae,ae]
      rw[l0];have i0:=dW (cat ns 8/10) (show((ow14.s k).length:Int)≠0 by lia);have i1:=dA (cat ns 8/10) (show(0:Int)<(ow14.s k).length by lia);exact⟨⋯,hR2 _ _ ⟨(cat ns 8/10%(ow14.s k).length).toNat,by rw[bS i0],⋯,rfl⟩⟩
     ext _ _ ⟨j,rfl,hj,rfl⟩;simp?[];refine cat0 hS16.sq (by decide) ?_;have gt:Gd ow14 (J5 rs.length (nx (cat ns 9))):=by rw[v16.lc.rl];exact GR v16.as
     refine⟨_,rfl,C,ow14.p,rs,_,rfl,v16.lc.dc,λH17 s17=> ?_⟩;have v17:=v16.same s17;obtain⟨b,eb⟩:=Option.isSome_iff_exists.mp (v17.as k hkG);have pb:pz ow14.p k=b:=by unfold pz;rw[eb];rfl
     have mk:=v17.I.at hkG eb;refine⟨x,M14,ow14,O,Y,C,rs,k,j,b,J5 rs.length (nx (cat ns 9)),by rw[pb],v17.w,v17.I,v17.lc,v17.all,λc hc=>v17.nm c (ai _ hc),mk,hj,gt,by have:=v17.I.kl v17.RC;lia,λH18 w18 lc18 kx18=> ?_⟩;obtain⟨v18,st⟩:=v17.put mk hj gt w18 lc18 kx18;exact hR _ _ ⟨_,_,_,_,rfl,v18,(st15.trans ((ue.same s16).trans (ue.same s17))).trans st,NL asc14⟩
  ext _ H17 ⟨b8,b9,M17,ow17,rfl,v17,st17,rise⟩;exists σ'=[⇑sc,⇑lr,⇑x.p,⇑C,↥n,⇑lh,⇑x.r,↥s8,b8,b9,↥i,⇑P.t,⇑hl,⇑lw',none]/\ja H17 H'
  ·simp?[];refine⟨x,M17,ow17.p,ow17.s,ow17.D,DP O Y,rfl,v17.w,v17.I.vw,λP2 res2 H' s ht ha rd2 pc2=>⟨P2,C,lh,rs,ow17,res2,rfl,(v17.same s).lc,v17.all,s _ _ v17.hd,rd2,pc2,λH'' s''=>⟨true,rfl,?_⟩⟩⟩;rw[if_neg (by decide)];exact hR _ _ ⟨rfl,s.trans s''⟩
  ext _ H18 ⟨rfl,s18⟩;have v18:=v17.same s18;have st18:=st17.trans (ue.same (L:=lw x C lh rs) s18);have al:=v18.all;exists Y4 λ(x1:Ax) (M1:Mem) (p1:Nat->Option Int) (L1:List Nat)=>C6 (σ'=[⇑sc,⇑lr,⇑x1.p,⇑C,↥n,⇑lh,⇑x1.r,↥s8,b8,b9,↥i,⇑P.t,⇑hl,⇑lw',none]) (Wx A H' x1 M1) (Vw p1 ow17.s ow17.D L1 M1) (Lw p1 ow17.s L1 M1) (Lo H' x1 C lh rs ow17) (ue (lw x C lh rs) H12 H' (lw x1 C lh rs))
  ·simp?[];refine⟨x,M17,ow17,O,Y,rfl,v18.w,v18.I,.inr ⟨v18.I.kl v18.RC,rise⟩,λH' d t' F Dn c ks fd w' md dn fo nd hk kx _=> ?_⟩;have I':=v18.I.next md dn (Sf v18.I.lp) nd hk
   have st:ue (mx x) H18 H' (mx {x with y:=x.s,s:=x.y,d:=d}):=⟨kx,λb hb=>by
    simp only[mx,a_,aI,or_false]at hb;rcases hb with rfl|rfl|rfl|rfl|rfl
    ·exact .inl (by simp[mx])
    ·exact .inl (by simp[mx])
    ·exact .inl (by simp[mx])
    ·exact .inr λu e=>by
      cases k:Bd u with
      |false=>rfl
      |true=>exact absurd rfl (fd _ _ e k)
    ·exact .inl (by simp[mx])⟩
   exact hR _ _ ⟨{x with y:=x.s,s:=x.y,d:=d},_,(WB ow17 F).p,_,rfl,w',I'.vw,I'.lw,Lo.UZ ⟨v18.lc,v18.hd,v18.nm⟩ st,st18.trans st.add⟩
  ext _ H19 ⟨x1,M1,p1,L1,rfl,w1,vw1,lw1,lo1,st19⟩;exists σ'=[⇑sc,⇑lr,⇑x1.p,⇑C,↥n,⇑lh,⇑x1.r,↥s8,b8,b9,↥i,⇑P.t,⇑hl,⇑lw',none]/\ja H19 H'
  ·simp?[];refine⟨x1,M1,p1,ow17.s,ow17.D,L1,rfl,w1,vw1,λP2 res2 H' s ht ha rd2 pc2=>⟨P2,C,lh,rs,ow17,res2,rfl,(lo1.UZ (ue.same (L:=mx x1) s)).lc,al,s _ _ lo1.hd,rd2,pc2,λH'' s''=>⟨true,rfl,?_⟩⟩⟩;rw[if_neg (by decide)];exact hR _ _ ⟨rfl,s.trans s''⟩
  ext _ H20 ⟨rfl,s20⟩;have w20:=w1.same s20;have lo20:=lo1.UZ (ue.same (L:=mx x1) s20);have st20:=st19.trans (ue.same (L:=lw x1 C lh rs) s20);exists Y4 λ(x2:Ax) (M2:Mem) (p2:Nat->Option Int) (Lz:List Nat)=>C5 (σ'=[⇑sc,⇑lr,⇑x2.p,⇑C,↥n,⇑lh,⇑x2.r,↥s8,b8,b9,↥i,⇑P.t,⇑hl,⇑lw',none]) (Wx A H' x2 M2) (Vw p2 ow17.s ow17.D Lz M2) (Lo H' x2 C lh rs ow17) (ue (lw x C lh rs) H12 H' (lw x2 C lh rs))
  ·simp?[];exact⟨x1,M1,p1,ow17.s,ow17.D,L1,rfl,w20,vw1,lw1,λd M' p' L' n' H' vw' w' st=>hR _ _ ⟨{x1 with d:=d},M',p',L',rfl,w',vw',lo20.UZ st,st20.trans st.add⟩⟩
  ext _ H21 ⟨x2,M2,p2,Lz,rfl,w2,vw2,lo2,st21⟩;exists Y2 λ(P4:Pa) (res4:List Nat)=>C5 (σ'=[⇑sc,⇑lr,⇑x2.p,⇑C,↥n,⇑lh,⇑x2.r,↥s8,b8,b9,↥i,⇑P.t,⇑hl,⇑lw',⇑P4.t]) (ja H21 H') ((∀a∈P4.as,H21 a=none)) (Rd ow17.s ow17.D res4) (Mt H' P4 (ow17.D.map (dr res4)) (res4.map λk=>(ow17.s k).map (dr res4)))
  ·simp?[];exact⟨x2,M2,p2,ow17.s,ow17.D,Lz,rfl,w2,vw2,λP4 res4 H' s ht ha rd4 pc4=>hR _ _ ⟨P4,res4,rfl,s,ha,rd4,pc4⟩⟩
  ext _ H22 ⟨P4,res4,rfl,s22,ha4,rd4,pc4⟩;have lo22:=lo2.UZ (ue.same (L:=mx x2) s22);simp?[];refine⟨P4,C,lh,rs,ow17,res4,rfl,lo22.lc,al,lo22.hd,rd4,pc4,λH23 s23=>⟨true,rfl,?_⟩⟩;rw[if_pos rfl];have rl4:(res4.map λk=>(ow17.s k).map (dr res4)).length<=20:=by
   rw[ae];exact av (mH rd4.all.1 (vw2.rs rd4).1) vw2.ll
  refine⟨P4,_,_,rfl,pc4.same s23,rl4,λr hr'=> ?_,λH24 k24=>⟨true,rfl,?_⟩⟩
  ·obtain⟨k,_,rfl⟩:=List.mem_map.mp hr';rw[ae];exact al.s8 k
  rw[if_pos rfl];have kp:Kx (lw x C lh rs) H12 H24:=λb u e k nb=>k24 _ _ (s23 _ _ (s22 _ _ (st21.1 b u e k nb))) k λz=>by
   have:=ha4 b (by simp[Pa.as,z]);rw[st21.1 b u e k nb]at this;cases this
  have pc12:=pc11.same s12;have pc24:=pc12.kx kp (λa ha=>v9.new (haP a ha)) λa ha xs e=>v12.tup e ha;have gn:∀b∈hl::g0::g1::gs,b∉lw x C lh rs:=λb hb=>v11.new (fr12 b hb);rw[pc24.tp];dsimp only;intro p hp;have sp:=ja.upd (o:= .lst [ξ P.l0,ξ P.l1]) hp;have pc25:=pc24.same sp;have ehl5:=sp _ _ (kp _ _ ehl rfl (gn hl (by simp)));have eg05:=sp _ _ (kp _ _ eg0 rfl (gn g0 (by simp)));have eg15:=sp _ _ (kp _ _ eg1 rfl (gn g1 (by simp)));have row5:∀(i:Nat) (a b:Addr),P.rs[i]? =some a->gs[i]? =some b->∃vs ts,upd H24 p (.lst [ξ P.l0,ξ P.l1]) a=some (.lst vs)/\upd H24 p (.lst [ξ P.l0,ξ P.l1]) b=some (.lst vs)/\Ar (upd H24 p (.lst [ξ P.l0,ξ P.l1])) ts vs:=λi a b e1 e2=>by
   obtain⟨vs,h1,h2⟩:=grow i a b e1 e2;obtain⟨vs',h3,h4⟩:=pc25.row i a _ e1 (ab (by have:=(List.getElem?_eq_some_iff.mp e1).1;have:=pc25.rl;lia));have h5:=sp _ _ (kp _ _ h1 rfl (v9.new (haP a (by simp[Pa.as,ba e1]))));rw[h3]at h5;cases h5
   exact⟨vs,_,h3,sp _ _ (kp _ _ h2 rfl (gn b (by simp[ba e2]))),h4⟩
  generalize upd H24 p (.lst [ξ P.l0,ξ P.l1])=H25 at*;rw[ehl5];dsimp only;rw[if_pos (show [ξ P.l0,ξ P.l1].length=[ξ g0,ξ g1].length from rfl)];have d0:tU H25 3 (.ref P.l0) (.ref g0)=some true:=by
   simp only[tU,pc25.h0,eg05,if_true];exact pc25.th.tU 1
  have d1:tU H25 3 (.ref P.l1) (.ref g1)=some true:=by
   simp only[tU,pc25.h1,eg15];rw[if_pos (by rw[ae,ae,gl])];refine IL λo ho=> ?_;obtain⟨i,hi⟩:=List.mem_iff_getElem?.mp ho;rw[bx,ak,ak]at hi
   cases e1:P.rs[i]? with
   |none=>rw[e1]at hi;cases hi
   |some a=>
    cases e2:gs[i]? with
    |none=>rw[e1,e2]at hi;cases hi
    |some b=>
     rw[e1,e2]at hi;obtain⟨vs,ts,h1,h2,h3⟩:=row5 i a b e1 e2
     cases hi
     simp only[tU,h1,h2,if_true];exact h3.tU 0
  rw[show tT (cI (tU H25 3) [ξ P.l0,ξ P.l1] [ξ g0,ξ g1])=some true by simp only[dD,dJ,d0,d1,tT,bE,eJ]];exact q _
structure GZ(K:ah)(f:Addr)(x q:Str)(st:Stmt)(d:FuncData):Prop where
 ex:∃(oc:Value) (od:Option Addr) (kV dc pm:Value) (an:Option Addr) (cd ct:Value) (sl:Array (Option Value)),K.lookup f=some ⟨oc,od,.func (cx x q (o9 st) (mC st) (i3 st) .none kV dc pm an cd ct),sl⟩/\fj K cd q=true/\bo K (.ref f)=true/\d=cx x q (o9 st) (mC st) (i3 st) .none kV dc pm an cd ct
theorem GZ.fn{K:ah}{f:Addr}{x q:Str}{st:Stmt}{d:FuncData}(h:GZ K f x q st d):DC K x q st f d:=by
 obtain⟨oc,od,kV,dc,pm,an,cd,ct,sl,l,e,k,rfl⟩:=h.ex;exact RK (st:=st) l e k
theorem GZ.kp{K:ah}{f:Addr}{x q:Str}{st:Stmt}{d:FuncData}(h:GZ K f x q st d):bo K (.ref f)=true:=by
 obtain⟨oc,od,kV,dc,pm,an,cd,ct,sl,l,e,k,rfl⟩:=h.ex;exact k
noncomputable def oN (K:ah) (x:Str) (st:Stmt):Prop:=∃f d,aO K mainGlobals x=some (some (.ref f))/\GZ K f x x st d
noncomputable def vA (K:ah) (C:Addr) (x q:Str) (st:Stmt):Prop:=∃f d,aB K (.ref C) x=some (some (.ref f))/\b_ K (.ref f)=true/\GZ K f x q st d
section
variable{K:ah}{x q:Str}{st:Stmt}{C:Addr}{ps:List Str}{h:Heap}{mg:Str->Option Value}
theorem EG.of(X:K.In h)(G:h.Ns mainGlobals mg)(D:oN K x st)(b:∀(kV doc pm:Value) (an:Option Addr) (cdv ct:Value) (us:List Value),us.length=ps.length->bindArgs (cx x x (o9 st) (mC st) (i3 st) .none kV doc pm an cdv ct) ⟨us,[]⟩=pure (ps.zip us)):EG K mg x st ps:=let ⟨f,d,g,l⟩:=D;⟨f,d,l.fn,l.fn.binds b,bb X G g⟩
theorem EM.of(D:vA K C x q st)(b:∀(kV doc pm:Value) (an:Option Addr) (cdv ct:Value) (us:List Value),us.length=ps.length->bindArgs (cx x q (o9 st) (mC st) (i3 st) .none kV doc pm an cdv ct) ⟨us,[]⟩=pure (ps.zip us)):EM K C x q st ps:=let ⟨f,d,a,i,l⟩:=D;⟨f,d,l.fn,l.fn.binds b,⟨a,i,l.kp⟩⟩
end
theorem all_mk{l:fX}{w:World}{K:ah}{h:Heap}{mg:Str->Option Value}{fa k_ lE kZ lF kK kY kX k8 lj kG Hi i7 i_ jh jB jF jG jM jz kW jw lT jC:Addr}  {t_NOTHING:Tok}{t_MOST_NUMBER:Tok}{t_MOST_PLACE:Tok}{t_MOST_SLOTS:Tok}{t_MOST_AGE:Tok}{t_MOST_WORDS:Tok}{t_LEAST_OLD_WORDS:Tok}{t_MOST_OLD_WORDS:Tok}{t_LEAST_YOUNG_WORDS:Tok}{t_MOST_YOUNG_WORDS:Tok}{t_MOST_HANDS:Tok}{mB mY my mZ lR mv mn mz kJ ke Kq:FuncData}
  (X:K.In h) (G:h.Ns mainGlobals mg) (hfa:mg "law"=some (.ref fa))
  (B1:aO K mainGlobals "Memory"=some (some (.ref i7)))
  (wU:aO K mainGlobals "Space"=some (some (.ref i_)))
  (Fo:aO K mainGlobals "Areas"=some (some (.ref jh)))
  (I_:aO K mainGlobals "Book"=some (some (.ref jB)))
  (Fp:aO K mainGlobals "Hands"=some (some (.ref jF)))
  (Fq:aO K mainGlobals "Lasts"=some (some (.ref jG)))
  (Ja:aO K mainGlobals "Weak"=some (some (.ref jM)))
  (Fs:aO K mainGlobals "Roots"=some (some (.ref jz)))
  (pg_Memory:bG K i7 dN=true)
  (hd_Memory:bI K i7=true)
  (po_Memory:bN K i7=true)
  (sa_Memory:aB K (.ref i7) "__setattr__"=some (some (.builtin "object.__setattr__")))
  (AI:bW K i7=true)
  (kc_Memory:bo K (.ref i7)=true)
  (lB:aB K (.ref i7) "size"=some none)
  (kH:aB K (.ref i7) "words"=some none)
  (pg_Space:bG K i_ dN=true)
  (hd_Space:bI K i_=true)
  (po_Space:bN K i_=true)
  (sa_Space:aB K (.ref i_) "__setattr__"=some (some (.builtin "object.__setattr__")))
  (uw:bW K i_=true)
  (kc_Space:bo K (.ref i_)=true)
  (kR:aB K (.ref i_) "begin"=some none)
  (pq:aB K (.ref i_) "end"=some none)
  (lb:aB K (.ref i_) "top"=some none)
  (pg_Areas:bG K jh dN=true)
  (hd_Areas:bI K jh=true)
  (po_Areas:bN K jh=true)
  (sa_Areas:aB K (.ref jh) "__setattr__"=some (some (.builtin "object.__setattr__")))
  (Cw:bW K jh=true)
  (kc_Areas:bo K (.ref jh)=true)
  (ji:aB K (.ref jh) "memory"=some none)
  (j9:aB K (.ref jh) "old"=some none)
  (kA:aB K (.ref jh) "young"=some none)
  (kQ:aB K (.ref jh) "spare"=some none)
  (pg_Book:bG K jB dN=true)
  (hd_Book:bI K jB=true)
  (po_Book:bN K jB=true)
  (sa_Book:aB K (.ref jB) "__setattr__"=some (some (.builtin "object.__setattr__")))
  (FL:bW K jB=true)
  (kc_Book:bo K (.ref jB)=true)
  (kh:aB K (.ref jB) "written"=some none)
  (pg_Hands:bG K jF dN=true)
  (hd_Hands:bI K jF=true)
  (po_Hands:bN K jF=true)
  (sa_Hands:aB K (.ref jF) "__setattr__"=some (some (.builtin "object.__setattr__")))
  (Cy:bW K jF=true)
  (kc_Hands:bo K (.ref jF)=true)
  (lA:aB K (.ref jF) "words"=some none)
  (pg_Lasts:bG K jG dN=true)
  (hd_Lasts:bI K jG=true)
  (po_Lasts:bN K jG=true)
  (sa_Lasts:aB K (.ref jG) "__setattr__"=some (some (.builtin "object.__setattr__")))
  (Cz:bW K jG=true)
  (kc_Lasts:bo K (.ref jG)=true)
  (mG:aB K (.ref jG) "waiting"=some none)
  (oU:aB K (.ref jG) "spoken"=some none)
  (pg_Weak:bG K jM dN=true)
  (hd_Weak:bI K jM=true)
  (po_Weak:bN K jM=true)
  (sa_Weak:aB K (.ref jM) "__setattr__"=some (some (.builtin "object.__setattr__")))
  (FN:bW K jM=true)
  (kc_Weak:bo K (.ref jM)=true)
  (pv:aB K (.ref jM) "told"=some none)
  (pg_Roots:bG K jz dN=true)
  (hd_Roots:bI K jz=true)
  (po_Roots:bN K jz=true)
  (sa_Roots:aB K (.ref jz) "__setattr__"=some (some (.builtin "object.__setattr__")))
  (CA:bW K jz=true)
  (kc_Roots:bo K (.ref jz)=true)
  (jQ:aB K (.ref jz) "hands"=some none)
  (kM:aB K (.ref jz) "book"=some none)
  (nI:aB K (.ref jz) "weaks"=some none)
  (nH:aB K (.ref jz) "lasts"=some none)
  (a_Space_init:aB K (.ref i_) "__init__"=some (some (.ref k_)))
  (i_Space_init:b_ K (.ref k_)=true)
  (a_Book_init:aB K (.ref jB) "__init__"=some (some (.ref lE)))
  (i_Book_init:b_ K (.ref lE)=true)
  (a_Lasts_init:aB K (.ref jG) "__init__"=some (some (.ref kZ)))
  (i_Lasts_init:b_ K (.ref kZ)=true)
  (a_Weak_init:aB K (.ref jM) "__init__"=some (some (.ref lF)))
  (i_Weak_init:b_ K (.ref lF)=true)
  (a_Memory_init:aB K (.ref i7) "__init__"=some (some (.ref kK)))
  (i_Memory_init:b_ K (.ref kK)=true)
  (a_Hands_init:aB K (.ref jF) "__init__"=some (some (.ref kY)))
  (i_Hands_init:b_ K (.ref kY)=true)
  (a_Areas_init:aB K (.ref jh) "__init__"=some (some (.ref kX)))
  (i_Areas_init:b_ K (.ref kX)=true)
  (a_Roots_init:aB K (.ref jz) "__init__"=some (some (.ref k8)))
  (i_Roots_init:b_ K (.ref k8)=true)
  (qy:aO K mainGlobals "collect_all"=some (some (.ref lj)))
  (oQ:aO K mainGlobals "collect_young"=some (some (.ref kG)))
  (g_law:aO K mainGlobals "law"=some (some (.ref Hi)))
  (pL:aO K mainGlobals "NOTHING"=some (some (.int (-1) t_NOTHING)))
  (oC:aO K mainGlobals "MOST_NUMBER"=some (some (.int (1000000000000) t_MOST_NUMBER)))
  (tK:aO K mainGlobals "MOST_PLACE"=some (some (.int (9999) t_MOST_PLACE)))
  (pI:aO K mainGlobals "MOST_SLOTS"=some (some (.int (8) t_MOST_SLOTS)))
  (mU:aO K mainGlobals "MOST_AGE"=some (some (.int (2) t_MOST_AGE)))
  (tL:aO K mainGlobals "MOST_WORDS"=some (some (.int (4000) t_MOST_WORDS)))
  (nU:aO K mainGlobals "LEAST_OLD_WORDS"=some (some (.int (4) t_LEAST_OLD_WORDS)))
  (om:aO K mainGlobals "MOST_OLD_WORDS"=some (some (.int (2000) t_MOST_OLD_WORDS)))
  (mM:aO K mainGlobals "LEAST_YOUNG_WORDS"=some (some (.int (2) t_LEAST_YOUNG_WORDS)))
  (mV:aO K mainGlobals "MOST_YOUNG_WORDS"=some (some (.int (500) t_MOST_YOUNG_WORDS)))
  (tJ:aO K mainGlobals "MOST_HANDS"=some (some (.int (6) t_MOST_HANDS)))
  (FO:aO K mainGlobals "bool"=some none)
  (m9:aO K mainGlobals "enumerate"=some none)
  (HI:aO K mainGlobals "int"=some none)
  (ky:aO K mainGlobals "isinstance"=some none)
  (mI:aO K mainGlobals "len"=some none)
  (qA:aO K mainGlobals "list"=some none)
  (mR:aO K mainGlobals "range"=some none)
  (rK:aO K mainGlobals "sorted"=some none)
  (FP:aO K mainGlobals "tuple"=some none)
  (KS:aO K mainGlobals "zip"=some none)
  (wc:oN K "is_whole" wz)
  (we:oN K "meet_new" wA)
  (pX:oN K "_law_cell_at" p_)
  (uL:oN K "_law_next" uX)
  (uM:oN K "_law_word" uY)
  (vZ:oN K "_law_met" qc)
  (sD:oN K "_law_drawn" tf)
  (sA:oN K "_law_alike" s_)
  (sC:oN K "_law_apart" pH)
  (uP:oN K "is_within" u4)
  (vY:oN K "_law_due" qb)
  (uO:oN K "is_number" u3)
  (wa:oN K "is_place" wy)
  (sN:oN K "want_slots" tF)
  (AM:oN K "is_head" AR)
  (JC:oN K "fits" JL)
  (qP:oN K "want_number" q8)
  (sL:oN K "want_place" tE)
  (JD:oN K "kind" JM)
  (qM:oN K "number_word" qY)
  (sI:oN K "place_word" tB)
  (F9:oN K "worth" Gi)
  (uN:oN K "head_word" uZ)
  (qK:oN K "head_number" qW)
  (F4:oN K "shown" Gg)
  (qQ:oN K "word_behind" q9)
  (qL:oN K "is_of_young" qX)
  (Oc:oN K "lay" Od)
  (wg:oN K "slots_of" wB)
  (CQ:oN K "age_of" CZ)
  (JH:oN K "send" JP)
  (AQ:oN K "sent_to" AU)
  (sE:oN K "_law_write" tj)
  (wj:oN K "words_of" wC)
  (JB:oN K "aged" JK)
  (qO:oN K "slot_places" qZ)
  (F2:oN K "moved" Ge)
  (v7:oN K "children" qd)
  (qN:oN K "shown_slots" ou)
  (F1:oN K "goals" Gb)
  (F3:oN K "renew" Gf)
  (F6:oN K "slide" Gh)
  (CT:oN K "copied" C0)
  (sJ:oN K "renew_book" tD)
  (AO:oN K "reached" AS)
  (sG:oN K "copy_young" tq)
  (AN:oN K "picture" rM)
  (JF:oN K "meet" JN)
  (uK:oN K "_law_laid" qu)
  (uQ:oN K "meet_slot" u5)
  (v_:oN K "copy_met" wu)
  (sr:vA K i_ "room" "Space.room" sX)
  (sv:vA K i_ "used" "Space.used" sZ)
  (qJ:vA K i_ "empty" "Space.empty" qV)
  (sh:vA K jh "flip" "Areas.flip" sO)
  (qG:vA K jB "places" "Book.places" qR)
  (si:vA K jB "clear" "Book.clear" sQ)
  (uF:vA K jF "row" "Hands.row" uU)
  (oX:vA K jG "pending" "Lasts.pending" mS)
  (sx:vA K jM "names" "Weak.names" pG)
  (su:vA K i_ "take" "Space.take" sY)
  (mJ:vA K i7 "want_place" "Memory.want_place" mK)
  (lU:vA K i7 "want_stretch" "Memory.want_stretch" lV)
  (uH:vA K i_ "has" "Space.has" uV)
  (nP:vA K jF "want_hand" "Hands.want_hand" nR)
  (uG:vA K jG "say" "Lasts.say" Bg)
  (qI:vA K i7 "read" "Memory.read" qU)
  (qH:vA K i7 "copy" "Memory.copy" qS)
  (oV:vA K jh "area_of" "Areas.area_of" oY)
  (pU:vA K i7 "write" "Memory.write" pY)
  (sj:vA K jB "write" "Book.write" sR)
  (vW:vA K jB "has" "Book.has" wm)
  (uE:vA K jF "put" "Hands.put" uT)
  (sk:vA K jG "move" "Lasts.move" Ah)
  (uJ:vA K jM "move" "Weak.move" Bi)
  (uI:vA K jM "gone" "Weak.gone" Bh)
  (vX:vA K jB "rub" "Book.rub" wt)
  (pW:vA K jz "starts" "Roots.starts" nS)
  (n_:vA K jh "lay_into" "Areas.lay_into" oa)
  (pV:vA K jz "follow" "Roots.follow" pZ)
  (nO:vA K jh "lay_young" "Areas.lay_young" nQ)
  (oW:vA K jh "lay_old" "Areas.lay_old" oZ)
  (l_Space_init:GZ K k_ "__init__" "Space.__init__" sV mB)
  (l_Book_init:GZ K lE "__init__" "Book.__init__" uS mY)
  (l_Lasts_init:GZ K kZ "__init__" "Lasts.__init__" sT my)
  (l_Weak_init:GZ K lF "__init__" "Weak.__init__" uW mZ)
  (l_Memory_init:GZ K kK "__init__" "Memory.__init__" qT lR)
  (l_Hands_init:GZ K kY "__init__" "Hands.__init__" sS mv)
  (l_Areas_init:GZ K kX "__init__" "Areas.__init__" sP mn)
  (l_Roots_init:GZ K k8 "__init__" "Roots.__init__" sU mz)
  (l_collect_all:GZ K lj "collect_all" "collect_all" oq kJ)
  (l_collect_young:GZ K kG "collect_young" "collect_young" lP ke)
  (l_law:GZ K Hi "law" "law" Ai Kq)
  (n9:ke.code= .ref kW)
  (pS:kJ.code= .ref lT)
  (nY:b7 K kW jw=true)
  (pP:b7 K lT jC=true)
  (oR:bw K (.type "NoneType") (.type "int")=some false)
  (r0:bw K (.type "int") (.type "int")=some true)
  (qo:bw K (.type "int") (.type "bool")=some false)
  (pj:bw K (.type "list") (.type "list")=some true)
  (r6:bw K (.type "tuple") (.type "int")=some false)
  (pT:bw K (.type "tuple") (.type "tuple")=some true)
  :∃fd:FuncData,(∀(s:Shared) (v:Value),BindsTo s fd ⟨[v],[]⟩ [("_law_script",v)])/\∀base:Heap,K.In base->base.Ns mainGlobals mg->lZ l.prog w K mg base (tX l.prog w) true 15 fa fd ["_law_script"] (BK K jw jC):=by
 have e:=hfa.symm.trans (bb X G g_law)
 cases e
 obtain⟨oc,od,kV,dc,pm,an,cd,ct,sl,_,_,_,rfl⟩:=id l_law.ex
 let A:Ad:=⟨k_,mB,lE,mY,kZ,my,lF,mZ,kK,lR,kY,mv,kX,mn,k8,mz,lj,kJ,kG,ke,fa,(cx "law" "law" (o9 Ai) (mC Ai) (i3 Ai) .none kV dc pm an cd ct),kW,jw,lT,jC,i7,i_,jh,jB,jF,jG,jM,jz⟩
 have T:Txt K mg A:=⟨.of X G wc λ_ _ _ _ _ _=>As λ_=>rfl,
  .of X G we λ_ _ _ _ _ _=>DJ λ_ _ _=>rfl,
  l_Space_init.fn,
  l_Space_init.fn.binds (ps:=["self","begin","end"]) λ_ _ _ _ _ _=>DJ λ_ _ _=>rfl,
  .of sr λ_ _ _ _ _ _=>As λ_=>rfl,
  .of sv λ_ _ _ _ _ _=>As λ_=>rfl,
  .of qJ λ_ _ _ _ _ _=>As λ_=>rfl,
  .of sh λ_ _ _ _ _ _=>As λ_=>rfl,
  l_Book_init.fn,
  l_Book_init.fn.binds (ps:=["self"]) λ_ _ _ _ _ _=>As λ_=>rfl,
  .of qG λ_ _ _ _ _ _=>As λ_=>rfl,
  .of si λ_ _ _ _ _ _=>As λ_=>rfl,
  .of uF λ_ _ _ _ _ _=>As λ_=>rfl,
  l_Lasts_init.fn,
  l_Lasts_init.fn.binds (ps:=["self"]) λ_ _ _ _ _ _=>As λ_=>rfl,
  .of oX λ_ _ _ _ _ _=>As λ_=>rfl,
  l_Weak_init.fn,
  l_Weak_init.fn.binds (ps:=["self"]) λ_ _ _ _ _ _=>As λ_=>rfl,
  .of sx λ_ _ _ _ _ _=>As λ_=>rfl,
  .of X G pX λ_ _ _ _ _ _=>rz λ_ _=>rfl,
  .of X G uL λ_ _ _ _ _ _=>As λ_=>rfl,
  .of X G uM λ_ _ _ _ _ _=>rz λ_ _=>rfl,
  .of X G vZ λ_ _ _ _ _ _=>rz λ_ _=>rfl,
  .of X G sD λ_ _ _ _ _ _=>rz λ_ _=>rfl,
  .of X G sA λ_ _ _ _ _ _=>rz λ_ _=>rfl,
  .of X G sC λ_ _ _ _ _ _=>As λ_=>rfl,
  .of X G uP λ_ _ _ _ _ _=>DJ λ_ _ _=>rfl,
  .of su λ_ _ _ _ _ _=>rz λ_ _=>rfl,
  .of X G vY λ_ _ _ _ _ _=>DJ λ_ _ _=>rfl,
  .of X G uO λ_ _ _ _ _ _=>As λ_=>rfl,
  .of X G wa λ_ _ _ _ _ _=>As λ_=>rfl,
  .of X G sN λ_ _ _ _ _ _=>As λ_=>rfl,
  .of X G AM λ_ _ _ _ _ _=>As λ_=>rfl,
  .of X G JC λ_ _ _ _ _ _=>DJ λ_ _ _=>rfl,
  l_Memory_init.fn,
  l_Memory_init.fn.binds (ps:=["self","size"]) λ_ _ _ _ _ _=>rz λ_ _=>rfl,
  .of mJ λ_ _ _ _ _ _=>rz λ_ _=>rfl,
  .of lU λ_ _ _ _ _ _=>DJ λ_ _ _=>rfl,
  .of uH λ_ _ _ _ _ _=>rz λ_ _=>rfl,
  l_Hands_init.fn,
  l_Hands_init.fn.binds (ps:=["self","many"]) λ_ _ _ _ _ _=>rz λ_ _=>rfl,
  .of nP λ_ _ _ _ _ _=>rz λ_ _=>rfl,
  .of uG λ_ _ _ _ _ _=>rz λ_ _=>rfl,
  .of X G qP λ_ _ _ _ _ _=>As λ_=>rfl,
  .of X G sL λ_ _ _ _ _ _=>As λ_=>rfl,
  .of X G JD λ_ _ _ _ _ _=>As λ_=>rfl,
  .of qI λ_ _ _ _ _ _=>rz λ_ _=>rfl,
  .of qH λ_ _ _ _ _ _=>Tg λ_ _ _ _=>rfl,
  .of oV λ_ _ _ _ _ _=>rz λ_ _=>rfl,
  .of X G qM λ_ _ _ _ _ _=>As λ_=>rfl,
  .of X G sI λ_ _ _ _ _ _=>As λ_=>rfl,
  .of X G F9 λ_ _ _ _ _ _=>As λ_=>rfl,
  .of pU λ_ _ _ _ _ _=>DJ λ_ _ _=>rfl,
  l_Areas_init.fn,
  l_Areas_init.fn.binds (ps:=["self","old_words","young_words"]) λ_ _ _ _ _ _=>DJ λ_ _ _=>rfl,
  .of sj λ_ _ _ _ _ _=>rz λ_ _=>rfl,
  .of vW λ_ _ _ _ _ _=>rz λ_ _=>rfl,
  .of uE λ_ _ _ _ _ _=>DJ λ_ _ _=>rfl,
  .of sk λ_ _ _ _ _ _=>DJ λ_ _ _=>rfl,
  .of uJ λ_ _ _ _ _ _=>DJ λ_ _ _=>rfl,
  .of uI λ_ _ _ _ _ _=>rz λ_ _=>rfl,
  l_Roots_init.fn,
  l_Roots_init.fn.binds (ps:=["self","many"]) λ_ _ _ _ _ _=>rz λ_ _=>rfl,
  .of X G uN λ_ _ _ _ _ _=>rz λ_ _=>rfl,
  .of X G qK λ_ _ _ _ _ _=>rz λ_ _=>rfl,
  .of X G F4 λ_ _ _ _ _ _=>rz λ_ _=>rfl,
  .of vX λ_ _ _ _ _ _=>rz λ_ _=>rfl,
  .of pW λ_ _ _ _ _ _=>As λ_=>rfl,
  .of X G qQ λ_ _ _ _ _ _=>rz λ_ _=>rfl,
  .of X G qL λ_ _ _ _ _ _=>rz λ_ _=>rfl,
  .of X G Oc λ_ _ _ _ _ _=>DJ λ_ _ _=>rfl,
  .of X G wg λ_ _ _ _ _ _=>rz λ_ _=>rfl,
  .of X G CQ λ_ _ _ _ _ _=>rz λ_ _=>rfl,
  .of X G JH λ_ _ _ _ _ _=>DJ λ_ _ _=>rfl,
  .of X G AQ λ_ _ _ _ _ _=>rz λ_ _=>rfl,
  .of X G sE λ_ _ _ _ _ _=>WI λ_ _ _ _ _ _=>rfl,
  .of X G wj λ_ _ _ _ _ _=>rz λ_ _=>rfl,
  .of X G JB λ_ _ _ _ _ _=>DJ λ_ _ _=>rfl,
  .of X G qO λ_ _ _ _ _ _=>rz λ_ _=>rfl,
  .of X G F2 λ_ _ _ _ _ _=>rz λ_ _=>rfl,
  .of X G v7 λ_ _ _ _ _ _=>rz λ_ _=>rfl,
  .of X G qN λ_ _ _ _ _ _=>DJ λ_ _ _=>rfl,
  .of n_ λ_ _ _ _ _ _=>Tg λ_ _ _ _=>rfl,
  .of pV λ_ _ _ _ _ _=>rz λ_ _=>rfl,
  .of X G F1 λ_ _ _ _ _ _=>rz λ_ _=>rfl,
  .of X G F3 λ_ _ _ _ _ _=>DJ λ_ _ _=>rfl,
  .of X G F6 λ_ _ _ _ _ _=>DJ λ_ _ _=>rfl,
  .of X G CT λ_ _ _ _ _ _=>Tg λ_ _ _ _=>rfl,
  .of X G sJ λ_ _ _ _ _ _=>DJ λ_ _ _=>rfl,
  .of X G AO λ_ _ _ _ _ _=>rz λ_ _=>rfl,
  .of nO λ_ _ _ _ _ _=>rz λ_ _=>rfl,
  .of oW λ_ _ _ _ _ _=>rz λ_ _=>rfl,
  .of X G sG λ_ _ _ _ _ _=>rz λ_ _=>rfl,
  .of X G AN λ_ _ _ _ _ _=>rz λ_ _=>rfl,
  l_collect_all.fn,
  l_collect_all.fn.binds (ps:=["areas","roots"]) λ_ _ _ _ _ _=>rz λ_ _=>rfl,
  pS,
  pP,
  bb X G qy,
  .of X G JF λ_ _ _ _ _ _=>DJ λ_ _ _=>rfl,
  .of X G uK λ_ _ _ _ _ _=>DJ λ_ _ _=>rfl,
  .of X G uQ λ_ _ _ _ _ _=>DJ λ_ _ _=>rfl,
  .of X G v_ λ_ _ _ _ _ _=>rz λ_ _=>rfl,
  l_collect_young.fn,
  l_collect_young.fn.binds (ps:=["areas","roots"]) λ_ _ _ _ _ _=>rz λ_ _=>rfl,
  n9,
  nY,
  bb X G oQ,
  l_law.fn,
  bb X G B1,
  ⟨pg_Memory,hd_Memory,po_Memory,sa_Memory⟩,
  ⟨AI,a_Memory_init,i_Memory_init,kc_Memory⟩,
  lB,
  kH,
  bb X G wU,
  ⟨pg_Space,hd_Space,po_Space,sa_Space⟩,
  ⟨uw,a_Space_init,i_Space_init,kc_Space⟩,
  kR,
  pq,
  lb,
  bb X G Fo,
  ⟨pg_Areas,hd_Areas,po_Areas,sa_Areas⟩,
  ⟨Cw,a_Areas_init,i_Areas_init,kc_Areas⟩,
  ji,
  j9,
  kA,
  kQ,
  bb X G I_,
  ⟨pg_Book,hd_Book,po_Book,sa_Book⟩,
  ⟨FL,a_Book_init,i_Book_init,kc_Book⟩,
  kh,
  bb X G Fp,
  ⟨pg_Hands,hd_Hands,po_Hands,sa_Hands⟩,
  ⟨Cy,a_Hands_init,i_Hands_init,kc_Hands⟩,
  lA,
  bb X G Fq,
  ⟨pg_Lasts,hd_Lasts,po_Lasts,sa_Lasts⟩,
  ⟨Cz,a_Lasts_init,i_Lasts_init,kc_Lasts⟩,
  mG,
  oU,
  bb X G Ja,
  ⟨pg_Weak,hd_Weak,po_Weak,sa_Weak⟩,
  ⟨FN,a_Weak_init,i_Weak_init,kc_Weak⟩,
  pv,
  bb X G Fs,
  ⟨pg_Roots,hd_Roots,po_Roots,sa_Roots⟩,
  ⟨CA,a_Roots_init,i_Roots_init,kc_Roots⟩,
  jQ,
  kM,
  nI,
  nH,
  ⟨_,bb X G pL,⟨_,rfl⟩⟩,
  ⟨_,bb X G oC,⟨_,rfl⟩⟩,
  ⟨_,bb X G tK,⟨_,rfl⟩⟩,
  ⟨_,bb X G pI,⟨_,rfl⟩⟩,
  ⟨_,bb X G mU,⟨_,rfl⟩⟩,
  ⟨_,bb X G tL,⟨_,rfl⟩⟩,
  ⟨_,bb X G nU,⟨_,rfl⟩⟩,
  ⟨_,bb X G om,⟨_,rfl⟩⟩,
  ⟨_,bb X G mM,⟨_,rfl⟩⟩,
  ⟨_,bb X G mV,⟨_,rfl⟩⟩,
  ⟨_,bb X G tJ,⟨_,rfl⟩⟩,
  oR,
  r0,
  qo,
  pj,
  r6,
  pT,
  bJ X G FO,
  bJ X G m9,
  bJ X G HI,
  bJ X G ky,
  bJ X G mI,
  bJ X G qA,
  bJ X G mR,
  bJ X G rK,
  bJ X G FP,
  bJ X G KS⟩
 exact⟨_,λs v=> .of_eq rfl,λbase _ _=>Sg T⟩
theorem walk{l:fX}{q:Program}{loose:List Str}{XP:(Str->Option Value)->Heap->Prop}{d:DefRec}{K:Params->ah}{as:List Addr}{e:∀P,as=(K P).map (·.1)}{jw jC:Addr}(hn:l.most=some 63)(hdf:d.params.defaults=[])
  (hK_collect_young:∀w:World,(K w.params).lookup jw=none) (hc_collect_young:∀w:World,∃c,b7 (K w.params) c jw=true)
  (hK_collect_all:∀w:World,(K w.params).lookup jC=none) (hc_collect_all:∀w:World,∃c,b7 (K w.params) c jC=true)
  (F:∀(w:World) (mg:Str->Option Value) (fa:Addr) (h:Heap),(K w.params).In h->h.Ns mainGlobals mg->mg d.name=some (.ref fa)->
   ∃fd:FuncData,(∀(s:Shared) (u:Value),BindsTo s fd ⟨[u],[]⟩ [("_law_script",u)])/\∀base:Heap,(K w.params).In base->base.Ns mainGlobals mg->lZ l.prog w (K w.params) mg base (tX l.prog w) true 15 fa fd ["_law_script"] (BK (K w.params) jw jC)):
  iN q loose XP (PySem.W.kmHook K as e [jw,jC]).says l.row.toRowW d [] (λf vs=>iF f vs):=
 Internal.OE (ts:=[jw,jC]) (n:=63) (k:=15) (x:="_law_script") (ca:=true) (CX:=λw=>tX l.prog w) (sp:=λw=>BK (K w.params) jw jC) hn (by decide) hdf ⟨λ_=>rfl,by decide,by decide⟩ (λ_ _ Y=>PySem.W.km_in_of Y) (λ_ _ Y=>PySem.W.km_tabs_of Y)
  (λw=>List.forall_mem_cons.mpr ⟨hK_collect_young w,List.forall_mem_cons.mpr ⟨hK_collect_all w,λ_ z=>nomatch z⟩⟩) (λw=>List.forall_mem_cons.mpr ⟨hc_collect_young w,List.forall_mem_cons.mpr ⟨hc_collect_all w,λ_ z=>nomatch z⟩⟩) F (λ_ _ a ns hl hO hS=>⟨a,ns,rfl,V9 hO hS,hl,hO.2 _ (aq ..),hO.2 _ (ai _ (aq ..)),λ_=>rfl⟩)
  λ_ _ _ _ _ ⟨_,_,_,_,_,_,_,_,_,_,_,_,z⟩=>z
end
end Internal.K21
namespace PySem.W.Fast
local macro_rules|`(command|universe $u*)=>do return Lean.mkNullNode (←u.mapM λx=>do return (←`(command|theorem $x :True:=⟨⟩)).raw)
universe tw12426805477670756151 tw858059568791512355 tw2743615357577435531 tw7112852689619934553 tw13542864397671929045 tw3637825305586157406 tw794474893377864217 tw11663030958650314245 tw13496142492872368667 tw14355777313087818401 tw6971659659676403904 tw15214691677671454448 tw2083398484546744793 tw12560020772262923939 tw13922431036209358291 tw7766992772978619295 tw3004162699821628055 tw13203259395324916275 tw17285085593876103402 tw3150980829918757811 tw12207669509391338545 tw2324718870864517823 tw1359504015664548208 tw9321019249595328296 tw15842046556251893284 tw4357879691935278910 tw12674677695226793952 tw8216701296452836335 tw10727364059373616615 tw11418708639840368164 tw15175088814117809219 tw13697884280848985452 tw13260217936643096778 tw9261944889125227195 tw6198575487364306247 tw15880406431775001011 tw3164687825647966421 tw12044710724645488887 tw7387522900758431952 tw7337340086247101354 tw16463103750763954595 tw6303103872297675089 tw7998317931181078896 tw7409811611507979925 tw4325797016703174254 tw16375309286338555509 tw4182296057070230435 tw9997393286116940759 tw6351732918840272117 tw14690823260854976885 tw11336709734302824877 tw5411920553076510214 tw10650348002881175766 tw7905176518830885444 tw13596761730586299739 tw5209267339196997442 tw1995168511774660009 tw1911053049371834825 tw1820870598979222246 tw16759002547139144074 tw17760440835545096623 tw32748797735156923 tw8307841456782156457 tw9630942715318928293 tw7365113813075628930 tw13785427252456691361 tw8658095018042434144 tw11250017614558233695 tw15618496737674152412 tw7191255076408922977 tw7016888955424915922 tw13574005249042654227 tw2048102678786124199 tw4806657448131292550 tw14429452150923217557 tw7828790749027823276 tw10563619646393496485 tw5622008423058405951 tw9925325999610824511 tw4922154078594588499 tw9833300431964801717 tw512489625408425182 tw3266198082601923518 tw807991242063713169 tw14684242692559555570 tw8381336151986125082 tw4036780935426793205 tw917397620538090220 tw13642108384839641089 tw13588494905458893979 tw10535404158169841093 tw8124798671476065638 tw1350478212120982858 tw7228627453594850880 tw5572004889613362365 tw17895622364907414929 tw2362057059419521036 tw4465332937783219816 tw9626110918430734186 tw8119417702770608088 tw17705312647370651156 tw8770283052704527443 tw11579254645024236861 tw3076439649088216786 tw15605157411268167009 tw16492353804451280577 tw6374218452009763918 tw17340381172088695697 tw16702229929685450376 tw1386788669386577037 tw15566590515820062273 tw2655737594400173781 tw14337265321238182971 tw11780079084224529696 tw16337488147805058435 tw7739715607840947016 tw2834451406951082358 tw12307879767973081747 tw10380695334384690998 tw14958848786390684692 tw921064022971066586 tw2800409426290930225 tw3791305521132666778 tw14745876088498093432 tw10050481331577397322 tw5618177951741535277 tw16497764379748198860 tw15045665954261937877 tw15366236131545671475 tw13294403744709607341 tw16085906575276388041 tw3470611776585633295 tw1299271523538920615 tw9512718747298476758 tw1610620554719027902 tw11397542497165947379 tw1701090652745973954 tw4490210273138455792 tw1109911185281820449 tw13182680066202163057 tw2683716134423105586 tw10163105891011501240 tw14794883852907989886 tw4721111493782838469 tw14664670336142729286 tw10157752449716144921 tw2618341121998232272 tw1400426507997066714 tw14768911173383736478 tw892354062313461688 tw11132249616622517888 tw3411212269086589274 tw15185659863720517072 tw8601222795297428615 tw2014444321274594972 tw9834772672643851031 tw13596789986722283468 tw15549108392379164607 tw4525126120000090222 tw12704068704724699337 tw13453257717552738558 tw11080051396352810775 tw3133311790976310019 tw15809889250293408314 tw11599234910197747421 tw14852888360757823157 tw9432988250671604474 tw11059117695211073797 tw8746382680142526119 tw7430061826984661999 tw917223178957764341 tw4053716217955305870 tw8515296765373250095 tw12406196505026592507 tw14054363046289226465 tw13167996034206304292 tw1868934955676994675 tw8086448192939619821 tw1123598987991936909 tw14738105643600970921 tw5335034507290314058 tw9539638456220301736 tw15420344694356617694 tw14655715397330197609 tw5196470192985813152 tw6334215640745018981 tw10024473879109084769 tw9546611751664878579 tw18110470718729511681 tw15659412869177807572 tw16188756287086979655 tw9410055865179105418 tw10508909156034959731 tw13940590973994772354 tw16698818833637484426 tw12042185824554056158 tw7962445041590424118 tw9793351473382895833 tw10800276795285667795 tw5335653554056753676 tw14245402207195882701 tw5302572490742539572 tw5973929646598897754 tw4706374077644987160 tw6859326177395885049 tw14497115026481216050 tw1462500117883977186 tw4302452165396802045 tw12957570441415878663 tw16671141824729794889 tw4220632887203692668 tw1516243994545979714 tw10133296287977091454 tw9403814580715106591 tw14555923953292426506 tw1021735852348073009 tw13673867154877895379 tw6178261573176369145 tw11663399854459753073 tw5434801263630526530 tw6793812102203586821 tw12915405028200209203 tw17261696314047708092 tw8067748732848092503 tw14022925499809881302 tw14717552513952921406 tw14778503667352605205 tw1812430524840232697 tw15734163468450778025 tw6821306241769052390 tw187952514068614113 tw10573279173219513634 tw3891244725865347543 tw9187551875601172580 tw3090650199686853732 tw11405098683540208887 tw16579611147832005976 tw16460085585185673023 tw6300275741922699817 tw17419105865190637035 tw1932908910239219466 tw8552826343360638809 tw14847123489941722604 tw13938831587097745413 tw782259165986821336 tw14517303168413593212 tw14960249574007727596 tw15300279502008516861 tw7763676155354909715 tw3716429756394074531 tw16219182563779910094 tw12143759436124126610 tw15295782003064619319 tw782617745623801816 tw7329174225387166412 tw13523667266794517418 tw3621036260233215454 tw14837524268335261658 tw2028455348969505013 tw1468191102100633390 tw283187620278603796 tw16214165675040164805 tw17518214528721636880 tw10583065826662841080 tw19497865475377660 tw15774070905656816108 tw14441539315113701566 tw6056681451042248618 tw14909325864430390299 tw12366019012044021574 tw79427198089039377 tw11464063829890285718 tw7126277412368764944 tw12548191249543404351 tw18122802095996753223 tw3171953786644925793 tw4526202127424223402 tw936475270349023658 tw2511999024628593003 tw21919144508490487 tw12990852145068467683 tw14768473985238521589 tw15223969036263190160 tw7043040377090661552 tw15400448434606306578 tw9058187848519414992 tw14145021822088061369 tw654403608538839818 tw10479669282250395690 tw3440447970549571949 tw5023501724129420574 tw1446398101757044041 tw17823944825265744210 tw16525791718353984995 tw11466900834822950560 tw12715016373256063706 tw6869414390312660546 tw7735576745708769864 tw237643411377982191 tw7692466841430166574 tw1045150449340984619 tw339262449955273283 tw32024546833129865 tw8998841509529801848 tw8501427069372570129 tw344710963940856915 tw9034261266187097826 tw11136490859723629795 tw7626133870372934307 tw2238034184907882738 tw11754293817365338611 tw6761903589278151540 tw17082321284902119733 tw493651048065600496 tw11232322141355074463 tw2571531130786189168 tw840948162762158843 tw15547694110870480563 tw18129015883163573949 tw13331610441954580528 tw176322808779778204 tw16190622082211894114 tw7523123383583859565 tw13999518001888782790 tw9640063537866501965 tw16193020174316059906 tw5653020226187786632 tw7349168997607741355 tw9527237492285734662 tw5925812002510345096 tw15802525533404157909 tw6113564509594793031 tw1972529263989991519 tw2655005308965080157 tw1940225169570857307 tw3881167175284058301 tw3506856443853203626 tw11247218062233167347 tw13346901978509641441 tw5100706031413018853 tw9682016524608171928 tw8247941643573526512 tw13736810803404169157 tw12788363849374794003 tw17051846040166276241 tw8526107463846559361 tw16797692138978865016 tw1289537877327879892 tw8411740496753779021 tw8373033963091304676 tw8237099072054624548 tw12289772775027370086 tw11168263559581900756 tw13811478842036233370 tw18264790609977474406 tw11875219876276893537 tw3985070864319892468 tw11379047387543162364 tw10545413246622975019 tw2953418871153359405 tw8586888727851885078 tw17539821897140720157 tw7567055053866255122 tw13567099367242655249 tw156198458125169175 tw2790054765082703428 tw8463625569740025944 tw695084963088885850 tw6529765297904111789 tw6067913608290256223 tw11785738428337374258 tw16099188435733498299 tw8913346658957838330 tw7725790729868614140 tw8846730993725431205 tw9573187811152672825 tw15325770133605185604 tw13482118508449317673 tw16416435702111062650 tw8640390781731512852 tw12091557503425453888 tw1097749220308312268 tw7679747253192942256 tw3012613572782912607 tw170014584726797942 tw4511454951295785456 tw1739564865494701277 tw11881327254286873860 tw11059049448094821139 tw7453560385216048265 tw5985098974428712124 tw3279465749404239592 tw10914884648337340076 tw10184099802369604654 tw9110530466369977814 tw10377745733980479870 tw5629653430889932638 tw18158473797095188595 tw15030407643561726864 tw13997929038710983911 tw11158153975688357487 tw9524373557432241003 tw1435679573960336619 tw14774453735450152813 tw8571406044697492280 tw14817810476439069813 tw3390770069756476568 tw18328079723950333618 tw6319450030281040531 tw7128860864918457969 tw2399780008798699680 tw16256048776973283704 tw17787562472174622282 tw16103726541319625988 tw10361669583435541313 tw10824672245338531896 tw5488886529579512563 tw3265191180672364459 tw12197223534948100079 tw17542434093585929009 tw15187497038519242637 tw3055034612965220257 tw17146148600209531604 tw17778907042874360476 tw10057815009403609251 tw13937988779180001810 tw5580931216661831963 tw2040629897975838772 tw11062460257339549948 tw18244385478794318259 tw15879067398629807865 tw13844859826983211605 tw5569787553395710851 tw17591707336110311411 tw15622043768319158797 tw11220514089350735463 tw80542350864941559 tw7199621205766296382 tw698798095631186066 tw11562785544011479615 tw89191995077962411 tw15265824075816300940 tw4035650997835740112 tw6532374249508361803 tw10723425024701772682 tw7616915127374098227 tw15217170955221485161 tw6373447182235186667 tw531592694336296616 tw12929192494987670362 tw5253579440760455191 tw1057182461541238967 tw13735901596745654163 tw12743206978214551533 tw16578763074351657539 tw17660112224561722143 tw16806294925765667132 tw7686626546708265926 tw16210601231004979592 tw14402137672527898867 tw18132305747793121782 tw7139857633181266793 tw419099678998336142 tw9691867474009326052 tw1814545509085759396 tw7301187018168609176 tw7690127751122779835 tw3985614452336247948 tw2099703455905298883 tw2801798083185285598 tw13567488927875153435 tw1844540740452871733 tw5468597777839469676 tw10228756062319981663 tw15162900296801823861 tw1368359654077878597 tw10446468625626989085 tw16116202544679008434 tw2471522686254586438 tw9822736153996701188 tw3584602198299218805 tw14462181310761660117 tw1206407924204116897 tw7841364345453780516 tw12666631545013463668 tw13992352916952170029 tw6866738219108526375 tw3745100070041732966 tw12868552443184143693 tw9202291823081599730 tw6998887194480587012 tw7819929949504890201 tw16735304818154056862 tw9800070057283497470 tw10146006525732075662 tw8361965490994068014 tw16974543770363176594 tw6402319884403900627 tw5964948722575873228 tw5765267913833179725 tw17512525450511249473 tw11343706977255148644 tw14137889194487298753 tw4090434364315344607 tw2110911537993994531 tw8938745735667923141 tw4483881650283436764 tw9478829180066227396 tw10264670190187321286 tw6178350721728516460 tw7793622292080233310 tw6582666085132163464 tw7390553592843660383 tw4178609654886551273 tw13773139983672992360 tw12876989715059366277 tw3914704373211293618 tw8052650218317700411 tw6866319236405556664 tw10591178037811336840 tw16961063253810699476 tw11433471949797785518 tw10400465581535009685 tw13101821169719035856 tw15368097463843592899 tw14373343478694676181 tw470308607831855190 tw7132059005982567553 tw12361336236054505090 tw6284771491990344032 tw11892818805372895364 tw2371484135165916956 tw6620998716658352558 tw13809800454431542428 tw12621156712415697662 tw14251779025098079029 tw16609845956588644081 tw5362699429756370560 tw6451381816739064300 tw2812553694282369631 tw3670795194228717784 tw11900189059427997869 tw8374399318849238471 tw14389190913731240101 tw17685004383729000668 tw7616185725149823609 tw10242653532603590629 tw8261504635602049648 tw15682287408039255831 tw14525963248509457265 tw2045292838291045610 tw9042871127127936738 tw16945675025583961173 tw3073573978908497538 tw1596262817656011333 tw1256468970501716507 tw7813143967585153768 tw11450262884744829192 tw15461409789477385153 tw17098161924104443192 tw1598146803839073949 tw10173583883718060234 tw6783447312597531677 tw13124287441208703482 tw1330447456342443701 tw1457673093145964258 tw13957757964677582227 tw958051009224695115 tw5040562670933782679 tw6182454338874980301 tw8691655145699762318 tw12560451013748482730 tw954381807155814183 tw15083938579185261820 tw7503561101411369157 tw13862208362116482159 tw7653604044199249397 tw16862802904744032653 tw6921728729879396702 tw14418426654440297334 tw1896553502732398325 tw15699837523500432784 tw13625549109434693870 tw3474651735884400347 tw16883417006889816802 tw2176881357341323088 tw5849879741765181043 tw9299391370229602870 tw9265886499824967556 tw3024274902673453647 tw1298175943831054986 tw4000815582909101551 tw4103634922128523485 tw4818781707481231594 tw10413312012550446156 tw11565920765714831068 tw3614758700680145060 tw852220529799745941 tw4722619514646280896 tw2433988571654970561 tw3700885248524475054 tw1628022591458387881 tw14467550221383833569 tw16566537261553731482 tw10194937520814875507 tw16353730595494829811 tw16710560054339097251 tw16483257652107714381 tw8771790978343277444 tw13197816539931978428 tw7318759983703427053 tw10870665770069615326 tw2057690502540691241 tw5627892900262614334 tw4993852613678016101 tw3762280668882585491 tw9190508012984731081 tw5277678858113278956 tw4768827231930686950 tw6412932371016715966 tw1534424492893702901 tw13412218722054452366 tw16740993934807403823 tw1194193899986929282 tw5937842473981363263 tw14582339900273425903 tw1938070776118543502 tw4335885627112427494 tw13442062423588727239 tw3840358934670989507 tw1889606660825401538 tw16492478438556754530 tw16618543870176895372 tw17398438385804148210 tw13945207433714963205 tw9000529065814089275 tw11021672055630615904 tw15162941014756604547 tw17676308278251435799 tw4196966738527936408 tw1496340713624424890 tw13568616036322730837 tw14236917544023392183 tw4502276946181088464 tw13713389028670681228 tw4979992216265883061 tw13431034355855883040 tw10785309892282566214 tw16284831729382913369 tw6704987227157986956 tw4537265528020666849 tw16861455503146218123 tw4948524712419257 tw9343140312507454926 tw13708880574191540733 tw8182337184362156161 tw4596999562751152006 tw6569613515758586670 tw396939092291764917 tw15328845328874306590 tw1156317879917294343 tw3644254529594809494 tw16128388362583100885 tw14253144552918353953 tw15475388997138594556 tw4525612074916052499 tw11002022076074151523 tw15470033222489846547 tw13610525247917706501 tw12854816068890642909 tw13802381198423148355 tw12926780794116795050 tw6204141596193124222 tw17075405371705513425 tw1364556668159979393 tw8194810822760415109 tw13727257862358588962 tw2679050477074131476 tw3045509902947075937 tw5083898405978152912 tw15544862999938357810 tw13262484507403195443 tw15013856823589805184 tw2861532203841130198 tw3292089277307321599 tw8491212364087003992 tw10325787160743883481 tw5862549585365968668 tw12209767706116368507 tw234859601134207863 tw7672766393414730078 tw11404901404526878446 tw7252167121238700683 tw5480831418327730629 tw10954736790948363517 tw16273738340824403365 tw8044942651190949149 tw3381711671711650204 tw7306002461067921260 tw2376568937201871603 tw9763338529658743683 tw16552502254450016205 tw7725101470511652215 tw15254216681910402048 tw15173296718967143119 tw2104339987728242334 tw3525268141738055421 tw1117902764206304159 tw8937658419282391197 tw3522733936747136501 tw12145676847941484626 tw16457422039562644529 tw10969221432558222028 tw16320861126718822200 tw12054502148802453234 tw17468317082492355249 tw1771066197451934882 tw8554856234372832331 tw4895532479406345600 tw1898774604600634388 tw14998109804956871967 tw4013160785425818726 tw13415209729163944029 tw2465408598978751616 tw16721392106749164339 tw13435844301989564507 tw14136833236416835418 tw11979660791737569537 tw12341703338872669441 tw4554108795517980531 tw5469370160750268041 tw15365476550719662469 tw10541193726091809091 tw2915369177242621658 tw11573096939815317528 tw17695886118547318630 tw15129986239379636745 tw4052328761888163603 tw16634527710884814362 tw17301262165199150437 tw12396955455051633689 tw14995100838099546538 tw10295071132793772398 tw8113146275666880665 tw731476926567289248 tw16574569953055715142 tw16376256356475005696 tw9092257265593943852 tw5260464553107497841 tw6652376720933216445 tw5976137435313323319 tw12747850515431249612 tw12130046174051987370 tw3264166426046719650 tw7033005366835795703 tw10748124787939345403 tw8180114347061997933 tw14161528124627319060 tw15203020011742986495 tw15223049429045733532 tw7103554488483929531 tw7000841234326287339 tw7963954905769347543 tw4746840550676866276 tw13167195383532064906 tw17791851966739371358 tw12512847364606242362 tw10995272051512699124 tw3347439879593353093 tw3162224253813718042 tw15299610807600643609 tw7494132162742570802 tw13315055052991765661 tw11469678693850510765 tw14693966718609378027 tw955377408131100403 tw7303989238425623465 tw10487554923134731065 tw9705226066272951552 tw4785376558286406010 tw6854228908785407226 tw10026217065940189449 tw1386459714170286167 tw11899494243978427025 tw13895166312557198148 tw10605815512963038999 tw6734464381321372514 tw3940257281966302497 tw8091739115207431359 tw11404345579491933195 tw10805813200889724004 tw186181072638543246 tw14252396847966579475 tw6128781528007533504 tw8549209851850339927 tw6893419715916658013 tw17449532649679486071 tw14966327256326500827 tw18224343258177741235 tw3214381454650379387 tw11963217929222968427 tw10843555005661095391 tw3129861437053422464 tw5628011970599393758 tw16056787125641014840 tw11492894486622742424 tw7414740797807656273 tw2115504038462913696 tw11994113274625525980 tw1178228124632049593 tw5068765016535661859 tw11846076586860732900 tw10525696009827552884 tw4538210610978180379 tw7486890247456805995 tw15592942805747426476 tw6858789210311872732 tw12547501457743486178 tw16988113932319003406 tw2658389478141453341 tw16395250892918801577 tw17430351983350199943 tw11529680036519222831 tw165111592556664726 tw14916971311020563324 tw15533545384275430649 tw11721557506912217823 tw6530288334962082972 tw1862172188225047607 tw1278197570319315878 tw3772191477587921883 tw12162597045492687151 tw15945186885285351145 tw7300133833879549113 tw6307241463821989701 tw14497182590131002501 tw17316596426093674835 tw16422705944945176603 tw10292505157435442416 tw13891459179153295167 tw15002022580682808583 tw10454182195375110388 tw15412953952563516905 tw3699346173410706887 tw12168849599307752576 tw2734462231445225901 tw12041018619914386726 tw3929672289685066946 tw5471216265798802059 tw2149561758645420376 tw11948020267200535702 tw5994581766161368700 tw15415708409369527420 tw14779049173785848415 tw11365814137273893381 tw9715007702068224445 tw8785153128235929850 tw3077276257035959512 tw16928730102157836901 tw1039689106930658916 tw6560842687522195167 tw5305261134692870033 tw16326293409255146391 tw2528617972007813508 tw12052899281757234704 tw14645462494862803567 tw17060511298986114391 tw2080940224397815929 tw15621858641900907436 tw3880572652726683370 tw12815791035289435252 tw11134284728962369283 tw5235431641204683123 tw13969688452907643351 tw13520927148036630444 tw5444529942069145970 tw11549123322809441240 tw2549980639227110626 tw6897587132896237502 tw9323625503159975574 tw15430539099650591874 tw17533906953291205134 tw5409888013408985028 tw4416407217008092455 tw15070126484508615240 tw1701616751457098513 tw10259612265361322036 tw13375568778364616315 tw13079599569671487748 tw17870806707857450480 tw18076935579340012858 tw7368517219925645358 tw17445769916699408895 tw9299503505961924332 tw5720430087400578884 tw9157287212398254842 tw15391442547766135432 tw12478888475032611222 tw8208427417654615394 tw5843201570670344531 tw13631568941000055689 tw4967297208755177321 tw10146421448754704116 tw9321785235765538852 tw8117202777031531278 tw2189437953533565944 tw17878412528677782032 tw3767810038559759774 tw1133239940000537372 tw13063835717391478463 tw9681351615923096587 tw5874680007195890602 tw5901054070802787466
end PySem.W.Fast
end
open PySem PySem.W PyProof.Rows
set_option maxRecDepth 100000 in
set_option maxHeartbeats 0 in
theorem PySem.Challenge.cw_cellkeep_k21_pictures_holds : PySem.Challenge.rw_cellkeep_k21_pictures.Holds := by
 w_on; o_law; k_head; (case hw => w_witness2)
 k_fill
 refine Internal.K21.walk (l := PySem.Challenge.rw_cellkeep_k21_pictures) rfl rfl (fun _ => ?hK) (fun _ => ?hC) (fun _ => ?hK1) (fun _ => ?hC1) ?F
 case hK => kernel_rfl
 case hK1 => kernel_rfl
 case hC => exact ⟨843, by kernel_rfl⟩
 case hC1 => exact ⟨803, by kernel_rfl⟩
 case F =>
  intro w mg fa h KX G hmg;refine' Internal.K21.all_mk KX G hmg ?za ?zb ?zc ?zd ?ze ?zf ?zg ?zh ?zi ?zj ?zk ?zl ?zm ?zn ?zo ?zp ?zq ?zr ?zs ?zt ?zu ?zv ?zw ?zx ?zy ?zz ?zA ?zB ?zC ?zD ?zE ?zF ?zG ?zH ?zI ?zJ ?zK ?zL ?zM ?zN ?zO ?zP ?zQ ?zR ?zS ?zT ?zU ?zV ?zW ?zX ?zY ?zZ ?z0 ?z1 ?z2 ?z3 ?z4 ?z5 ?z6 ?z7 ?z8 ?z9 ?ya ?yb ?yc ?yd ?ye ?yf ?yg ?yh ?yi ?yj ?yk ?yl ?ym ?yn ?yo ?yp ?yq ?yr ?ys ?yt ?yu ?yv ?yw ?yx ?yy ?yz ?yA ?yB ?yC ?yD ?yE ?yF ?yG ?yH ?yI ?yJ ?yK ?yL ?yM ?yN ?yO ?yP ?yQ ?yR ?yS ?yT ?yU ?yV ?yW ?yX ?yY ?yZ ?y0 ?y1 ?y2 ?y3 ?y4 ?y5 ?y6 ?y7 ?y8 ?y9 ?xa ?xb ?xc ?xd ?xe ?xf ?xg ?xh ?xi ?xj ?xk ?xl ?xm ?xn ?xo ?xp ?xq ?xr ?xs ?xt ?xu ?xv ?xw ?xx ?xy ?xz ?xA ?xB ?xC ?xD ?xE ?xF ?xG ?xH ?xI ?xJ ?xK ?xL ?xM ?xN ?xO ?xP ?xQ ?xR ?xS ?xT ?xU ?xV ?xW ?xX ?xY ?xZ ?x0 ?x1 ?x2 ?x3 ?x4 ?x5 ?x6 ?x7 ?x8 ?x9 ?Za ?Zb ?Zc ?Zd ?Ze ?Zf ?Zg ?Zh ?Zi ?Zj ?Zk ?Zl ?Zm ?Zn ?Zo ?Zp ?Zq ?Zr ?Zs ?Zt ?Zu ?Zv ?Zw ?Zx ?Zy ?Zz ?ZA ?ZB ?ZC ?ZD ?ZE
  case za|zb|zc|zd|ze|zf|zg|zh|zi|zj|zk|zl|zm|zn|zo|zp|zq|zr|zs|zt|zu|zv|zw|zx|zy|zz|zA|zB|zC|zD|zE|zF|zG|zH|zI|zJ|zK|zL|zM|zN|zO|zP|zQ|zR|zS|zT|zU|zV|zW|zX|zY|zZ|z0|z1|z2|z3|z4|z5|z6|z7|z8|z9|ya|yb|yc|yd|ye|yf|yg|yh|yi|yj|yk|yl|ym|yn|yo|yp|yq|yr|ys|yt|yu|yv|yw|yx|yy|yz|yA|yB|yC|yD|yE|yF|yG|yH|yI|yJ|yK|yL|yM|yN|yO|yP|yQ|yR|yS|yT|yU|yV|yW|yX|yY|yZ => k_is
  case y0|y1|y2|y3|y4|y5|y6|y7|y8|y9|xa|xb|xc|xd|xe|xf|xg|xh|xi|xj|xk|xl|xm|xn|xo|xp|xq|xr|xs|xt|xu|xv|xw|xx|xy|xz|xA|xB|xC|xD|xE|xF|xG|xH|xI|xJ|xK|xL|xM|xN|xO => exact ⟨_, _, by k_is, ⟨⟨_, _, _, _, _, _, _, _, _, by k_is, by k_is, by k_is, rfl⟩⟩⟩
  case xP|xQ|xR|xS|xT|xU|xV|xW|xX|xY|xZ|x0|x1|x2|x3|x4|x5|x6|x7|x8|x9|Za|Zb|Zc|Zd|Ze|Zf|Zg|Zh|Zi|Zj => exact ⟨_, _, by k_is, by k_is, ⟨⟨_, _, _, _, _, _, _, _, _, by k_is, by k_is, by k_is, rfl⟩⟩⟩
  case Zk|Zl|Zm|Zn|Zo|Zp|Zq|Zr|Zs|Zt|Zu => exact ⟨⟨_, _, _, _, _, _, _, _, _, by k_is, by k_is, by k_is, rfl⟩⟩
  case Zv|Zw => rfl
  case Zx|Zy => kernel_rfl
  case Zz|ZA|ZB|ZC|ZD|ZE => kit_is
