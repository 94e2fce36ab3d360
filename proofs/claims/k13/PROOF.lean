import PyProof.Rows.All
import Wide.All
import OpenK.AllK
import Wide.FinOn
import Lean
import PyProof.EqAt
import PyProof.EqKinds
import PyProof.TupleCall
import PySem.Challenge.RW_cellkeep_k13_whole_young_book_and_names
set_option compiler.extract_closed false
set_option Elab.async false
set_option linter.all false
set_option maxRecDepth 100000
set_option maxHeartbeats 4000000
open PyProof.Rows.Boot renaming «len» -> ζl, «isinstance» -> ζi, «list» -> ζt, «sorted» -> ζs, «int» -> ζn
open List renaming length_map->aa,getElem?_eq_getElem->ab,getD_eq_getElem?_getD->ae,getElem?_map->ai,length_append->aj,replicate->ak,mem_cons_of_mem->ao,mem_cons_self->ax,mem_singleton->az,map_append->aB,map_cons->aE,length_cons->aF,not_mem_nil->aG,mem_append_right->aH,mem_of_getElem?->aJ,size_toArray->aL,append_nil->aM,length_set->aN,mem_cons->aP,mem_append_left->aQ,getElem?_set->aW,lookup->aX,length_replicate->ba,getElem_mem->bc,range->bh,map_map->bj,take_length->bo,map_congr_left->bt,mem_map_of_mem->bu,take_add_one->bx,getElem?_eq_none->bz,nodup_nil->bB,getElem?_append_right->bD,length_take->bE,all_cons->bF,filter_cons_of_neg->bG,filter_cons_of_pos->bH,length_range->bI,getElem?_append_left->bJ,sum_cons->bK,filterMap_cons->bP,find?_cons->bU,map_nil->bZ,getElem?_replicate->b_,append_assoc->cj,getElem?_zipWith->cy,cons_append->cz,mem_append->cG,length_zipWith->cK,replicate_succ->cN,lookup_cons->cU,length_filter_le->cV,nodup_cons->cY,zipWith->cZ,getElem_map->de,filter_append->dk,filter_map->du,filter_nil->dv,length_singleton->dA,flatMap_cons->dB,length_nil->dJ,pairwise_cons->dM,length->dN,flatten_cons->dP,filter_cons->dS,length_drop->dU,any_cons->dX,mem_or_eq_of_mem_set->dZ,eq_of_mem_replicate->d_,map_set->ei,ext_getElem?->eB,filter_congr->eJ,map_drop->eS,all_eq_true->eU,map_id'->eY,of_mem_zip->eZ,exists_mem_of_length_pos->fk,getElem?_range->fq,take_zero->fv,map_id->fA,map_replicate->fD,getElem?_take_of_lt->fL,sum_nil->fM,getElem?_cons_succ->fO,getElem?_cons_zero->fP,nil_append->fR,sum_append->fS,flatMap_singleton->fX,getElem?_set_self->fY,length_pos_of_mem->fZ,range_succ_eq_map->f9,take_of_length_le->f_,filterMap_append->gu,getElem?_set_ne->gH,map_take->gI,filter_sublist->gM,flatMap_append->gN,getElem?_drop->gZ,map_singleton->g9,mem_map->g_,any_eq_false->ib,foldl_append->ic,getElem_take->ie,all_toArray->ir,cons_ne_nil->iu,flatMap_nil->iw,map->iy,mem_flatMap->iz,nodup_range->iA,foldl->iG,forIn_cons->iH,mem_filter->iI,range_succ->iJ,mem_range->iP
open PySem.W renaming Frag->af,findIn->aC,nsIn->aV,mg_of->br,keepIn->bC,plainGet->bO,hasDictIn->bS,mg_none_of->bV,emptyDict->bW,plainOver->bX,isFn->cg,makesIn->cx,kitOne->cF,instObj->cI,fnOf->cQ,codeHdIn->df,hideAll_get->dY,kla_obj->d8,callWith_K->eA,methodCall_KW->eV,hideAll->fh,plainGet_of->ft,codeIn->fw,lookIn->fz,of_hideAll->fE,methodObj->fI,OpenLaw->fT,takerIn->fU,cellsFrom_some->gc,kla_fn->gA,callWith_K0->gR,codeHd_of_K->gS,envX->hV,handedIn->iD,kia_one->iL,WalkO->iS
open Ne renaming symm->ah
open Nat renaming le_refl->aq,lt_of_lt_of_le->av,le_trans->aA,ne_of_lt->aK,lt_of_le_of_lt->aT,lt_irrefl->bw,le_add_right->bM,zero_le->bR,succ_le_succ->cb,not_lt_zero->cq,le_succ->cO,zero_add->cP,le_of_lt->c8,min_self->c9,ne_of_gt->c_,lt_succ_self->dW,lt_trichotomy->eK,min_eq_left->e8,sub_self->e_,add_le_add_left->gP,le_of_eq->hE
open Prod renaming fst->au,snd->bN
open PySem.Heap renaming get?_push_of_some->ay,lt_size->aD,get?_push_size->bA,SameBut->d9,get?_update_other->eQ,get?_update_self->gm,size_push->gp,get?_none_of_le->gG,get?_update_ne->gL
open PySem.Str renaming ofString->aI,empty->dQ,ofString_eq_toList->gh
open PySem.Value renaming ref->aO,type->dj,int->dt,none->fK,str->fV,bool->iO,isStrOf->iT
open Bool renaming false_ne_true->aR,and_eq_true->bf,false_eq_true->dF,true_and->eR,noConfusion->eT,eq_iff_iff->eW,decide_and->iF
open Sum renaming inl->aS,inr->dg
open Int renaming toNat_natCast->aU,zero_add->bg,le_refl->b7,toNat_of_nonneg->cJ,emod_nonneg->cX,le_sub_one_of_lt->dC,emod_lt_of_pos->dH,mul_le_mul_of_nonneg_left->fj,emod_add_mul_ediv->gq,le_trans->gX,toNat->gY
open Option.some renaming inj->aY
open PySem.F renaming slot_list_append->aZ,type_list_append->a_,args_tuple_add_2->fN,entry_tuple_add->fQ,slot_tuple_add->gb,slot_dict_pop->gz
open Option renaming join_some->bq,map_some->fb,isSome_map->fH,or_none->gv,isSome_some->hU,getD_none->iB,getD_some->iC,map_map->iQ
open PyProof.Rows renaming callWith_type1->bQ,envOfC->gQ
open False renaming elim->bT
open True renaming intro->bY
open PySem renaming mem_of_lookup->cm,Within->hZ,call->iM
open PySem.NameKind renaming free->cD,cell->iR
open PySem.Obj renaming mapSeq->cT,data_mapFields->hJ
open PySem.Builtin.List renaming listTooLong->dD,listItems->eN
open Array renaming append_empty->dE,length_toList->fm,size_map->gj,toList_append->gK,append_assoc->gU
open ForInStep renaming yield->dG
open Sum.inl renaming inj->dO
open PySem.Around renaming in1_units->dR,frames_deeper->gC,under->gT
open List.Pairwise renaming filter->eX,sublist->gr,imp->ia
open Or renaming inr->fc,inl->gx
open PySem.Calls renaming spliced_cons->fB,Name_function_global->fF,spliced_nil->fG,call_function_entry->fJ,callWith_builtin->fW,evalArgs_plain->gD
open And renaming elim->gB
open Char renaming toNat->gE
open PySem.Paired renaming length->gJ
open PySem.Code renaming isFrame->gW
open PySem.SeqAt.EqAt renaming of_refs->h_
open PySem.Data renaming fields->ig,seq->il
open List.Sublist renaming map->iq
open Array.Perm renaming refl->iE
open PySem.PassesOwn renaming never->iK
open PySem.SeqAt renaming EqAt->iN
open PySem.IsRange renaming new->iU
open Prod.mk renaming inj->iV
section
local macro_rules(kind:=Lean.Parser.Command.declaration)|d=>if d.getPos?.isSome then return d.rewriteBottomUp (·.setInfo .none) else Lean.Macro.throwUnsupported
namespace Internal
open PySem PySem.Spec PyProof.Rows
theorem VM{α β:Sort _}{p q:α->β->Prop}{G:Prop}(k:∀a b,p a b->q a b->G)(h:∃a b,p a b/\q a b):G:=by
 obtain⟨a,b,x,y⟩:=h;exact k a b x y
theorem qv{α β:Sort _}{p q r:α->β->Prop}{G:Prop}(k:∀a b,p a b->q a b->r a b->G)(h:∃a b,p a b/\q a b/\r a b):G:=by
 obtain⟨a,b,x,y,z⟩:=h;exact k a b x y z
abbrev Key:=Sum Int Str
noncomputable def Ca:Key->Value->Bool
 | .inl k,v=>Value.isInt k v
 | .inr x,v=>iT x v
noncomputable def Xg (w:World):Key->Int
 | .inl k=>hashInt k
 | .inr x=>hashStr w x
theorem lA:∀{k:Key} {v:Value},Ca k v=true->(∃i t,k=aS i/\v=dt i t)∨(∃x t,k=dg x/\v=fV x t)
 | .inl i,v,h=>by
  obtain⟨t,e⟩:=Value.isInt_shape (k:=i) (v:=v) h;exact .inl ⟨i,t,rfl,e⟩
 | .inr x,v,h=>by
  obtain⟨t,e⟩:=Value.isStrOf_shape (x:=x) (v:=v) h;exact .inr ⟨x,t,rfl,e⟩
theorem M0(i:Int)(t:Tok):Ca (.inl i) (.int i t)=true:=by simp[Ca,Value.isInt]
theorem M3(x:Str)(t:Tok):Ca (.inr x) (.str x t)=true:=by simp[Ca,iT]
theorem Tz(a b:Int):decide ((aS a:Key)=aS b)=(a==b):=by
 by_cases e:a=b
 ·subst e;simp
 ·have h:¬(aS a:Key)=aS b:=λq=>e (dO q);rw[decide_eq_false h];exact(beq_eq_false_iff_ne.mpr e).symm
theorem TF(a b:Str):decide ((dg a:Key)=dg b)=decide (a=b):=by
 by_cases e:a=b
 ·subst e;simp
 ·have h:¬(dg a:Key)=dg b:=λq=>e (Sum.inr.inj q);rw[decide_eq_false h,decide_eq_false e]
theorem TB(a:Int)(b:Str):decide ((aS a:Key)=dg b)=false:=decide_eq_false (λq=>nomatch q)
theorem TC(a:Str)(b:Int):decide ((dg a:Key)=aS b)=false:=decide_eq_false (λq=>nomatch q)
noncomputable def lZ (prog:Program) (w:World):PySem.KeyKind prog w Key where
 is:=Ca
 hash:=Xg w
 inj:=λv a b ha hb=>by
  rcases lA ha with ⟨i,t,rfl,rfl⟩|⟨x,t,rfl,rfl⟩
  ·rcases lA hb with ⟨j,u,rfl,e⟩|⟨y,u,rfl,e⟩
   ·injection e with e1 _;rw[e1]
   ·exact nomatch e
  ·rcases lA hb with ⟨j,u,rfl,e⟩|⟨y,u,rfl,e⟩
   ·exact nomatch e
   ·injection e with e1 _;rw[e1]
 byValue:=λk v h=>by
  rcases lA h with ⟨i,t,rfl,rfl⟩|⟨x,t,rfl,rfl⟩<;>rfl
 pyHash:=λhv h=>by
  rcases lA hv with ⟨i,t,rfl,rfl⟩|⟨x,t,rfl,rfl⟩
  ·exact wpAny_pyHash_int h
  ·exact wpAny_pyHash_str h
 eqBool:=λhu hv h=>by
  rcases lA hu with ⟨i,t,rfl,rfl⟩|⟨x,t,rfl,rfl⟩
  ·rcases lA hv with ⟨j,u,rfl,rfl⟩|⟨y,u,rfl,rfl⟩
   ·rw[Tz]at h;exact wpAny_eqBool_int h
   ·rw[TB]at h;exact SeqAt.EqAt.int_str i t y u _ _ _ _ h
  ·rcases lA hv with ⟨j,u,rfl,rfl⟩|⟨y,u,rfl,rfl⟩
   ·rw[TC]at h;exact SeqAt.EqAt.str_int x t j u _ _ _ _ h
   ·rw[TF]at h;exact wpAny_eqBool_str h
 «strs»:=λk x t v h=>by
  rcases lA h with ⟨i,u,rfl,e⟩|⟨y,u,rfl,e⟩
  ·exact nomatch e
  ·injection e with e1 _
   subst e1
   cases v<;>rfl
theorem Jo(prog:Program)(w:World)(i:Int)(t:Tok):(lZ prog w).is (.inl i) (.int i t)=true:=M0 i t
theorem Jp(prog:Program)(w:World)(x:Str)(t:Tok):(lZ prog w).is (.inr x) (.str x t)=true:=M3 x t
inductive V where
 |non|bl (b:Bool)|int (i:Int)|str (x:Str)|byt (b:Array UInt8)|flt (b:UInt64)|ref (a:Addr)|ty (n:String)
 deriving DecidableEq
def RelV:V->Value->Prop
 | .non,u=>u=fK
 | .bl b,u=>u=iO b
 | .int i,u=>∃t,u=dt i t
 | .str x,u=>∃t,u=fV x t
 | .byt b,u=>∃t,u=Value.bytes b t
 | .flt b,u=>∃t,u=Value.float b t
 | .ref a,u=>u=aO a
 | .ty n,u=>u=dj n
abbrev Vals:List V->List Value->Prop:=Paired RelV
theorem Vals.length{xs:List V}{us:List Value}(r:Vals xs us):xs.length=us.length:=gJ r
theorem Vals.get:∀{xs:List V} {us:List Value} {i:Nat} {x:V},Vals xs us->xs[i]? =some x->∃u,us[i]? =some u/\RelV x u
 |_,_,_,_,.nil,e=>by simp at e
 |_,_,0,_,.cons r _,e=>by simp at e;subst e;exact⟨_,rfl,r⟩
 |_,_,i+1,x,.cons _ t,e=>by
  obtain⟨u,h1,h2⟩:=Vals.get (i:=i) (x:=x) t (by simpa using e);exact⟨u,by simpa using h1,h2⟩
theorem Vals.set{x:V}{u:Value}(r:RelV x u):∀{xs:List V} {us:List Value} (i:Nat),Vals xs us->Vals (xs.set i x) (us.set i u)
 |_,_,_,.nil=> .nil
 |_,_,0,.cons _ t=> .cons r t
 |_,_,i+1,.cons q t=> .cons q (Vals.set r i t)
theorem Vals.append{xs ys:List V}{us ws:List Value}(h:Vals xs us)(s:Vals ys ws):Vals (xs++ys) (us++ws):=by
 induction h with
 |nil=>exact s
 |cons r t ih=>exact .cons r ih
theorem Vals.take:∀{xs:List V} {us:List Value} (n:Nat),Vals xs us->Vals (xs.take n) (us.take n)
 |_,_,0,_=> .nil
 |_,_,_+1,.nil=> .nil
 |_,_,n+1,.cons r t=> .cons r (Vals.take n t)
theorem Vals.drop:∀{xs:List V} {us:List Value} (n:Nat),Vals xs us->Vals (xs.drop n) (us.drop n)
 |_,_,0,r=>r
 |_,_,_+1,.nil=> .nil
 |_,_,n+1,.cons _ t=>Vals.drop n t
def uJ:Option V->Option Value->Prop
 |some v,some u=>RelV v u
 |none,none=>True
 |_,_=>False
def KV{κ:Type}:List (κ×V)->List (κ×Value)->Prop:=Paired λ(p:κ×V) (q:κ×Value)=>p.1=q.1/\RelV p.2 q.2
noncomputable def kV:Key->V
 | .inl i=> .int i
 | .inr x=> .str x
inductive HO where
 |lst (xs:List V)
 |tup (xs:List V)
 |dK (kvs:List (Key×V))|dT (kvs:List (List Key×V))
 |set (S:Int->Bool) (n:Nat)
 |ins (C dx:Addr) (fs:List (Str×V))
 |own (x:Addr)
 |xd (fs:List (Str×V))
 |met (f x:Addr)
 |WM (lo hi:Int)
 |GL (o:Obj) (u:HO)
 |Co (ps:Array Value)
 |ext (φ:Heap->Prop)
 |exc (cls:Value)
abbrev Hp:=Addr->Option HO
noncomputable def upd (H:Hp) (a:Addr) (o:HO):Hp:=λb=>if b=a then some o else H b
theorem i8{H:Hp}{a:Addr}{o:HO}:upd H a o a=some o:=by unfold upd;rw[if_pos rfl]
theorem i7{H:Hp}{a b:Addr}{o:HO}(h:b≠a):upd H a o b=H b:=by unfold upd;rw[if_neg h]
theorem Mx{H:Hp}{a:Addr}{o u:HO}:upd (upd H a o) a u=upd H a u:=by
 funext b;unfold upd;split<;>rfl
theorem V5{H:Hp}{a b:Addr}{o u:HO}(h:H a=some o)(h':H b=some u)(d:o≠u):a≠b:=by
 intro e;subst e;rw[h]at h';exact d (aY h')
theorem i4{H:Hp}{a b:Addr}{o:HO}(h:H a=some o)(h':H b=none):a≠b:=by
 intro e;subst e;rw[h]at h';cases h'
section
variable(P:Program)(w:World)
def mf(H:Hp)(h:Heap)(a:Addr):HO->Prop
 | .lst xs=>xs.length<=sizeLine/\∃(its:List Value) (n:Nat),Vals xs its/\h.get? a=some {cls:= .type "list",data:= .seq its.toArray n}
 | .tup xs=>xs.length<=sizeLine/\∃its:List Value,Vals xs its/\IsTup h a its.toArray
 | .dK kvs=>kvs.length<=sizeLine/\(a==sysModules)=false/\∃vs,KV kvs vs/\h.DictOf (lZ P w) a vs
 | .dT kvs=>kvs.length<=sizeLine/\(a==sysModules)=false/\∃xs:List (List Key×Addr×Value),
   Paired (λ(p:List Key×V) (q:List Key×Addr×Value)=>p.1=q.1/\H q.2.1=some (.tup (p.1.map kV))/\RelV p.2 q.2.2) kvs xs/\
   ∃o es ep,h.get? a=some o/\o.ExactDict/\o.data= .dict es ep/\es.toList=xs.map (entryOfKey (tupleKind (lZ P w)))/\(xs.map (·.1)).Nodup
 | .set S n=>h.SetOf (intKind P w) a S n
 | .ins C dx fs=>H dx=some (.own a)/\fs.length<=1000/\dx≠a/\h.get? a=some (cI C dx)/\
   ∃mA,h.Ns1 dx mA/\(∀f,uJ (fs.lookup f) (mA f))/\hZ mA (fs.map (·.1))
 | .own _=>∃o,h.get? a=some o
 | .xd fs=>∃mA,h.Ns1 a mA/\∀f,uJ (fs.lookup f) (mA f)
 | .WM lo hi=>∃t u v,h.get? a=some {cls:= .type "range",data:= .fields #[.int lo t,.int hi u,.int 1 v]}
 | .GL o u=>h.get? a=some o/\mf H h a u
 | .Co ps=>h.get? a=some {cls:= .none,data:= .fields ps}
 | .met f x=>h.get? a=some (fI (.ref f) (.ref x))
 | .exc cls=>∃o vs,h.get? a=some o/\o.cls=cls/\o.data= .fields vs
 | .ext φ=>φ h/\(∃o,h.get? a=some o)/\∀h1 h2:Heap,φ h1->(∀o,h1.get? a=some o->h2.get? a=some o)->φ h2
def qR(H:Hp)(h:Heap):Prop:=∀a o,H a=some o->mf P w H h a o
end
section
variable{P:Program}{w:World}{H H':Hp}{h h':Heap}{a:Addr}{o:HO}
theorem mf.lt(x:mf P w H h a o):a<h.objs.size:=by
 cases o with
 |lst xs=>obtain⟨_,_,_,_,e⟩:=x;exact aD e
 |tup xs=>obtain⟨_,_,_,p⟩:=x;exact p.lt
 |dK kvs=>obtain⟨_,_,_,_,o,_,_,e,_⟩:=x;exact aD e
 |dT kvs=>obtain⟨_,_,_,_,o,_,_,e,_⟩:=x;exact aD e
 |set S n=>obtain⟨o,_,_,_,e,_⟩:=x;exact aD e
 |ins C dx fs=>obtain⟨_,_,_,e,_⟩:=x;exact aD e
 |own y=>obtain⟨_,e⟩:=x;exact aD e
 |xd fs=>obtain⟨_,⟨_,_,_,e,_⟩,_⟩:=x;exact aD e
 |WM lo hi=>obtain⟨_,_,_,e⟩:=x;exact aD e
 |GL ob u=>obtain⟨e,_⟩:=x;exact aD e
 |Co ps=>exact aD (show h.get? a=some _ from x)
 |met f y=>exact aD (show h.get? a=some _ from x)
 |ext φ=>obtain⟨_,⟨_,e⟩,_⟩:=x;exact aD e
 |exc cls=>obtain⟨_,_,e,_⟩:=x;exact aD e
theorem Paired.VY{α β:Type}{F G:α->β->Prop}{l₁:List α}{l₂:List β}(h:Paired F l₁ l₂)(f:∀a b,F a b->G a b):Paired G l₁ l₂:=by
 induction h with
 |nil=>exact .nil
 |cons r t ih=>exact .cons (f _ _ r) ih
theorem mf.sj(x:mf P w H h a o)(k:∀b u,(b=a∨H b=some (.own a))->h.get? b=some u->h'.get? b=some u)
  (ho:∀b,H b=some (.own a)->H' b=some (.own a)) (ht:∀b xs,H b=some (.tup xs)->H' b=some (.tup xs)):mf P w H' h' a o:=by
 induction o with
 |lst xs=>obtain⟨z,its,n,r,e⟩:=x;exact⟨z,its,n,r,k _ _ (.inl rfl) e⟩
 |tup xs=>obtain⟨z,its,r,ob,e,c⟩:=x;exact⟨z,its,r,ob,k _ _ (.inl rfl) e,c⟩
 |dK kvs=>obtain⟨z,y,vs,r,ob,es,ep,e,c⟩:=x;exact⟨z,y,vs,r,ob,es,ep,k _ _ (.inl rfl) e,c⟩
 |dT kvs=>
  obtain⟨z,y,xs,r,ob,es,ep,e,c⟩:=x;exact⟨z,y,xs,Paired.VY r λp q z=>⟨z.1,ht _ _ z.2.1,z.2.2⟩,ob,es,ep,k _ _ (.inl rfl) e,c⟩
 |set S n=>obtain⟨ob,es,ep,t,e,c⟩:=x;exact⟨ob,es,ep,t,k _ _ (.inl rfl) e,c⟩
 |ins C dx fs=>
  obtain⟨d,z,ne,e,mA,⟨od,es,ep,e2,c⟩,r⟩:=x;exact⟨ho _ d,z,ne,k _ _ (.inl rfl) e,mA,⟨od,es,ep,k _ _ (.inr d) e2,c⟩,r⟩
 |own y=>obtain⟨ob,e⟩:=x;exact⟨ob,k _ _ (.inl rfl) e⟩
 |xd fs=>obtain⟨mA,⟨od,es,ep,e,c⟩,r⟩:=x;exact⟨mA,⟨od,es,ep,k _ _ (.inl rfl) e,c⟩,r⟩
 |WM lo hi=>obtain⟨t,u,v,e⟩:=x;exact⟨t,u,v,k _ _ (.inl rfl) e⟩
 |GL ob u ih=>obtain⟨e,q⟩:=x;exact⟨k _ _ (.inl rfl) e,ih q⟩
 |Co ps=>
  have e:h.get? a=some {cls:= .none,data:= .fields ps}:=x;show h'.get? a=some {cls:= .none,data:= .fields ps};exact k a _ (.inl rfl) e
 |met f y=>
  have e:h.get? a=some (fI (.ref f) (.ref y)):=x;show h'.get? a=some (fI (.ref f) (.ref y));exact k a _ (.inl rfl) e
 |exc cls=>obtain⟨o,vs,e,c⟩:=x;exact⟨o,vs,k _ _ (.inl rfl) e,c⟩
 |ext φ=>obtain⟨p,⟨o,e⟩,st⟩:=x;exact⟨st _ _ p λo q=>k _ _ (.inl rfl) q,⟨o,k _ _ (.inl rfl) e⟩,st⟩
theorem qR.lt(x:qR P w H h)(e:H a=some o):a<h.objs.size:=(x a o e).lt
theorem qR.fresh(x:qR P w H h)(e:h.objs.size<=a):H a=none:=by
 cases q:H a with
 |none=>rfl
 |some u=>exact absurd (av (x.lt q) e) (bw _)
theorem qR.kept(x:qR P w H h)(k:∀b u,h.get? b=some u->h'.get? b=some u):qR P w H h':=λa o e=>
 (x a o e).sj (λb u _ q=>k b u q) (λ_ q=>q) λ_ _ q=>q
theorem qR.laid(x:qR P w H h)(k:∀b u,h.get? b=some u->h'.get? b=some u)(hp:h.objs.size<=a)(new:mf P w (upd H a o) h' a o):qR P w (upd H a o) h':=λb u e=>by
 have hn:=x.fresh hp;by_cases hb:b=a
 ·subst hb;rw[i8]at e;cases e;exact new
 ·rw[i7 hb]at e;exact(x b u e).sj (λc v _ q=>k c v q) (λc q=>by rw[i7 (i4 q hn)];exact q) λc xs q=>by rw[i7 (i4 q hn)];exact q
end
def Rd(H:Hp)(a:Addr)(u:HO):Prop:=H a=some u∨∃o,H a=some (.GL o u)
theorem Rd.ok{P:Program}{w:World}{H:Hp}{h:Heap}{a:Addr}{u:HO}(r:Rd H a u)(x:qR P w H h):mf P w H h a u:=by
 rcases r with r|⟨o,r⟩
 ·exact x a u r
 ·obtain⟨_,q⟩:=x a _ r;exact q
def U8:Option HO->Prop
 |some (.lst _)=>True
 |some (.dK _)=>True
 |some (.dT _)=>True
 |some (.set _ _)=>True
 |some (.ins _ _ _)=>True
 |some (.ext _)=>True
 |_=>False
section
variable{P:Program}{w:World}{H:Hp}{h h':Heap}{x e:Addr}{o':HO}
theorem qR.write(ok:qR P w H h)(mu:U8 (H x))(he:e=x∨H e=some (.own x))(k:∀b u,b≠e->h.get? b=some u->h'.get? b=some u)(heo:∃u,h'.get? e=some u)
  (new:mf P w (upd H x o') h' x o'):qR P w (upd H x o') h':=λb u q=>by
 have nown:∀c y,H c=some (.own y)->c≠x:=λc y r z=>by subst z;rw[r]at mu;exact mu
 have ntup:∀c xs,H c=some (.tup xs)->c≠x:=λc xs r z=>by subst z;rw[r]at mu;exact mu
 by_cases hb:b=x
 ·subst hb;rw[i8]at q;cases q;exact new
 ·rw[i7 hb]at q;by_cases hbe:b=e
  ·have q':H b=some (.own x):=by
    rcases he with z|z
    ·exact absurd (hbe.trans z) hb
    ·rw[hbe];exact z
   rw[q]at q';cases q'
   obtain⟨v,hv⟩:=heo;exact⟨v,by rw[hbe];exact hv⟩
  ·refine(ok b u q).sj (λc v hc r=>k c v ?_ r) (λc r=>by rw[i7 (nown c b r)];exact r) λc xs r=>by rw[i7 (ntup c xs r)];exact r
   rcases hc with rfl|hc
   ·exact hbe
   ·rintro rfl;rcases he with z|z
    ·exact nown c b hc z
    ·rw[hc]at z;cases z;exact hb rfl
end
structure Un(fs ex:List Addr)(H H':Hp)(h h':Heap):Prop where
 keep:∀b o,h.get? b=some o->H b=none->b∉fs->b∉ex->h'.get? b=some o
 slot:∀b o,h.get? b=some o->H b=none->b∈fs->b∉ex->∃sl,h'.get? b=some {o with slots:=sl}
 free:∀b o,h.get? b=some o->H b=none->b∉ex->H' b=none
 there:∀b o,h.get? b=some o->b∉ex->∃o',h'.get? b=some o'
 wu:∀b xs,H b=some (.tup xs)->H' b=some (.tup xs)
 uC:∀b o u,H b=some (.GL o u)->H' b=some (.GL o u)
 vV:∀b ps,H b=some (.Co ps)->∃more,H' b=some (.Co (ps++more))
section
variable{fs fs' ex ex':List Addr}{H H1 H2:Hp}{h h1 h2 h':Heap}{a x e:Addr}{o:HO}
theorem Un.any(u:Un fs ex H H1 h h1){b:Addr}{ob:Obj}(q:h.get? b=some ob)(n:H b=none)(hx:b∉ex):∃sl,h1.get? b=some {ob with slots:=sl}:=by
 by_cases hb:b∈fs
 ·exact u.slot b ob q n hb hx
 ·exact⟨ob.slots,u.keep b ob q n hb hx⟩
theorem Un.kept(k:∀b u,h.get? b=some u->h'.get? b=some u):Un fs ex H H h h':=
 ⟨λb ob q _ _ _=>k b ob q,λb ob q _ _ _=>⟨ob.slots,k b ob q⟩,λ_ _ _ n _=>n,λb ob q _=>⟨ob,k b ob q⟩,λ_ _ q=>q,λ_ _ _ q=>q,λ_ ps q=>⟨#[],by rw[q];simp⟩⟩
theorem Un.refl:Un fs ex H H h h:=Un.kept λ_ _ q=>q
theorem Un.laid(k:∀b u,h.get? b=some u->h'.get? b=some u)(hp:h.objs.size<=a)(hn:H a=none):Un fs ex H (upd H a o) h h' where
 keep:=λb u q _ _ _=>k b u q
 slot:=λb u q _ _ _=>⟨u.slots,k b u q⟩
 free:=λb u q n _=>by rw[i7 (aK (av (aD q) hp))];exact n
 there:=λb u q _=>⟨u,k b u q⟩
 wu:=λb xs q=>by rw[i7 (i4 q hn)];exact q
 uC:=λb u xs q=>by rw[i7 (i4 q hn)];exact q
 vV:=λb ps q=>⟨#[],by rw[i7 (i4 q hn),q];simp⟩
theorem Un.write(mu:U8 (H x))(he:e=x∨H e=some (.own x))(k:∀b u,b≠e->h.get? b=some u->h'.get? b=some u)(heo:∃u,h'.get? e=some u):Un fs ex H (upd H x o) h h':=by
 have hx:∀b,H b=none->b≠x:=λb n z=>by subst z;rw[n]at mu;exact mu
 have hb:∀b,H b=none->b≠e:=λb n z=>by
  subst z;rcases he with r|r
  ·exact hx b n r
  ·rw[n]at r;cases r
 have hm:∀b u,H b=some u->¬U8 (some u)->b≠x:=λb u q nm z=>by subst z;rw[q]at mu;exact nm mu
 refine⟨λb u q n _ _=>k b u (hb b n) q,λb u q n _ _=>⟨u.slots,k b u (hb b n) q⟩,λb u q n _=>by rw[i7 (hx b n)];exact n,λb u q _=> ?_,
  λb xs q=>by rw[i7 (hm b _ q λz=>z)];exact q,λb u xs q=>by rw[i7 (hm b _ q λz=>z)];exact q,λb ps q=>⟨#[],by rw[i7 (hm b _ q λz=>z),q];simp⟩⟩
 by_cases hbe:b=e
 ·subst hbe;exact heo
 ·exact⟨u,k b u hbe q⟩
end
noncomputable def Mu (h:Heap) (H:Hp):List Addr:=(bh h.objs.size).filter λa=>(H a).isSome
noncomputable def GU (h:Heap) (H:Hp):Heap:=fh h (Mu h H)
theorem MR(h:Heap)(H:Hp):(GU h H).objs.size=h.objs.size:=PySem.W.hideAll_size _ _
theorem OA{h:Heap}{H:Hp}{b:Addr}{o:Obj}(e:h.get? b=some o)(n:H b=none):(GU h H).get? b=some o:=
 dY _ e λhm=>by
  have q:(H b).isSome=true:=(List.mem_filter.mp hm).2;rw[n]at q;simp at q
theorem Ru{h:Heap}{H:Hp}{b:Addr}{o:Obj}(e:(GU h H).get? b=some o):h.get? b=some o/\H b=none:=by
 have e':h.get? b=some o:=fE (Mu h H) e;refine⟨e',?_⟩
 cases q:H b with
 |none=>rfl
 |some x=>
  have hm:b∈Mu h H:=List.mem_filter.mpr ⟨List.mem_range.mpr (aD e'),by simp[q]⟩;have z:(GU h H).get? b=none:=PySem.W.hideAll_none (Mu h H) hm;rw[z]at e;cases e
noncomputable def Qw (g h:Heap) (L:Addr):List (Addr×Obj):=(bh h.objs.size).filterMap λa=>if a=L∨(g.get? a).isSome=true then none else(h.get? a).map λo=>(a,o)
noncomputable def rest (g h:Heap) (L d:Addr):List (Addr×Obj):=(Qw g h L).filter λp=>decide (p.1≠d)
def BMain(mg:Str->Option Value)(h:Heap):Prop:=∃bm ob,mg "__builtins__"=some (.ref bm)/\bm≠builtinsNs/\h.get? bm=some ob/\ob.cls= .type "module"/\ob.dict=some builtinsNs/\ob.data= .plain
structure Mod(K:af)(mg:Str->Option Value)(base:Heap):Prop where
 U1:K.In base
 glob:base.Ns mainGlobals mg
 blt:∃mb,base.Ns builtinsNs mb/\∀x:Str,x≠"__name__"->mb x=bootBuiltins x
 nolimit:base.NoLimit
 bmain:BMain mg base
set_option genInjectivity false in
structure Cx where
 prog:Program
 w:World
 K:af
 mg:Str->Option Value
 base:Heap
 A:Around
 N:List Str
 s₀:Shared
 H₀:Hp
 env:Env
 outer:List Env
 stack:List Env
 ex:List Addr
 fn:Str->Bool
 calm:Bool
 pn:List (Addr×Obj)
 xe:Value->Shared->Prop
noncomputable def B9 (l:List Env):List Addr:=l.filterMap (·.frame)
noncomputable abbrev Cx.fs (X:Cx):List Addr:=B9 X.outer
def UW(sc:Scope)(x:Str):Prop:=sc.names.lookup x=some .local∨sc.names.lookup x=some .cell∨sc.names.lookup x=some .free
def Loc(sc:Scope)(x:Str):Prop:=sc.names.lookup x=some .local∨sc.names.lookup x=some .cell
def Look(env:Env)(h:Heap)(m:Str->Option Value)(x:Str)(u:Value):Prop:=
 (env.kindOf x=some .local/\m x=some u)∨((env.kindOf x=some .cell∨env.kindOf x=some .free)/\∃c,env.cells.lookup x=some c/\h.IsCell c (some u))
structure Cx.Ok(X:Cx):Prop where
 mod:Mod X.K X.mg X.base
 kind:X.env.scope.kind= .function
 glob:X.env.globals=mainGlobals
 blt:X.env.builtins=builtinsNs
 above:X.s₀.heap.objs.size<=X.env.locals
 inj:∀x y c,X.env.cells.lookup x=some c->X.env.cells.lookup y=some c->x=y
 has:∀x,(X.env.kindOf x=some .cell∨X.env.kindOf x=some .free)->∃c,X.env.cells.lookup x=some c
 Tb:∀x c,X.fn x=true->X.env.cells.lookup x=some c->X.s₀.heap.objs.size<=c
 hd:X.calm=true->X.A.handled=none
 frames:X.A.frames=some X.stack
 Ws:X.stack=X.outer∨(X.stack=X.env::X.outer/\X.env.frame=some X.env.locals)
 Xc:∀b∈X.ex,b≠X.env.locals/\∀x c,X.env.cells.lookup x=some c->c≠b
 bs:∀b o,X.base.get? b=some o->X.s₀.heap.get? b=some o/\X.H₀ b=none
 MD:X.base.objs.size<=X.s₀.heap.objs.size
 DN:∀b o,X.base.get? b=some o->b∉X.ex
 Om:∀b∈X.ex,b∉X.fs
 wm:X.s₀.heap.FunFrames X.base X.outer
 Ql:∀b∈X.fs,X.H₀ b=none
structure Inv(X:Cx)(pins:List (Addr×Obj))(σ:List (Option V))(H:Hp)(s:Shared):Prop where
 ok:X.Ok
 os:s.os=X.s₀.os
 bare:AllBare s.gens
 base:Un X.fs X.ex X.H₀ H X.s₀.heap s.heap
 loc:∃m,s.heap.Ns X.env.locals m/\∀(i:Nat) (x:Str) (v:V),X.N[i]? =some x->σ[i]? =some (some v)->UW X.env.scope x->∃u,RelV v u/\Look X.env s.heap m x u
 cell:∀x c,X.env.cells.lookup x=some c->∃v,s.heap.IsCell c v
 free:H X.env.locals=none
 qe:∀x c,X.env.cells.lookup x=some c->H c=none
 pin:∀p∈X.pn++pins,s.heap.get? p.1=some p.2/\H p.1=none/\p.1≠X.env.locals/\p.1∉X.fs/\∀v,p.2.data≠ .cell v
 ko:qR X.prog X.w H s.heap
 len:σ.length=X.N.length
section
variable{X:Cx}{pins:List (Addr×Obj)}{σ:List (Option V)}{H H':Hp}{s:Shared}{h':Heap}
theorem Cx.Ok.Xr(ok:X.Ok){b:Addr}{o:Obj}(e:X.base.get? b=some o):b∉X.fs:=λhb=>by
 have:=(ok.wm.mem hb).1;rw[e]at this;cases this
theorem Inv.bs(I:Inv X pins σ H s):∀b o,X.base.get? b=some o->s.heap.get? b=some o/\H b=none:=λb o e=>
 ⟨I.base.keep b o (I.ok.bs b o e).1 (I.ok.bs b o e).2 (I.ok.Xr e) (I.ok.DN b o e),I.base.free b o (I.ok.bs b o e).1 (I.ok.bs b o e).2 (I.ok.DN b o e)⟩
theorem Inv.bk(I:Inv X pins σ H s):∀b o,X.base.get? b=some o->s.heap.get? b=some o:=λb o e=>(I.bs b o e).1
theorem Inv.mod(I:Inv X pins σ H s):Mod X.K X.mg X.base:=I.ok.mod
theorem Inv.IB(I:Inv X pins σ H s):X.K.In s.heap:=I.ok.mod.U1.keeps I.bk
theorem Inv.lt(I:Inv X pins σ H s):X.env.locals<s.heap.objs.size:=let ⟨_,hn,_⟩:=I.loc;hn.lt
theorem Inv.sz(I:Inv X pins σ H s):X.s₀.heap.objs.size<=s.heap.objs.size:=aA I.ok.above (c8 I.lt)
theorem Inv.Xs(I:Inv X pins σ H s){a:Addr}(h:s.heap.objs.size<=a):a∉X.fs:=λhb=>by
 obtain⟨_,o,ho,_⟩:=I.ok.wm.mem hb;exact absurd (av (aD ho) (aA I.sz h)) (bw _)
theorem Inv.Sm(I:Inv X pins σ H s):∀x c,X.env.cells.lookup x=some c->c≠X.env.locals:=λx c e z=>by
 obtain⟨v,o,ho,hd⟩:=I.cell x c e;obtain⟨m,⟨o',es,ep,ho',hd',_⟩,_⟩:=I.loc;rw[z,ho']at ho;cases ho;rw[hd']at hd;cases hd
theorem Inv.wm(I:Inv X pins σ H s):s.heap.FunFrames X.base X.outer:=by
 have all:∀(l:List Env),(∀b∈B9 l,b∈X.fs)->X.s₀.heap.FunFrames X.base l->s.heap.FunFrames X.base l:=by
  intro l
  induction l with
  |nil=>intro _ _;trivial
  |cons env r ih=>
   intro hs hl;obtain⟨hk,⟨L,o,hf,hn,ho,hd⟩,hr⟩:=hl;have hL:L∈X.fs:=hs L (by unfold B9;rw[bP,hf];exact ax);obtain⟨sl,e⟩:=I.base.slot L o ho (I.ok.Ql L hL) hL λz=>I.ok.Om L z hL;exact⟨hk,⟨L,_,hf,hn,e,hd⟩,ih (λb hb=>hs b (by unfold B9;rw[bP,hf];exact ao _ hb)) hr⟩
 exact all X.outer (λ_ hb=>hb) I.ok.wm
theorem Inv.stack(I:Inv X pins σ H s):s.heap.FunFrames X.base X.stack:=by
 rcases I.ok.Ws with e|⟨e,hf⟩
 ·rw[e];exact I.wm
 ·rw[e];obtain⟨m,hn,_⟩:=I.loc;refine .cons (by rw[I.ok.kind];decide) hf hn ?_ I.wm;exact gG (aA I.ok.MD I.ok.above)
theorem Inv.En(I:Inv X pins σ H s):∀b∈B9 X.stack,b∈X.env.locals::X.fs:=λb hb=>by
 rcases I.ok.Ws with e|⟨e,hf⟩
 ·rw[e]at hb;exact ao _ hb
 ·rw[e]at hb;unfold B9 at hb;rw[bP,hf]at hb;exact hb
theorem Inv.we(I:Inv X pins σ H s):∀b∈B9 X.stack,H b=none:=λb hb=>by
 rcases List.mem_cons.mp (I.En b hb) with e|hb
 ·rw[e];exact I.free
 ·obtain⟨_,o,ho,_⟩:=I.ok.wm.mem hb;exact I.base.free b o ho (I.ok.Ql b hb) λz=>I.ok.Om b z hb
theorem Inv.step{g':Array GenState}{t':Nat}{d':Drawn}{ch:List Addr}(I:Inv X pins σ H s)
  (hch:∀b∈ch,(b∈X.ex∨X.s₀.heap.objs.size<=b)/\b≠X.env.locals/\(∀x c,X.env.cells.lookup x=some c->c≠b)/\∀p∈X.pn++pins,p.1≠b)
  (keep:∀b o,b≠X.env.locals->b∉X.fs->b∉ch->s.heap.get? b=some o->H b=none->h'.get? b=some o)
  (slot:∀b o,b≠X.env.locals->b∈X.fs->b∉ch->s.heap.get? b=some o->H b=none->∃sl,h'.get? b=some {o with slots:=sl}) (free:∀b o,b∉ch->s.heap.get? b=some o->H b=none->H' b=none)
  (there:∀b o,b∉ch->s.heap.get? b=some o->∃o',h'.get? b=some o')
  (wu:∀b xs,H b=some (.tup xs)->H' b=some (.tup xs)) (uC:∀b o u,H b=some (.GL o u)->H' b=some (.GL o u)) (vV:∀b ps,H b=some (.Co ps)->∃more,H' b=some (.Co (ps++more)))
  (ns:∀m,s.heap.Ns X.env.locals m->h'.Ns X.env.locals m) (ko:qR X.prog X.w H' h') (hg:AllBare g'):
  Inv X pins σ H' {s with heap:=h',gens:=g',drawn:=d',toks:=t'}:=by
 have neL:∀b o,X.s₀.heap.get? b=some o->b≠X.env.locals:=λb o e=>aK (av (aD e) I.ok.above);have neC:∀b o,X.s₀.heap.get? b=some o->b∉X.ex->b∉ch:=λb o e hx hb=>by
  rcases (hch b hb).1 with z|z
  ·exact hx z
  ·exact absurd (av (aD e) z) (bw _)
 have cellK:∀x c,X.env.cells.lookup x=some c->∀v,s.heap.IsCell c v->h'.IsCell c v:=λx c e v ⟨o,ho,hd⟩=>by
  have nch:c∉ch:=λz=>(hch c z).2.2.1 x c e rfl;by_cases hc:c∈X.fs
  ·obtain⟨sl,q⟩:=slot c o (I.Sm x c e) hc nch ho (I.qe x c e);exact⟨_,q,hd⟩
  ·exact⟨o,keep c o (I.Sm x c e) hc nch ho (I.qe x c e),hd⟩
 refine⟨I.ok,I.os,hg,⟨λb o e n hb hx=> ?_,λb o e n hb hx=> ?_,λb o e n hx=> ?_,λb o e hx=> ?_,λb xs e=>wu b xs (I.base.wu b xs e),λb o xs e=>uC b o xs (I.base.uC b o xs e),λb ps e=> ?_⟩,?_,λx c e=> ?_,?_,λx c e=> ?_,λp hp=> ?_,ko,I.len⟩
 ·exact keep b o (neL b o e) hb (neC b o e hx) (I.base.keep b o e n hb hx) (I.base.free b o e n hx)
 ·obtain⟨sl,e1⟩:=I.base.slot b o e n hb hx;obtain⟨sl',e2⟩:=slot b _ (neL b o e) hb (neC b o e hx) e1 (I.base.free b o e n hx);exact⟨sl',e2⟩
 ·obtain⟨o',e1⟩:=I.base.there b o e hx;exact free b o' (neC b o e hx) e1 (I.base.free b o e n hx)
 ·obtain⟨o',e1⟩:=I.base.there b o e hx;exact there b o' (neC b o e hx) e1
 ·obtain⟨m1,e1⟩:=I.base.vV b ps e;obtain⟨m2,e2⟩:=vV b _ e1;exact⟨m1++m2,by rw[e2,gU]⟩
 ·obtain⟨m,hn,hl⟩:=I.loc;refine⟨m,ns m hn,λi x v e1 e2 e3=> ?_⟩;obtain⟨u,r,l⟩:=hl i x v e1 e2 e3;refine⟨u,r,?_⟩;rcases l with l|⟨k,c,e,z⟩
  ·exact .inl l
  ·exact .inr ⟨k,c,e,cellK x c e _ z⟩
 ·obtain⟨v,z⟩:=I.cell x c e;exact⟨v,cellK x c e v z⟩
 ·obtain⟨m,⟨o,_,_,ho,_⟩,_⟩:=I.loc;exact free _ o (λz=>(hch _ z).2.1 rfl) ho I.free
 ·obtain⟨v,o,ho,hd⟩:=I.cell x c e;exact free c o (λz=>(hch c z).2.2.1 x c e rfl) ho (I.qe x c e)
 ·obtain⟨e,n,ne,nf,d⟩:=I.pin p hp;have nch:p.1∉ch:=λz=>(hch p.1 z).2.2.2 p hp rfl;exact⟨keep p.1 p.2 ne nf nch e n,free p.1 p.2 nch e n,ne,nf,d⟩
theorem Inv.un{t':Nat}(I:Inv X pins σ H s)(u:Un X.fs [] H H' s.heap h')(ko:qR X.prog X.w H' h'):Inv X pins σ H' {s with heap:=h',toks:=t'}:=by
 obtain⟨m,⟨o,es,ep,ho,r⟩,_⟩:=id I.loc;obtain⟨sl,hL⟩:=u.any ho I.free (by simp);exact I.step (g':=s.gens) (d':=s.drawn) (ch:=[]) (λ_ z=>nomatch z) (λb o _ hb _ e n=>u.keep b o e n hb (by simp)) (λb o _ hb _ e n=>u.slot b o e n hb (by simp)) (λb o _ e n=>u.free b o e n (by simp)) (λb o _ e=>u.there b o e (by simp)) u.wu u.uC u.vV (λm' hm=>by
  obtain⟨o',es',ep',ho',r'⟩:=hm;rw[ho]at ho';cases ho'
  exact⟨_,es',ep',hL,r'⟩) ko I.bare
theorem Inv.call{g':Array GenState}{t':Nat}{d':Drawn}{ch:List Addr}(I:Inv X pins σ H s)(u:Un (B9 X.stack) ch H H' s.heap h')(ko:qR X.prog X.w H' h')(hg:AllBare g')
  (hch:∀b∈ch,(b∈X.ex∨X.s₀.heap.objs.size<=b)/\b≠X.env.locals/\(∀x c,X.env.cells.lookup x=some c->c≠b)/\∀p∈X.pn++pins,p.1≠b):
  Inv X pins σ H' {s with heap:=h',gens:=g',drawn:=d',toks:=t'}:=by
 obtain⟨m,⟨o,es,ep,ho,r⟩,_⟩:=id I.loc;obtain⟨sl,hL⟩:=u.any ho I.free λz=>(hch _ z).2.1 rfl;exact I.step (ch:=ch) hch (λb o hL hb hc e n=>u.keep b o e n (λz=>(List.mem_cons.mp (I.En b z)).elim hL hb) hc) (λb o _ _ hc e n=>u.any e n hc) (λb o hc e n=>u.free b o e n hc) (λb o hc e=>u.there b o e hc) u.wu u.uC u.vV (λm' hm=>by
  obtain⟨o',es',ep',ho',r'⟩:=hm;rw[ho]at ho';cases ho'
  exact⟨_,es',ep',hL,r'⟩) ko hg
theorem Inv.turned{t':Nat}{it:Addr}(I:Inv X pins σ H s)(k:∀b o,b≠it->s.heap.get? b=some o->h'.get? b=some o)(hn:H it=none)(hL:it≠X.env.locals)
  (h1:it∈X.ex∨X.s₀.heap.objs.size<=it) (h2:∀x c,X.env.cells.lookup x=some c->c≠it) (h3:∀p∈X.pn++pins,p.1≠it):Inv X pins σ H {s with heap:=h',toks:=t'}:=by
 have nit:∀b u,H b=some u->b≠it:=λb u e z=>by rw[z,hn]at e;cases e
 refine I.step (g':=s.gens) (d':=s.drawn) (ch:=[it]) (λb hb=> ?_) (λb o _ _ hc e _=>k b o (λz=>hc (by simp[z])) e) (λb o _ _ hc e _=>⟨o.slots,k b o (λz=>hc (by simp[z])) e⟩) (λ_ _ _ _ n=>n)
  (λb o hc e=>⟨o,k b o (λz=>hc (by simp[z])) e⟩) (λ_ _ e=>e) (λ_ _ _ e=>e) (λb ps e=>⟨#[],by rw[e];simp⟩) (λm hm=> ?_) (λb u e=> ?_) I.bare
 ·have e:b=it:=by simpa using hb
  subst e;exact⟨h1,hL,h2,h3⟩
 ·obtain⟨o,es,ep,ho,r⟩:=hm;exact⟨o,es,ep,k _ o (ah hL) ho,r⟩
 ·refine(I.ko b u e).sj (λc v hc q=>k c v ?_ q) (λ_ q=>q) λ_ _ q=>q;rcases hc with z|z
  ·rw[z];exact nit b u e
  ·exact nit c _ z
theorem Inv.tok(I:Inv X pins σ H s)(t:Nat):Inv X pins σ H {s with toks:=t}:=I.un (h':=s.heap) (t':=t) Un.refl I.ko
theorem Inv.kept{t':Nat}(I:Inv X pins σ H s)(k:∀b u,s.heap.get? b=some u->h'.get? b=some u):Inv X pins σ H {s with heap:=h',toks:=t'}:=I.un (Un.kept k) (I.ko.kept k)
theorem Inv.laid{a:Addr}{o:HO}{t':Nat}(I:Inv X pins σ H s)(k:∀b u,s.heap.get? b=some u->h'.get? b=some u)(hp:s.heap.objs.size<=a)(new:mf X.prog X.w (upd H a o) h' a o):
  Inv X pins σ (upd H a o) {s with heap:=h',toks:=t'}:=I.un (Un.laid k hp (I.ko.fresh hp)) (I.ko.laid k hp new)
theorem Inv.write{x e:Addr}{o:HO}{t':Nat}(I:Inv X pins σ H s)(mu:U8 (H x))(he:e=x∨H e=some (.own x))(k:∀b u,b≠e->s.heap.get? b=some u->h'.get? b=some u)(heo:∃u,h'.get? e=some u)
  (new:mf X.prog X.w (upd H x o) h' x o):Inv X pins σ (upd H x o) {s with heap:=h',toks:=t'}:=I.un (Un.write mu he k heo) (I.ko.write mu he k heo new)
theorem Inv.Ba{pins':List (Addr×Obj)}(I:Inv X pins σ H s)(h:∀p∈pins',s.heap.get? p.1=some p.2/\H p.1=none/\p.1≠X.env.locals/\p.1∉X.fs/\∀v,p.2.data≠ .cell v):Inv X pins' σ H s:=
 ⟨I.ok,I.os,I.bare,I.base,I.loc,I.cell,I.free,I.qe,λp hp=>(List.mem_append.mp hp).elim (λz=>I.pin p (aQ _ z)) (h p),I.ko,I.len⟩
theorem Jr{N:List Str}(hN:N.Nodup){i j:Nat}{x:Str}(a:N[i]? =some x)(b:N[j]? =some x):i=j:=by
 obtain⟨h1,e1⟩:=List.getElem?_eq_some_iff.mp a;obtain⟨h2,e2⟩:=List.getElem?_eq_some_iff.mp b;exact(List.getElem_inj hN).mp (e1.trans e2.symm)
theorem Gi{M:Model}{A:Around}{E:Value->Shared->Prop}{i:Nat}{x:Str}{v:V}{u:Value}{Q:Unit->Shared->Prop}(I:Inv X pins σ H s)(hN:X.N.Nodup)(hi:X.N[i]? =some x)(hx:Loc X.env.scope x)(r:RelV v u)
  (h:∀s',Inv X pins (σ.set i (some v)) H s'->(∃a,d9 a s.heap s'.heap/\(a=X.env.locals∨X.env.cells.lookup x=some a))->Q () s') (hf:X.fn x=true∨X.env.scope.names.lookup x=some .local:=by first|exact .inl rfl|exact .inr rfl|assumption):wpAny M A (storeName X.env x u) Q E s:=by
 obtain⟨m,hn,hl⟩:=id I.loc;have hcls:(X.env.scope.kind== .class ||(X.env.scope.kind== .module&&X.env.locals !=X.env.globals))=false:=by rw[I.ok.kind];rfl
 have hiσ:i<σ.length:=by rw[I.len];exact(List.getElem?_eq_some_iff.mp hi).1
 have Sm:=I.Sm;have tracked:∀{a:Addr} {h':Heap},(∃o,s.heap.get? a=some o/\H a=none)->d9 a s.heap h'->qR X.prog X.w H h':=λ{a h'} ha hs b ob e=>by
  obtain⟨_,_,hfree⟩:=ha;refine(I.ko b ob e).sj (λc w' hc q=>(hs.2 c ?_).trans q) (λ_ q=>q) λ_ _ q=>q;rintro rfl;rcases hc with rfl|hc
  ·rw[hfree]at e;cases e
  ·rw[hfree]at hc;cases hc
 rcases hx with hk|hk
 ·refine wpAny_storeName_local hk hn (λh' hn' hs=> ?_) hcls;obtain⟨oL,_,_,hoL,_⟩:=id hn;refine h _ ⟨I.ok,I.os,I.bare,⟨λb o e n hb hx=> ?_,λb o e n hb hx=> ?_,I.base.free,λb o e hx=> ?_,I.base.wu,I.base.uC,I.base.vV⟩,⟨_,hn',λj y v' e1 e2 e3=> ?_⟩,λy c e=> ?_,I.free,I.qe,λp hp=> ?_,tracked ⟨oL,hoL,I.free⟩ hs,by simpa using I.len⟩ ⟨_,hs,.inl rfl⟩
  ·exact(hs.2 b (aK (av (aD e) I.ok.above))).trans (I.base.keep b o e n hb hx)
  ·obtain⟨sl,e1⟩:=I.base.slot b o e n hb hx;exact⟨sl,(hs.2 b (aK (av (aD e) I.ok.above))).trans e1⟩
  ·obtain⟨o',e1⟩:=I.base.there b o e hx;exact⟨o',(hs.2 b (aK (av (aD e) I.ok.above))).trans e1⟩
  ·by_cases hj:j=i
   ·subst hj;rw[hi]at e1;cases e1
    rw[fY hiσ]at e2
    cases e2
    exact⟨u,r,.inl ⟨hk,by simp⟩⟩
   ·rw[gH (ah hj)]at e2;obtain⟨u',r',q⟩:=hl j y v' e1 e2 e3;refine⟨u',r',?_⟩;rcases q with ⟨k,e⟩|⟨k,c,e,z⟩
    ·refine .inl ⟨k,?_⟩;have:y≠x:=λe=>hj (Jr hN e1 (e▸hi));simp[this,e]
    ·exact .inr ⟨k,c,e,z.sameBut hs (Sm y c e)⟩
  ·obtain⟨w',z⟩:=I.cell y c e;exact⟨w',z.sameBut hs (Sm y c e)⟩
  ·obtain⟨e,n,ne,nf,d⟩:=I.pin p hp;exact⟨(hs.2 p.1 ne).trans e,n,ne,nf,d⟩
 ·have hfn:X.fn x=true:=by
   rcases hf with z|z
   ·exact z
   ·rw[z]at hk;cases hk
  obtain⟨c,hc⟩:=I.ok.has x (.inl hk);obtain⟨w',z⟩:=I.cell x c hc;refine wpAny_storeName_cell I.ok.kind hk hc z (λh' hc' hs=> ?_);obtain⟨oc,hoc,hocd⟩:=id z;refine h {s with heap:=h'} ⟨I.ok,I.os,I.bare,⟨λb o e n hb hx=> ?_,λb o e n hb hx=> ?_,I.base.free,λb o e hx=> ?_,I.base.wu,I.base.uC,I.base.vV⟩,⟨m,hn.sameBut hs (ah (Sm x c hc)),λj y v' e1 e2 e3=> ?_⟩,λy c' e=> ?_,I.free,I.qe,λp hp=> ?_,tracked ⟨oc,hoc,I.qe x c hc⟩ hs,by simpa using I.len⟩ ⟨c,hs,.inr hc⟩
  ·exact(hs.2 b (aK (av (aD e) (I.ok.Tb x c hfn hc)))).trans (I.base.keep b o e n hb hx)
  ·obtain⟨sl,e1⟩:=I.base.slot b o e n hb hx;exact⟨sl,(hs.2 b (aK (av (aD e) (I.ok.Tb x c hfn hc)))).trans e1⟩
  ·obtain⟨o',e1⟩:=I.base.there b o e hx;exact⟨o',(hs.2 b (aK (av (aD e) (I.ok.Tb x c hfn hc)))).trans e1⟩
  ·by_cases hj:j=i
   ·subst hj;rw[hi]at e1;cases e1
    rw[fY hiσ]at e2
    cases e2
    exact⟨u,r,.inr ⟨.inl hk,c,hc,hc'⟩⟩
   ·rw[gH (ah hj)]at e2;obtain⟨u',r',q⟩:=hl j y v' e1 e2 e3;refine⟨u',r',?_⟩;rcases q with q|⟨k,c',e,z'⟩
    ·exact .inl q
    ·refine .inr ⟨k,c',e,z'.sameBut hs ?_⟩;rintro rfl;exact hj (Jr hN e1 (I.ok.inj _ _ _ e hc▸hi))
  ·by_cases hcc:c'=c
   ·subst hcc;exact⟨_,hc'⟩
   ·obtain⟨w2,z2⟩:=I.cell y c' e;exact⟨w2,z2.sameBut hs hcc⟩
  ·obtain⟨e,n,ne,nf,d⟩:=I.pin p hp;refine⟨(hs.2 p.1 ?_).trans e,n,ne,nf,d⟩;intro q;rw[q,hoc]at e;have q':oc=p.2:=aY e;exact d w' (by rw[←q'];exact hocd)
theorem J5{M:Model}{A:Around}{E:Value->Shared->Prop}{i:Nat}{x:Str}{v:V}{u:Value}{Q:Unit->Shared->Prop}(I:Inv X pins σ H s)(hN:X.N.Nodup)(hi:X.N[i]? =some x)(hx:Loc X.env.scope x)(r:RelV v u)
  (h:∀s',Inv X pins (σ.set i (some v)) H s'->Q () s') (hf:X.fn x=true∨X.env.scope.names.lookup x=some .local:=by first|exact .inl rfl|exact .inr rfl|assumption):wpAny M A (storeName X.env x u) Q E s:=
 Gi I hN hi hx r (λs' I' _=>h s' I') hf
theorem Inv.Sl{s':Shared}{ch:List Addr}(I:Inv X pins σ H s)(ho:s'.os=s.os)(u:Un (B9 X.stack) ch H H' s.heap s'.heap)(ko:qR X.prog X.w H' s'.heap)(hg:AllBare s'.gens)
  (hch:∀b∈ch,(b∈X.ex∨X.s₀.heap.objs.size<=b)/\b≠X.env.locals/\(∀x c,X.env.cells.lookup x=some c->c≠b)/\∀p∈X.pn++pins,p.1≠b):Inv X pins σ H' s':=by
 obtain⟨h',g',d',t',o'⟩:=s';have e:o'=s.os:=ho;subst e;exact I.call (g':=g') (t':=t') (d':=d') u ko hg hch
end
abbrev XK:=Value->Option Addr->Hp->Prop
abbrev St:=List (Option V)
abbrev VK:=V->Hp->Prop
abbrev TE:=St->Hp->VK->Prop
abbrev TT:=St->Hp->(Bool->Hp->Prop)->Prop
abbrev TA:=St->Hp->(List V->Hp->Prop)->Prop
structure Ends where
 nx:St->Hp->Prop
 rt:VK
 bk:St->Hp->Prop:=λ_ _=>False
 ct:St->Hp->Prop:=λ_ _=>False
abbrev TS:=Ends->St->Hp->Prop
def EP(X:Cx)(pins:List (Addr×Obj))(σ:St)(Q:VK)(u:Value)(s':Shared):Prop:=∃v H',Inv X pins σ H' s'/\RelV v u/\Q v H'
def TP(X:Cx)(pins:List (Addr×Obj))(σ:St)(Q:Bool->Hp->Prop)(b:Bool)(s':Shared):Prop:=∃H',Inv X pins σ H' s'/\Q b H'
def AP(X:Cx)(pins:List (Addr×Obj))(σ:St)(Q:List V->Hp->Prop)(us:List Value)(s':Shared):Prop:=∃vs H',Inv X pins σ H' s'/\Vals vs us/\Q vs H'
def SP(X:Cx)(pins:List (Addr×Obj))(D:Ends)(f:Flow)(s':Shared):Prop:=
 match f with
 | .next=>∃σ' H',Inv X pins σ' H' s'/\D.nx σ' H'
 | .brk=>∃σ' H',Inv X pins σ' H' s'/\D.bk σ' H'
 | .cont=>∃σ' H',Inv X pins σ' H' s'/\D.ct σ' H'
 | .ret u=>∃v σ' H',Inv X pins σ' H' s'/\RelV v u/\D.rt v H'
def PE(X:Cx)(e:Expr)(t:TE):Prop:=
 ∀(pins:List (Addr×Obj)) (s:Shared) (σ:St) (H:Hp) (Q:VK),Inv X pins σ H s->t σ H Q->wpAny (model X.prog X.w) X.A (eval e X.env) (EP X pins σ Q) X.xe s
def PT(X:Cx)(e:Expr)(t:TT):Prop:=
 ∀(pins:List (Addr×Obj)) (s:Shared) (σ:St) (H:Hp) (Q:Bool->Hp->Prop),Inv X pins σ H s->t σ H Q->wpAny (model X.prog X.w) X.A (isTrue e X.env (eval e X.env)) (TP X pins σ Q) X.xe s
def PW(X:Cx)(e:Expr)(t:TT):Prop:=
 ∀(whole:Sem Value) (pins:List (Addr×Obj)) (s:Shared) (σ:St) (H:Hp) (Q:Bool->Hp->Prop),Inv X pins σ H s->t σ H Q->wpAny (model X.prog X.w) X.A (isTrue e X.env whole) (TP X pins σ Q) X.xe s
theorem PW.pt{X:Cx}{e:Expr}{t:TT}(h:PW X e t):PT X e t:=h _
def PA(X:Cx)(es:List Expr)(t:TA):Prop:=
 ∀(pos:Pos) (pins:List (Addr×Obj)) (s:Shared) (σ:St) (H:Hp) (Q:List V->Hp->Prop),Inv X pins σ H s->t σ H Q->wpAny (model X.prog X.w) X.A (spliced (backTo pos (starEach es X.env))) (AP X pins σ Q) X.xe s
def PS(X:Cx)(st:Stmt)(t:TS):Prop:=
 ∀(pins:List (Addr×Obj)) (s:Shared) (σ:St) (H:Hp) (D:Ends),Inv X pins σ H s->t D σ H->wpAny (model X.prog X.w) X.A (exec st X.env) (SP X pins D) X.xe s
def IE(X:Cx)(st:List Stmt)(t:TS):Prop:=
 ∀(pins:List (Addr×Obj)) (s:Shared) (σ:St) (H:Hp) (D:Ends),Inv X pins σ H s->t D σ H->wpAny (model X.prog X.w) X.A (execs st X.env) (SP X pins D) X.xe s
theorem mJ{α:Type}{t:Sem α}{Q Q':α->Shared->Prop}{M:Model}{A:Around}{E:Value->Shared->Prop}{s:Shared}(h:wpAny M A t Q E s)(hQ:∀a s,Q a s->Q' a s):wpAny M A t Q' E s:=wpAny_mono h hQ λ_ _ x=>x
section
variable{X:Cx}
def XM(i:Nat):TE:=λσ H Q=>∃v,σ[i]? =some (some v)/\Q v H
def tC(v:V):TE:=λ_ H Q=>Q v H
theorem Pj{i:Nat}{x:Str}{pos:Pos}(hN:X.N[i]? =some x)(hv:UW X.env.scope x)(hd:(x==("__debug__":Str))=false:=by decide)(hcd:(x==("__classdict__":Str))=false:=by decide):PE X (.Name x pos) (XM i):=by
 intro pins s σ H Q I h;obtain⟨v,e,h⟩:=h;obtain⟨m,hn,hl⟩:=I.loc;obtain⟨u,r,l⟩:=hl i x v hN e hv;have fin:EP X pins σ Q u s:=⟨v,H,I,r,h⟩;rcases l with ⟨hk,hm⟩|⟨hk,c,hc,hcell⟩
 ·exact wpAny_Name (wpAny_loadName_local I.ok.kind hk hn hm fin) hd
 ·rcases hk with hk|hk
  ·exact wpAny_Name (wpAny_loadName_cell I.ok.kind hk hc hcell fin) hd
  ·exact wpAny_Name (wpAny_loadName_free I.ok.kind hk hc hcell fin hcd) hd
theorem Ug{i j pos}:PE X (.Constant (.int i) j pos) (tC (.int i)):=λ_ _ _ H _ I h=>wpAny_Constant_int ⟨.int i,H,I.tok _,⟨_,rfl⟩,h⟩
theorem Wf{b j pos}:PE X (.Constant (.bool b) j pos) (tC (.bl b)):=λ_ _ _ H _ I h=>Constant_bool ⟨.bl b,H,I,rfl,h⟩
theorem Uh{j pos}:PE X (.Constant .none j pos) (tC .non):=λ_ _ _ H _ I h=>Constant_none ⟨.non,H,I,rfl,h⟩
theorem Uk{x j pos}:PE X (.Constant (.str x) j pos) (tC (.str x)):=λ_ _ _ H _ I h=>Calls.Constant_str ⟨.str x,H,I.tok _,⟨_,rfl⟩,h⟩
def Gl(X:Cx)(x:Str):Prop:=X.env.kindOf x=some .globalImplicit
theorem CL{E:Value->Shared->Prop}{pins:List (Addr×Obj)}{s:Shared}{σ:St}{H:Hp}{x:Str}{u:Value}{pos:Pos}{Q:Value->Shared->Prop}(I:Inv X pins σ H s)(hg:Gl X x)(hm:X.mg x=some u)(h:Q u s)
  (hd:(x==("__debug__":Str))=false:=by decide):wpAny (model X.prog X.w) X.A (eval (.Name x pos) X.env) Q E s:=
 fF I.ok.kind hg (Calls.loadGlobal_global (by rw[I.ok.glob];exact I.mod.glob.keeps I.bk) hm h) hd
theorem sL{E:Value->Shared->Prop}{pins:List (Addr×Obj)}{s:Shared}{σ:St}{H:Hp}{x:Str}{u:Value}{pos:Pos}{Q:Value->Shared->Prop}(I:Inv X pins σ H s)(hg:Gl X x)(hm:X.mg x=none)(hv:bootBuiltins x=some u)(h:Q u s)
  (hn:x≠"__name__":=by decide) (hd:(x==("__debug__":Str))=false:=by decide):wpAny (model X.prog X.w) X.A (eval (.Name x pos) X.env) Q E s:=by
 obtain⟨mb,h1,h2⟩:=I.mod.blt;exact fF I.ok.kind hg (Calls.loadGlobal_builtin (by rw[I.ok.glob];exact I.mod.glob.keeps I.bk) hm (by rw[I.ok.blt];exact h1.keeps I.bk) ((h2 x hn).trans hv) h) hd
theorem RF{x:Str}{v:V}{u:Value}{pos:Pos}(hg:Gl X x)(hm:X.mg x=some u)(r:RelV v u)(hd:(x==("__debug__":Str))=false:=by decide):PE X (.Name x pos) (tC v):=
 λ_ _ _ H _ I h=>CL I hg hm ⟨v,H,I,r,h⟩ hd
theorem RB{x:Str}{v:V}{u:Value}{pos:Pos}(hg:Gl X x)(hm:X.mg x=none)(hv:bootBuiltins x=some u)(r:RelV v u)(hn:x≠"__name__":=by decide)(hd:(x==("__debug__":Str))=false:=by decide):PE X (.Name x pos) (tC v):=
 λ_ _ _ H _ I h=>sL I hg hm hv ⟨v,H,I,r,h⟩ hn hd
variable{a b:Expr}{ta tb:TE}{pos:Pos}
variable{tA tB':TT}{rest:List Expr}
def UE(t u:TT):TT:=λσ H Q=>t σ H λc H1=>if c=true then u σ H1 Q else Q false H1
def XH(t u:TT):TT:=λσ H Q=>t σ H λc H1=>if c=true then Q true H1 else u σ H1 Q
def UI(t:TT):TT:=λσ H Q=>t σ H λc H1=>Q (!c) H1
theorem RS(ha:PT X a tA):PW X (.BoolOp .And [a] pos) tA:=by
 intro wh pins s σ H Q I h;refine isTrue_and (mJ (ha pins s σ H Q I h) λc s1 e=> ?_)
 cases c with
 |true=>exact isTrue_and_nil e
 |false=>exact e
theorem Ux(ha:PT X a tA):PW X (.BoolOp .Or [a] pos) tA:=by
 intro wh pins s σ H Q I h;refine isTrue_or (mJ (ha pins s σ H Q I h) λc s1 e=> ?_)
 cases c with
 |false=>exact isTrue_or_nil e
 |true=>exact e
theorem Uw(ha:PT X a tA)(hb:PW X (.BoolOp .And (b::rest) pos) tB'):PW X (.BoolOp .And (a::b::rest) pos) (UE tA tB'):=by
 intro wh pins s σ H Q I h;refine isTrue_and (mJ (ha pins s σ H _ I h) λc s1 zq=> ?_);obtain⟨H1,I1,q1⟩:=zq
 cases c with
 |true=>exact hb wh pins s1 σ H1 Q I1 q1
 |false=>exact⟨H1,I1,q1⟩
theorem Wn(ha:PT X a tA)(hb:PW X (.BoolOp .Or (b::rest) pos) tB'):PW X (.BoolOp .Or (a::b::rest) pos) (XH tA tB'):=by
 intro wh pins s σ H Q I h;refine isTrue_or (mJ (ha pins s σ H _ I h) λc s1 zq=> ?_);obtain⟨H1,I1,q1⟩:=zq
 cases c with
 |true=>exact⟨H1,I1,q1⟩
 |false=>exact hb wh pins s1 σ H1 Q I1 q1
theorem Uv(ha:PT X a tA):PT X (.UnaryOp .Not a pos) (UI tA):=by
 intro pins s σ H Q I h;exact isTrue_not (ha pins s σ H (λc H1=>Q (!c) H1) I h)
def PQ(ta tb:TE):TE:=λσ H Q=>ta σ H λx H1=>∃c,x= .bl c/\if c=true then tb σ H1 Q else Q (.bl false) H1
def PZ(ta:TE):TE:=λσ H Q=>ta σ H λx H1=>∃c,x= .bl c/\Q (.bl (!c)) H1
theorem Uj{op}{t:TE}(h:PE X a t):PE X (.BoolOp op [a] pos) t:=λpins s σ H Q I hw=>BoolOp_one (h pins s σ H Q I hw)
theorem Ue(ha:PE X a ta)(hb:PE X (.BoolOp .And (b::rest) pos) tb):PE X (.BoolOp .And (a::b::rest) pos) (PQ ta tb):=by
 intro pins s σ H Q I h;refine BoolOp_and (mJ (ha pins s σ H _ I h) λv s1=>qv λx H1 I1 r1 q1=> ?_);obtain⟨c,rfl,q1⟩:=q1
 cases r1
 refine wpAny_truthy_bool ?_
 cases c with
 |true=>exact hb pins s1 σ H1 Q I1 q1
 |false=>exact⟨.bl false,H1,I1,rfl,q1⟩
theorem Ui(ha:PE X a ta):PE X (.UnaryOp .Not a pos) (PZ ta):=by
 intro pins s σ H Q I h;refine UnaryOp_ (mJ (ha pins s σ H _ I h) λv s1=>qv λx H1 I1 r1 q1=> ?_);obtain⟨c,rfl,q1⟩:=q1
 cases r1
 exact not_of (wpAny_truthy_bool ⟨.bl (!c),H1,I1,rfl,q1⟩)
end
def kO(K:af)(H:Hp)(a:Addr)(xs:List V):Prop:=
 Rd H a (.lst xs)∨
  ∃(o:Obj) (its:Array Value) (n:Nat),K.lookup a=some o/\o.cls= .type "list"/\o.dict=none/\o.data= .seq its n/\its.size<=sizeLine/\Vals xs its.toList
def Kd(K:af)(H:Hp)(a:Addr)(xs:List V):Prop:=
 Rd H a (.tup xs)∨
  ∃(o:Obj) (its:Array Value) (n:Nat),K.lookup a=some o/\o.cls= .type "tuple"/\o.data= .seq its n/\its.size<=sizeLine/\Vals xs its.toList
noncomputable def WZ:Value->Option V
 | .none=>some .non
 | .bool b=>some (.bl b)
 | .int i _=>some (.int i)
 | .str x _=>some (.str x)
 | .bytes b _=>some (.byt b)
 | .float b _=>some (.flt b)
 | .ref a=>some (.ref a)
 | .type n=>some (.ty n)
 |_=>none
theorem RelV.abs{x:V}{u:Value}(r:RelV x u):WZ u=some x:=by
 cases x with
 |non=>cases r;rfl
 |bl _=>cases r;rfl
 |int _=>obtain⟨t,rfl⟩:=r;rfl
 |str _=>obtain⟨t,rfl⟩:=r;rfl
 |byt _=>obtain⟨t,rfl⟩:=r;rfl
 |flt _=>obtain⟨t,rfl⟩:=r;rfl
 |ref _=>cases r;rfl
 |ty _=>cases r;rfl
theorem RelV.inj{x y:V}{u:Value}(r:RelV x u)(q:RelV y u):x=y:=aY (r.abs.symm.trans q.abs)
theorem Vals.inj{xs ys:List V}{us:List Value}(h:Vals xs us)(k:Vals ys us):xs=ys:=by
 induction h generalizing ys with
 |nil=>cases k;rfl
 |cons r t ih=>cases k with|cons r' t'=>rw[r.inj r',ih t']
section
variable{X:Cx}{pins:List (Addr×Obj)}{σ:St}{H:Hp}{s:Shared}{a:Addr}{xs ys:List V}
theorem kO.of{K:af}(h:H a=some (.lst xs)):kO K H a xs:= .inl (.inl h)
theorem Kd.of{K:af}(h:H a=some (.tup xs)):Kd K H a xs:= .inl (.inl h)
theorem Inv.list(I:Inv X pins σ H s)(h:kO X.K H a xs):∃its:List Value,Vals xs its/\PlainL s.heap a its.toArray/\xs.length<=sizeLine:=by
 rcases h with h|⟨o,its,n,hk,hc,hd,hs,hz,r⟩
 ·obtain⟨z,its,n,r,e⟩:=h.ok I.ko;exact⟨its,r,⟨_,n,e,rfl,rfl,rfl⟩,z⟩
 ·refine⟨its.toList,r,⟨o,n,I.IB a o hk,hc,hd,by simpa using hs⟩,?_⟩;have e:=r.length;simp only[fm]at e;lia
theorem Inv.tuple(I:Inv X pins σ H s)(h:Kd X.K H a xs):∃its:List Value,Vals xs its/\IsTup s.heap a its.toArray/\xs.length<=sizeLine:=by
 rcases h with h|⟨o,its,n,hk,hc,hs,hz,r⟩
 ·obtain⟨z,its,r,p⟩:=h.ok I.ko;exact⟨its,r,p,z⟩
 ·refine⟨its.toList,r,⟨o,I.IB a o hk,hc,n,by simpa using hs⟩,?_⟩;have e:=r.length;simp only[fm]at e;lia
theorem Inv.A3(I:Inv X pins σ H s)(h:kO X.K H a xs)(h':kO X.K H a ys):xs=ys:=by
 obtain⟨its,r,⟨o,n,e,_,_,d⟩,_⟩:=I.list h;obtain⟨its',r',⟨o',n',e',_,_,d'⟩,_⟩:=I.list h';rw[e]at e';cases e'
 rw[d]at d';injection d' with d1 _
 have:its=its':=by simpa using congrArg Array.toList d1
 subst this;exact r.inj r'
end
noncomputable abbrev Cx.wx (X:Cx) (E:Value->Shared->Prop):Cx:={X with xe:=E}
theorem Cx.Ok.wx{X:Cx}(ok:X.Ok)(E:Value->Shared->Prop):(X.wx E).Ok:=
 ⟨ok.mod,ok.kind,ok.glob,ok.blt,ok.above,ok.inj,ok.has,ok.Tb,ok.hd,ok.frames,ok.Ws,ok.Xc,ok.bs,ok.MD,ok.DN,ok.Om,ok.wm,ok.Ql⟩
theorem Cx.Ok.rX{X:Cx}{E:Value->Shared->Prop}(ok:(X.wx E).Ok):X.Ok:=
 ⟨ok.mod,ok.kind,ok.glob,ok.blt,ok.above,ok.inj,ok.has,ok.Tb,ok.hd,ok.frames,ok.Ws,ok.Xc,ok.bs,ok.MD,ok.DN,ok.Om,ok.wm,ok.Ql⟩
section
variable{X:Cx}{pins:List (Addr×Obj)}{σ:St}{H:Hp}{s:Shared}{E:Value->Shared->Prop}
theorem Inv.wx(I:Inv X pins σ H s)(E:Value->Shared->Prop):Inv (X.wx E) pins σ H s:=⟨I.ok.wx E,I.os,I.bare,I.base,I.loc,I.cell,I.free,I.qe,I.pin,I.ko,I.len⟩
theorem Inv.rX(I:Inv (X.wx E) pins σ H s):Inv X pins σ H s:=⟨I.ok.rX,I.os,I.bare,I.base,I.loc,I.cell,I.free,I.qe,I.pin,I.ko,I.len⟩
theorem SP.rX{D:Ends}{f:Flow}{s':Shared}(h:SP (X.wx E) pins D f s'):SP X pins D f s':=by
 cases f with
 |next=>obtain⟨σ',H',I,q⟩:=h;exact⟨σ',H',I.rX,q⟩
 |brk=>obtain⟨σ',H',I,q⟩:=h;exact⟨σ',H',I.rX,q⟩
 |cont=>obtain⟨σ',H',I,q⟩:=h;exact⟨σ',H',I.rX,q⟩
 |ret u=>obtain⟨v,σ',H',I,r,q⟩:=h;exact⟨v,σ',H',I.rX,r,q⟩
end
section
variable{X:Cx}{st:Stmt}{rest:List Stmt}{t u:TS}{e:Expr}{te:TE}{pos:Pos}
def PY:TS:=λD σ H=>D.nx σ H
def pE(t u:TS):TS:=λD σ H=>t {D with nx:=u D} σ H
theorem RP:IE X [] PY:=λ_ _ σ H _ I h=>wpAny_execs_nil ⟨σ,H,I,h⟩
theorem Pr(h1:PS X st t)(h2:IE X rest u):IE X (st::rest) (pE t u):=by
 intro pins s σ H D I h;refine wpAny_execs_cons (mJ (h1 pins s σ H {D with nx:=u D} I h) λf s1 q=> ?_)
 cases f with
 |next=>
  obtain⟨σ',H',I',q⟩:=q;exact h2 pins s1 σ' H' D I' q
 |ret v=>exact q
 |brk=>exact q
 |cont=>exact q
theorem RQ(h1:PS X st t):IE X [st] t:=by
 intro pins s σ H D I h;refine wpAny_execs_cons (mJ (h1 pins s σ H D I h) λf s1 q=> ?_)
 cases f with
 |next=>exact wpAny_execs_nil q
 |ret v=>exact q
 |brk=>exact q
 |cont=>exact q
theorem Inv.quiet{pins:List (Addr×Obj)}{σ:St}{H:Hp}{s:Shared}(I:Inv X pins σ H s):interactive X.env=false:=by simp[interactive,I.ok.kind]
def PU(te:TE):TS:=λD σ H=>te σ H λ_ H1=>D.nx σ H1
theorem RN(he:PE X e te)(hs:swapsWith e none pos.line X.env=pure false:=by rfl):PS X (.Expr e pos) (PU te):=by
 intro pins s σ H D I h;exact wpAny_Expr_any (mJ (he pins s σ H _ I h) λv s1=>qv λx H1 I1 r1 q1=>⟨σ,H1,I1,q1⟩) I.quiet hs
def UJ(te:TE):TS:=λD σ H=>te σ H D.rt
theorem Ut(he:PE X e te):PS X (.Return (some e) pos) (UJ te):=by
 intro pins s σ H D I h;exact wpAny_Return_some (mJ (he pins s σ H _ I h) λv s1=>qv λx H1 I1 r1 q1=>⟨x,σ,H1,I1,r1,q1⟩)
def P1:TS:=λD _ H=>D.rt .non H
theorem RO:PS X (.Return none pos) P1:=λ_ _ σ H _ I h=>wpAny_Return_none ⟨.non,σ,H,I,rfl,h⟩
def Lr(c:TT)(t u:TS):TS:=λD σ H=>c σ H λb H1=>if b=true then t D σ H1 else u D σ H1
theorem Wm{c:Expr}{a b:List Stmt}{tc:TT}(hc:PT X c tc)(ha:IE X a t)(hb:IE X b u):PS X (.If c a b pos) (Lr tc t u):=by
 intro pins s σ H D I h;refine wpAny_If (mJ (hc pins s σ H _ I h) λd s1 zq=> ?_);obtain⟨H1,I1,q1⟩:=zq
 cases d with
 |true=>exact ha pins s1 σ H1 D I1 q1
 |false=>exact hb pins s1 σ H1 D I1 q1
end
abbrev TG:=V->St->Hp->(St->Hp->Prop)->Prop
abbrev Qk:=List V->St->Hp->(St->Hp->Prop)->Prop
def PG(X:Cx)(target:Expr)(t:TG):Prop:=
 ∀(pins:List (Addr×Obj)) (s:Shared) (σ:St) (H:Hp) (v:V) (u:Value) (Q:St->Hp->Prop),Inv X pins σ H s->RelV v u->t v σ H Q->
  wpAny (model X.prog X.w) X.A (assign target X.env u) (λ_ s'=>∃σ' H',Inv X pins σ' H' s'/\Q σ' H') X.xe s
def U9(X:Cx)(ts:List Expr)(t:Qk):Prop:=
 ∀(pins:List (Addr×Obj)) (s:Shared) (σ:St) (H:Hp) (vs:List V) (us:List Value) (Q:St->Hp->Prop),Inv X pins σ H s->Vals vs us->t vs σ H Q->
  wpAny (model X.prog X.w) X.A (assignInOrder ((assignEach ts X.env).map (·.2)) us) (λ_ s'=>∃σ' H',Inv X pins σ' H' s'/\Q σ' H') X.xe s
abbrev MB:=V->V->V->Hp->(Hp->Prop)->Prop
def Qt(X:Cx)(t:MB):Prop:=
 ∀(pins:List (Addr×Obj)) (s:Shared) (σ:St) (H:Hp) (o i v:V) (ov iv u:Value) (Q:Hp->Prop),Inv X pins σ H s->RelV o ov->RelV i iv->RelV v u->t o i v H Q->
  wpAny (model X.prog X.w) X.A (setItem ov iv u) (λ_ s'=>∃H',Inv X pins σ H' s'/\Q H') X.xe s
section
variable{X:Cx}{pos:Pos}
def nZ(i:Nat):TG:=λv σ H Q=>Q (σ.set i (some v)) H
theorem CO{i:Nat}{x:Str}(hN:X.N.Nodup)(hi:X.N[i]? =some x)(hx:Loc X.env.scope x)(hf:X.fn x=true∨X.env.scope.names.lookup x=some .local:=by first|exact .inl rfl|exact .inr rfl|assumption):PG X (.Name x pos) (nZ i):=by
 intro pins s σ H v u Q I r h;exact wpAny_assign_Name (J5 I hN hi hx r (λs' I'=>⟨_,H,I',h⟩) hf)
def MP:Qk:=λvs σ H Q=>vs=[]/\Q σ H
def wB(t:TG)(u:Qk):Qk:=λvs σ H Q=>∃v r,vs=v::r/\t v σ H λσ' H'=>u r σ' H' Q
theorem Mj:U9 X [] MP:=by
 intro pins s σ H vs us Q I r h;obtain⟨e,h⟩:=h;subst e
 cases r
 exact assignInOrder_nil ⟨σ,H,I,h⟩
theorem DU{e:Expr}{es:List Expr}{t:TG}{u:Qk}(h1:PG X e t)(h2:U9 X es u)
  (hs:(assignEach (e::es) X.env).map (·.2)=assign e X.env::(assignEach es X.env).map (·.2):=by rfl):U9 X (e::es) (wB t u):=by
 intro pins s σ H vs us Q I r h;obtain⟨v,vr,e1,h⟩:=h;subst e1
 cases r with
 |cons r rr=>
  rw[hs];refine assignInOrder_cons (mJ (h1 pins s σ H _ _ _ I r h) λ_ s1=>VM λσ1 H1 I1 q1=> ?_);exact h2 pins s1 σ1 H1 _ _ Q I1 rr q1
def Ov(K:af)(n:Nat)(t:Qk):TG:=λv σ H Q=>∃a xs,v= .ref a/\Kd K H a xs/\xs.length=n/\t xs σ H Q
theorem Pm{es:List Expr}{k:Nat}{t:Qk}{n:Nat}(hc:X.calm=true)(h:U9 X es t)
  (hn:(assignEach es X.env).length=n:=by rfl) (hst:(assignEach es X.env).findIdx? (·.1)=none:=by rfl):PG X (.Tuple es k pos) (Ov X.K n t):=by
 intro pins s σ H v u Q I r hw;obtain⟨a,xs,e1,hq,hl,hw⟩:=hw;subst e1
 cases r
 obtain⟨its,rv,ht,hz⟩:=I.tuple hq;refine assign_Tuple_tuple (I.ok.hd hc) ht (by simp[hn,←hl,rv.length]) hst λh' hx=> ?_;have I1:Inv X pins σ H {s with heap:=h'}:=I.kept (t':=s.toks) λb o e=>hx b o (aK (aD e)) e;exact h pins _ σ H xs _ Q I1 (by simpa using rv) hw
def Ou(to ti:TE)(t:MB):TG:=λv σ H Q=>to σ H λo H1=>ti σ H1 λi H2=>t o i v H2 λH3=>Q σ H3
theorem Um{o i:Expr}{to ti:TE}{t:MB}(ho:PE X o to)(hi:PE X i ti)(hs:Qt X t)
  (ha:∀v,assign (.Subscript o i pos) X.env v=(do
   let ov←holding [v] (eval o X.env)
   let iv←holding [v,ov] (eval i X.env)
   standAt pos
   holding [v,ov,iv] (setItem ov iv v)
   release [v,ov,iv] []):=by intro _;rfl):PG X (.Subscript o i pos) (Ou to ti t):=by
 intro pins s σ H v u Q I r h;rw[ha];refine wpAny_bind (wpAny_holding (mJ (ho pins s σ H _ I h) λov s1=>qv λx H1 I1 r1 q1=> ?_));refine wpAny_bind (wpAny_holding (mJ (hi pins s1 σ H1 _ I1 q1) λiv s2=>qv λy H2 I2 r2 q2=> ?_));refine wpAny_bind (wpAny_standAt (wpAny_bind (wpAny_holding (mJ (hs pins s2 σ H2 x y v ov iv u _ I2 r1 r2 r q2) λ_ s3 zq=> ?_))));obtain⟨H3,I3,q3⟩:=zq;exact wpAny_release ⟨σ,H3,I3,q3⟩
def CA(te:TE)(g:TG):TS:=λD σ H=>te σ H λx H1=>g x σ H1 D.nx
theorem Ur{tg e:Expr}{te:TE}{g:TG}(he:PE X e te)(hg:PG X tg g)(hs:swapsWithSole [tg] e pos.line X.env=pure false:=by rfl)(hw:swappedStores [tg] e X.env=pure none:=by rfl)
  (h1:(assignEach [tg] X.env).map (·.2)=[assign tg X.env]:=by rfl):PS X (.Assign [tg] e pos) (CA te g):=by
 intro pins s σ H D I h;refine wpAny_Assign_stores (mJ (he pins s σ H _ I h) λv s1=>qv λx H1 I1 r1 q1=> ?_) hs hw;rw[h1];exact mJ (hg pins s1 σ H1 x v _ I1 r1 q1) λ_ s2 q=>q
theorem Uu{i:Nat}{x:Str}{e:Expr}{te:TE}{pos':Pos}(hN:X.N.Nodup)(hi:X.N[i]? =some x)(hx:Loc X.env.scope x)(he:PE X e te)(hs:swapsWith e (some (.Name x pos')) pos.line X.env=pure false:=by rfl)(hf:X.fn x=true∨X.env.scope.names.lookup x=some .local:=by first|exact .inl rfl|exact .inr rfl|assumption):
  PS X (.Assign [.Name x pos'] e pos) (CA te (nZ i)):=by
 intro pins s σ H D I h;refine wpAny_Assign_Name (mJ (he pins s σ H _ I h) λv s1=>qv λy H1 I1 r1 q1=> ?_) hs;exact J5 I1 hN hi hx r1 (λs2 I2=>⟨_,H1,I2,q1⟩) hf
end
section
variable{X:Cx}{pos:Pos}
def P4(c:TT)(tb:TS):TS:=λD σ H=>∃W:Nat->St->Hp->Prop,(∃m,W m σ H)/\∀m σ H,W m σ H->
 c σ H λb H1=>if b=true then∃N:St->Hp->Prop,(∀σ' H',N σ' H'->∃m',m'<m/\W m' σ' H')/\tb {D with nx:=N,ct:=N,bk:=D.nx} σ H1 else D.nx σ H1
theorem Pq{c:Expr}{body:List Stmt}{tc:TT}{tb:TS}(hp:PassesOwn (model X.prog X.w) X.A X.env X.xe)(hc:PT X c tc)(hb:IE X body tb):PS X (.While c body [] pos) (P4 tc tb):=by
 intro pins s σ H D I h;obtain⟨W,⟨m0,w0⟩,turn⟩:=h;refine wpAny_While (codeAny_whileLoop (λn s'=>∃σ' H',Inv X pins σ' H' s'/\W n σ' H') ?_ m0 ⟨σ,H,I,w0⟩);rintro n s1 ⟨σ1,H1,I1,w1⟩;refine wpAny_passesOwn hp (mJ (hc pins s1 σ1 H1 _ I1 (turn n σ1 H1 w1)) λb s2 zq=> ?_);obtain⟨H2,I2,q2⟩:=zq
 cases b with
 |true=>
  obtain⟨N,hN,q2⟩:=q2;rw[if_pos rfl];refine wpAny_passesOwn hp (mJ (hb pins s2 σ1 H2 _ I2 q2) λf s3 q3=> ?_)
  cases f with
  |next=>
   obtain⟨σ3,H3,I3,n3⟩:=q3;obtain⟨m',hm,w3⟩:=hN σ3 H3 n3;exact⟨m',hm,σ3,H3,I3,w3⟩
  |cont=>
   obtain⟨σ3,H3,I3,n3⟩:=q3;obtain⟨m',hm,w3⟩:=hN σ3 H3 n3;exact⟨m',hm,σ3,H3,I3,w3⟩
  |brk=>exact q3
  |ret v=>exact q3
 |false=>
  rw[if_neg aR];exact wpAny_execs_nil ⟨σ1,H2,I2,q2⟩
end
structure It where
 go:Nat->Hp->Prop
 SD:Nat->Hp->V->Hp->Prop
 stop:Nat->Hp->Prop
def AL(X:Cx)(pins:List (Addr×Obj))(H:Hp)(b:Addr):Prop:=
 H b=none/\b≠X.env.locals/\b∉X.fs/\(b∈X.ex∨X.s₀.heap.objs.size<=b)/\(∀x c,X.env.cells.lookup x=some c->c≠b)/\∀p∈X.pn++pins,p.1≠b
theorem Inv.Ot{X:Cx}{pins:List (Addr×Obj)}{σ:St}{H H':Hp}{s:Shared}{b:Addr}(I:Inv X pins σ H s)(hb:s.heap.objs.size<=b)(hn:H' b=none):AL X pins H' b:=by
 refine⟨hn,c_ (av I.lt hb),I.Xs hb,.inr (aA I.sz hb),λx c e z=> ?_,λp hp z=> ?_⟩
 ·obtain⟨v,q⟩:=I.cell x c e;exact absurd (av q.lt (by rw[z];exact hb)) (bw _)
 ·exact absurd (av (aD (I.pin p hp).1) (by rw[z];exact hb)) (bw _)
structure Turn(P:Program)(w:World)(K:af)(tg:Expr)(J:It)(fp:List Addr)(it:Addr)(tn:Nat->Heap->Prop):Prop where
 mem:it∈fp
 obj:∀i h,tn i h->∀b∈fp,∃o,h.get? b=some o/\∀v,o.data≠ .cell v
 keep:∀i h h',tn i h->(∀b∈fp,∀o,h.get? b=some o->h'.get? b=some o)->tn i h'
 item:∀(X:Cx),X.prog=P->X.w=w->X.K=K->X.calm=true->∀(i:Nat) (pins:List (Addr×Obj)) (s:Shared) (σ:St) (H:Hp) (E:Value->Shared->Prop),Inv X pins σ H s->(∀b∈fp,AL X pins H b)->tn i s.heap->J.go i H->
  wpAny (model P w) X.A (pyNext (.ref it)) (λr s1=>∃u,r=some u/\
   wpAny (model P w) X.A (letOwnedTupleGo tg (.ref it) u) (λ_ s2=>∃x H',Inv X pins σ H' s2/\RelV x u/\J.SD i H x H'/\tn (i+1) s2.heap/\∀b∈fp,H' b=none) E s1) E s
 done:∀(X:Cx),X.prog=P->X.w=w->X.K=K->X.calm=true->∀(i:Nat) (pins:List (Addr×Obj)) (s:Shared) (σ:St) (H:Hp) (E:Value->Shared->Prop),Inv X pins σ H s->(∀b∈fp,AL X pins H b)->tn i s.heap->J.stop i H->
  wpAny (model P w) X.A (pyNext (.ref it)) (λr s1=>r=none/\Inv X pins σ H s1) E s
 self:∀(A:Around) (i:Nat) (s:Shared) (Q:Value->Shared->Prop) (E:Value->Shared->Prop),tn i s.heap->Q (.ref it) s->wpAny (model P w) A (pyIter (.ref it)) Q E s
abbrev TI:=St->Hp->(It->Hp->Prop)->Prop
def X0(X:Cx)(pins:List (Addr×Obj))(σ:St)(tg:Expr)(R:It->Hp->Prop)(itv:Value)(s2:Shared):Prop:=
 ∃(it:Addr) (fp:List Addr) (tn:Nat->Heap->Prop) (J:It) (H':Hp),itv= .ref it/\Inv X pins σ H' s2/\Turn X.prog X.w X.K tg J fp it tn/\tn 0 s2.heap/\(∀b∈fp,AL X pins H' b)/\R J H'
def PI(X:Cx)(tg iter:Expr)(wi:TI):Prop:=
 ∀(pins:List (Addr×Obj)) (s:Shared) (σ:St) (H:Hp) (R:It->Hp->Prop),Inv X pins σ H s->wi σ H R->
  wpAny (model X.prog X.w) X.A (eval iter X.env) (λv s1=>wpAny (model X.prog X.w) X.A (pyIter v) (X0 X pins σ tg R) X.xe s1) X.xe s
theorem Ss{M:Model}{A:Around}{E:Value->Shared->Prop}{s:Shared}{tg:Expr}{it:Addr}{u:Value}{o:Obj}{n:String}{vs:Array Value}{Q:Unit->Shared->Prop}(ho:s.heap.get? it=some o)(hc:o.cls= .type n)(hd:o.data= .fields vs)
  (hn: ["enumerate","zip","dict_itemiterator","dict_reverseitemiterator","odict_iterator","itertools.zip_longest","itertools.pairwise"].contains n=false) (hQ:Q () s):wpAny M A (letOwnedTupleGo tg (.ref it) u) Q E s:=by
 unfold letOwnedTupleGo
 cases tg<;>first
  |exact wpAny_pure hQ
  |(cases u<;>first
    |exact wpAny_pure hQ
    |(refine wpAny_bind (wpAny_load ho ?_)
      rw[hc,hd];show wpAny M A (if (["enumerate","zip","dict_itemiterator","dict_reverseitemiterator","odict_iterator","itertools.zip_longest","itertools.pairwise"].contains n&&vs[0]? ==some (rawInt _))=true then _ else _) Q E s;rw[if_neg (by intro h;rw[hn,Bool.false_and]at h;cases h)]
      exact wpAny_pure hQ))
noncomputable def Qq (K:af) (a:Addr):It:=
 ⟨λi H=>∃xs x,kO K H a xs/\xs[i]? =some x,λi H x H'=>H'=H/\∀xs,kO K H a xs->xs[i]? =some x,λi H=>∃xs,kO K H a xs/\xs.length<=i⟩
noncomputable def Qj (lo:Int) (n:Nat):It:=⟨λi _=>i<n,λi H x H'=>H'=H/\x= .int (lo+i),λi _=>n<=i⟩
theorem Nz{P:Program}{w:World}{K:af}{tg:Expr}(a it:Addr):Turn P w K tg (Qq K a) [it] it (λi h=>h.IsListIter it a i) where
 mem:=by simp
 obj:=λi h st b hb=>by
  have e:b=it:=by simpa using hb
  subst e;obtain⟨o,e,c,d⟩:=st;exact⟨o,e,λv z=>by rw[d]at z;cases z⟩
 keep:=λi h h' st k=>st.at λo e=>k it (by simp) o e
 item:=by
  intro X hP hw hK hc i pins s σ H E I hf st hg;subst hP hw hK;obtain⟨xs,x,hq,hx⟩:=hg;obtain⟨its,rv,p,hz⟩:=I.list hq;obtain⟨u,hu,ru⟩:=rv.get hx;obtain⟨f0,f1,f2,f3,f4,f5⟩:=hf it (by simp);refine wpAny_pyNext_list_item st p.isList (x:=u) (by simpa using hu) λh' st' sb=> ?_;have I1:Inv X pins σ H {s with heap:=h'}:=I.turned (t':=s.toks) (λb o hb e=>(sb.2 b hb).trans e) f0 f1 f3 f4 f5;obtain⟨o,e,c,d⟩:=id st';exact⟨u,rfl,Ss (s:={s with heap:=h'}) e c d (by decide) ⟨x,H,I1,ru,⟨rfl,λys hy=>by rw[I.A3 hy hq];exact hx⟩,st',λb hb=>(hf b hb).1⟩⟩
 done:=by
  intro X hP hw hK hc i pins s σ H E I hf st hg;subst hP hw hK;obtain⟨xs,hq,hx⟩:=hg;obtain⟨its,rv,p,hz⟩:=I.list hq;obtain⟨f0,f1,f2,f3,f4,f5⟩:=hf it (by simp);have hl:=rv.length;exact wpAny_pyNext_list_end (I.ok.hd hc) st p.isList (by simp;lia) λh' eb=>⟨rfl,I.turned (t':=s.toks) (λb o hb e=>eb b o hb e) f0 f1 f3 f4 f5⟩
 self:=λ_ _ _ _ _ st h=>wpAny_pyIter_listiter st h
theorem Lw{P:Program}{w:World}{K:af}{tg:Expr}(it:Addr)(lo:Int)(n:Nat):Turn P w K tg (Qj lo n) [it] it (λi h=>IsRangeIter h it (lo+(i:Nat)*1) ((n:Int)-(i:Nat)) 1) where
 mem:=by simp
 obj:=λi h st b hb=>by
  have e:b=it:=by simpa using hb
  subst e;exact⟨_,st,λv z=>by
   have z':ig _=Data.cell v:=z
   cases z'⟩
 keep:=λi h h' st k=>k it (by simp) _ st
 item:=by
  intro X hP hw hK hc i pins s σ H E I hf st hg;subst hP hw hK;obtain⟨f0,f1,f2,f3,f4,f5⟩:=hf it (by simp);have W:=Walks.range (prog:=X.prog) (w:=X.w) (I.ok.hd hc) it lo 1 n;refine W.item i s _ _ hg st λv h' tk hv st' kk=> ?_;obtain⟨t,rfl⟩:=hv;have I1:Inv X pins σ H {s with heap:=h',toks:=tk}:=I.turned (λb o hb e=>kk b o (by simpa using hb) e) f0 f1 f3 f4 f5;refine⟨_,rfl,Ss (s:={s with heap:=h',toks:=tk}) (n:="range_iterator") st' rfl rfl (by decide) ⟨.int (lo+i),H,I1,⟨t,?_⟩,⟨rfl,rfl⟩,st',λb hb=>(hf b hb).1⟩⟩;rw[Int.mul_one]
 done:=by
  intro X hP hw hK hc i pins s σ H E I hf st hg;subst hP hw hK;obtain⟨f0,f1,f2,f3,f4,f5⟩:=hf it (by simp);exact wpAny_pyNext_range_end (I.ok.hd hc) st (by have:n<=i:=hg;lia) λh' eb=>⟨rfl,I.turned (t':=s.toks) (λb o hb e=>eb b o hb e) f0 f1 f3 f4 f5⟩
 self:=λ_ _ _ _ _ st h=>wpAny_pyIter_rangeiter st h
section
variable{X:Cx}{tg:Expr}
def OC(K:af)(tl:TE):TI:=λσ H R=>tl σ H λx H1=>∃a,x= .ref a/\(∃xs,kO K H1 a xs)/\R (Qq K a) H1
theorem RJ{l:Expr}{tl:TE}(hl:PE X l tl):PI X tg l (OC X.K tl):=by
 intro pins s σ H R I h;refine mJ (hl pins s σ H _ I h) λv s1=>qv λx H1 I1 r1 q1=> ?_;obtain⟨a,e,⟨xs,hq⟩,q⟩:=q1;subst e
 cases r1
 obtain⟨its,rv,p,hz⟩:=I1.list hq;refine wpAny_pyIter_list p.isList ?_;refine⟨s1.heap.objs.size,[s1.heap.objs.size],_,_,H1,rfl,I1.kept (t':=s1.toks) λb o e=>ay _ e,Nz a _,⟨_,bA _ rfl,rfl,rfl⟩,λb hb=> ?_,q⟩;have e:b=s1.heap.objs.size:=by simpa using hb
 subst e;exact I1.Ot (aq _) (I1.ko.fresh (aq _))
theorem JD{pins:List (Addr×Obj)}{σ:St}{H:Hp}{s:Shared}{R:It->Hp->Prop}{E:Value->Shared->Prop}{lo hi:Int}{t u v:Tok}{tk:Nat}(I:Inv X pins σ H s)(h1: -(2^62)<=lo)(h2:lo<2^62)(h3: -(2^62)<=hi)(h4:hi<2^62)
  (q:R (Qj lo (hi-lo).toNat) H):wpAny (model X.prog X.w) X.A (pyIter (.ref s.heap.objs.size)) (X0 X pins σ tg R) E {s with heap:=s.heap.push {cls:= .type "range",data:= .fields #[.int lo t,.int hi u,.int 1 v]},toks:=tk}:=by
 refine wpAny_pyIter_range (iU ..) (small_one h1 h2 h3 h4) ?_;have I1:Inv X pins σ H {s with heap:=s.heap.push {cls:= .type "range",data:= .fields #[.int lo t,.int hi u,.int 1 v]},toks:=tk}:=I.kept λb o e=>ay _ e;refine⟨(s.heap.push {cls:= .type "range",data:= .fields #[.int lo t,.int hi u,.int 1 v]}).objs.size,[(s.heap.push {cls:= .type "range",data:= .fields #[.int lo t,.int hi u,.int 1 v]}).objs.size],_,_,H,rfl,
  I1.kept (t':=tk) λb o e=>ay _ e,Lw _ lo (hi-lo).toNat,?_,λb hb=> ?_,q⟩
 ·have e1:lo+((0:Nat):Int)*1=lo:=by simp
  have e2:(((hi-lo).toNat:Nat):Int)-((0:Nat):Int)=Builtin.Range.rangeSize lo hi 1:=by rw[rangeSize_one];split<;>lia
  show IsRangeIter _ _ (lo+((0:Nat):Int)*1) ((((hi-lo).toNat:Nat):Int)-((0:Nat):Int)) 1;rw[e1,e2];exact bA _ rfl
 ·have e:b=(s.heap.push {cls:= .type "range",data:= .fields #[.int lo t,.int hi u,.int 1 v]}).objs.size:=by simpa using hb
  subst e;exact I1.Ot (aq _) (I1.ko.fresh (aq _))
def OD(ta:TA):TI:=λσ H R=>ta σ H λvs H1=>∃j:Int,vs=[.int j]/\ -(2^62)<=j/\j<2^62/\R (Qj 0 j.toNat) H1
def OE(ta:TA):TI:=λσ H R=>ta σ H λvs H1=>∃i j:Int,vs=[.int i,.int j]/\(-(2^62)<=i/\i<2^62/\ -(2^62)<=j/\j<2^62)/\R (Qj i (j-i).toNat) H1
theorem Nh{a:Expr}{ta:TA}{p pos:Pos}(hg:Gl X "range")(hm:X.mg "range"=none)(ha:PA X [a] ta)(hs:starEach [a] X.env=[(false,eval a X.env)]:=by rfl):PI X tg (.Call (.Name "range" p) [a] [] pos) (OD ta):=by
 intro pins s σ H R I h;refine Call_ (sL I hg hm boot_range (bQ (mJ (ha pos pins s σ H _ I h) λus s1=>qv λvs H1 I1 r1 q1=> ?_) hs rfl));obtain⟨j,e,q1,q2,q⟩:=q1;subst e
 cases r1 with
 |cons r rr=>
  cases rr
  obtain⟨t,rfl⟩:=r;exact call_range_1 (JD I1 (by lia) (by lia) q1 q2 (by simpa using q))
theorem Ni{a b:Expr}{ta:TA}{p pos:Pos}(hg:Gl X "range")(hm:X.mg "range"=none)(ha:PA X [a,b] ta)(hs:starEach [a,b] X.env=[(false,eval a X.env),(false,eval b X.env)]:=by rfl)(hs2:starEach [b] X.env=[(false,eval b X.env)]:=by rfl):
  PI X tg (.Call (.Name "range" p) [a,b] [] pos) (OE ta):=by
 intro pins s σ H R I h;refine Call_ (sL I hg hm boot_range (bQ (mJ (ha pos pins s σ H _ I h) λus s1=>qv λvs H1 I1 r1 q1=> ?_) (by rw[hs,hs2]) (by rw[hs2];rfl)));obtain⟨i,j,e,⟨q1,q2,q3,q4⟩,q⟩:=q1;subst e
 cases r1 with
 |cons r rr=>
  cases rr with
  |cons r' rr=>
   cases rr
   obtain⟨t,rfl⟩:=r;obtain⟨t',rfl⟩:=r';exact call_range_2 (JD I1 q1 q2 q3 q4 q)
def UH(wi:TI)(g:TG)(tb:TS):TS:=λD σ H=>wi σ H λJ H1=>∃W:Nat->Nat->St->Hp->Prop,(∃m,W 0 m σ H1)/\∀i m σ H,W i m σ H->
 (J.stop i H/\D.nx σ H)∨(J.go i H/\∃N:St->Hp->Prop,(∀σ' H',N σ' H'->∃m',m'<m/\W (i+1) m' σ' H')/\∀x H',J.SD i H x H'->g x σ H' λσ2 H2=>tb {D with nx:=N,ct:=N,bk:=D.nx} σ2 H2)
noncomputable def DV (fp:List Addr) (h:Heap):List (Addr×Obj):=fp.filterMap λb=>(h.get? b).map λo=>(b,o)
theorem sN{fp:List Addr}{h:Heap}{b:Addr}{o:Obj}(hb:b∈fp)(e:h.get? b=some o):(b,o)∈DV fp h:=List.mem_filterMap.mpr ⟨b,hb,by rw[e];rfl⟩
theorem Nb{fp:List Addr}{h:Heap}{p:Addr×Obj}(hp:p∈DV fp h):p.1∈fp/\h.get? p.1=some p.2:=by
 obtain⟨b,hb,e⟩:=List.mem_filterMap.mp hp
 cases q:h.get? b with
 |none=>rw[q]at e;cases e
 |some o=>
  rw[q]at e;have e':(b,o)=p:=aY e;subst e';exact⟨hb,q⟩
theorem Inv.pinned{pins:List (Addr×Obj)}{σ:St}{H:Hp}{s:Shared}{fp:List Addr}(I:Inv X pins σ H s)(hf:∀b∈fp,AL X pins H b)(ho:∀b∈fp,∃o,s.heap.get? b=some o/\∀v,o.data≠ .cell v):Inv X (pins++DV fp s.heap) σ H s:=
 I.Ba λp hp=>(List.mem_append.mp hp).elim (λz=>I.pin p (aH _ z)) λz=>by
  obtain⟨hb,e⟩:=Nb z;obtain⟨f0,f1,f2,_⟩:=hf p.1 hb;obtain⟨o,e',d⟩:=ho p.1 hb;rw[e]at e';cases e'
  exact⟨e,f0,f1,f2,d⟩
theorem Inv.Ew{pins pl:List (Addr×Obj)}{σ:St}{H:Hp}{s:Shared}(I:Inv X (pins++pl) σ H s):Inv X pins σ H s:=I.Ba λp hp=>I.pin p (aH _ (aQ _ hp))
theorem Us{iter:Expr}{body:List Stmt}{wi:TI}{g:TG}{tb:TS}{pos:Pos}(hp:PassesOwn (model X.prog X.w) X.A X.env X.xe)(hc:X.calm=true)(hi:PI X tg iter wi)(hg:PG X tg g)(hb:IE X body tb)
  (hs:∀x,foldedSetIterable iter X.env x=pure x:=by intro _;rfl):PS X (.For tg iter body [] pos) (UH wi g tb):=by
 intro pins s σ H D I h;refine wpAny_For (mJ (hi pins s σ H _ I h) λv s1 h1=>mJ h1 λitv s2 h2=> ?_) hs;obtain⟨it,fp,tn,J,H2,e,I2,T,st2,f2,W,⟨m0,w0⟩,turn⟩:=h2;subst e;have stat:∀{H':Hp},(∀b∈fp,H' b=none)->∀b∈fp,AL X pins H' b:=λhn b hb=>⟨hn b hb,(f2 b hb).2⟩;refine codeAny_forLoop_any (λn s'=>∃i σ' H',Inv X pins σ' H' s'/\tn i s'.heap/\(∀b∈fp,H' b=none)/\W i n σ' H') ?_ m0 ⟨0,σ,H2,I2,st2,λb hb=>(f2 b hb).1,w0⟩;rintro n s3 ⟨i,σ3,H3,I3,st3,fr3,w3⟩;rcases turn i n σ3 H3 w3 with ⟨stop,qn⟩|⟨go,N,hN,step⟩
 ·refine wpAny_passesOwn hp (mJ (T.done X rfl rfl rfl hc i pins s3 σ3 H3 X.xe I3 (stat fr3) st3 stop) λr s4=>gB λhr I4=> ?_);subst hr;exact wpAny_execs_nil ⟨σ3,H3,I4,qn⟩
 ·refine wpAny_passesOwn hp (mJ (T.item X rfl rfl rfl hc i pins s3 σ3 H3 X.xe I3 (stat fr3) st3 go) λr s4 zq=> ?_);obtain⟨u,hr,h4⟩:=zq;subst hr;refine wpAny_passesOwn hp (mJ h4 λ_ s5 zq=> ?_);obtain⟨x,H5,I5,r5,y5,st5,fr5⟩:=zq;have I5':=I5.pinned (stat fr5) (T.obj _ _ st5);refine wpAny_passesOwn hp (mJ (hg _ s5 σ3 H5 x u _ I5' r5 (step x H5 y5)) λ_ s6=>VM λσ6 H6 I6 q6=> ?_);refine wpAny_passesOwn hp (mJ (hb _ s6 σ6 H6 _ I6 q6) λf s7 q7=> ?_);have again:∀{σ7:St} {H7:Hp},Inv X (pins++DV fp s5.heap) σ7 H7 s7->N σ7 H7->∃m,m<n/\∃i σ' H',Inv X pins σ' H' s7/\tn i s7.heap/\(∀b∈fp,H' b=none)/\W i m σ' H':=λ{σ7 H7} I7 n7=>by
   obtain⟨m',hm,w7⟩:=hN σ7 H7 n7;refine⟨m',hm,i+1,σ7,H7,I7.Ew,T.keep _ _ _ st5 λb hb o e=>(I7.pin (b,o) (aH _ (aH _ (sN hb e)))).1,λb hb=> ?_,w7⟩;obtain⟨o,e,d⟩:=T.obj _ _ st5 b hb;exact(I7.pin (b,o) (aH _ (aH _ (sN hb e)))).2.1
  cases f with
  |next=>obtain⟨σ7,H7,I7,n7⟩:=q7;exact again I7 n7
  |cont=>obtain⟨σ7,H7,I7,n7⟩:=q7;exact again I7 n7
  |brk=>obtain⟨σ7,H7,I7,q7⟩:=q7;exact⟨σ7,H7,I7.Ew,q7⟩
  |ret v=>obtain⟨x7,σ7,H7,I7,r7,q7⟩:=q7;exact⟨x7,σ7,H7,I7.Ew,r7,q7⟩
end
theorem Oq{K:af}{a:Addr}{xs:List V}{g:TG}{tb:TS}{D:Ends}{σ:St}{H:Hp}(Pv:Nat->St->Hp->Prop)(h0:Pv 0 σ H)(hl:∀i σ H,i<=xs.length->Pv i σ H->kO K H a xs)
  (hs:∀i x σ H,xs[i]? =some x->Pv i σ H->g x σ H λσ2 H2=>tb {D with nx:=Pv (i+1),ct:=Pv (i+1),bk:=D.nx} σ2 H2) (hd:∀σ H,Pv xs.length σ H->D.nx σ H):
  ∃W:Nat->Nat->St->Hp->Prop,(∃m,W 0 m σ H)/\∀i m σ H,W i m σ H->
   ((Qq K a).stop i H/\D.nx σ H)∨((Qq K a).go i H/\∃N:St->Hp->Prop,(∀σ' H',N σ' H'->∃m',m'<m/\W (i+1) m' σ' H')/\∀x H',(Qq K a).SD i H x H'->g x σ H' λσ2 H2=>tb {D with nx:=N,ct:=N,bk:=D.nx} σ2 H2):=by
 refine⟨λi m σ H=>m=xs.length-i/\i<=xs.length/\Pv i σ H,⟨xs.length,by simp,bR _,h0⟩,?_⟩;rintro i m σ H ⟨rfl,hi,p⟩;have q:=hl i σ H hi p;by_cases hlt:i<xs.length
 ·refine .inr ⟨⟨xs,xs[i],q,by simp[hlt]⟩,Pv (i+1),λσ' H' p'=>⟨xs.length-(i+1),by omega,rfl,hlt,p'⟩,λx H' y=> ?_⟩;obtain⟨e,y⟩:=y;subst e;exact hs i x σ _ (y xs q) p
 ·have e:i=xs.length:=by lia
  subst e;exact .inl ⟨⟨xs,q,aq _⟩,hd σ H p⟩
theorem MO{lo:Int}{n:Nat}{g:TG}{tb:TS}{D:Ends}{σ:St}{H:Hp}(Pv:Nat->St->Hp->Prop)(h0:Pv 0 σ H)
  (hs:∀i σ H,i<n->Pv i σ H->g (.int (lo+i)) σ H λσ2 H2=>tb {D with nx:=Pv (i+1),ct:=Pv (i+1),bk:=D.nx} σ2 H2) (hd:∀σ H,Pv n σ H->D.nx σ H):
  ∃W:Nat->Nat->St->Hp->Prop,(∃m,W 0 m σ H)/\∀i m σ H,W i m σ H->
   ((Qj lo n).stop i H/\D.nx σ H)∨((Qj lo n).go i H/\∃N:St->Hp->Prop,(∀σ' H',N σ' H'->∃m',m'<m/\W (i+1) m' σ' H')/\∀x H',(Qj lo n).SD i H x H'->g x σ H' λσ2 H2=>tb {D with nx:=N,ct:=N,bk:=D.nx} σ2 H2):=by
 refine⟨λi m σ H=>m=n-i/\i<=n/\Pv i σ H,⟨n,by simp,bR _,h0⟩,?_⟩;rintro i m σ H ⟨rfl,hi,p⟩;by_cases hlt:i<n
 ·refine .inr ⟨hlt,Pv (i+1),λσ' H' p'=>⟨n-(i+1),by omega,rfl,hlt,p'⟩,λx H' y=> ?_⟩;obtain⟨e,y⟩:=y;subst e y;exact hs i σ _ hlt p
 ·have e:i=n:=by lia
  subst e;exact .inl ⟨aq _,hd σ H p⟩
abbrev R2:=V->V->Hp->VK->Prop
def oZ(X:Cx)(f:Value->Value->Sem Value)(r:R2):Prop:=
 ∀(pins:List (Addr×Obj)) (s:Shared) (σ:St) (H:Hp) (x y:V) (v u:Value) (Q:VK),Inv X pins σ H s->RelV x v->RelV y u->r x y H Q->
  wpAny (model X.prog X.w) X.A (f v u) (EP X pins σ Q) X.xe s
def Vc(X:Cx)(f:Value->Sem Value)(r:V->Hp->VK->Prop):Prop:=
 ∀(pins:List (Addr×Obj)) (s:Shared) (σ:St) (H:Hp) (x:V) (v:Value) (Q:VK),Inv X pins σ H s->RelV x v->r x H Q->
  wpAny (model X.prog X.w) X.A (f v) (EP X pins σ Q) X.xe s
def nW(X:Cx)(f:Value)(r:List V->Hp->VK->Prop):Prop:=
 ∀(pins:List (Addr×Obj)) (s:Shared) (σ:St) (H:Hp) (xs:List V) (us:List Value) (Q:VK),Inv X pins σ H s->Vals xs us->r xs H Q->
  wpAny (model X.prog X.w) X.A (call f us) (EP X pins σ Q) X.xe s
def WT(X:Cx)(r:V->Hp->(Bool->Hp->Prop)->Prop):Prop:=
 ∀(pins:List (Addr×Obj)) (s:Shared) (σ:St) (H:Hp) (x:V) (v:Value) (Q:Bool->Hp->Prop),Inv X pins σ H s->RelV x v->r x H Q->
  wpAny (model X.prog X.w) X.A (truthy v) (TP X pins σ Q) X.xe s
def P0(r:R2)(ta tb:TE):TE:=λσ H Q=>ta σ H λx H1=>tb σ H1 λy H2=>r x y H2 Q
def XJ(r:V->Hp->VK->Prop)(ta:TE):TE:=λσ H Q=>ta σ H λx H1=>r x H1 Q
def rI(C:Int->Int->Prop)(g:Int->Int->V):R2:=λx y H Q=>∃i j,x= .int i/\y= .int j/\C i j/\Q (g i j) H
def Sz(g:Int->Int->V):R2:=λx y H Q=>∃i j,x= .int i/\y= .int j/\Q (g i j) H
def rU(g:Int->V):V->Hp->VK->Prop:=λx H Q=>∃i,x= .int i/\Q (g i) H
section
variable{X:Cx}{a b c:Expr}{ta tb tc:TE}{pos:Pos}
theorem SV(ha:PE X a ta)(hb:PE X b tb){pins:List (Addr×Obj)}{s:Shared}{σ:St}{H:Hp}{R:V->V->Hp->Prop}(I:Inv X pins σ H s)
  (h:ta σ H λx H1=>tb σ H1 λy H2=>R x y H2) {Q:Value->Shared->Prop} {f:Value->Value->Sem Value}
  (hf:∀v u s2 x y H2,Inv X pins σ H2 s2->RelV x v->RelV y u->R x y H2->wpAny (model X.prog X.w) X.A (f v u) Q X.xe s2):
  wpAny (model X.prog X.w) X.A (eval a X.env) (λv s₁=>wpAny (model X.prog X.w) X.A (eval b X.env) (λu s₂=>wpAny (model X.prog X.w) X.A (f v u) Q X.xe s₂) X.xe s₁) X.xe s:=by
 refine mJ (ha pins s σ H _ I h) λv s1=>qv λx H1 I1 r1 q1=> ?_;refine mJ (hb pins s1 σ H1 _ I1 q1) λu s2=>qv λy H2 I2 r2 q2=> ?_;exact hf v u s2 x y H2 I2 r1 r2 q2
theorem Wi{op:Operator}{r:R2}(ho:oZ X (binaryOp op) r)(ha:PE X a ta)(hb:PE X b tb):PE X (.BinOp a op b pos) (P0 r ta tb):=by
 intro pins s σ H Q I h;exact wpAny_BinOp (SV ha hb I h λv u s2 x y H2 I2 rx ry q=>ho pins s2 σ H2 x y v u Q I2 rx ry q)
theorem Wk{op:UnaryOp}{r:V->Hp->VK->Prop}(ho:Vc X (unaryOp op) r)(ha:PE X a ta):PE X (.UnaryOp op a pos) (XJ r ta):=by
 intro pins s σ H Q I h;exact UnaryOp_ (mJ (ha pins s σ H _ I h) λv s1=>qv λx H1 I1 r1 q1=>ho pins s1 σ H1 x v Q I1 r1 q1)
theorem WL{f:Value->Value->Sem Value}{C:Int->Int->Prop}{g:Int->Int->Int}
  (rule:∀(i j:Int) (t u:Tok) (s:Shared) (Q:Value->Shared->Prop) (E:Value->Shared->Prop),C i j->Q (.int (g i j) s.toks) {s with toks:=s.toks+1}->wpAny (model X.prog X.w) X.A (f (.int i t) (.int j u)) Q E s):
  oZ X f (rI C λi j=> .int (g i j)):=by
 intro pins s σ H x y v u Q I rx ry h;obtain⟨i,j,rfl,rfl,hc,q⟩:=h;obtain⟨t,rfl⟩:=rx;obtain⟨t',rfl⟩:=ry;exact rule i j t t' s _ _ hc ⟨.int (g i j),H,I.tok _,⟨_,rfl⟩,q⟩
theorem V8{f:Value->Value->Sem Value}{g:Int->Int->Int}
  (rule:∀(i j:Int) (t u:Tok) (s:Shared) (Q:Value->Shared->Prop) (E:Value->Shared->Prop),Q (.int (g i j) s.toks) {s with toks:=s.toks+1}->wpAny (model X.prog X.w) X.A (f (.int i t) (.int j u)) Q E s):
  oZ X f (Sz λi j=> .int (g i j)):=by
 intro pins s σ H x y v u Q I rx ry h;obtain⟨i,j,rfl,rfl,q⟩:=h;obtain⟨t,rfl⟩:=rx;obtain⟨t',rfl⟩:=ry;exact rule i j t t' s _ _ ⟨.int (g i j),H,I.tok _,⟨_,rfl⟩,q⟩
theorem T4{f:Value->Value->Sem Value}{g:Int->Int->Bool}
  (rule:∀(i j:Int) (t u:Tok) (s:Shared) (Q:Value->Shared->Prop) (E:Value->Shared->Prop),Q (.bool (g i j)) s->wpAny (model X.prog X.w) X.A (f (.int i t) (.int j u)) Q E s):
  oZ X f (Sz λi j=> .bl (g i j)):=by
 intro pins s σ H x y v u Q I rx ry h;obtain⟨i,j,rfl,rfl,q⟩:=h;obtain⟨t,rfl⟩:=rx;obtain⟨t',rfl⟩:=ry;exact rule i j t t' s _ _ ⟨.bl (g i j),H,I,rfl,q⟩
def SE(i j:Int):Prop:=0<j/\j<1073741824
def SF(i j:Int):Prop:=0<=j/\j<=1000000/\i.natAbs<2^64
def NI(i j:Int):Prop:=(-(2^64)<i/\i<2^64)∨(-(2^64)<j/\j<2^64)
theorem NI.ok{i j:Int}(h:NI i j):IntMulOk i j:=by
 rcases h with ⟨h1,h2⟩|⟨h1,h2⟩
 ·exact .of_left (intBits_le_64 h1 h2)
 ·exact .of_right (intBits_le_64 h1 h2)
theorem T5:oZ X (binaryOp .Add) (Sz λi j=> .int (i+j)):=V8 λ_ _ _ _ _ _ _ q=>add_int q
theorem Ub:oZ X (binaryOp .Sub) (Sz λi j=> .int (i-j)):=V8 λ_ _ _ _ _ _ _ q=>sub_int q
theorem T9:oZ X (binaryOp .Mult) (rI NI λi j=> .int (i*j)):=WL λ_ _ _ _ _ _ _ hc q=>mul_int q hc.ok
theorem Ry:oZ X (binaryOp .FloorDiv) (rI SE λi j=> .int (i/j)):=WL λi j _ _ _ _ _ hc q=>by
 have h1:(0:Int)<j:=hc.1;have h2:j<1073741824:=hc.2;exact floordiv_int (by lia) (by rw[Int.fdiv_eq_ediv_of_nonneg i (by lia)];exact q) (.inl (PyProof.noPylong_small (by omega)))
theorem T8:oZ X (binaryOp .Mod) (rI (λ_ j=>0<j) λi j=> .int (i%j)):=WL λi j _ _ _ _ _ hc q=>by
 have h1:(0:Int)<j:=hc;exact mod_int' (by lia) (by rw[Int.fmod_eq_emod_of_nonneg i (by lia)];exact q)
theorem T_:oZ X (binaryOp .Pow) (rI SF λi j=> .int (i^j.toNat)):=WL λ_ _ _ _ _ _ _ hc q=>pow_int_small hc.1 hc.2.1 hc.2.2 q
theorem Yr{f:Value->Sem Value}{g:Int->Int}
  (rule:∀(i:Int) (t:Tok) (s:Shared) (Q:Value->Shared->Prop) (E:Value->Shared->Prop),Q (.int (g i) s.toks) {s with toks:=s.toks+1}->wpAny (model X.prog X.w) X.A (f (.int i t)) Q E s):
  Vc X f (rU λi=> .int (g i)):=by
 intro pins s σ H x v Q I rx h;obtain⟨i,rfl,q⟩:=h;obtain⟨t,rfl⟩:=rx;exact rule i t s _ _ ⟨.int (g i),H,I.tok _,⟨_,rfl⟩,q⟩
theorem UQ:Vc X (unaryOp .USub) (rU λi=> .int (-i)):=Yr λ_ _ _ _ _ q=>neg_int q
end
noncomputable def UA:V->V->Bool
 | .non,.non=>true| .non,.int _=>true| .int _,.non=>true| .non,.bl _=>true| .bl _,.non=>true| .non,.str _=>true| .str _,.non=>true
 | .int _,.int _=>true| .bl _,.bl _=>true| .str _,.str _=>true| .byt _,.byt _=>true
 | .int _,.str _=>true| .str _,.int _=>true| .bl _,.str _=>true| .str _,.bl _=>true
 |_,_=>false
def Yk:R2:=λx y H Q=>UA x y=true/\Q (.bl (decide (x=y))) H
def Yl:R2:=λx y H Q=>UA x y=true/\Q (.bl (!decide (x=y))) H
theorem LM{i j:Int}:decide (V.int i=V.int j)=(i==j):=by
 rw[eW];simp
theorem Oh{i j:Bool}:decide (V.bl i=V.bl j)=(i==j):=by
 rw[eW];simp
theorem LN{i j:Str}:decide (V.str i=V.str j)=(i==j):=by
 rw[eW];simp
theorem LL{i j:Array UInt8}:decide (V.byt i=V.byt j)=(i.toList==j.toList):=by
 rw[eW]
 cases i
 cases j
 simp
section
variable{X:Cx}{a b c:Expr}{ta tb tc:TE}{pos:Pos}
theorem kf{pins:List (Addr×Obj)}{σ:St}{H:Hp}{s:Shared}{Q:VK}{k k':Bool}(I:Inv X pins σ H s)(q:Q (.bl k) H)(e:k=k'):EP X pins σ Q (.bool k') s:=by
 subst e;exact⟨.bl k,H,I,rfl,q⟩
theorem V9:oZ X (compareOp .Eq) Yk:=by
 intro pins s σ H x y v u Q I rx ry h;obtain⟨hs,q⟩:=h
 cases x with
 |non=>
  cases rx
  cases y with
  |non=>cases ry;exact PySem.EqNone.eq_none_none (kf I q (by simp))
  |bl j=>cases ry;exact PySem.EqNone.eq_none_bool (kf I q (by simp))
  |int j=>obtain⟨t',rfl⟩:=ry;exact PySem.EqNone.eq_none_int (kf I q (by simp))
  |str j=>obtain⟨t',rfl⟩:=ry;exact PySem.EqNone.eq_none_str (kf I q (by simp))
  |_=>exact absurd (show false=true from hs) aR
 |bl i=>
  cases rx
  cases y with
  |non=>cases ry;exact PySem.EqNone.eq_bool_none (kf I q (by simp))
  |bl j=>cases ry;exact eq_bool (kf I q Oh)
  |str j=>obtain⟨t',rfl⟩:=ry;exact PySem.EqMixed.eq_bool_str (kf I q (by simp))
  |_=>exact absurd (show false=true from hs) aR
 |int i=>
  obtain⟨t,rfl⟩:=rx
  cases y with
  |non=>cases ry;exact PySem.EqNone.eq_int_none (kf I q (by simp))
  |int j=>obtain⟨t',rfl⟩:=ry;exact eq_int (kf I q LM)
  |str j=>obtain⟨t',rfl⟩:=ry;exact PySem.EqMixed.eq_int_str (kf I q (by simp))
  |_=>exact absurd (show false=true from hs) aR
 |str i=>
  obtain⟨t,rfl⟩:=rx
  cases y with
  |non=>cases ry;exact PySem.EqNone.eq_str_none (kf I q (by simp))
  |bl j=>cases ry;exact PySem.EqMixed.eq_str_bool (kf I q (by simp))
  |int j=>obtain⟨t',rfl⟩:=ry;exact PySem.EqMixed.eq_str_int (kf I q (by simp))
  |str j=>obtain⟨t',rfl⟩:=ry;exact eq_str (kf I q LN)
  |_=>exact absurd (show false=true from hs) aR
 |byt i=>
  obtain⟨t,rfl⟩:=rx
  cases y with
  |byt j=>obtain⟨t',rfl⟩:=ry;exact PySem.W.eq_bytes (kf I q LL)
  |_=>exact absurd (show false=true from hs) aR
 |_=>cases y<;>exact absurd (show false=true from hs) aR
theorem Wc:oZ X (compareOp .NotEq) Yl:=by
 intro pins s σ H x y v u Q I rx ry h;obtain⟨hs,q⟩:=h
 cases x with
 |non=>
  cases rx
  cases y with
  |non=>cases ry;exact PySem.EqNone.ne_none_none (kf I q (by simp))
  |bl j=>cases ry;exact PySem.EqNone.ne_none_bool (kf I q (by simp))
  |int j=>obtain⟨t',rfl⟩:=ry;exact PySem.EqNone.ne_none_int (kf I q (by simp))
  |str j=>obtain⟨t',rfl⟩:=ry;exact PySem.EqNone.ne_none_str (kf I q (by simp))
  |_=>exact absurd (show false=true from hs) aR
 |bl i=>
  cases rx
  cases y with
  |non=>cases ry;exact PySem.EqNone.ne_bool_none (kf I q (by simp))
  |bl j=>cases ry;exact ne_bool (kf I q (congrArg not Oh))
  |str j=>obtain⟨t',rfl⟩:=ry;exact PySem.EqMixed.ne_bool_str (kf I q (by simp))
  |_=>exact absurd (show false=true from hs) aR
 |int i=>
  obtain⟨t,rfl⟩:=rx
  cases y with
  |non=>cases ry;exact PySem.EqNone.ne_int_none (kf I q (by simp))
  |int j=>obtain⟨t',rfl⟩:=ry;exact ne_int (kf I q (congrArg not LM))
  |str j=>obtain⟨t',rfl⟩:=ry;exact PySem.EqMixed.ne_int_str (kf I q (by simp))
  |_=>exact absurd (show false=true from hs) aR
 |str i=>
  obtain⟨t,rfl⟩:=rx
  cases y with
  |non=>cases ry;exact PySem.EqNone.ne_str_none (kf I q (by simp))
  |bl j=>cases ry;exact PySem.EqMixed.ne_str_bool (kf I q (by simp))
  |int j=>obtain⟨t',rfl⟩:=ry;exact PySem.EqMixed.ne_str_int (kf I q (by simp))
  |str j=>obtain⟨t',rfl⟩:=ry;exact ne_str (kf I q (congrArg not LN))
  |_=>exact absurd (show false=true from hs) aR
 |byt i=>
  obtain⟨t,rfl⟩:=rx
  cases y with
  |byt j=>obtain⟨t',rfl⟩:=ry;exact PySem.W.ne_bytes (kf I q (congrArg not LL))
  |_=>exact absurd (show false=true from hs) aR
 |_=>cases y<;>exact absurd (show false=true from hs) aR
theorem Wb:oZ X (compareOp .Lt) (Sz λi j=> .bl (decide (i<j))):=T4 λ_ _ _ _ _ _ _ q=>lt_int q
theorem Wa:oZ X (compareOp .LtE) (Sz λi j=> .bl (decide (i<=j))):=T4 λ_ _ _ _ _ _ _ q=>le_int q
theorem V_:oZ X (compareOp .Gt) (Sz λi j=> .bl (decide (j<i))):=T4 λ_ _ _ _ _ _ _ q=>gt_int q
theorem T7:oZ X (compareOp .Is) (λx y H Q=>y= .non/\Q (.bl (decide (x= .non))) H):=by
 intro pins s σ H x y v u Q I rx ry h;obtain⟨rfl,q⟩:=h
 cases ry
 refine is_none_gen (kf I q ?_)
 cases x<;>first
  |(cases rx;rfl)
  |(obtain⟨t,rfl⟩:=rx;rfl)
theorem Rz:oZ X (compareOp .IsNot) (λx y H Q=>y= .non/\Q (.bl (!decide (x= .non))) H):=by
 intro pins s σ H x y v u Q I rx ry h;obtain⟨rfl,q⟩:=h
 cases ry
 refine isnot_none_gen (kf I q ?_)
 cases x<;>first
  |(cases rx;rfl)
  |(obtain⟨t,rfl⟩:=rx;rfl)
theorem jy(b:Expr){op:CmpOp}(h:op≠ .In:=by decide)(h2:op≠ .NotIn:=by decide):behindInMarks op b=false:=by
 have e1:(op==CmpOp.In)=false:=by cases op<;>first|rfl|exact absurd rfl h
 have e2:(op==CmpOp.NotIn)=false:=by cases op<;>first|rfl|exact absurd rfl h2
 cases b<;>simp[behindInMarks,e1,e2]
theorem RC{op:CmpOp}{r:R2}(ho:oZ X (compareOp op) r)(ha:PE X a ta)(hb:PE X b tb)(hm:behindInMarks op b=false):PE X (.Compare a [op] [b] pos) (P0 r ta tb):=by
 intro pins s σ H Q I h;exact wpAny_Compare1 (SV ha hb I h λv u s2 x y H2 I2 rx ry q=>ho pins s2 σ H2 x y v u Q I2 rx ry q) hm
def P2(t:TE):TT:=λσ H Q=>t σ H λx H'=>∃k,x= .bl k/\Q k H'
theorem RR{op:CmpOp}{r:R2}(ho:oZ X (compareOp op) r)(ha:PE X a ta)(hb:PE X b tb)(hm:behindInMarks op b=false):PT X (.Compare a [op] [b] pos) (P2 (P0 r ta tb)):=by
 intro pins s σ H Q I h;refine wpAny_isTrue_Compare1 (mJ (ha pins s σ H _ I h) λv s1=>qv λx H1 I1 r1 q1=>mJ (hb pins s1 σ H1 _ I1 q1) λu s2=>qv λy H2 I2 r2 q2=>
  mJ (ho pins s2 σ H2 x y v u _ I2 r1 r2 q2) λc s3 ⟨z,H3,I3,r3,k,e,q3⟩=> ?_) hm
 subst e
 cases r3
 exact wpAny_truthy_bool ⟨H3,I3,q3⟩
def Lp(r r':R2)(ta tb tc:TE):TE:=λσ H Q=>ta σ H λx H1=>tb σ H1 λy H2=>r x y H2 λz H3=>∃k,z= .bl k/\
 (if k=true then tc σ H3 λw' H4=>r' y w' H4 Q else Q (.bl false) H3)
theorem O_{op op':CmpOp}{r r':R2}(ho:oZ X (compareOp op) r)(ho':oZ X (compareOp op') r')(ha:PE X a ta)(hb:PE X b tb)(hc:PE X c tc)
  (hm:lastMarks [op,op'] [b,c]=false:=by with_unfolding_all rfl):PE X (.Compare a [op,op'] [b,c] pos) (Lp r r' ta tb tc):=by
 intro pins s σ H Q I h;refine Compare_chain (mJ (ha pins s σ H _ I h) λv s1=>qv λx H1 I1 r1 q1=>chain_link (mJ (hb pins s1 σ H1 _ I1 q1) λu s2=>qv λy H2 I2 r2 q2=>
  mJ (ho pins s2 σ H2 x y v u _ I2 r1 r2 q2) λd s3 ⟨z,H3,I3,r3,k,e,q3⟩=> ?_)) hm
 subst e
 cases r3
 refine wpAny_truthy_bool ?_
 cases k with
 |false=>exact ite_ff ⟨.bl false,H3,I3,rfl,q3⟩
 |true=>exact ite_tt (chain_last (mJ (hc pins s3 σ H3 _ I3 q3) λw' s4=>qv λz' H4 I4 r4 q4=>ho' pins s4 σ H4 y z' u w' Q I4 r2 r4 q4))
def NO(K:af)(x:V)(H:Hp)(k:Bool):Prop:=
 match x with
 | .bl b=>k=b
 |_=>False
theorem G9:(sizeLine:Nat)<2^63:=by rw[sizeLine_eq];decide
theorem UN:WT X (λx H Q=>∃k,NO X.K x H k/\Q k H):=by
 intro pins s σ H x v Q I rx h;obtain⟨k,e,q⟩:=h
 cases x with
 |bl b=>
  cases rx
  have e':k=b:=e;subst e';exact wpAny_truthy_bool ⟨H,I,q⟩
 |_=>exact(show False from e).elim
theorem Pt(ha:PE X a ta)(he:∀whole,isTrue a X.env whole=(do let v←whole;standAt a.pos;holding [v] (truthy v))):
  PT X a (λσ H Q=>ta σ H λx H'=>∃k,NO X.K x H' k/\Q k H'):=by
 intro pins s σ H Q I h;exact isTrue_plain (mJ (ha pins s σ H _ I h) λv s1=>qv λx H1 I1 r1 q1=>UN pins s1 σ H1 x v Q I1 r1 q1) (he _)
theorem vals1{x:V}{us:List Value}(r:Vals [x] us):∃u,us=[u]/\RelV x u:=by
 cases r with
 |cons r1 r2=>cases r2;exact⟨_,rfl,r1⟩
theorem vals2{x y:V}{us:List Value}(r:Vals [x,y] us):∃u w',us=[u,w']/\RelV x u/\RelV y w':=by
 cases r with
 |cons r1 r2=>
  cases r2 with
  |cons r3 r4=>cases r4;exact⟨_,_,rfl,r1,r3⟩
theorem MJ:nW X (.type "int") (λxs H Q=>(∃i,xs=[.int i]/\Q (.int i) H)∨∃k,xs=[.bl k]/\Q (.int (if k then 1 else 0)) H):=by
 intro pins s σ H xs us Q I r h;rcases h with ⟨i,rfl,q⟩|⟨k,rfl,q⟩
 ·obtain⟨u,rfl,t,rfl⟩:=vals1 r;exact call_int_int ⟨.int i,H,I,⟨_,rfl⟩,q⟩
 ·obtain⟨u,rfl,r1⟩:=vals1 r
  cases r1
  exact call_int_bool ⟨.int (if k then 1 else 0),H,I.tok _,⟨_,rfl⟩,q⟩
end
structure Kh(h:Heap)(x dx C:Addr)(mA:Str->Option Value):Prop where
 obj:h.get? x=some (cI C dx)
 ns:h.Ns1 dx mA
 ne:dx≠x
theorem M8{h:Heap}{dx:Addr}{mA:Str->Option Value}(n:h.Ns1 dx mA):∃od,h.get? dx=some od/\∀name,fz name od=some (mA name):=by
 obtain⟨o,es,ep,ho,hd,hk,_,hm⟩:=n;refine⟨o,ho,λname=> ?_⟩;have e:=hm name;unfold nsFind findBy at e;rw[←Array.find?_toList]at e;unfold fz;rw[hd];dsimp only
 split
 ·rename_i y q;rw[q]at e;exact congrArg some e
 ·rename_i q;rw[q]at e;have a:es.toList.any (·.refKey)=false:=by
   rw[ib];intro y hy;obtain⟨z,t,hkey⟩:=hk y (Array.mem_toList_iff.mp hy);simp[DictEntry.refKey,hkey]
  have a':¬es.toList.any (·.refKey)=true:=by rw[a];exact aR
  rw[if_neg a'];exact congrArg some e
theorem Kh.look{h:Heap}{x dx C:Addr}{mA:Str->Option Value}(I:Kh h x dx C mA):∃od,PySem.W.InstAt h x (cI C dx) C (some od)/\∀name,fz name od=some (mA name):=
 let ⟨od,ho,hl⟩:=M8 I.ns
 ⟨od,⟨I.obj,rfl,rfl,ho⟩,hl⟩
section
variable{prog:Program}{w:World}{A:Around}{E:Value->Shared->Prop}{s:Shared}{K:af}{x dx C f:Addr}{mA:Str->Option Value}{name:Str}{v:Value}
theorem get_map{expr:Bool}{Q:Value->Shared->Prop}(X:K.In s.heap)(I:Kh s.heap x dx C mA)(hg:bO K C name=true)(hh:bS K C=true)
  (ha:aC K (.ref C) name=some none) (hv:mA name=some v) (hv':iD v=true) (h:Q v {s with toks:=s.toks+1}):
  wpAny (model prog w) A (getAttr (.ref x) name expr) Q E s:=by
 obtain⟨od,J,hl⟩:=I.look;exact PySem.W.get_value X J (ft hg).1 (PySem.W.findObj_own hh ha rfl (by rw[hl,hv])) hv' h
theorem Ox{pl:Sem Bool}{Q:Value×List Value->Shared->Prop}(X:K.In s.heap)(I:Kh s.heap x dx C mA)(hg:bO K C name=true)
  (hf:aC K (.ref C) name=some (some (.ref f))) (ht:cg K (.ref f)=true) (hv:mA name=none) (h:Q (.ref f,[.ref x]) s):
  wpAny (model prog w) A (getMethod (.ref x) name pl) Q E s:=by
 obtain⟨od,J,hl⟩:=I.look;exact PySem.W.method_fn X J (ft hg).1 (ft hg).2 hf (beq_iff_eq.mp ht) (by show(fz name od).map (·.isSome)=some false;rw[hl,hv];rfl) h
theorem R6{ns:List Str}{Q:Unit->Shared->Prop}(X:K.In s.heap)(I:Kh s.heap x dx C mA)
  (hs:aC K (.ref C) "__setattr__"=some (some (.builtin "object.__setattr__"))) (hp:bX K C=true) (ht:fU K C name=some none) (hh:bS K C=true)
  (hw:hZ mA ns) (hsz:ns.length<=sizeLine)
  (h:∀h',Kh h' x dx C (λy=>if y=name then some v else mA y)->d9 dx s.heap h'->Q () {s with heap:=h',toks:=s.toks+2}):
  wpAny (model prog w) A (setAttr (.ref x) name v) Q E s:=by
 obtain⟨od,J,hl⟩:=I.look;refine PySem.W.set_plain X J hs (PySem.W.osa_open (s:={s with toks:=s.toks+1}) (r:=none) X J hp ht λb=> ?_);obtain⟨cd,hc,hd'⟩:=PySem.W.any_some hh;have hx:s.heap.get? x=some ⟨.ref C,some dx,.plain,#[]⟩:=I.obj;refine wpAny_bind (wpAny_pure (wpAny_bind (wpAny_bind (wpAny_loadPart hx (wpAny_bind (PySem.W.Looks.here (s:={s with toks:=s.toks+1}) (PySem.W.looks_clsIn X hc) ?_))))));rw[hd'];refine wpAny_pure (a:=some dx) (wpAny_bind (wpAny_pure (wpAny_bind ?_)));refine wpAny_nsSet1 (s:={s with toks:=s.toks+1}) I.ns λh' hn2 hs2=> ?_;obtain⟨oD,esD,epD,hoD,hdD,hcD⟩:=hn2.count (PySem.Within.cons name v hw);refine wpAny_bind (wpAny_lookBehind hoD (by rw[hdD];exact pastItsLine_dict (aA hcD (by rw[aF];lia))) ?_);exact wpAny_pure (h _ ⟨(hs2.2 _ (ah I.ne)).trans I.obj,hn2,I.ne⟩ hs2)
theorem OV{R:Result->Shared->Prop}{vs:List Value}{kw:List (Str×Value)}(X:K.In s.heap)(hm:cx K C=true)
  (hi:aC K (.ref C) "__init__"=some (some (.ref f))) (hf:PySem.W.typeIn K (.ref f)=some (.type "function"))
  (h:codeAny (model prog w) (A.under (.builtin "type.__call__" ⟨.ref C::vs,kw⟩)) (.call (.ref f) ⟨.ref (s.heap.objs.size+1)::vs,kw⟩) (PySem.W.InitBack (s.heap.objs.size+1) R)
   {s with heap:=(s.heap.push bW).push (cI C s.heap.objs.size)}):
  codeAny (model prog w) A (.call (.ref C) ⟨vs,kw⟩) R s:=by
 obtain⟨hh,g,d,t,os⟩:=s;exact PySem.W.make_core (PySem.W.makes_of X hm) (PySem.W.looks_findIn X hi) (λself=>PySem.W.bind_fn X self hf) (.inl rfl) h
end
noncomputable def kB (f:Str) (v:V):List (Str×V)->List (Str×V)
 | []=>[(f,v)]
 |(g,x)::r=>if g=f then(g,v)::r else(g,x)::kB f v r
theorem Cd(f g:Str)(v:V):∀fs:List (Str×V),(kB f v fs).lookup g=if g=f then some v else fs.lookup g
 | []=>by
  show aX g [(f,v)]=_;by_cases h:g=f
  ·have hb:(g==f)=true:=beq_iff_eq.mpr h;simp only[aX,hb,if_pos h]
  ·have hb:(g==f)=false:=beq_eq_false_iff_ne.mpr h;simp only[aX,hb,if_neg h]
 |(k,x)::r=>by
  have ih:=Cd f g v r;rw[show kB f v ((k,x)::r)=(if k=f then(k,v)::r else(k,x)::kB f v r) from rfl];by_cases hk:k=f
  ·rw[if_pos hk];by_cases h:g=k
   ·have hb:(g==k)=true:=beq_iff_eq.mpr h;simp only[aX,hb,if_pos (h.trans hk)]
   ·have hb:(g==k)=false:=beq_eq_false_iff_ne.mpr h;simp only[aX,hb,if_neg (λe:g=f=>h (e.trans hk.symm))]
  ·rw[if_neg hk];by_cases h:g=k
   ·have hb:(g==k)=true:=beq_iff_eq.mpr h;simp only[aX,hb,if_neg (λe:g=f=>hk (h.symm.trans e))]
   ·have hb:(g==k)=false:=beq_eq_false_iff_ne.mpr h;simp only[aX,hb];exact ih
theorem Bt(f:Str)(v:V):∀fs:List (Str×V),f∈(kB f v fs).map (·.1)/\∀g,g∈fs.map (·.1)->g∈(kB f v fs).map (·.1)
 | []=>⟨by simp[kB],λg h=>by simp at h⟩
 |(k,x)::r=>by
  obtain⟨i1,i2⟩:=Bt f v r;rw[show kB f v ((k,x)::r)=(if k=f then(k,v)::r else(k,x)::kB f v r) from rfl];by_cases hk:k=f
  ·rw[if_pos hk];subst hk;exact⟨by simp,λg h=>by simpa using h⟩
  ·rw[if_neg hk];refine⟨?_,λg h=> ?_⟩
   ·rw[aE];exact ao _ i1
   ·rw[aE]at h⊢;rcases List.mem_cons.mp h with e|e
    ·exact List.mem_cons.mpr (.inl e)
    ·exact ao _ (i2 g e)
theorem Cb(f:Str)(v:V):∀fs:List (Str×V),(kB f v fs).length<=fs.length+1
 | []=>by simp[kB]
 |(k,x)::r=>by
  have ih:=Cb f v r;rw[show kB f v ((k,x)::r)=(if k=f then(k,v)::r else(k,x)::kB f v r) from rfl];by_cases hk:k=f
  ·rw[if_pos hk,aF,aF];lia
  ·rw[if_neg hk,aF,aF];lia
theorem uJ.some_of{v:V}{o:Option Value}(r:uJ (some v) o):∃u,o=some u/\RelV v u:=by
 cases o with
 |none=>exact(show False from r).elim
 |some u=>exact⟨u,rfl,r⟩
theorem uJ.none_of{o:Option Value}(r:uJ none o):o=none:=by
 cases o with
 |none=>rfl
 |some u=>exact(show False from r).elim
theorem MQ{v:V}{u:Value}(r:RelV v u):iD u=true:=by
 cases v with
 |non=>cases (show u=fK from r);rfl
 |bl b=>cases (show u=iO b from r);rfl
 |int i=>obtain⟨t,e⟩:=(show∃t,u=dt i t from r);cases e;rfl
 |str x=>obtain⟨t,e⟩:=(show∃t,u=fV x t from r);cases e;rfl
 |byt b=>obtain⟨t,e⟩:=(show∃t,u=Value.bytes b t from r);cases e;rfl
 |flt b=>obtain⟨t,e⟩:=(show∃t,u=Value.float b t from r);cases e;rfl
 |ref a=>cases (show u=aO a from r);rfl
 |ty n=>cases (show u=dj n from r);rfl
section
variable{P:Program}{w:World}{H H':Hp}{h h':Heap}{a C dx:Addr}{fs fs':List (Str×V)}
theorem GX(ko:qR P w H h)(e:H a=some (.ins C dx fs)):∃mA,Kh h a dx C mA/\(∀f,uJ (fs.lookup f) (mA f))/\hZ mA (fs.map (·.1))/\fs.length<=1000/\H dx=some (.own a):=by
 obtain⟨d,z,ne,ob,mA,n,r,q⟩:=(show mf P w H h a (.ins C dx fs) from ko a _ e);exact⟨mA,⟨ob,n,ne⟩,r,q,z,d⟩
end
structure Ex(K:af)(C:Addr):Prop where
 pg:bO K C dQ=true
 hd:bS K C=true
 po:bX K C=true
 sa:aC K (.ref C) "__setattr__"=some (some (.builtin "object.__setattr__"))
theorem Ex.get{K:af}{C:Addr}(c:Ex K C)(f:Str):bO K C f=true:=c.pg
def kU(K:af)(C:Addr)(f:Str):Prop:=aC K (.ref C) f=some none
theorem kU.Wu{K:af}{C:Addr}{f:Str}(n:kU K C f):fU K C f=some none:=by
 unfold fU;rw[show aC K (.ref C) f=some none from n];rfl
structure Meth(K:af)(C:Addr)(m:Str)(f:Addr):Prop where
 at_:aC K (.ref C) m=some (some (.ref f))
 fn:cg K (.ref f)=true
 kp:bC K (.ref f)=true
section
variable{X:Cx}{pins:List (Addr×Obj)}{σ:St}{H:Hp}{s:Shared}{a C dx:Addr}{fs:List (Str×V)}{f:Str}{v:V}{A:Around}{E:Value->Shared->Prop}
theorem Kt{b:Bool}{Q:Value->Shared->Prop}(I:Inv X pins σ H s)(e:H a=some (.ins C dx fs))(c:Ex X.K C)(n:kU X.K C f)(l:fs.lookup f=some v)
  (h:∀u s',Inv X pins σ H s'->RelV v u->Q u s'):wpAny (model X.prog X.w) A (getAttr (.ref a) f b) Q E s:=by
 obtain⟨mA,O,r,_,_,_⟩:=GX I.ko e;obtain⟨u,hu,ru⟩:=uJ.some_of (v:=v) (o:=mA f) (by rw[←l];exact r f);exact get_map I.IB O (c.get f) c.hd n hu (MQ ru) (h u _ (I.tok _) ru)
theorem y_{m:Str}{g:Addr}{pl:Sem Bool}{Q:Value×List Value->Shared->Prop}(I:Inv X pins σ H s)(e:H a=some (.ins C dx fs))(c:Ex X.K C)(k:Meth X.K C m g)(l:fs.lookup m=none)
  (h:Q (.ref g,[.ref a]) s):wpAny (model X.prog X.w) A (getMethod (.ref a) m pl) Q E s:=by
 obtain⟨mA,O,r,_,_,_⟩:=GX I.ko e;have hn:mA m=none:=uJ.none_of (by rw[←l];exact r m);exact Ox I.IB O (c.get m) k.at_ k.fn hn h
theorem Le{y:V}{u:Value}{Q:Unit->Shared->Prop}(I:Inv X pins σ H s)(e:H a=some (.ins C dx fs))(c:Ex X.K C)(n:kU X.K C f)(hl:fs.length<1000)(ry:RelV y u)
  (h:∀s',Inv X pins σ (upd H a (.ins C dx (kB f y fs))) s'->Q () s'):wpAny (model X.prog X.w) A (setAttr (.ref a) f u) Q E s:=by
 obtain⟨mA,O,r,wi,_,ho⟩:=GX I.ko e;have hz:(fs.map (·.1)).length<=sizeLine:=by rw[aa,sizeLine_eq];lia
 refine R6 I.IB O c.sa c.po n.Wu c.hd wi hz λh' O' sb=>h _ ?_;have hd:∃o,h'.get? dx=some o:=let ⟨o,_,_,e',_⟩:=O'.ns;⟨o,e'⟩
 refine I.write (x:=a) (e:=dx) (by rw[e];exact bY) (.inr ho) (λb q hb z=>(sb.2 b hb).trans z) hd ?_;refine⟨by rw[i7 O.ne];exact ho,?_,O.ne,O'.obj,_,O'.ns,λg=> ?_,λg hg=> ?_⟩
 ·have:=Cb f y fs;lia
 ·show uJ ((kB f y fs).lookup g) (if g=f then some u else mA g);rw[Cd];by_cases q:g=f
  ·rw[if_pos q,if_pos q];exact ry
  ·rw[if_neg q,if_neg q];exact r g
 ·by_cases q:g=f
  ·rw[q];exact(Bt f y fs).1
  ·refine(Bt f y fs).2 g (wi g λz=>hg ?_);show(if g=f then some u else mA g)=none;rw[if_neg q];exact z
theorem Inv.made(I:Inv X pins σ H s):Inv X pins σ (upd (upd H s.heap.objs.size (.own (s.heap.objs.size+1))) (s.heap.objs.size+1) (.ins C s.heap.objs.size []))
  {s with heap:=(s.heap.push bW).push (cI C s.heap.objs.size)}:=by
 have e1:(s.heap.push bW).get? s.heap.objs.size=some bW:=bA s.heap rfl;have e2:((s.heap.push bW).push (cI C s.heap.objs.size)).get? (s.heap.objs.size+1)=some (cI C s.heap.objs.size):=by
  have:=bA (s.heap.push bW) (o:=cI C s.heap.objs.size) rfl
  rwa[gp]at this
 have e3:(s.heap.push bW).Ns s.heap.objs.size (λ_=>none):=⟨bW,#[],_,e1,rfl,(λe he=>absurd he (by simp)),λ_=>rfl⟩;have I1:=I.laid (a:=s.heap.objs.size) (o:= .own (s.heap.objs.size+1)) (h':=s.heap.push bW) (t':=s.toks) (λb u q=>ay _ q) (aq _) ⟨_,e1⟩;refine I1.laid (a:=s.heap.objs.size+1) (o:= .ins C s.heap.objs.size []) (t':=s.toks) (λb u q=>ay _ q) (hE (gp _ _)) ?_;have ne:s.heap.objs.size≠s.heap.objs.size+1:=aK (dW _);refine⟨by rw[i7 ne,i8],bR _,ne,e2,λ_=>none,(Heap.Ns1.of_empty e3).at λo q=>ay _ q,λ_=>bY,λy hy=>absurd rfl hy⟩
theorem Qy{prog:Program}{w:World}{env:Env}{e:Expr}{f:Str}{pos:Pos}{s:Shared}{Q:Value->Shared->Prop}(hb:attributeBase e f env (eval e env)=eval e env)
  (h:wpAny (model prog w) A (eval e env) (λo s₁=>wpAny (model prog w) A (getAttr o f true) Q E s₁) E s):wpAny (model prog w) A (eval (.Attribute e f pos) env) Q E s:=
 Attribute_any_ h (by rw[arm_eval_Attribute,hb])
end
section
variable{X:Cx}{o e value:Expr}{f:Str}{pos pos' tpos:Pos}{ta tv:TE}
end
section
variable{X:Cx}{pins:List (Addr×Obj)}{σ:St}{H:Hp}{s:Shared}{A:Around}{E:Value->Shared->Prop}{Q:Value->Shared->Prop}{c:Value}{b:Bool}
inductive SK (K:af) (H:Hp):V->Value->Prop where
 |int (i:Int):SK K H (.int i) (.type "int")
 |tup {a:Addr} {xs:List V} (e:H a=some (.tup xs)):SK K H (.ref a) (.type "tuple")
theorem FW{x:V}{u t:Value}(I:Inv X pins σ H s)(rx:RelV x u)(ty:SK X.K H x t)(e:cF X.K t c=some b)(h:∀tk,Q (.bool b) {s with toks:=tk}):
  wpAny (model X.prog X.w) A (call (.builtin "isinstance") [u,c]) Q E s:=by
 cases ty with
 |int i=>obtain⟨t,q⟩:=(show∃t,u=dt i t from rx);cases q;exact iL PySem.W.kitx_int I.IB bY e (λz=>nomatch z) h
 | @tup a xs ea=>
  cases (show u=aO a from rx)
  obtain⟨_,_,_,p⟩:=(show mf X.prog X.w H s.heap a (.tup xs) from I.ko a _ ea);obtain⟨o,h1,h2,_⟩:=p;exact iL PySem.W.kitx_tuple I.IB ⟨o,h1,h2⟩ e (λz=>nomatch z) h
end
structure lM(ca:Bool)(k:Nat)(A:Around):Prop where
 hd:ca=true->A.handled=none
 dp:A.depth+3*k+5<recursionLimit
 un:A.units+16*k+200<cLine
theorem lM.mono{ca:Bool}{j k:Nat}{A:Around}(r:lM ca k A)(h:j<=k):lM ca j A:=⟨r.hd,by have:=r.dp;lia,by have:=r.un;lia⟩
theorem lM.deeper{ca:Bool}{k:Nat}{A:Around}(r:lM ca (k+1) A)(env:Env):lM ca k (A.deeper env):=
 ⟨r.hd,by have:=r.dp;show A.depth+1+3*k+5<_;lia,by have:=r.un;show A.units+3+16*k+200<_;lia⟩
theorem KJ{A:Around}{C:Addr}{us:List Value}{kw:List (Str×Value)}:(A.under (.builtin "type.__call__" ⟨.ref C::us,kw⟩)).depth=A.depth+1:=by
 first|rfl|simp[gT,Code.weight,Code.isCreation,Code.isGuard,Code.isCaller,Code.frames,gW,guardIds]
theorem KL{A:Around}{C:Addr}{us:List Value}{kw:List (Str×Value)}:(A.under (.builtin "type.__call__" ⟨.ref C::us,kw⟩)).units=A.units+1:=by
 first|rfl|simp[gT,Code.cUnits,Code.frames,gW]
theorem lM.make{ca:Bool}{k:Nat}{A:Around}(r:lM ca (k+1) A)(C:Addr)(us:List Value)(kw:List (Str×Value)):lM ca k (A.under (.builtin "type.__call__" ⟨.ref C::us,kw⟩)):=
 ⟨r.hd,by have:=r.dp;rw[KJ];lia,by have:=r.un;rw[KL];lia⟩
theorem lM.depth{ca:Bool}{k:Nat}{A:Around}(r:lM ca k A):A.depth<recursionLimit:=by have:=r.dp;lia
theorem lM.units{ca:Bool}{k:Nat}{A:Around}(r:lM ca k A):A.units+64<cLine:=by have:=r.un;lia
def Ip:TA:=λ_ H Q=>Q [] H
def Ep(ta:TE)(tr:TA):TA:=λσ H Q=>ta σ H λx H1=>tr σ H1 λxs H2=>Q (x::xs) H2
section
variable{X:Cx}{e:Expr}{es:List Expr}{te:TE}{t:TA}{pos:Pos}
theorem KQ:PA X [] Ip:=λ_ _ _ _ H Q I h=>fG ⟨[],H,I,.nil,h⟩
theorem RA(ha:PE X e te)(hr:PA X es t)(hs:starEach (e::es) X.env=(false,eval e X.env)::starEach es X.env:=by rfl):PA X (e::es) (Ep te t):=by
 intro pos pins s σ H Q I h;rw[hs];show wpAny _ _ (spliced ((false,eval e X.env)::backTo pos (starEach es X.env))) _ _ s;refine fB (mJ (ha pins s σ H _ I h) λu s1=>qv λx H1 I1 r1 q1=> ?_);exact mJ (hr pos pins s1 σ H1 _ I1 q1) λus s2=>qv λxs H2 I2 r2 q2=>⟨x::xs,H2,I2,.cons r1 r2,q2⟩
def UK(t:TA):TE:=λσ H Q=>t σ H λxs H1=>xs.length<=sizeLine/\∀p,H1 p=none->Q (.ref p) (upd H1 p (.tup xs))
def PV(t:TA):TE:=λσ H Q=>t σ H λxs H1=>xs.length<=sizeLine/\∀p,H1 p=none->Q (.ref p) (upd H1 p (.lst xs))
theorem Ul{x1}(h:PA X es t):PE X (.Tuple es x1 pos) (UK t):=by
 intro pins s σ H Q I hq;refine wpAny_Tuple_spliced (mJ (h pos pins s σ H _ I hq) λus s1 ⟨xs,H1,I1,r,z,q⟩=>⟨by rw[←r.length];exact z,?_⟩);have hf:H1 s1.heap.objs.size=none:=I1.ko.fresh (aq _);refine⟨.ref s1.heap.objs.size,upd H1 s1.heap.objs.size (.tup xs),I1.laid (t':=s1.toks) (λb u e=>ay _ e) (aq _) ?_,rfl,q _ hf⟩;exact⟨z,us,r,⟨_,bA _ rfl,rfl,_,rfl⟩⟩
theorem Pd(h:PA X es t):PE X (.List es pos) (PV t):=by
 intro pins s σ H Q I hq;refine wpAny_List_spliced (mJ (h pos pins s σ H _ I hq) λus s1 ⟨xs,H1,I1,r,z,q⟩=>⟨by rw[←r.length];exact z,?_⟩);have hf:H1 s1.heap.objs.size=none:=I1.ko.fresh (aq _);refine⟨.ref s1.heap.objs.size,upd H1 s1.heap.objs.size (.lst xs),I1.laid (t':=s1.toks) (λb u e=>ay _ e) (aq _) ?_,rfl,q _ hf⟩;exact⟨z,us,0,r,bA _ rfl⟩
end
abbrev Sp:=List V->Hp->VK->XK->Prop
abbrev NB:=List Env->Hp->Shared->XK->Value->Shared->Prop
structure EA(P:Program)(w:World)(K:af)(mg:Str->Option Value)(base:Heap)(A:Around)(outer:List Env)(s:Shared)(H:Hp):Prop where
 frames:A.frames=some outer
 mod:Mod K mg base
 bs:∀b o,base.get? b=some o->s.heap.get? b=some o/\H b=none
 MD:base.objs.size<=s.heap.objs.size
 wm:s.heap.FunFrames base outer
 Ql:∀b∈B9 outer,H b=none
 ko:qR P w H s.heap
 bare:AllBare s.gens
def CE(outer:List Env)(P:Program)(w:World)(H:Hp)(s:Shared)(Q:VK)(u:Value)(s':Shared):Prop:=
 ∃v H',s'.os=s.os/\AllBare s'.gens/\Un (B9 outer) [] H H' s.heap s'.heap/\qR P w H' s'.heap/\RelV v u/\Q v H'
def CR(CX:NB)(outer:List Env)(P:Program)(w:World)(H:Hp)(s:Shared)(Q:VK)(E:XK)(r:Result)(s':Shared):Prop:=
 match r with
 | .ok (.ret u)=>CE outer P w H s Q u s'
 | .ok _=>False
 | .error e=>CX outer H s E e s'
structure mS(P:Program)(w:World)(K:af)(mg:Str->Option Value)(base:Heap)(CX:NB)(ca:Bool)(k:Nat)(f:Addr)(fd:FuncData)(ps:List Str)(sp:Sp):Prop where
 len:∀vs H Q E,sp vs H Q E->vs.length=ps.length
 run:∀(A:Around) (outer:List Env) (s:Shared) (H:Hp) (args:Args) (us:List Value) (vs:List V) (Q:VK) (E:XK),lM ca k A->EA P w K mg base A outer s H->BindsTo s fd args (ps.zip us)->Vals vs us->sp vs H Q E->
  codeAny (model P w) A (.call (.ref f) args) (CR CX outer P w H s Q E) s
theorem mS.mono{P:Program}{w:World}{K:af}{mg:Str->Option Value}{base:Heap}{CX:NB}{ca:Bool}{j k:Nat}{f:Addr}{fd:FuncData}{ps:List Str}{sp:Sp}(F:mS P w K mg base CX ca j f fd ps sp)(h:j<=k:=by decide):
  mS P w K mg base CX ca k f fd ps sp:=⟨F.len,λA outer s H args us vs Q E hr=>F.run A outer s H args us vs Q E (hr.mono h)⟩
theorem EA.make{P:Program}{w:World}{K:af}{mg:Str->Option Value}{base:Heap}{A:Around}{outer:List Env}{s:Shared}{H:Hp}(e:EA P w K mg base A outer s H)(C:Addr)(us:List Value)(kw:List (Str×Value)):
  EA P w K mg base (A.under (.builtin "type.__call__" ⟨.ref C::us,kw⟩)) outer s H:=⟨by first|exact e.frames|(simpa [gT,Code.envs,gW,pushEnvs] using e.frames),e.mod,e.bs,e.MD,e.wm,e.Ql,e.ko,e.bare⟩
section
variable{X:Cx}{pins:List (Addr×Obj)}{σ:St}{H:Hp}{s s':Shared}
theorem Inv.Tf(I:Inv X pins σ H s):EA X.prog X.w X.K X.mg X.base X.A X.stack s H:=
 ⟨I.ok.frames,I.ok.mod,I.bs,aA I.ok.MD I.sz,I.stack,I.we,I.ko,I.bare⟩
theorem Inv.after{Q:VK}{u:Value}(I:Inv X pins σ H s)(h:CE X.stack X.prog X.w H s Q u s'):EP X pins σ Q u s':=by
 obtain⟨v,H',os,bare,un,ko,r,q⟩:=h;obtain⟨hh,g,d,t,os'⟩:=s';obtain rfl:os'=s.os:=os;exact⟨v,H',I.call (h':=hh) (g':=g) (d':=d) (t':=t) (ch:=[]) un ko bare (λb z=>absurd z (by simp)),r,q⟩
end
def Binds(K:af)(fd:FuncData)(ps:List Str)(ds:List Value):Prop:=
 ∀(s:Shared) (us:List Value),K.In s.heap->(us++ds).length=ps.length->BindsTo s fd ⟨us,[]⟩ (ps.zip (us++ds))
theorem Binds.all{K:af}{fd:FuncData}{ps:List Str}(h:∀us:List Value,us.length=ps.length->bindArgs fd ⟨us,[]⟩=pure (ps.zip us)):Binds K fd ps []:=λs us _ hl=>by
 rw[aM]at hl⊢;exact .of_eq (h us hl)
section
variable{X:Cx}{CX:NB}{ca:Bool}{k:Nat}{f C:Addr}{fd:FuncData}{ps:List Str}{sp:Sp}{dvs:List V}{ds:List Value}{E:XK}{x m:Str}{p pos apos:Pos}{e o:Expr}{es:List Expr}{ta:TE}{t:TA}
structure Mk(K:af)(C f:Addr):Prop where
 makes:cx K C=true
 init:aC K (.ref C) "__init__"=some (some (.ref f))
 fn:cg K (.ref f)=true
 kp:bC K (.ref C)=true
end
section
variable{X:Cx}{CX:NB}{ca:Bool}{k:Nat}{f C:Addr}{fd:FuncData}{ps ks:List Str}{sp:Sp}{E:XK}{x m:Str}{p pos apos kpos:Pos}{e o:Expr}{es:List Expr}{kws:List Keyword}{te ta:TE}{t tk:TA}{nm:Option Str}
variable{g:List Value->List Value->List Value}{gV:List V->List V->List V}
end
structure jg(N P:List Str)(sc:Scope):Prop where
 kind:sc.kind= .function
 co:sc.isCoroutine=false
 gen:sc.isGenerator=false
 nd:N.Nodup
 pre:N.take P.length=P
 par:∀x∈P,sc.names.lookup x=some .local∨sc.names.lookup x=some .cell
 TY:∀y∈sc.names,y.2≠ .free
theorem FO{kindOf:Str->Option NameKind}{x:Str}:∀{binds:List (Str×Value)} {m:Str->Option Value},(∀v,(x,v)∉binds)->bindL kindOf binds m x=m x
 | [],_,_=>rfl
 |(n,v)::r,m,h=>by
  unfold bindL;rw[FO λw hw=>h w (ao _ hw)]
  split
  ·have:x≠n:=by rintro rfl;exact h v ax
   simp[this]
  ·rfl
theorem FL{kindOf:Str->Option NameKind}{x:Str}:∀{binds:List (Str×Value)} {m:Str->Option Value},(∀v,(x,v)∉binds)->bindC kindOf binds m x=m x
 | [],_,_=>rfl
 |(n,v)::r,m,h=>by
  unfold bindC;rw[FL λw hw=>h w (ao _ hw)]
  split
  ·rfl
  ·have:x≠n:=by rintro rfl;exact h v ax
   simp[this]
theorem FN{kindOf:Str->Option NameKind}{x:Str}{v:Value}:∀{P:List Str} {vs:List Value} {i:Nat} {m:Str->Option Value},P.Nodup->P[i]? =some x->vs[i]? =some v->kindOf x=some .local->
  bindL kindOf (P.zip vs) m x=some v
 | [],_,_,_,_,h,_,_=>by simp at h
 |_::_,[],_,_,_,_,h,_=>by simp at h
 |p::P,w::vs,0,m,nd,h1,h2,hk=>by
  simp at h1 h2;subst h1;subst h2;show bindL kindOf ((p,w)::P.zip vs) m p=_;unfold bindL;rw[FO λv hv=>(List.nodup_cons.mp nd).1 (eZ hv).1,if_pos hk];simp
 |p::P,w::vs,i+1,m,nd,h1,h2,hk=>by
  show bindL kindOf ((p,w)::P.zip vs) m x=_;unfold bindL;exact FN (i:=i) (List.nodup_cons.mp nd).2 (by simpa using h1) (by simpa using h2) hk
theorem FK{kindOf:Str->Option NameKind}{x:Str}{v:Value}:∀{P:List Str} {vs:List Value} {i:Nat} {m:Str->Option Value},P.Nodup->P[i]? =some x->vs[i]? =some v->kindOf x≠some .local->
  bindC kindOf (P.zip vs) m x=some v
 | [],_,_,_,_,h,_,_=>by simp at h
 |_::_,[],_,_,_,_,h,_=>by simp at h
 |p::P,w::vs,0,m,nd,h1,h2,hk=>by
  simp at h1 h2;subst h1;subst h2;show bindC kindOf ((p,w)::P.zip vs) m p=_;unfold bindC;rw[FL λv hv=>(List.nodup_cons.mp nd).1 (eZ hv).1,if_neg hk];simp
 |p::P,w::vs,i+1,m,nd,h1,h2,hk=>by
  show bindC kindOf ((p,w)::P.zip vs) m x=_;unfold bindC;exact FK (i:=i) (List.nodup_cons.mp nd).2 (by simpa using h1) (by simpa using h2) hk
noncomputable def start (N:List Str) (vs:List V):St:=vs.map some++ak (N.length-vs.length) none
noncomputable def IT (CX:NB) (ca:Bool) (P:Program) (w:World) (K:af) (mg:Str->Option Value) (base:Heap) (N:List Str) (qual:Str) (scope:Scope) (f:Addr) (cd:Value) (A:Around) (outer:List Env) (s:Shared) (H:Hp) (E:XK):Cx where
 prog:=P
 w:=w
 K:=K
 mg:=mg
 base:=base
 A:=A.deeper (envOfC qual scope s.heap.objs.size f cd)
 N:=N
 s₀:=s
 H₀:=H
 env:=envOfC qual scope s.heap.objs.size f cd
 outer:=outer
 stack:=envOfC qual scope s.heap.objs.size f cd::outer
 ex:=[]
 calm:=ca
 fn:=λ_=>true
 pn:=[]
 xe:=λe s'=>wpAny (model P w) (A.deeper (envOfC qual scope s.heap.objs.size f cd)) (leaving (envOfC qual scope s.heap.objs.size f cd) e) (λ_ s''=>CX outer H s E e s'') (λe' s''=>CX outer H s E e' s'') s'
theorem IP{sc:Scope}{n:Nat}{x:Str}(h:sc.names.lookup x=some .cell):∃c,(cellsFrom n sc.names []).lookup x=some c:=by
 have q:=gc sc.names n [] (.inl h);exact Option.isSome_iff_exists.mp q
theorem MU{CX:NB}{ca:Bool}{P:Program}{w:World}{K:af}{mg:Str->Option Value}{base:Heap}{N ps:List Str}{qual:Str}{scope:Scope}{f:Addr}{cd:Value}{A:Around}{outer:List Env}{s s1:Shared}{H:Hp}{E:XK}{us:List Value}{vs:List V}
  (S:jg N ps scope) (hd:ca=true->A.handled=none) (e0:EA P w K mg base A outer s H) (hl:vs.length=ps.length) (r:Vals vs us)
  (x:InCallC s s.heap.objs.size (bindL (envOfC qual scope s.heap.objs.size f cd).kindOf (ps.zip us) λ_=>none) (cellsFrom (s.heap.objs.size+1) scope.names []) (bindC (envOfC qual scope s.heap.objs.size f cd).kindOf (ps.zip us) λ_=>none) s1):
  Inv (IT CX ca P w K mg base N qual scope f cd A outer s H E) [] (start N vs) H s1:=by
 have hpl:ps.length<=N.length:=by have:=congrArg dN S.pre;rw[bE]at this;lia
 obtain⟨h1,tk,rfl,hk⟩:=x.done;have noA:∀b:Addr,b∉(IT CX ca P w K mg base N qual scope f cd A outer s H E).ex:=λb z=>absurd (show b∈([]:List Addr) from z) (by simp);refine⟨⟨e0.mod,S.kind,rfl,rfl,aq _,λy z c h1 h2=> ?_,λy hy=> ?_,λy c _ h=> ?_,λz=>hd z,gC e0.frames,.inr ⟨rfl,rfl⟩,λb z=>absurd z (noA b),e0.bs,e0.MD,λb _ _=>noA b,λb z=>absurd z (noA b),e0.wm,e0.Ql⟩,
  rfl,e0.bare,Un.kept hk,⟨_,x.toInCall.ns,λi y v h1 h2 h3=> ?_⟩,λy c h=>⟨_,x.cell y c h⟩,e0.ko.fresh (aq _),λy c h=> ?_,λp hp=>absurd (show p∈([]:List (Addr×Obj)) from hp) (by simp),e0.ko.kept hk,?_⟩
 ·exact name_of_addr x.apart (cm h1) (cm h2)
 ·have hy:scope.names.lookup y=some .cell∨scope.names.lookup y=some .free:=hy;rcases hy with hy|hy
  ·exact IP hy
  ·exact absurd rfl (S.TY _ (cm hy))
 ·exact c8 (x.above y c (cm h))
 ·have hi:i<vs.length:=by
   unfold start at h2;by_cases hi:i<vs.length
   ·exact hi
   ·rw[bD (by simpa using hi)]at h2;rw[b_]at h2
    split at h2<;>cases h2
  have ha:vs[i]? =some v:=by
   unfold start at h2;rw[bJ (by simpa using hi),ai]at h2
   cases e:vs[i]? with
   |none=>rw[e]at h2;cases h2
   |some a=>rw[e]at h2;cases h2;rfl
  obtain⟨u,hu,rv⟩:=r.get ha;have hp:ps[i]? =some y:=by
   rw[←S.pre,fL (by lia)];exact h1
  have ndP:ps.Nodup:=by rw[←S.pre];exact S.nd.sublist (List.take_sublist _ _)
  refine⟨u,rv,?_⟩;rcases S.par y (aJ hp) with k|k
  ·exact .inl ⟨k,FN ndP hp hu k⟩
  ·obtain⟨c,e⟩:=IP (n:=s.heap.objs.size+1) k;refine .inr ⟨.inl k,c,e,?_⟩;have q:=x.cell y c e;rw[FK ndP hp hu (by show scope.names.lookup y≠_;rw[k];decide)]at q;exact q
 ·exact e0.ko.fresh (c8 (x.above y c (cm h)))
 ·unfold start;show _=N.length;rw[aj,aa,ba];lia
theorem Sr{CX:NB}{ca:Bool}{P:Program}{w:World}{K:af}{mg:Str->Option Value}{base:Heap}{k:Nat}{f:Addr}{name qual:Str}{params:Arguments}{body:List Stmt}{scope:Scope}{dV kV doc pm cdv ct oc:Value}{an od:Option Addr}
  {osl:Array (Option Value)} {N ps:List Str} {sp:Sp} (lk:K.lookup f=some ⟨oc,od,.func (cQ name qual params body scope dV kV doc pm an cdv ct),osl⟩) (hcd:fw K cdv qual=true) (S:jg N ps scope)
  (len:∀vs H Q E,sp vs H Q E->vs.length=ps.length)
  (hbody:∀(A:Around) (outer:List Env) (s:Shared) (H:Hp) (vs:List V) (Q:VK) (E:XK),lM ca k (A.deeper (envOfC qual scope s.heap.objs.size f cdv))->sp vs H Q E->
   ∃t,IE (IT CX ca P w K mg base N qual scope f cdv A outer s H E) body t/\t {nx:=λ_ H'=>Q .non H',rt:=Q} (start N vs) H):
  mS P w K mg base CX ca (k+1) f (cQ name qual params body scope dV kV doc pm an cdv ct) ps sp:=by
 refine⟨len,λA outer s H args us vs Q E hr e0 hb r hsp=> ?_⟩;have hl:=len _ _ _ _ hsp;have KX:K.In s.heap:=e0.mod.U1.keeps λb o e=>(e0.bs b o e).1;have lim:s.heap.NoLimit:=e0.mod.nolimit.keeps λb o e=>(e0.bs b o e).1;have hkind:∀y∈ps.zip us,scope.names.lookup y.1=some .local∨(scope.names.lookup y.1=some .cell/\((cellsFrom (s.heap.objs.size+1) scope.names []).lookup y.1).isSome=true):=λ⟨n,v⟩ hy=>by
  rcases S.par n (eZ hy).1 with q|q
  ·exact .inl q
  ·exact .inr ⟨q,gc _ _ _ (.inl q)⟩
 refine codeAny_call_function hr.depth (KX _ _ lk) rfl S.co S.gen rfl (PySem.W.codeRec_of KX hcd) (hb _ _ _ _ ?_);refine wpAny_newFunctionEnv_cells S.kind hkind λenv he s1 x=> ?_;subst he;refine⟨lim.keeps x.toInCall.keep,codeAny_func ?_⟩;obtain⟨t,ht,hq⟩:=hbody A outer s H vs Q E (hr.deeper _) hsp;have I:Inv (IT CX ca P w K mg base N qual scope f cdv A outer s H E) [] (start N vs) H s1:=MU S hr.hd e0 hl r x;refine wpAny_mono (ht [] s1 (start N vs) H _ I hq) (λfl s' hs=> ?_) λe s' hs=>hs;have fin:∀{σ':St} {H':Hp} {v:V} {u:Value},Inv (IT CX ca P w K mg base N qual scope f cdv A outer s H E) [] σ' H' s'->RelV v u->Q v H'->CE outer P w H s Q u s':=
  λ{σ' H' v u} J rv q=>⟨v,H',J.os,J.bare,J.base,J.ko,rv,q⟩
 cases fl with
 |ret u=>
  obtain⟨v,σ',H',J,rv,q⟩:=hs;exact fin J rv q
 |next=>
  obtain⟨σ',H',J,q⟩:=hs;exact fin (v:=V.non) (u:=fK) J rfl q
 |brk=>
  obtain⟨_,_,_,q⟩:=hs;exact bT q
 |cont=>
  obtain⟨_,_,_,q⟩:=hs;exact bT q
section
variable{X:Cx}{x:Str}{p pos:Pos}{e:Expr}{es:List Expr}{t:TA}{id T:String}{r:List V->Hp->VK->Prop}
def UG(r:List V->Hp->VK->Prop)(t:TA):TE:=λσ H Q=>t σ H λvs H1=>r vs H1 Q
theorem O5(hc:nW X (.builtin id) r)(hg:Gl X x)(hm:X.mg x=none)(hv:bootBuiltins x=some (.builtin id))(ha:PA X (e::es) t)(hn:x≠"__name__":=by decide)(hdb:(x==("__debug__":Str))=false:=by decide)
  (he:starEach (e::es) X.env=(false,eval e X.env)::starEach es X.env:=by rfl) (hpl:(backTo pos (starEach es X.env)).any (·.1)=false:=by rfl):PE X (.Call (.Name x p) (e::es) [] pos) (UG r t):=by
 intro pins s σ H Q I h;refine wpAny_Call_Name_kw (sL I hg hm hv ?_ hn hdb);exact PyProof.Rows.callWith_builtin1 (mJ (ha pos pins s σ H _ I h) λus s1=>qv λvs H1 I1 r1 q1=>hc pins s1 σ H1 vs us Q I1 r1 q1) he hpl
theorem Nd(hc:nW X (.type T) r)(hg:Gl X x)(hm:X.mg x=none)(hv:bootBuiltins x=some (.type T))(ha:PA X (e::es) t)(hn:x≠"__name__":=by decide)(hdb:(x==("__debug__":Str))=false:=by decide)
  (he:starEach (e::es) X.env=(false,eval e X.env)::starEach es X.env:=by rfl) (hpl:(backTo pos (starEach es X.env)).any (·.1)=false:=by rfl):PE X (.Call (.Name x p) (e::es) [] pos) (UG r t):=by
 intro pins s σ H Q I h;refine wpAny_Call_Name_kw (sL I hg hm hv ?_ hn hdb);exact bQ (mJ (ha pos pins s σ H _ I h) λus s1=>qv λvs H1 I1 r1 q1=>hc pins s1 σ H1 vs us Q I1 r1 q1) he hpl
end
end Internal
namespace HT
open PySem PyProof.Rows
section
open PySem.SeqAt
open PySem.AutoSeq1 (wpAny_loadPart')
open PySem.MeetsSeq PySem.MeetsSeq2 PySem.MeetsSeq3
end
section
variable{prog:Program}{w:World}{A:Around}{E:Value->Shared->Prop}{s:Shared}
theorem Q1{t b:Addr}{vs ws:List Value}{Q:Value->Shared->Prop}(ht:IsTup s.heap t vs.toArray)(hb:IsTup s.heap b ws.toArray)(hv:vs≠ [])
  (h1:ws=[]->Q (.ref t) s) (h2:ws≠ []->Q (.ref s.heap.objs.size) {s with heap:=s.heap.push {cls:= .type "tuple",data:= .seq (vs++ws).toArray}})
  (hsz:vs.length+ws.length<=sizeLine):wpAny (model prog w) A (binaryOp .Add (.ref t) (.ref b)) Q E s:=by
 obtain⟨⟨cls,dd,data,sl⟩,ho,hc,n,hd⟩:=id ht;obtain⟨⟨cls2,dd2,data2,sl2⟩,ho2,hc2,n2,hd2⟩:=id hb;simp only at hc hd hc2 hd2;subst hc hd hc2 hd2;have e:vs.toArray++ws.toArray=(vs++ws).toArray:=by simp
 by_cases hw:ws=[]
 ·exact concat_meets ⟨_,ho,rfl⟩ ⟨_,ho2,rfl⟩ noFill_tuple_add seq_tuple_add gb fQ (fN _ _)
   (tuple_addW1 t b vs.toArray ws.toArray n n2 dd dd2 sl sl2 (by simpa using hv) (by simp[hw])) ⟨ho,ho2,h1 hw⟩
 ·refine concat_meets ⟨_,ho,rfl⟩ ⟨_,ho2,rfl⟩ noFill_tuple_add seq_tuple_add gb fQ (fN _ _)
   (tuple_addW2 t b vs.toArray ws.toArray n n2 dd dd2 sl sl2 (by simpa using hv) (by simpa using hw) (by rw[aL,aL];exact hsz)) ⟨ho,ho2,?_⟩
  rw[e];exact h2 hw
noncomputable def HA (n d:Nat):Option Int->Nat
 |none=>d
 |some v=>if v<0 then(v+(n:Int)).toNat else min v.toNat n
theorem PB(n d:Nat):HA n d none=d:=rfl
theorem HB(n d k:Nat):HA n d (some (k:Int))=min k n:=by
 show(if (k:Int)<0 then((k:Int)+(n:Int)).toNat else min (k:Int).toNat n)=min k n;rw[if_neg (by lia),aU]
end
end HT
namespace Internal
open PySem PySem.Spec PyProof.Rows
abbrev TO:=St->Hp->(Option Int->Hp->Prop)->Prop
def PO(X:Cx)(e:Option Expr)(t:TO):Prop:=
 ∀(pins:List (Addr×Obj)) (s:Shared) (σ:St) (H:Hp) (Q:Option Int->Hp->Prop),Inv X pins σ H s->t σ H Q->
  wpAny (model X.prog X.w) X.A (evalPart e X.env) (λu s'=>∃o H',Inv X pins σ H' s'/\IsPart u o/\Q o H') X.xe s
def Iq:TO:=λ_ H Q=>Q none H
section
variable{X:Cx}{e:Expr}{te:TE}{lo hi:Option Expr}{tl th:TO}{pos p2:Pos}
theorem RK:PO X none Iq:=by
 intro pins s σ H Q I h;rw[evalPart_none];exact wpAny_pure ⟨none,H,I,.none,h⟩
def Si(X:Cx)(r:V->Option Int->Option Int->Hp->VK->Prop):Prop:=
 ∀(pins:List (Addr×Obj)) (s:Shared) (σ:St) (H:Hp) (x:V) (v vl vu:Value) (lo hi:Option Int) (sl:Addr) (Q:VK),Inv X pins σ H s->RelV x v->s.heap.IsSliceOf sl vl vu .none->IsPart vl lo->IsPart vu hi->r x lo hi H Q->
  ∃T id,typeLookup (.type T) "__getitem__"=pure (some (.builtin id))/\s.TypeIs v T/\wpAny (model X.prog X.w) X.A (getItem v (.ref sl)) (EP X pins σ Q) X.xe s
def XI(r:V->Option Int->Option Int->Hp->VK->Prop)(te:TE)(tl th:TO):TE:=λσ H Q=>te σ H λx H1=>tl σ H1 λl H2=>th σ H2 λu H3=>r x l u H3 Q
theorem Ph{r:V->Option Int->Option Int->Hp->VK->Prop}(hr:Si X r)(he:PE X e te)(hl:PO X lo tl)(hu:PO X hi th):PE X (.Subscript e (.Slice lo hi none p2) pos) (XI r te tl th):=by
 intro pins s σ H Q I h;refine Subscript_ (mJ (he pins s σ H _ I h) λv s1=>qv λx H1 I1 r1 q1=> ?_);refine wpAny_Slice (mJ (hl pins s1 σ H1 _ I1 q1) λvl s2=>qv λl H2 I2 pl q2=>mJ (hu pins s2 σ H2 _ I2 q2) λvu s3=>qv λu H3 I3 pu q3=> ?_);rw[evalPart_none];refine wpAny_pure ?_;have I4:Inv X pins σ H3 {s3 with heap:=s3.heap.push {cls:= .type "slice",data:= .fields #[vl,vu,.none]}}:=I3.kept (t':=s3.toks) λb ob q=>ay _ q;obtain⟨T,id,hT,ht,hg⟩:=hr pins {s3 with heap:=s3.heap.push {cls:= .type "slice",data:= .fields #[vl,vu,.none]}} σ H3 x v vl vu l u s3.heap.objs.size Q I4 r1 (Heap.IsSliceOf.new ..) pl pu q3;show wpAny (model X.prog X.w) X.A (subscriptTail e (.Slice lo hi none p2) v (.ref s3.heap.objs.size)) (EP X pins σ Q) X.xe {s3 with heap:=s3.heap.push {cls:= .type "slice",data:= .fields #[vl,vu,.none]}};exact tail_any (ops:=[.ref s3.heap.objs.size,v]) ht hT hg (by with_unfolding_all rfl)
noncomputable def w_ (xs:List V) (lo hi:Option Int):List V:=(xs.drop (HT.HA xs.length 0 lo)).take (HT.HA xs.length xs.length hi-HT.HA xs.length 0 lo)
theorem IS(xs:List V)(lo hi:Option Int):(w_ xs lo hi).length<=xs.length:=by
 unfold w_;rw[bE,dU];lia
def Wo(K:af):R2:=λx y H Q=>∃a b xs ys,x= .ref a/\y= .ref b/\Kd K H a xs/\Kd K H b ys/\xs≠ []/\xs.length+ys.length<=sizeLine/\
 (ys=[]->Q (.ref a) H)/\(ys≠ []->∀p,H p=none->Q (.ref p) (upd H p (.tup (xs++ys))))
theorem Vals.He{xs:List V}{us:List Value}(r:Vals xs us):us=[]↔xs=[]:=by
 cases r with
 |nil=>simp
 |cons _ _=>simp
theorem Rx:oZ X (binaryOp .Add) (Wo X.K):=by
 intro pins s σ H x y v u Q I rx ry h;obtain⟨a,b,xs,ys,rfl,rfl,ha,hb,hx,hz,q1,q2⟩:=h
 cases rx
 cases ry
 obtain⟨its,r1,p1,_⟩:=I.tuple ha;obtain⟨its2,r2,p2,_⟩:=I.tuple hb;refine HT.Q1 p1 p2 (λz=>hx (r1.He.mp z)) (λz=>⟨.ref a,H,I,rfl,q1 (r2.He.mp z)⟩) (λz=> ?_) (by rw[←r1.length,←r2.length];exact hz);refine⟨.ref s.heap.objs.size,_,I.laid (t':=s.toks) (o:= .tup (xs++ys)) (λb ob q=>ay _ q) (aq _) ?_,rfl,q2 (λw=>z (r2.He.mpr w)) _ (I.ko.fresh (aq _))⟩;exact⟨by rw[aj];exact hz,_,r1.append r2,IsTup.new _ _⟩
end
noncomputable def EK (n:Nat) (i:Int):Option Nat:=if 0<=i then(if i<n then some i.toNat else none) else if -(n:Int)<=i then some (i+n).toNat else none
noncomputable def qh {α:Type} (xs:List α) (i:Int):Option α:=(EK xs.length i).bind λj=>xs[j]?
theorem LX{n:Nat}{i:Int}{j:Nat}(h:EK n i=some j):seqIndex? i n=some j/\j<n/\ -(n:Int)<=i/\i<n:=by
 unfold EK at h;by_cases h0:0<=i
 ·rw[if_pos h0]at h;by_cases h1:i<n
  ·rw[if_pos h1]at h;have e:i.toNat=j:=aY h;exact⟨by rw[seqIndex_of h0 h1,e],by lia,by lia,h1⟩
  ·rw[if_neg h1]at h;cases h
 ·rw[if_neg h0]at h;by_cases h1: -(n:Int)<=i
  ·rw[if_pos h1]at h;have e:(i+n).toNat=j:=aY h;exact⟨by rw[seqIndex_neg (by lia) h1,e],by lia,h1,by lia⟩
  ·rw[if_neg h1]at h;cases h
theorem LA{α:Type}{xs:List α}{i:Int}{v:α}(h:qh xs i=some v):∃j,seqIndex? i xs.length=some j/\xs[j]? =some v/\j<xs.length/\ -(xs.length:Int)<=i/\i<xs.length:=by
 unfold qh at h
 cases e:EK xs.length i with
 |none=>rw[e]at h;cases h
 |some j=>
  rw[e]at h;obtain⟨h1,h2,h3,h4⟩:=LX e;exact⟨j,h1,h,h2,h3,h4⟩
theorem jI{α:Type}{xs:List α}{j:Nat}{v:α}(h:xs[j]? =some v):qh xs (j:Int)=some v:=by
 have hj:j<xs.length:=(List.getElem?_eq_some_iff.mp h).1;have e:EK xs.length (j:Int)=some j:=by
  unfold EK;rw[if_pos (by lia),if_pos (by lia)];simp
 unfold qh;rw[e];exact h
theorem IG{α:Type}(xs:List α)(v:α):qh (xs++[v]) (-1)=some v:=by
 have hl:(xs++[v]).length=xs.length+1:=by simp
 have e:EK (xs++[v]).length (-1)=some xs.length:=by
  unfold EK;rw[hl,if_neg (by decide),if_pos (by lia)];congr 1;lia
 unfold qh;rw[e];show(xs++[v])[xs.length]? =some v;simp
def CC(b:Expr):Prop:=∀o i,subscripted b false o i=operate [o,i] (getItem o i)
def SH(X:Cx)(r:R2):Prop:=
 ∀(value slice:Expr) (pins:List (Addr×Obj)) (s:Shared) (σ:St) (H:Hp) (x y:V) (v u:Value) (Q:VK),Inv X pins σ H s->RelV x v->RelV y u->r x y H Q->
  subscripted slice false v u=operate [v,u] (getItem v u)->wpAny (model X.prog X.w) X.A (subscriptTail value slice v u) (EP X pins σ Q) X.xe s
def XZ(X:Cx)(id:String)(r:V->List V->Hp->VK->Prop):Prop:=
 ∀(pins:List (Addr×Obj)) (s:Shared) (σ:St) (H:Hp) (x:V) (xs:List V) (v:Value) (us:List Value) (Q:VK),Inv X pins σ H s->RelV x v->Vals xs us->r x xs H Q->
  wpAny (model X.prog X.w) X.A (call (.builtin id) (v::us)) (EP X pins σ Q) X.xe s
section
variable{X:Cx}{a b:Expr}{ta tb:TE}{pos:Pos}
theorem Sx{r:R2}(hr:SH X r)(ha:PE X a ta)(hb:PE X b tb)(hs:CC b):PE X (.Subscript a b pos) (P0 r ta tb):=by
 intro pins s σ H Q I h;exact Subscript_ (SV ha hb I h λv u s2 x y H2 I2 rx ry q=>hr a b pins s2 σ H2 x y v u Q I2 rx ry q (hs _ _))
def Xx(K:af):R2:=λx y H Q=>∃p xs i v,x= .ref p/\y= .int i/\kO K H p xs/\qh xs i=some v/\Q v H
def Xy(K:af):R2:=λx y H Q=>∃p xs i v,x= .ref p/\y= .int i/\Kd K H p xs/\qh xs i=some v/\Q v H
theorem G0:SH X (Xx X.K):=by
 intro value slice pins s σ H x y v u Q I rx ry h hs;obtain⟨p,xs,i,z,rfl,rfl,hq,he,q⟩:=h
 cases rx
 obtain⟨t,rfl⟩:=ry;obtain⟨its,r,pl,hz⟩:=I.list hq;obtain⟨j,h1,h2,h3,h4,h5⟩:=LA he;obtain⟨w,ew,rw'⟩:=r.get h2;have hl:=r.length;have hn:=G9;have fin:EP X pins σ Q w s:=⟨z,H,I,rw',q⟩;by_cases h0:0<=i
 ·have hj:i.toNat=j:=by
   rw[seqIndex_of h0 h5]at h1;exact aY h1
  exact item_listR pl.isList h0 (by lia) (by rw[hj];simpa using ew) fin hs
 ·have hj:(i+(its.toArray.size:Int)).toNat=j:=by
   rw[seqIndex_neg (by lia) h4]at h1;rw[aL,←hl];exact aY h1
  exact subscriptTail_builtinR (x:=w) pl.isList.typeIs slot_list_getitem.lookup
   (wpAny_getItem_list_neg (Q:=λr s'=>r=w/\EP X pins σ Q r s') pl.isList (by lia) (by rw[aL]<;>lia) (by lia) (by rw[hj];simpa using ew) ⟨rfl,fin⟩) hs
theorem Tx:SH X (Xy X.K):=by
 intro value slice pins s σ H x y v u Q I rx ry h hs;obtain⟨p,xs,i,z,rfl,rfl,hq,he,q⟩:=h
 cases rx
 obtain⟨t,rfl⟩:=ry;obtain⟨its,r,pl,hz⟩:=I.tuple hq;obtain⟨j,h1,h2,h3,h4,h5⟩:=LA he;obtain⟨w,ew,rw'⟩:=r.get h2;have hl:=r.length;have hn:=G9;have fin:EP X pins σ Q w s:=⟨z,H,I,rw',q⟩;exact subscriptTail_builtinR (x:=w) pl.typeIs slot_tuple_getitem.lookup
  (getItem_tuple (j:=j) (Q:=λr s'=>r=w/\EP X pins σ Q r s') pl (by lia) (by lia) (by rw[aL,←hl];exact h1) (by simpa using ew) ⟨rfl,fin⟩) hs
theorem KN(its:List Value)(n j:Nat)(u:Value):cT (·.setIfInBounds j u) {cls:= .type "list",data:= .seq its.toArray n}={cls:= .type "list",data:= .seq (its.set j u).toArray n}:=by
 simp[cT]
theorem Inv.lst{pins:List (Addr×Obj)}{σ:St}{H:Hp}{s:Shared}{p:Addr}{xs:List V}(I:Inv X pins σ H s)(h:H p=some (.lst xs)):
  ∃(its:List Value) (n:Nat),Vals xs its/\s.heap.get? p=some {cls:= .type "list",data:= .seq its.toArray n}/\xs.length<=sizeLine:=by
 obtain⟨z,its,n,r,e⟩:=I.ko p _ h;exact⟨its,n,r,e,z⟩
theorem Inv.TM{pins:List (Addr×Obj)}{σ:St}{H:Hp}{s:Shared}{p:Addr}{xs ys:List V}{its its':List Value}{n n':Nat}{f:Obj->Obj}(I:Inv X pins σ H s)(h:H p=some (.lst xs))
  (ho:s.heap.get? p=some {cls:= .type "list",data:= .seq its.toArray n}) (hf:f {cls:= .type "list",data:= .seq its.toArray n}={cls:= .type "list",data:= .seq its'.toArray n'}) (r:Vals ys its') (hz:ys.length<=sizeLine) (t:Nat):
  Inv X pins σ (upd H p (.lst ys)) {s with heap:=s.heap.update p f,toks:=t}:=by
 have e:(s.heap.update p f).get? p=some {cls:= .type "list",data:= .seq its'.toArray n'}:=by
  rw[gm f ho (by rw[hf]<;>rfl),hf]
 refine I.write (x:=p) (e:=p) (by rw[h];trivial) (.inl rfl) (λb u hb q=>(eQ _ _ (ah hb)).trans q) ⟨_,e⟩ ?_;exact⟨hz,its',n',r,e⟩
def Wq:V->V->V->Hp->(Hp->Prop)->Prop:=λo i v H Q=>∃p xs k j,o= .ref p/\i= .int k/\H p=some (.lst xs)/\EK xs.length k=some j/\Q (upd H p (.lst (xs.set j v)))
theorem set_list:Qt X Wq:=by
 intro pins s σ H o i v ov iv u Q I ro ri rv h;obtain⟨p,xs,k,j,rfl,rfl,hp,hj,q⟩:=h
 cases ro
 obtain⟨t,rfl⟩:=ri;obtain⟨its,n,r,ho,hz⟩:=I.lst hp;obtain⟨h1,h2,h3,h4⟩:=LX hj;have hl:=r.length;have hn:=G9;have I':Inv X pins σ (upd H p (.lst (xs.set j v))) {s with heap:=s.heap.update p (cT (·.setIfInBounds j u))}:=
  I.TM hp ho (KN its n j u) (r.set rv j) (by rw[aN];exact hz) s.toks
 by_cases h0:0<=k
 ·have hk:k.toNat=j:=by
   rw[seqIndex_of h0 h4]at h1;exact aY h1
  exact PySem.W.ki_setAt ho h0 (by lia) (by rw[aL,←hl];exact h4) (by rw[hk];exact⟨_,I',q⟩)
 ·have hk:(k+(its.toArray.size:Int)).toNat=j:=by
   rw[seqIndex_neg (by lia) h3]at h1;rw[aL,←hl];exact aY h1
  exact PySem.W.ki_setBack ho (by lia) (by rw[aL,←hl];exact h3) (by lia) (by rw[hk];exact⟨_,I',q⟩)
theorem HW(lo hi:Option Int)(n:Nat):(sliceBounds lo hi none n).1=((HT.HA n 0 lo:Nat):Int)/\(sliceBounds lo hi none n).2.1=((HT.HA n n hi:Nat):Int)/\(sliceBounds lo hi none n).2.2=1:=by
 refine⟨?_,?_,rfl⟩
 ·cases lo with
  |none=>simp[sliceBounds,HT.HA]
  |some i=>
   simp only[sliceBounds,HT.HA,iB,show(1:Int)>0 by decide,if_true];by_cases h:i<0
   ·simp only[h,if_true]<;>lia
   ·simp only[h,if_false]<;>lia
 ·cases hi with
  |none=>simp[sliceBounds,HT.HA]
  |some i=>
   simp only[sliceBounds,HT.HA,iB,show(1:Int)>0 by decide,if_true];by_cases h:i<0
   ·simp only[h,if_true]<;>lia
   ·simp only[h,if_false]<;>lia
theorem Fj(its:List Value)(lo hi:Option Int):slicePick its.toArray lo hi none=((its.drop (HT.HA its.length 0 lo)).take (HT.HA its.length its.length hi-HT.HA its.length 0 lo)).toArray:=by
 obtain⟨h1,h2,h3⟩:=HW lo hi its.toArray.size;unfold slicePick;rw[h1,h2,h3];simp only[sliceRange_one,pick_run,aL]<;>rfl
def XA(K:af):V->Option Int->Option Int->Hp->VK->Prop:=λx lo hi H Q=>∃a xs,x= .ref a/\kO K H a xs/\∀p,H p=none->Q (.ref p) (upd H p (.lst (w_ xs lo hi)))
theorem Mt:Si X (XA X.K):=by
 intro pins s σ H x v vl vu lo hi sl Q I rx hs pl pu h;obtain⟨a,xs,rfl,hx,q⟩:=h
 cases rx
 obtain⟨its,r,ht,hz⟩:=I.list hx;have hlen:=r.length;refine⟨"list",_,slot_list_getitem.lookup,ht.isList.typeIs,?_⟩;refine wpAny_getItem_list_slice ht.isList hs pl pu .none (by simp) ?_ (by rw[aL]<;>lia);rw[Fj,←hlen];refine⟨.ref s.heap.objs.size,_,I.laid (t':=s.toks) (o:= .lst (w_ xs lo hi)) (λb ob q=>ay _ q) (aq _) ?_,rfl,q _ (I.ko.fresh (aq _))⟩;exact⟨aA (IS xs lo hi) hz,_,0,(r.drop (HT.HA xs.length 0 lo)).take (HT.HA xs.length xs.length hi-HT.HA xs.length 0 lo),bA _ rfl⟩
noncomputable def nY:V->Bool
 | .int _=>true
 |_=>false
noncomputable def NC:V->V->Bool
 | .int a,.int b=>a==b
 |_,_=>false
theorem Kq{A:Around}{s:Shared}{y x:V}{u v:Value}(ry:RelV y u)(rx:RelV x v)(fy:nY y=true)(fx:nY x=true):iN A s u v (NC y x):=by
 cases y with
 |int a=>
  obtain⟨t',rfl⟩:=ry
  cases x with
  |int b=>obtain⟨t,rfl⟩:=rx;exact SeqAt.EqAt.int_int a t' b t
  |_=>exact absurd (show false=true from fx) aR
 |_=>exact absurd (show false=true from fy) aR
noncomputable def Q7 (x:V) (u:Value):Bool:=match u with
 | .int i _=>NC (.int i) x
 |_=>false
theorem Oj{x y:V}{u:Value}(r:RelV y u)(f:nY y=true):Q7 x u=NC y x:=by
 cases y with
 |int i=>obtain⟨t,rfl⟩:=r;rfl
 |_=>exact absurd (show false=true from f) aR
theorem Lz{x:V}{xs:List V}{us:List Value}(h:Vals xs us)(f:xs.all nY=true):us.any (Q7 x)=xs.any λy=>NC y x:=by
 induction h with
 |nil=>rfl
 |cons r t ih=>
  rw[bF,bf]at f;rw[dX,dX,Oj r f.1,ih f.2]
theorem DB{A:Around}{s:Shared}{x:V}{v:Value}(rx:RelV x v)(fx:nY x=true):∀{xs:List V} {us:List Value},Vals xs us->xs.all nY=true->∀u∈us,iN A s u v (Q7 x u)
 |_,_,.nil,_=>λu hu=>by cases hu
 |y::xs,u::us,.cons r t,f=>λu' hu=>by
  rw[bF,bf]at f;rcases List.mem_cons.mp hu with rfl|hu
  ·rw[Oj r f.1];exact Kq r rx f.1 fx
  ·exact DB rx fx t f.2 u' hu
noncomputable def Ra (x:V) (xs:List V):Bool:=xs.any λy=>NC y x
def Yb(K:af)(neg:Bool):R2:=λx y H Q=>∃p xs,y= .ref p/\(kO K H p xs∨Kd K H p xs)/\nY x=true/\xs.all nY=true/\Q (.bl (if neg then !Ra x xs else Ra x xs)) H
theorem Ht:oZ X (compareOp .NotIn) (Yb X.K true):=by
 intro pins s σ H x y v u Q I rx ry h;obtain⟨p,xs,rfl,hq,fx,fs,q⟩:=h
 cases ry
 rcases hq with hq|hq
 ·obtain⟨its,r,pl,hz⟩:=I.list hq;refine SeqAt.notIn_listAt (Q7 x) pl.isList (λw hw=>DB rx fx r fs w (by simpa using hw)) ⟨.bl _,H,I,rfl,?_⟩;rw[show its.toArray.any (Q7 x)=its.any (Q7 x) by simp,Lz r fs];exact q
 ·obtain⟨its,r,pl,hz⟩:=I.tuple hq;refine SeqAt.notIn_tupleAt (Q7 x) pl (λw hw=>DB rx fx r fs w (by simpa using hw)) ⟨.bl _,H,I,rfl,?_⟩;rw[show its.toArray.any (Q7 x)=its.any (Q7 x) by simp,Lz r fs];exact q
theorem AQ:nW X (.builtin "len") (λxs H Q=>∃p ys,xs=[.ref p]/\(kO X.K H p ys∨Kd X.K H p ys)/\Q (.int ys.length) H):=by
 intro pins s σ H xs us Q I r h;obtain⟨p,ys,rfl,hq,q⟩:=h;obtain⟨u,rfl,rx⟩:=vals1 r
 cases rx
 have hn:=G9;rcases hq with hq|hq
 ·obtain⟨its,r',pl,hz⟩:=I.list hq;have hlen:=r'.length;exact Calls.call_len_list pl.isList (by simp only[aL]<;>lia) ⟨.int ys.length,H,I.tok _,⟨s.toks+1,by rw[aL,hlen]⟩,q⟩
 ·obtain⟨its,r',pl,hz⟩:=I.tuple hq;have hlen:=r'.length;exact len_tuple pl (by simp only[aL]<;>lia) ⟨.int ys.length,H,I.tok _,⟨s.toks+1,by rw[aL,hlen]⟩,q⟩
theorem GD:nW X (.type "list") (λxs H Q=>∃p ys,xs=[.ref p]/\(kO X.K H p ys∨Kd X.K H p ys)/\∀l,H l=none->Q (.ref l) (upd H l (.lst ys))):=by
 intro pins s σ H xs us Q I r h;obtain⟨p,ys,rfl,hq,q⟩:=h;obtain⟨u,rfl,rx⟩:=vals1 r
 cases rx
 have fin:∀(its:List Value),Vals ys its->ys.length<=sizeLine->∀(h':Heap) (c':Nat),(∀b o',s.heap.get? b=some o'->h'.get? b=some o')->
   h'.get? s.heap.objs.size=some {cls:= .type "list",dict:=none,data:= .seq its.toArray c',slots:= #[]}->EP X pins σ Q (.ref s.heap.objs.size) {s with heap:=h'}:=λits r' hz h' c' kp e=>
  ⟨.ref s.heap.objs.size,_,I.laid (t':=s.toks) kp (aq _) (show mf X.prog X.w _ h' _ (.lst ys) from⟨hz,its,c',r',e⟩),rfl,q _ (I.ko.fresh (aq _))⟩
 rcases hq with hq|hq
 ·obtain⟨its,r',pl,hz⟩:=I.list hq;have hlen:=r'.length;obtain⟨o,ho,hc,n,hd⟩:=pl.isList;exact call_list_seq p (.inl rfl) ho hc hd (λh' c' kp e=>fin its r' hz h' c' kp e) (by simp only[aL]<;>lia)
 ·obtain⟨its,r',pl,hz⟩:=I.tuple hq;have hlen:=r'.length;obtain⟨o,ho,hc,n,hd⟩:=pl;exact call_list_seq p (.inr rfl) ho hc hd (λh' c' kp e=>fin its r' hz h' c' kp e) (by simp only[aL]<;>lia)
def Yf(K:af)(T:String)(x:V)(H:Hp):Prop:=match x with
 | .ref p=>(T="list"/\∃xs,kO K H p xs)∨(T="dict"/\∃kvs,H p=some (.dK kvs))
 |_=>False
theorem UP{pins:List (Addr×Obj)}{σ:St}{H:Hp}{s:Shared}{T:String}{x:V}{v:Value}(I:Inv X pins σ H s)(r:RelV x v)(ty:Yf X.K T x H):
  s.TypeIs v T/\∀a,v= .ref a->∃ob,s.heap.get? a=some ob/\ob.dict=none:=by
 cases x with
 |ref p=>
  cases r
  rcases ty with ⟨rfl,xs,hq⟩|⟨rfl,kvs,hk⟩
  ·obtain⟨its,_,pl,_⟩:=I.list hq;refine⟨pl.isList.typeIs,λa e=> ?_⟩
   cases e
   obtain⟨o,n,e,c,hd,_⟩:=pl;exact⟨o,e,hd⟩
  ·obtain⟨_,_,_,_,o,_,_,e,ex,_⟩:=I.ko p _ hk;refine⟨⟨o,e,ex.1⟩,λa e2=> ?_⟩
   cases e2
   exact⟨o,e,ex.2.1⟩
 |_=>exact bT ty
variable{o e:Expr}{es:List Expr}{to:TE}{t:TA}{name:Str}{apos cpos:Pos}{T id:String}{r:V->List V->Hp->VK->Prop}
end
def WD(X:Cx)(id:String)(r:V->List V->Hp->VK->Prop):Prop:=
 ∀(pins:List (Addr×Obj)) (s:Shared) (σ:St) (H:Hp) (x:V) (xs:List V) (v:Value) (us:List Value) (Q:VK),Inv X pins σ H s->RelV x v->Vals xs us->r x xs H Q->
  wpAny (model X.prog X.w) X.A (call (.builtin id) (v::us)) (EP X pins σ Q) X.xe s
theorem Vals.one{x:V}{us:List Value}(h:Vals [x] us):∃u,us=[u]/\RelV x u:=by
 cases h with|cons r h=>cases h;exact⟨_,rfl,r⟩
theorem Vals.two{x y:V}{us:List Value}(h:Vals [x,y] us):∃u v,us=[u,v]/\RelV x u/\RelV y v:=by
 cases h with|cons r h=>obtain⟨_,rfl,q⟩:=Vals.one h;exact⟨_,_,rfl,r,q⟩
theorem Vals.rep{xs:List V}{us:List Value}(h:Vals xs us):∀k:Nat,Vals (ak k xs).flatten (ak k us).flatten
 |0=> .nil
 |k+1=>by
  rw[cN,cN,dP,dP];exact Vals.append h (Vals.rep h k)
theorem foldl_rep(its:List Value):∀(k:Nat) (acc:List Value),
  iG (λx1 x2=>x1++x2) acc.toArray (ak k its.toArray)=(acc++(ak k its).flatten).toArray
 |0,acc=>by simp
 |k+1,acc=>by
  have e:acc.toArray++its.toArray=(acc++its).toArray:=by simp
  have e2:(acc++its)++(ak k its).flatten=acc++(ak (k+1) its).flatten:=by
   rw[cN,dP,cj]
  rw[←e2,←foldl_rep its k (acc++its),←e,cN,List.foldl_cons]
section
variable{X:Cx}{pins:List (Addr×Obj)}{σ:St}{H:Hp}{s:Shared}{l b:Addr}{xs ys zs:List V}
theorem Inv.VX{its its':List Value}{n:Nat}{f:Array Value->Array Value}{t':Nat}(I:Inv X pins σ H s)(hH:H l=some (.lst xs))
  (e:s.heap.get? l=some {cls:= .type "list",data:= .seq its.toArray n}) (hf:f its.toArray=its'.toArray) (hv:Vals ys its') (hz:ys.length<=sizeLine):
  Inv X pins σ (upd H l (.lst ys)) {s with heap:=s.heap.update l (cT f),toks:=t'}:=by
 have q:=PySem.IsL.update e f;rw[hf]at q;refine I.write (x:=l) (e:=l) (by rw[hH];exact trivial) (.inl rfl) (λb' u hb hu=>(eQ s.heap (cT f) (ah hb)).trans hu) ⟨_,q⟩ ?_;exact⟨hz,its',_,hv,q⟩
theorem Inv.VW{its:List Value}{t':Nat}(I:Inv X pins σ H s)(hv:Vals ys its)(hz:ys.length<=sizeLine):
  Inv X pins σ (upd H s.heap.objs.size (.lst ys)) {s with heap:=s.heap.push {cls:= .type "list",data:= .seq its.toArray},toks:=t'}:=
 I.laid (λ_ _ q=>ay _ q) (aq _) ⟨hz,its,0,hv,bA _ rfl⟩
theorem Inv.fresh(I:Inv X pins σ H s):H s.heap.objs.size=none:=I.ko.fresh (aq _)
theorem Inv.M9(I:Inv X pins σ H s)(hH:H l=some (.lst xs)):xs.length<=sizeLine/\∃(its:List Value) (n:Nat),Vals xs its/\xs.length=its.length/\s.heap.get? l=some {cls:= .type "list",data:= .seq its.toArray n}:=by
 obtain⟨z,its,n,r,e⟩:=I.ko l _ hH;exact⟨z,its,n,r,r.length,e⟩
theorem Js{n:Nat}(h:n<=sizeLine):dD n=false:=by
 unfold dD;exact decide_eq_false (by lia)
end
section
variable{X:Cx}
def RT:V->List V->Hp->VK->Prop:=λx vs H Q=>∃l xs y,x= .ref l/\vs=[y]/\H l=some (.lst xs)/\xs.length<sizeLine/\Q .non (upd H l (.lst (xs++[y])))
theorem M_:WD X "list.append" RT:=by
 intro pins s σ H x vs v us Q I rx rv h;obtain⟨l,xs,y,rfl,rfl,hH,hz,q⟩:=h
 cases rx
 obtain⟨u,rfl,ru⟩:=rv.one;obtain⟨z,its,n,r,hl,e⟩:=I.M9 hH;refine call_meets F.slot_list_append ⟨_,e,rfl⟩ F.entry_list_append (F.args_list_append_2 _ _) (PySem.list_append l its.toArray n u (by rw[aL];lia)) ⟨e,?_⟩;refine⟨.non,_,I.VX (its':=its++[u]) hH e (by simp) (r.append (.cons ru .nil)) ?_,rfl,q⟩;rw[aj,dA];lia
def RU:V->List V->Hp->VK->Prop:=λx vs H Q=>∃l b xs zs,x= .ref l/\vs=[.ref b]/\H l=some (.lst xs)/\H b=some (.lst zs)/\xs.length+zs.length<=sizeLine/\Q .non (upd H l (.lst (xs++zs)))
theorem Na:WD X "list.extend" RU:=by
 intro pins s σ H x vs v us Q I rx rv h;obtain⟨l,b,xs,zs,rfl,rfl,hH,hB,hz,q⟩:=h
 cases rx
 obtain⟨u,rfl,ru⟩:=rv.one
 cases ru
 obtain⟨z,its,n,r,hl,e⟩:=I.M9 hH;obtain⟨z2,its2,n2,r2,hl2,e2⟩:=I.M9 hB;have hsz:its.toArray.size+its2.toArray.size<=sizeLine:=by rw[aL,aL];lia
 have hlong:¬(!its.toArray.isEmpty&&dD (its.toArray.size+its2.toArray.size))=true:=by
  rw[Js hsz,Bool.and_false];exact aR
 refine call_meets F.slot_list_extend ⟨_,e,rfl⟩ F.entry_list_extend (F.args_list_extend_2 _ _)
  (AutoSeq1.list_extend_list_list_0 l its.toArray n b its2.toArray n2 hlong (by rw[aL];lia) (by lia)) ⟨e,e2,?_⟩
 refine⟨.non,_,I.VX (its':=its++its2) hH e (by simp) (r.append r2) ?_,rfl,q⟩;rw[aj];omega
def Xw:R2:=λx y H Q=>∃l b xs zs,x= .ref l/\y= .ref b/\H l=some (.lst xs)/\H b=some (.lst zs)/\xs.length+zs.length<=sizeLine/\∀p,H p=none->Q (.ref p) (upd H p (.lst (xs++zs)))
theorem T6:oZ X (binaryOp .Add) Xw:=by
 intro pins s σ H x y v u Q I rx ry h;obtain⟨l,b,xs,zs,rfl,rfl,hH,hB,hz,q⟩:=h
 cases rx
 cases ry
 obtain⟨z,its,n,r,hl,e⟩:=I.M9 hH;obtain⟨z2,its2,n2,r2,hl2,e2⟩:=I.M9 hB;refine PySem.P.add_list e e2 ?_ (by rw[aL,aL];lia);have ea:its.toArray++its2.toArray=(its++its2).toArray:=by simp
 rw[ea];exact⟨.ref _,_,I.VW (t':=s.toks) (r.append r2) (by rw[aj];omega),rfl,q _ I.fresh⟩
def Xz:R2:=λx y H Q=>∃l k xs,x= .ref l/\y= .int k/\H l=some (.lst xs)/\ -(2^63)<=k/\k<2^63/\xs.length*k.toNat<=sizeLine/\
 ∀p,H p=none->Q (.ref p) (upd H p (.lst (ak k.toNat xs).flatten))
theorem len_rep{α:Type}(xs:List α)(k:Nat):(ak k xs).flatten.length=k*xs.length:=by
 induction k with
 |zero=>simp
 |succ k ih=>rw[cN,dP,aj,ih,Nat.succ_mul,Nat.add_comm]
theorem Ua:oZ X (binaryOp .Mult) Xz:=by
 intro pins s σ H x y v u Q I rx ry h;obtain⟨l,k,xs,rfl,rfl,hH,h1,h2,hz,q⟩:=h
 cases rx
 obtain⟨t,rfl⟩:=ry;obtain⟨z,its,n,r,hl,e⟩:=I.M9 hH;have hlen:its.toArray.size*k.toNat<=sizeLine:=by rw[aL,←hl];exact hz
 have hcap:¬its.toArray.size*k.toNat>(2^63-1)/8:=by
  have:(sizeLine:Nat)<=(2^63-1)/8:=by decide
  lia
 have hfit:¬(!Builtin.List.listFitsIndex k)=true:=by
  rw[fitsIndex_both h1 h2];exact aR
 have hlong:¬dD (its.toArray.size*k.toNat)=true:=by
  rw[Js hlen];exact aR
 have hnew:iG (λx1 x2=>x1++x2) #[] (ak (if its.toArray.isEmpty=true then 0 else k.toNat) its.toArray)=(ak k.toNat its).flatten.toArray:=by
  have f0:∀m:Nat,iG (λx1 x2=>x1++x2) #[] (ak m its.toArray)=(ak m its).flatten.toArray:=λm=>by
   have:=foldl_rep its m [];rw[fR]at this;exact this
  rw[f0]
  cases its with
  |nil=>simp
  |cons a r'=>rw[if_neg (by simp)]
 refine wpAny_binaryOp_repeat_ref (T:="list") (U:="int") (by decide) ⟨_,e,rfl⟩ (λs'=>typeIs_int s' k t) noFill_list_mul F.fills_int_mul F.slot_int_rmul repeat_list F.slot_int_index.lookup
  (call_meets F.slot_int_rmul (typeIs_int s k t) F.entry_int_rmul (F.args_int_rmul_2 _ _) (int___rmul___int_list k t l its.toArray n)
   ⟨e,rfl,⟨_,e,rfl⟩,call_meets F.slot_list_mul ⟨_,e,rfl⟩ F.entry_list_mul (F.args_list_mul_2 _ _) (AutoListH.list___mul___list_int_3 l its.toArray n k t hfit hcap hlong) ⟨e,?_⟩⟩)
 rw[hnew];exact⟨.ref _,_,I.VW (t':=s.toks) (r.rep k.toNat) (by rw[len_rep,Nat.mul_comm];exact hz),rfl,q _ I.fresh⟩
end
section
variable{prog:Program}{w:World}{A:Around}{E:Value->Shared->Prop}{s:Shared}
set_option maxRecDepth 100000 in
end
section
variable{X:Cx}
end
section
variable{κ:Type} [DecidableEq κ]
noncomputable def nD (kvs:List (κ×V)) (k:κ):Option V:=(kvs.find? λkv=>decide (kv.1=k)).map (·.2)
noncomputable def putK (kvs:List (κ×V)) (k:κ) (v:V):List (κ×V):=
 if (kvs.any λkv=>decide (kv.1=k))=true then kvs.map (λkv=>if kv.1=k then(kv.1,v) else kv) else kvs++[(k,v)]
noncomputable def AU (kvs:List (κ×V)) (k:κ):List (κ×V):=kvs.filter λkv=>decide (kv.1≠k)
theorem vX{p:κ×V}{r:List (κ×V)}{k:κ}(e:p.1=k):nD (p::r) k=some p.2:=by simp[nD,bU,e]
theorem vW{p:κ×V}{r:List (κ×V)}{k:κ}(e:¬p.1=k):nD (p::r) k=nD r k:=by simp[nD,bU,e]
theorem J8(k:κ):∀kvs:List (κ×V),(kvs.any λkv=>decide (kv.1=k))=(nD kvs k).isSome
 | []=>rfl
 |p::r=>by
  rw[dX];by_cases e:p.1=k
  ·simp only[vX e,decide_eq_true e,Bool.true_or,hU]
  ·rw[vW e,decide_eq_false e,Bool.false_or];exact J8 k r
theorem uS(kvs:List (κ×V))(k:κ)(v:V):(putK kvs k v).length<=kvs.length+1:=by
 unfold putK
 split
 ·rw[aa];lia
 ·rw[aj,aF,dJ];lia
theorem uJ.r9{o:Option V}{u:Option Value}(r:uJ o u):o.isSome=u.isSome:=by
 cases o with
 |none=>cases u with
  |none=>rfl
  |some _=>exact(show False from r).elim
 |some _=>cases u with
  |none=>exact(show False from r).elim
  |some _=>rfl
theorem KV.val{kvs:List (κ×V)}{vs:List (κ×Value)}(r:KV kvs vs)(k:κ):uJ (nD kvs k) (valueAt vs k):=by
 unfold KV at r
 induction r with
 |nil=>exact bY
 | @cons p q ps qs h t ih=>
  obtain⟨h1,h2⟩:=h;by_cases e:p.1=k
  ·have e':q.1=k:=h1.symm.trans e;have b:valueAt (q::qs) k=some q.2:=by simp[valueAt,bU,e']
   rw[vX e,b];exact h2
  ·have e':¬q.1=k:=λz=>e (h1.trans z);have b:valueAt (q::qs) k=valueAt qs k:=by simp[valueAt,bU,e']
   rw[vW e,b];exact ih
theorem KV.any{kvs:List (κ×V)}{vs:List (κ×Value)}(r:KV kvs vs)(k:κ):(kvs.any λkv=>decide (kv.1=k))=vs.any λkv=>decide (kv.1=k):=by
 unfold KV at r
 induction r with
 |nil=>rfl
 |cons h t ih=>rw[dX,dX,ih,h.1]
theorem KV.Uy{kvs:List (κ×V)}{vs:List (κ×Value)}(r:KV kvs vs)(k:κ){y:V}{u:Value}(ry:RelV y u):
  KV (kvs.map λkv=>if kv.1=k then(kv.1,y) else kv) (vs.map λkv=>if kv.1=k then(kv.1,u) else kv):=by
 unfold KV at r⊢
 induction r with
 |nil=>exact .nil
 | @cons p q ps qs h t ih=>
  rw[aE,aE];refine .cons ?_ ih;obtain⟨h1,h2⟩:=h;by_cases e:p.1=k
  ·rw[if_pos e,if_pos (h1.symm.trans e)];exact⟨h1,ry⟩
  ·rw[if_neg e,if_neg (λz=>e (h1.trans z))];exact⟨h1,h2⟩
theorem KV.put{kvs:List (κ×V)}{vs:List (κ×Value)}(r:KV kvs vs)(k:κ){y:V}{u:Value}(ry:RelV y u):KV (putK kvs k y) (stored vs k u):=by
 unfold putK stored;rw[r.any k];by_cases e:(vs.any λkv=>decide (kv.1=k))=true
 ·rw[if_pos e,if_pos e];exact r.Uy k ry
 ·rw[if_neg e,if_neg e];exact Paired.snoc r ⟨rfl,ry⟩
theorem KV.drop{kvs:List (κ×V)}{vs:List (κ×Value)}(r:KV kvs vs)(k:κ):KV (AU kvs k) (without vs k):=by
 unfold KV at r⊢;unfold AU without
 induction r with
 |nil=>exact .nil
 | @cons p q ps qs h t ih=>
  obtain⟨h1,h2⟩:=h;rw[dS,dS];by_cases e:p.1=k
  ·have a:¬decide (p.1≠k)=true:=by simp[e]
   have b:¬decide (q.1≠k)=true:=by simp[h1.symm.trans e]
   rw[if_neg a,if_neg b];exact ih
  ·have e':¬q.1=k:=λz=>e (h1.trans z);have a:decide (p.1≠k)=true:=by simp[e]
   have b:decide (q.1≠k)=true:=by simp[e']
   rw[if_pos a,if_pos b];exact .cons ⟨h1,h2⟩ ih
theorem KV.keys{kvs:List (κ×V)}{vs:List (κ×Value)}(r:KV kvs vs):kvs.map (·.1)=vs.map (·.1):=by
 unfold KV at r
 induction r with
 |nil=>rfl
 |cons h t ih=>rw[aE,aE,ih,h.1]
theorem KV.length{kvs:List (κ×V)}{vs:List (κ×Value)}(r:KV kvs vs):kvs.length=vs.length:=gJ r
theorem Oi(kvs:List (κ×V))(k:κ):(AU kvs k).length<=kvs.length:=cV _ _
end
theorem Dw{P:Program}{w:World}{k:Key}{u:Value}(r:RelV (kV k) u):(lZ P w).is k u=true:=by
 cases k with
 |inl i=>obtain⟨t,e⟩:=(show∃t,u=dt i t from r);subst e;exact Jo P w i t
 |inr x=>obtain⟨t,e⟩:=(show∃t,u=fV x t from r);subst e;exact Jp P w x t
theorem FX{P:Program}{w:World}:∀{ks:List Key} {us:List Value},Vals (ks.map kV) us->ItemsAre (lZ P w) ks us
 | [],_,r=>by rw[bZ]at r;cases r;exact .nil
 |k::ks,_,r=>by
  rw[aE]at r
  cases r with
  |cons h t=>exact .cons (Dw h) (FX t)
abbrev KT(H:Hp):List (List Key×V)->List (List Key×Addr×Value)->Prop:=Paired λp q=>p.1=q.1/\H q.2.1=some (.tup (p.1.map kV))/\RelV p.2 q.2.2
theorem KT.val{H:Hp}{kvs:List (List Key×V)}{xs:List (List Key×Addr×Value)}(r:KT H kvs xs)(k:List Key):uJ (nD kvs k) ((atKey xs k).map (·.2)):=by
 induction r with
 |nil=>exact bY
 | @cons p q ps qs h t ih=>
  obtain⟨h1,_,h2⟩:=h;by_cases e:p.1=k
  ·have e':q.1=k:=h1.symm.trans e;have b:atKey (q::qs) k=some q.2:=by simp[atKey,bU,e']
   rw[vX e,b];exact h2
  ·have e':¬q.1=k:=λz=>e (h1.trans z);have b:atKey (q::qs) k=atKey qs k:=by simp[atKey,bU,e']
   rw[vW e,b];exact ih
theorem KT.Uy{H:Hp}{kvs:List (List Key×V)}{xs:List (List Key×Addr×Value)}(r:KT H kvs xs)(k:List Key){y:V}{u:Value}(ry:RelV y u):
  KT H (kvs.map λkv=>if kv.1=k then(kv.1,y) else kv) (xs.map (putAt k u)):=by
 induction r with
 |nil=>exact .nil
 | @cons p q ps qs h t ih=>
  rw[aE,aE];refine .cons ?_ ih;obtain⟨h1,h2,h3⟩:=h;unfold putAt;by_cases e:p.1=k
  ·rw[if_pos e,if_pos (h1.symm.trans e)];exact⟨h1,h2,ry⟩
  ·rw[if_neg e,if_neg (λz=>e (h1.trans z))];exact⟨h1,h2,h3⟩
theorem KT.put{H:Hp}{kvs:List (List Key×V)}{xs:List (List Key×Addr×Value)}(r:KT H kvs xs)(k:List Key){b:Addr}{y:V}{u:Value}(hb:H b=some (.tup (k.map kV)))(ry:RelV y u):
  KT H (putK kvs k y) (storedH xs k b u):=by
 have e:(kvs.any λkv=>decide (kv.1=k))=(atKey xs k).isSome:=by
  rw[J8,(r.val k).r9,fH]
 unfold putK storedH;rw[e];by_cases q:(atKey xs k).isSome=true
 ·rw[if_pos q,if_pos q];exact r.Uy k ry
 ·rw[if_neg q,if_neg q];exact Paired.snoc r ⟨rfl,hb,ry⟩
theorem KT.keeps{H H':Hp}{kvs:List (List Key×V)}{xs:List (List Key×Addr×Value)}(r:KT H kvs xs)(ht:∀b ys,H b=some (.tup ys)->H' b=some (.tup ys)):KT H' kvs xs:=
 Paired.VY r λ_ _ z=>⟨z.1,ht _ _ z.2.1,z.2.2⟩
section
variable{P:Program}{w:World}{H:Hp}{h:Heap}{a:Addr}
theorem SA{u:HO}(ok:qR P w H h)(e:Rd H a u):mf P w H h a u:=e.ok ok
theorem Dj{kvs:List (Key×V)}(ok:qR P w H h)(e:Rd H a (.dK kvs)):kvs.length<=sizeLine/\(a==sysModules)=false/\∃vs,KV kvs vs/\h.DictOf (lZ P w) a vs:=
 show mf P w H h a (.dK kvs) from SA ok e
theorem LO{kvs:List (Key×V)}(ok:qR P w H h)(e:H a=some (.dK kvs)):kvs.length<=sizeLine/\(a==sysModules)=false/\∃vs,KV kvs vs/\h.DictOf (lZ P w) a vs:=Dj ok (.inl e)
theorem Dx{ks:List Key}(ok:qR P w H h)(e:H a=some (.tup (ks.map kV))):(tupleKind (lZ P w)).is h ks a:=by
 obtain⟨_,its,r,o,h1,h2,n,h3⟩:=(show mf P w H h a (.tup (ks.map kV)) from ok a _ e);exact⟨o,its.toArray,n,h1,h2,h3,by simpa using FX r⟩
theorem FR{kvs:List (List Key×V)}(ok:qR P w H h)(e:Rd H a (.dT kvs)):kvs.length<=sizeLine/\(a==sysModules)=false/\
  ∃xs,KT H kvs xs/\h.DictOfH (tupleKind (lZ P w)) a xs:=by
 obtain⟨z,y,xs,r,o,es,ep,h1,h2,h3,h4,h5⟩:=(show mf P w H h a (.dT kvs) from SA ok e);refine⟨z,y,xs,r,o,es,ep,h1,h2,h3,h4,λx hx=> ?_,h5⟩;have all:∀{l:List (List Key×V)} {m:List (List Key×Addr×Value)},KT H l m->∀x∈m,(tupleKind (lZ P w)).is h x.1 x.2.1:=by
  intro l m q
  induction q with
  |nil=>intro x hx;exact nomatch hx
  | @cons p q ps qs hq t ih=>
   intro x hx;rcases List.mem_cons.mp hx with e|hx
   ·subst e;exact Dx ok (by rw[←hq.1];exact hq.2.1)
   ·exact ih x hx
 exact all r x hx
theorem VL{kvs:List (List Key×V)}(ok:qR P w H h)(e:H a=some (.dT kvs)):kvs.length<=sizeLine/\(a==sysModules)=false/\
  ∃xs,KT H kvs xs/\h.DictOfH (tupleKind (lZ P w)) a xs:=FR ok (.inl e)
end
def Ez(H:Hp)(a:Addr)(y:V)(r:Option V):Prop:=
 (∃kvs k,Rd H a (.dK kvs)/\y=kV k/\r=nD kvs k)∨∃kvs k b,Rd H a (.dT kvs)/\y= .ref b/\H b=some (.tup (k.map kV))/\r=nD kvs k
def Qp(H:Hp)(a:Addr)(y v:V)(H':Hp):Prop:=
 (∃kvs k,H a=some (.dK kvs)/\y=kV k/\kvs.length<sizeLine/\H'=upd H a (.dK (putK kvs k v)))∨
 ∃kvs k b,H a=some (.dT kvs)/\y= .ref b/\H b=some (.tup (k.map kV))/\kvs.length<sizeLine/\H'=upd H a (.dT (putK kvs k v))
theorem Ez.k{H:Hp}{a:Addr}{kvs:List (Key×V)}{k:Key}(e:H a=some (.dK kvs)):Ez H a (kV k) (nD kvs k):= .inl ⟨kvs,k,.inl e,rfl,rfl⟩
theorem Qp.k{H:Hp}{a:Addr}{kvs:List (Key×V)}{k:Key}{v:V}(e:H a=some (.dK kvs))(hl:kvs.length<sizeLine):Qp H a (kV k) v (upd H a (.dK (putK kvs k v))):= .inl ⟨kvs,k,e,rfl,hl,rfl⟩
section
variable{X:Cx}{pins:List (Addr×Obj)}{σ:St}{H:Hp}{s:Shared}{a:Addr}{y v:V}{u r:Value}{o:Option V}{A:Around}{E:Value->Shared->Prop}
theorem Inv.big(I:Inv X pins σ H s):sysModules<s.heap.objs.size:=by
 have h:mainGlobals<s.heap.objs.size:=(I.mod.glob.keeps I.bk).lt;exact Nat.lt_trans (by decide) h
theorem MM{Q:Value->Shared->Prop}(hu:A.units+1<cLine)(I:Inv X pins σ H s)(g:Ez H a y (some v))(ry:RelV y u)(h:∀w' s',Inv X pins σ H s'->RelV v w'->Q w' s'):
  wpAny (model X.prog X.w) A (getItem (.ref a) u) Q E s:=by
 rcases g with ⟨kvs,k,e,ey,l⟩|⟨kvs,k,b,e,ey,eb,l⟩
 ·subst ey;obtain⟨z,hd,vs,rel,dd⟩:=Dj I.ko e;obtain⟨w',hw,rw'⟩:=uJ.some_of (v:=v) (o:=valueAt vs k) (by rw[l];exact rel.val k);exact wpAny_getItem_of (Dw ry) dd.mapOf hw (h w' _ (I.tok _) rw')
 ·subst ey
  cases (show u=aO b from ry)
  obtain⟨z,hd,xs,rel,dd⟩:=FR I.ko e;obtain⟨w',hw,rw'⟩:=uJ.some_of (v:=v) (o:=(atKey xs k).map (·.2)) (by rw[l];exact rel.val k);obtain⟨p,hp,hp2⟩:=Option.map_eq_some_iff.mp hw;refine wpAny_getItem_heap (tupleKind_room_in1 hu) (Dx I.ko eb) dd hp ?_;rw[hp2];exact h w' _ (I.tok _) rw'
theorem Xb{Q:Value->Shared->Prop}(hu:A.units+1<cLine)(I:Inv X pins σ H s)(g:Ez H a y o)(ry:RelV y u)(h:∀s',Inv X pins σ H s'->Q (.bool o.isSome) s'):
  wpAny (model X.prog X.w) A (compareOp .In u (.ref a)) Q E s:=by
 rcases g with ⟨kvs,k,e,ey,l⟩|⟨kvs,k,b,e,ey,eb,l⟩
 ·subst ey;obtain⟨z,hd,vs,rel,dd⟩:=Dj I.ko e;refine wpAny_in_of (Dw ry) hd dd.mapOf ?_;rw[←(rel.val k).r9,←l];exact h _ (I.tok _)
 ·subst ey
  cases (show u=aO b from ry)
  obtain⟨z,hd,xs,rel,dd⟩:=FR I.ko e;refine wpAny_in_heap (tupleKind_room_in1 hu) (Dx I.ko eb) hd dd ?_;have q:=(rel.val k).r9;rw[fH]at q;rw[←q,←l];exact h _ (I.tok _)
theorem Q5{Q:Value->Shared->Prop}(hu:A.units+1<cLine)(I:Inv X pins σ H s)(g:Ez H a y o)(ry:RelV y u)(h:∀s',Inv X pins σ H s'->Q (.bool (!o.isSome)) s'):
  wpAny (model X.prog X.w) A (compareOp .NotIn u (.ref a)) Q E s:=by
 rcases g with ⟨kvs,k,e,ey,l⟩|⟨kvs,k,b,e,ey,eb,l⟩
 ·subst ey;obtain⟨z,hd,vs,rel,dd⟩:=Dj I.ko e;refine wpAny_notIn_of (Dw ry) hd dd.mapOf ?_;rw[←(rel.val k).r9,←l];exact h _ (I.tok _)
 ·subst ey
  cases (show u=aO b from ry)
  obtain⟨z,hd,xs,rel,dd⟩:=FR I.ko e;refine wpAny_notIn_heap (tupleKind_room_in1 hu) (Dx I.ko eb) hd dd ?_;have q:=(rel.val k).r9;rw[fH]at q;rw[←q,←l];exact h _ (I.tok _)
theorem CK{h':Heap}{t':Nat}{ob:HO}(I:Inv X pins σ H s)(mu:U8 (H a))(hs:d9 a s.heap h')(he:∃q,h'.get? a=some q)(new:mf X.prog X.w (upd H a ob) h' a ob):
  Inv X pins σ (upd H a ob) {s with heap:=h',toks:=t'}:=
 I.write (x:=a) (e:=a) mu (.inl rfl) (λb q hb z=>(hs.2 b hb).trans z) he new
theorem Kp{P:Program}{w:World}{H':Hp}{h':Heap}{kvs:List (Key×V)}{vs:List (Key×Value)}(z:kvs.length<=sizeLine)(hd:(a==sysModules)=false)(rel:KV kvs vs)(dd:h'.DictOf (lZ P w) a vs):
  mf P w H' h' a (.dK kvs):=⟨z,hd,vs,rel,dd⟩
theorem MN{H':Hp}{Q:Unit->Shared->Prop}(hu:A.units+1<cLine)(I:Inv X pins σ H s)(g:Qp H a y v H')(ry:RelV y u)(rv:RelV v r)(h:∀s',Inv X pins σ H' s'->Q () s'):
  wpAny (model X.prog X.w) A (setItem (.ref a) u r) Q E s:=by
 rcases g with ⟨kvs,k,e,ey,l,eH⟩|⟨kvs,k,b,e,ey,eb,l,eH⟩
 ·subst ey eH;obtain⟨z,hd,vs,rel,dd⟩:=LO I.ko e;have hz:vs.length<=sizeLine:=by rw[←rel.length];exact z
  have hl:(putK kvs k v).length<=sizeLine:=by have:=uS kvs k v;lia
  refine wpAny_setItem_pairs (hsz:=hz) (Dw ry) dd λh' dd' hs=>h _ ?_;have he:∃q,h'.get? a=some q:=let ⟨q,_,_,hq,_⟩:=dd';⟨q,hq⟩
  exact CK I (by rw[e];exact bY) hs he (Kp hl hd (rel.put k rv) dd')
 ·subst ey eH
  cases (show u=aO b from ry)
  obtain⟨z,hd,xs,rel,dd⟩:=VL I.ko e;have hz:xs.length<=sizeLine:=by rw[←gJ rel];exact z
  have hl:(putK kvs k v).length<=sizeLine:=by have:=uS kvs k v;lia
  refine wpAny_setItem_heap (hsz:=hz) (tupleKind_room_in1 hu) (Dx I.ko eb) dd λh' dd' hs=>h _ ?_;obtain⟨q,es,ep,hq,h2,h3,h4,_,h5⟩:=dd';refine CK I (by rw[e];exact bY) hs ⟨q,hq⟩ ⟨hl,hd,_,(rel.put k eb rv).keeps λc ys ec=> ?_,q,es,ep,hq,h2,h3,h4,h5⟩;rw[i7 (V5 ec e (λz=>nomatch z))];exact ec
end
section
variable{X:Cx}{pins:List (Addr×Obj)}{σ:St}{H:Hp}{s:Shared}{a:Addr}{kvs:List (Key×V)}{k:Key}{u:Value}{A:Around}{E:Value->Shared->Prop}
theorem VI{v:V}{more:List Value}{Q:Value->Shared->Prop}(I:Inv X pins σ H s)(e:H a=some (.dK kvs))(ry:RelV (kV k) u)(l:nD kvs k=some v)(hm:more=[]∨∃x,more=[x])
  (h:∀w' s',Inv X pins σ (upd H a (.dK (AU kvs k))) s'->RelV v w'->Q w' s'):wpAny (model X.prog X.w) A (call (.builtin "dict.pop") (.ref a::u::more)) Q E s:=by
 obtain⟨z,hd,vs,rel,dd⟩:=LO I.ko e;obtain⟨w',hw,rw'⟩:=uJ.some_of (v:=v) (o:=valueAt vs k) (by rw[←l];exact rel.val k);have hp:(keyPart u).isSome=true:=by
  cases k with
  |inl i=>obtain⟨t,q⟩:=(show∃t,u=dt i t from ry);subst q;rfl
  |inr x=>obtain⟨t,q⟩:=(show∃t,u=fV x t from ry);subst q;rfl
 have ha:argsOk "dict.pop" ⟨.ref a::u::more,[]⟩:=by
  rcases hm with q|⟨x,q⟩
  ·subst q;exact PySem.F.args_dict_pop_2 _ _
  ·subst q;exact PySem.F.args_dict_pop_3 _ _ _
 refine call_meetsIn gz dd.typeIs PySem.F.entry_dict_pop ha (meets_dict_pop_there (lZ X.prog X.w) a (Dw ry) more hm hp)
  ⟨vs,w',dd,by rw[←rel.length];exact z,hw,λh' dd' hs=>h w' _ ?_ rw'⟩
 have he:∃q,h'.get? a=some q:=let ⟨q,_,_,hq,_⟩:=dd';⟨q,hq⟩
 exact CK I (by rw[e];exact bY) hs he (Kp (aA (Oi kvs k) z) hd (rel.drop k) dd')
theorem VH{Q:Value->Shared->Prop}(I:Inv X pins σ H s)(e:Rd H a (.dK kvs))(h:∀t s',Inv X pins σ H s'->Q (.int kvs.length t) s'):wpAny (model X.prog X.w) A (call (.builtin "len") [.ref a]) Q E s:=by
 obtain⟨z,hd,vs,rel,dd⟩:=Dj I.ko e;refine call_len_dict hd dd (by rw[←rel.length];rw[sizeLine_eq]at z;lia) ?_;rw[←rel.length];exact h _ _ (I.tok _)
end
def SJ(i:Expr):Prop:=∀ov iv,subscripted i false ov iv=operate [ov,iv] (getItem ov iv)
theorem Sd{prog:Program}{w:World}{A:Around}{E:Value->Shared->Prop}{s:Shared}{env:Env}{value slice:Expr}{pos:Pos}{T id:String}{Q:Value->Shared->Prop}
  (hl:typeLookup (.type T) "__getitem__"=pure (some (.builtin id))) (hs:SJ slice)
  (h:wpAny (model prog w) A (eval value env) (λo s₁=>wpAny (model prog w) A (eval slice env) (λi s₂=>s₂.TypeIs o T/\wpAny (model prog w) A (getItem o i) Q E s₂) E s₁) E s):
  wpAny (model prog w) A (eval (.Subscript value slice pos) env) Q E s:=by
 refine Subscript_ (wpAny_mono h (λo s₁ h₁=>wpAny_mono h₁ (λi s₂ h₂=> ?_) λ_ _ x=>x) λ_ _ x=>x);obtain⟨hT,h₂⟩:=h₂;unfold subscriptTail;refine wpAny_bind ?_;rw[getitemInPython_of_ne hT.not_modules];refine wpAny_bind (wpAny_specialOf hT hl ?_);have fin:wpAny (model prog w) A (subscripted slice false o i) (λr s₃=>wpAny (model prog w) A (letTemporaryGo value o r>>=λ_=>pure r) Q E s₃) E s₂:=by
  rw[hs o i];exact wpAny_operating (wpAny_mono h₂ (λr s₃ h₃=>wpAny_bind (wpAny_letTemporaryGo (wpAny_pure h₃))) λ_ _ x=>x)
 first
  |exact wpAny_pure (wpAny_bind fin)
  |exact wpAny_bind (wpAny_pure (wpAny_bind fin))
  |exact wpAny_bind fin
theorem IU{X:Cx}{pins:List (Addr×Obj)}{σ:St}{H:Hp}{s:Shared}{a:Addr}{y:V}{o:Option V}(I:Inv X pins σ H s)(g:Ez H a y o):s.TypeIs (.ref a) "dict":=by
 rcases g with ⟨kvs,k,e,_,_⟩|⟨kvs,k,b,e,_,_,_⟩
 ·obtain⟨_,_,vs,_,dd⟩:=Dj I.ko e;exact dd.typeIs
 ·obtain⟨_,_,xs,_,dd⟩:=FR I.ko e;exact dd.typeIs
section
variable{X:Cx}{o i e value:Expr}{pos pos' tpos:Pos}{td ty tv:TE}
end
theorem IV{P:Program}{w:World}{H:Hp}(h:Heap)(hb:sysModules<h.objs.size):mf P w H (h.push {cls:= .type "dict",data:= .dict #[]}) h.objs.size (.dK []):=
 ⟨bR _,beq_eq_false_iff_ne.mpr (ah (aK hb)),[],.nil,Heap.DictOf.new h⟩
def Lq:TE:=λ_ H Q=>∀p,H p=none->Q (.ref p) (upd H p (.dK []))
section
variable{X:Cx}{pos:Pos}
theorem Pb:PE X (.Dict [] [] pos) Lq:=λpins s σ H Q I h=>
 wpAny_Dict_empty ⟨.ref s.heap.objs.size,_,I.laid (a:=s.heap.objs.size) (o:= .dK []) (t':=s.toks) (λ_ _ q=>ay _ q) (aq _) (IV s.heap I.big),rfl,h _ (I.ko.fresh (aq _))⟩
end
def Ir:List (TE×TE)->St->Hp->(List (V×V)->Hp->Prop)->Prop
 | [],_,H,Q=>Q [] H
 |(tk,tv)::r,σ,H,Q=>tk σ H λx H1=>tv σ H1 λy H2=>Ir r σ H2 λps H3=>Q ((x,y)::ps) H3
abbrev VV:List (V×V)->List (Value×Value)->Prop:=Paired λp q=>RelV p.1 q.1/\RelV p.2 q.2
def U_(X:Cx)(pos:Pos)(keys:List (Option Expr))(values:List Expr)(trs:List (TE×TE)):Prop:=
 ∀(pins:List (Addr×Obj)) (s:Shared) (σ:St) (H:Hp) (Q:List (V×V)->Hp->Prop),Inv X pins σ H s->Ir trs σ H Q->
  wpAny (model X.prog X.w) X.A (evalPairs (pairTrees keys values X.env pos)) (λvs s'=>∃ps H',Inv X pins σ H' s'/\VV ps vs/\Q ps H') X.xe s
theorem RL{X:Cx}{pos:Pos}:U_ X pos [] [] []:=λpins s σ H Q I h=>pairTrees_nil_walk ⟨[],H,I,.nil,h⟩
theorem Pp{X:Cx}{pos:Pos}{k v:Expr}{ks:List (Option Expr)}{vs:List Expr}{tk tv:TE}{trs:List (TE×TE)}(hk:PE X k tk)(hv:PE X v tv)(hr:U_ X pos ks vs trs):
  U_ X pos (some k::ks) (v::vs) ((tk,tv)::trs):=λpins s σ H Q I h=>
 pairTrees_cons_walk (mJ (hk pins s σ H _ I h) λu s1=>qv λx H1 I1 rx q1=>mJ (hv pins s1 σ H1 _ I1 q1) λw2 s2=>qv λy H2 I2 ry q2=>
  mJ (hr pins s2 σ H2 _ I2 q2) λws s3=>qv λps H3 I3 rel q3=>⟨(x,y)::ps,H3,I3,.cons ⟨rx,ry⟩ rel,q3⟩)
noncomputable def Bw (kvs more:List (Key×V)):List (Key×V):=more.foldl (λacc kv=>putK acc kv.1 kv.2) kvs
theorem KV.merge:∀{more:List (Key×V)} {rs:List (Key×Value)} {kvs:List (Key×V)} {vs:List (Key×Value)},KV more rs->KV kvs vs->KV (Bw kvs more) (merged vs rs):=by
 intro more rs kvs vs r;unfold KV at r
 induction r generalizing kvs vs with
 |nil=>intro q;exact q
 | @cons p q ps qs h t ih=>
  intro r0;have e:KV (putK kvs p.1 p.2) (stored vs q.1 q.2):=by
   have:=r0.put p.1 h.2;rw[←h.1];exact this
  exact ih e
theorem wF:∀(more kvs:List (Key×V)),(Bw kvs more).length<=kvs.length+more.length
 | [],kvs=>by show kvs.length<=kvs.length+0;lia
 |p::r,kvs=>by
  have h1:=wF r (putK kvs p.1 p.2);have h2:=uS kvs p.1 p.2;show(Bw (putK kvs p.1 p.2) r).length<=_;rw[aF];lia
theorem Df{P:Program}{w:World}:∀{kvs:List (Key×V)} {ws:List (Value×Value)},VV (kvs.map λkv=>(kV kv.1,kv.2)) ws->∃rs,Carries (lZ P w) ws rs/\KV kvs rs
 | [],_,r=>by rw[bZ]at r;cases r;exact⟨[],bY,.nil⟩
 |p::kvs,_,r=>by
  rw[aE]at r
  cases r with
  | @cons a b as bs h t=>
   obtain⟨rs,c,q⟩:=Df (P:=P) (w:=w) t;obtain⟨b1,b2⟩:=b;exact⟨(p.1,b2)::rs,⟨Dw h.1,rfl,c⟩,.cons ⟨rfl,h.2⟩ q⟩
def PR(trs:List (TE×TE)):TE:=λσ H Q=>∀p,H p=none->Ir trs σ (upd H p (.dK [])) λps H2=>H2 p=some (.dK [])/\∃kvs:List (Key×V),ps=kvs.map (λkv=>(kV kv.1,kv.2))/\kvs.length<=15/\Q (.ref p) (upd H2 p (.dK (Bw [] kvs)))
theorem RE{X:Cx}{pos:Pos}{keys:List (Option Expr)}{values:List Expr}{trs:List (TE×TE)}(h:U_ X pos keys values trs)(hall:keys.all (·.isSome)=true)(hl:keys.length=values.length)(h0:keys≠ [])
  (h15:keys.length<=15):PE X (.Dict keys values pos) (PR trs):=by
 intro pins s σ H Q I q;have hn:=I.ko.fresh (aq s.heap.objs.size);have I1:=I.laid (a:=s.heap.objs.size) (o:= .dK []) (h':=s.heap.push {cls:= .type "dict",data:= .dict #[]}) (t':=s.toks) (λ_ _ q=>ay _ q) (aq _) (IV s.heap I.big);refine wpAny_Dict_walk (knd:=lZ X.prog X.w) hall hl h0 h15 (mJ (h pins _ σ _ _ I1 (q _ hn)) λws s2 zq=> ?_);obtain⟨ps,H2,I2,rel,e,kvs,ep,lk,q2⟩:=zq;subst ep;obtain⟨rs,c,rk⟩:=Df (P:=X.prog) (w:=X.w) rel;obtain⟨z,hd,vs0,r0,dd⟩:=LO I2.ko e
 cases r0
 refine⟨rs,c,dd,λh' dd' hs=>⟨.ref s.heap.objs.size,_,?_,rfl,q2⟩⟩;have hz:(Bw [] kvs).length<=sizeLine:=by
  have h1:=wF kvs [];rw[dJ]at h1;rw[sizeLine_eq];lia
 have he:∃q,h'.get? s.heap.objs.size=some q:=let ⟨q,_,_,hq,_⟩:=dd';⟨q,hq⟩
 exact CK I2 (by rw[e];exact bY) hs he (Kp hz hd (rk.merge .nil) dd')
structure M1(X:Cx)(o:Expr)(m:Str)(apos:Pos)(e:Expr)(cpos:Pos):Prop where
 base:attributeBase o m X.env (eval o X.env)=eval o X.env
 X4:((backTo cpos (starEach [e] X.env)).all (λx=> !x.1)&&(backToKw cpos (keywordEach [] X.env)).all (λx=>x.1.isSome)
  &&decide (([e]:List Expr).length+([]:List Keyword).length+(if ([]:List Keyword).isEmpty then 0 else 1)<30))=true
 line:(apos.endLine==cpos.line)=true
 trees:backTo cpos (starEach [e] X.env)=[(false,eval e X.env)]
structure M2(X:Cx)(o:Expr)(m:Str)(apos:Pos)(e f:Expr)(cpos:Pos):Prop where
 base:attributeBase o m X.env (eval o X.env)=eval o X.env
 X4:((backTo cpos (starEach [e,f] X.env)).all (λx=> !x.1)&&(backToKw cpos (keywordEach [] X.env)).all (λx=>x.1.isSome)
  &&decide (([e,f]:List Expr).length+([]:List Keyword).length+(if ([]:List Keyword).isEmpty then 0 else 1)<30))=true
 line:(apos.endLine==cpos.line)=true
 trees:backTo cpos (starEach [e,f] X.env)=[(false,eval e X.env),(false,eval f X.env)]
def XX(H:Hp)(a:Addr):Prop:=(∃kvs,Rd H a (.dK kvs))∨∃kvs,Rd H a (.dT kvs)
theorem Tv{X:Cx}{pins:List (Addr×Obj)}{σ:St}{H:Hp}{s:Shared}{a:Addr}(I:Inv X pins σ H s)(d:XX H a):
  s.TypeIs (.ref a) "dict"/\(∀b,aO a= .ref b->∃ob,s.heap.get? b=some ob/\ob.dict=none)/\(a==sysModules)=false:=by
 rcases d with ⟨kvs,e⟩|⟨kvs,e⟩
 ·obtain⟨_,hd,vs,_,dd⟩:=Dj I.ko e;refine⟨dd.typeIs,λb q=> ?_,hd⟩
  cases q
  obtain⟨ob,_,_,h1,h2,_⟩:=dd;exact⟨ob,h1,h2.2.1⟩
 ·obtain⟨_,hd,xs,_,dd⟩:=FR I.ko e;refine⟨dd.typeIs,λb q=> ?_,hd⟩
  cases q
  obtain⟨ob,_,_,h1,h2,_⟩:=dd;exact⟨ob,h1,h2.2.1⟩
section
variable{X:Cx}{pins:List (Addr×Obj)}{σ:St}{H:Hp}{s:Shared}{a:Addr}{y d:V}{u r:Value}{o:Option V}{A:Around}{E:Value->Shared->Prop}
end
section
variable{X:Cx}{o e f:Expr}{apos cpos:Pos}{td ty tx:TE}
end
section
variable{X:Cx}{pins:List (Addr×Obj)}{σ:St}{H:Hp}{s:Shared}{a:Addr}{kvs:List (Key×V)}{A:Around}{E:Value->Shared->Prop}
end
section
variable{X:Cx}{pins:List (Addr×Obj)}{σ:St}{H:Hp}{s:Shared}{a:Addr}{y:V}{u:Value}{A:Around}{E:Value->Shared->Prop}
end
end Internal
namespace Att
open PySem PySem.W PySem.Calls PyProof.Rows
theorem Ct{P:Params}{h:Heap}:∀(ns:List Int) (vs:List Value),WellAll P h vs (ns.map WData.int)->IntsAre vs ns:=by
 intro ns
 induction ns with
 |nil=>
  intro vs w;rw[bZ]at w
  cases w
  exact .nil
 |cons n ns ih=>
  intro vs w;rw[aE]at w
  cases w with
  |cons a b=>
   cases a
   exact .cons _ _ (ih _ b)
theorem Np{l:OpenLaw}{n:Nat}(hn:l.most=some n){P:Params}{h:Heap}{args:List WData}{vals:List Value}
  (hpre:l.row.toRowW.claim.pre args=true) (hwl:WellAll P h vals args):
  ∃a vs ns,vals=[aO a]/\args=[WData.list (ns.map WData.int)]/\h.get? a=some {cls:= .type "list",data:= .seq vs.toArray}/\IntsAre vs ns/\ns.length<=n:=by
 have hsh:WShape.hasAll [] args [.list .int]=true:=(pre_splitW hpre).1;have hc:l.pre.holds [] {args:=args}=true:=(pre_splitW hpre).2;obtain⟨d,r,rfl,h1,h2⟩:=hasAllW_cons hsh;obtain rfl:=hasAllW_nil h2;obtain⟨xs,rfl,h3⟩:=hasW_list h1;obtain⟨ns,rfl⟩:=items_int h3;have hlen:ns.length<=n:=by
  unfold OpenLaw.pre at hc;have h4:(WTm.not (.lt (.lit (.int (n:Int))) (.len (.arg 0)))).holds [] {args:=[.list (ns.map .int)]}=true:=by
   have h4:=(holds_andW hc).1;rw[hn]at h4;exact h4
  have h5:=condW_of h4 (w_not (w_lt w_lit (w_len_list (w_arg rfl))));rw[aa]at h5;refine Nat.le_of_not_lt λq=> ?_;have q':(n:Int)<((ns.length:Nat):Int):=by omega
  first
   |(rw[decide_eq_true q']at h5;exact absurd h5 (by decide))
   |(simp at h5;omega)
 cases hwl with
 |cons w1 w2=>
  cases w2
  cases w1 with
  |list ho hall=>exact⟨_,_,ns,rfl,rfl,ho,Ct ns _ hall,hlen⟩
theorem Nj(l:OpenLaw)(args:List WData):l.row.toRowW.claim.post args (.bool true) args=true:=
 postW_of (r:=l.row.toRowW) (X:=(true==true))
  (show WShape.has [] (.bool true) .bool=true by first|rfl|decide|simp[WShape.has,WShape.arms,WShape.armsAll])
  (show(WTm.eq .res (.lit (.bool true))).value [] {args:=args,res:=some (.bool true),after:=args}=some (.bool (true==true)) from w_eq_bool (w_res rfl) w_lit) rfl
theorem IH{l:OpenLaw}{n:Nat}{q:Program}{loose:List Str}{XP:(Str->Option Value)->Heap->Prop}{YP:World->Heap->Prop}{d:DefRec}
  (hn:l.most=some n) (hdf:d.params.defaults=[])
  (call:∀(w:World) (s₀ s₁:Shared) (mg mb:Str->Option Value) (fa:Addr) (o:Obj) (pm cd doc:Value) (a:Addr) (vs:List Value) (ns:List Int),
   Ground q loose [] XP w s₀ mg mb s₁.heap->YP w s₁.heap->
   s₁.heap.get? fa=some o->o.data= .func (docDef d.name d.params d.body d.scope pm cd doc)->s₁.heap.CodeRec cd d.name->mg d.name=some (.ref fa)->
   s₁.heap.get? a=some {cls:= .type "list",data:= .seq vs.toArray}->IntsAre vs ns->ns.length<=n->s₁.gens= #[]->
   codeAny (model l.prog w) callerA (.call (.ref fa) ⟨[.ref a],[]⟩) (λr s'=>r= .ok (.ret (.bool true))/\OldK s₁.heap s'.heap/\s'.os=s₁.os/\AllBare s'.gens) s₁):
  WalkO q loose XP YP l.row.toRowW d [] (λf vs=>iM f vs):=by
 intro w s₀ s₁ mg mb G Y fa o pm cd doc dV kV ho hd hcd hD hmg hg args vals as hpre hlay hrd hwl hlo;obtain rfl:dV= .none:=Dflts.none hD hdf;obtain rfl:kV= .none:=Dflts.noKw hD;obtain⟨a,vs,ns,rfl,rfl,hobj,hints,hlen⟩:=Np hn hpre hwl;refine enter_call (codeAny_mono (call w s₀ s₁ mg mb fa o pm cd doc a vs ns G Y ho (fd_plain hd) hcd hmg hobj hints hlen hg) λr s' hq=> ?_);obtain⟨rfl,h2,h3,h4⟩:=hq;exact⟨.inl ⟨.bool true,.bool true,[],rfl,λ_=>rfl,.bool true,Nj l _,λ_=>⟨List.Pairwise.nil,λ_ hm=>(nomatch hm)⟩⟩,h2,h3,h4⟩
section
variable{prog:Program}{w:World}{A:Around}{E:Value->Shared->Prop}{s:Shared}{K:Frag}
noncomputable def ledger (h:Heap) (L d:Addr):List (Addr×Obj):=(bh h.objs.size).filterMap λa=>if a=L∨a=d then none else(h.get? a).map λo=>(a,o)
end
end Att
namespace Internal
open PySem PySem.Spec PyProof.Rows
theorem B6{vs:List Value}{ns:List Int}(h:IntsAre vs ns):Vals (ns.map V.int) vs:=by
 induction h with
 |nil=>exact .nil
 |cons n t h ih=>exact .cons ⟨t,rfl⟩ ih
noncomputable def inClass (s:Stmt) (j:Nat):Stmt:=match s with
 | .ClassDef _ _ _ body _ _ _ _ _ _ _=>body.getD j (.Pass ⟨0,0,0,0⟩)
 |_=> .Pass ⟨0,0,0,0⟩
noncomputable def qi (s:Stmt):Arguments:=match s with
 | .FunctionDef _ a _ _ _ _ _ _ _ _=>a
 |_=>{posonlyargs:=[],args:=[],vararg:=none,kwonlyargs:=[],kw_defaults:=[],kwarg:=none,defaults:=[]}
noncomputable def mW (s:Stmt):List Stmt:=match s with
 | .FunctionDef _ _ b _ _ _ _ _ _ _=>b
 |_=>[]
noncomputable def i9 (s:Stmt):Scope:=match s with
 | .FunctionDef _ _ _ _ _ _ sc _ _ _=>sc
 |_=>{kind:= .function,names:=[],isGenerator:=false,isCoroutine:=false}
abbrev E0:XK:=λ_ _ _=>False
structure EB(K:af)(x qual:Str)(st:Stmt)(f:Addr)(fd:FuncData):Prop where
 ex:∃(oc:Value) (od:Option Addr) (kV doc pm:Value) (an:Option Addr) (cdv ct:Value) (osl:Array (Option Value)),
  fd=cQ x qual (qi st) (mW st) (i9 st) .none kV doc pm an cdv ct/\K.lookup f=some ⟨oc,od,.func fd,osl⟩/\fw K cdv qual=true
 kp:bC K (.ref f)=true
section
variable{P:Program}{w:World}{K:af}{mg:Str->Option Value}{base:Heap}
theorem EB.binds{x qual:Str}{st:Stmt}{f:Addr}{fd:FuncData}{ps:List Str}(F:EB K x qual st f fd)
  (h:∀(kV doc pm:Value) (an:Option Addr) (cdv ct:Value) (us:List Value),us.length=ps.length->bindArgs (cQ x qual (qi st) (mW st) (i9 st) .none kV doc pm an cdv ct) ⟨us,[]⟩=pure (ps.zip us)):Binds K fd ps []:=by
 obtain⟨oc,od,kV,doc,pm,an,cdv,ct,osl,rfl,lk,hcd⟩:=F.ex;exact .all (h kV doc pm an cdv ct)
theorem Ts{x qual:Str}{st:Stmt}{f:Addr}{oc:Value}{od an:Option Addr}{osl:Array (Option Value)}{kV doc pm cdv ct:Value}(l:K.lookup f=some ⟨oc,od,.func (cQ x qual (qi st) (mW st) (i9 st) .none kV doc pm an cdv ct),osl⟩)
  (c:fw K cdv qual=true) (k:bC K (.ref f)=true):EB K x qual st f (cQ x qual (qi st) (mW st) (i9 st) .none kV doc pm an cdv ct):=⟨⟨oc,od,kV,doc,pm,an,cdv,ct,osl,rfl,l,c⟩,k⟩
end
theorem wC{ca:Bool}{A:Around}{k:Nat}(hr:lM ca k A):A.units+1<cLine:=aT (gP (by decide:1<=64) _) hr.units
section
variable{X:Cx}
end
def jo(H H':Hp):Prop:=∀b o,H b=some o->H' b=some o
theorem jo.refl(H:Hp):jo H H:=λ_ _ h=>h
theorem jo.trans{H H1 H2:Hp}(a:jo H H1)(b:jo H1 H2):jo H H2:=λc o h=>b c o (a c o h)
theorem jo.free{H H':Hp}(e:jo H H'){l:Addr}(h:H' l=Option.none):H l=Option.none:=by
 cases q:H l with
 |none=>rfl
 |some o=>
  rw[e l o q]at h
  cases h
section
variable{X:Cx}
theorem MK:nW X (.builtin "len") (λxs H Q=>∃a kvs,xs=[V.ref a]/\H a=some (.dK kvs)/\Q (.int kvs.length) H):=by
 intro pins s σ H xs us Q I r h;obtain⟨a,kvs,rfl,ha,q⟩:=h;obtain⟨u,rfl,ru⟩:=vals1 r
 cases ru
 exact VH I (.inl ha) λt s' I'=>⟨.int kvs.length,H,I',⟨t,rfl⟩,q⟩
end
section
variable{κ:Type} [DecidableEq κ]
end
structure Vd(fs:List Addr)(H H':Hp)(h B:Heap):Prop where
 keep:∀b o,h.get? b=some o->H b=none->b∉fs->B.get? b=some o/\H' b=none
 fr:∀b∈fs,H' b=none
 there:∀b o,h.get? b=some o->b∈fs∨∃o',B.get? b=some o'
 wu:∀b xs,H b=some (.tup xs)->H' b=some (.tup xs)
 uC:∀b o u,H b=some (.GL o u)->H' b=some (.GL o u)
 vV:∀b ps,H b=some (.Co ps)->∃more,H' b=some (.Co (ps++more))
def Ve(fs:List Addr)(h h':Heap):Prop:=∀b o,h.get? b=some o->b∈fs->∃sl,h'.get? b=some {o with slots:=sl}
structure Vf(B:Heap)(l:List Env)(a:Addr)(h:Heap):Prop where
 stays:B.StaysIn h
 new:B.get? a=none
 wm:h.FunFrames B l
def SM(h:Heap)(a:Addr)(cls:Value):Prop:=∃oe vs a0,h.get? a=some oe/\oe.cls=cls/\oe.data= .fields vs/\vs[0]? =some a0/\vs[1]? =some .none
abbrev Va:=Heap->Addr->Value->Heap->Prop
def Uo(fl:Value):Va:=λB a cls h=>∃a0,Heap.TracedAtW h B a cls a0 fl
abbrev Ml:Va:=Uo .none
abbrev Hu(L:Addr):Va:=Uo (rawInt L)
def Sy(L:Addr):Va:=λB a cls h=>SM h a cls∨Ml B a cls h∨Hu L B a cls h
def uv(P:Program)(w:World):NB:=λouter H s E e s'=>∃(a:Addr) (cls:Value) (H':Hp) (B:Heap),e= .ref a/\s'.os=s.os/\AllBare s'.gens/\Vf B outer a s'.heap/\Ml B a cls s'.heap/\
 qR P w H' B/\Vd (B9 outer) H H' s.heap B/\Ve (B9 outer) s.heap s'.heap/\E cls none H'
inductive Bo (X:Cx) (E:St->XK) (ph:Va) (a:Addr) (cls:Value) (s':Shared):Prop
 |mk {pins:List (Addr×Obj)} {σ:St} {H H':Hp} {B:Heap} {s:Shared} (I:Inv X pins σ H s) (os:s'.os=s.os) (bare:AllBare s'.gens) (way:Vf B X.stack a s'.heap) (p:ph B a cls s'.heap)
   (ko:qR X.prog X.w H' B) (rel:Vd (B9 X.stack) H H' s.heap B) (sl:Ve (B9 X.stack) s.heap s'.heap) (e:E σ cls none H'):Bo X E ph a cls s'
def WU(X:Cx)(E:St->XK)(L:Addr):Value->Shared->Prop:=λe s'=>∃a cls,e= .ref a/\Bo X E (Sy L) a cls s'
section
variable{l:List Env}{B h h1 h2:Heap}{P:Program}{w:World}{H:Hp}{fs:List Addr}
theorem Ve.up(sl:Ve (B9 l) h h1)(ff:h1.FunFrames B l)(k:h1.UpToSlots h2):Ve (B9 l) h h2:=λb o e hb=>by
 obtain⟨s1,q⟩:=sl b o e hb;obtain⟨_,o1,q1,nf⟩:=ff.mem hb;rw[q]at q1;cases q1
 obtain⟨s2,q2⟩:=k b _ q nf;exact⟨s2,q2⟩
theorem qR.hide(ok:qR P w H h)(hf:∀b∈fs,H b=none):qR P w H (fh h fs):=λa o e=>
 (ok a o e).sj (λb u hb q=>dY _ q λhm=>by
  have z:=hf b hm;rcases hb with rfl|hb
  ·rw[e]at z;cases z
  ·rw[hb]at z;cases z) (λ_ q=>q) λ_ _ q=>q
end
section
variable{X:Cx}{E:St->XK}{a L:Addr}{cls:Value}{s':Shared}{M:Model}{A:Around}{Q:Unit->Shared->Prop}{E':Value->Shared->Prop}
theorem Bo.note(u:Bo X E (Sy L) a cls s')(hA:A.frames=X.A.frames)(hst:X.stack=X.env::X.outer)(hf:X.env.frame=some L)
  (hQ:∀h',Bo X E (Hu L) a cls {s' with heap:=h'}->Q () {s' with heap:=h'}):wpAny M A (noteFrame (.ref a) X.env) Q E' s':=by
 obtain⟨I,os,bare,⟨w1,w2,w3⟩,p,ko,rel,sl,e⟩:=u;rename_i B s;have hfr:A.frames=some (X.env::X.outer):=by rw[hA,I.ok.frames,hst]
 have go:∀h' a0,Heap.NotedW B (X.env::X.outer) a cls a0 (rawInt L) s'.heap h'->Q () {s' with heap:=h'}:=λh' a0 ⟨k1,k2,k3,k4⟩=>
  hQ h' ⟨I,os,bare,⟨k1,w2,hst▸k2⟩,⟨a0,k3⟩,ko,rel,sl.up w3 k4,e⟩
 have w3':s'.heap.FunFrames B (X.env::X.outer):=hst▸w3;rcases p with ⟨oe,vs,a0,he,hc,hd,h0,h1⟩|⟨a0,p⟩|⟨a0,p⟩
 ·subst hc;unfold noteFrame;simp only[hf];refine wpAny_bind (wpAny_field he hd h1 ?_);rw[if_neg (by decide)];exact wpAny_entryW hfr w3' hf he w1 w2 hd (Array.getElem?_eq_some_iff.mp h1).1 h0 λh' N=>go h' a0 N
 ·exact wpAny_noteFrame_onW hfr w3' hf p w1 w2 λh' N=>go h' a0 N
 ·exact wpAny_noteFrame_againW hf p (hQ s'.heap ⟨I,os,bare,⟨w1,w2,w3⟩,⟨a0,p⟩,ko,rel,sl,e⟩)
theorem Bo.X5{fl:Value}(u:Bo X E (Uo fl) a cls s')(hQ:∀h',Bo X E Ml a cls {s' with heap:=h'}->Q () {s' with heap:=h'}):wpAny M A (setFlight (.ref a) none) Q E' s':=by
 obtain⟨I,os,bare,⟨w1,w2,w3⟩,⟨a0,p⟩,ko,rel,sl,e⟩:=u;exact wpAny_setFlight_noneW w1 w3 p λh' k1 k2 k3 k4=>hQ h' ⟨I,os,bare,⟨k1,w2,k2⟩,⟨a0,k3⟩,ko,rel,sl.up w3 λb o hb hn=>⟨o.slots,k4 b o hb hn⟩,e⟩
theorem Bo.hold(u:Bo X E (Hu L) a cls s')(hQ:∀h',Bo X E (Hu L) a cls {s' with heap:=h'}->Q () {s' with heap:=h'}):
  wpAny M A (do if (←field (.ref a) 1)== .none then unsupported "frame.own-activation:exception-without-traceback"
                setFlight (.ref a) (some L)) Q E' s':=by
 obtain⟨I,os,bare,⟨w1,w2,w3⟩,⟨a0,oe,vs,T,oT,ts,he,hcls,hd,h1,hnT,hTe,hT,hdT,h3⟩,ko,rel,sl,e⟩:=u;rename_i B s;have hsz:3<ts.size:=(Array.getElem?_eq_some_iff.mp h3).1;have oth:∀b,b≠T->(s'.heap.update T (Obj.mapFields (·.setIfInBounds 3 (rawInt L)))).get? b=s'.heap.get? b:=λb hb=>eQ _ _ (ah hb);have nr:∀b o,s'.heap.get? b=some o->(∀vs,o.data≠ .fields vs)->b≠T:=λb o hb hnf q=>by
  subst q;rw[hT]at hb;cases hb;exact hnf ts hdT
 refine wpAny_bind (wpAny_field he hd h1 ?_);rw[if_neg (show¬((aO T==fK)=true) by simp)];unfold setFlight;refine wpAny_bind (wpAny_field he hd h1 ?_);rw[if_pos (show(aO T !=fK)=true by simp)];refine wpAny_setField hT hdT hsz (hQ _ ⟨I,os,bare,⟨λb o hb=>(oth b λq=>by subst q;rw[hnT]at hb;cases hb).trans (w1 b o hb),w2,
  w3.of_keeps λb o hb hn=>⟨o,(oth b (nr b o hb hn)).trans hb,rfl⟩⟩,⟨a0,oe,vs,T,_,_,(oth a (ah hTe)).trans he,hcls,hd,h1,hnT,hTe,
   gm _ hT (Obj.isFreed_of_fields (hJ hdT _)),hJ hdT _,by simp[hsz]⟩,ko,rel,sl.up w3 λb o hb hn=>⟨o.slots,(oth b (nr b o hb hn)).trans hb⟩,e⟩)
end
section
variable{X:Cx}{E:St->XK}{a L:Addr}{cls:Value}{s s':Shared}{pins:List (Addr×Obj)}{σ:St}{H H':Hp}{B:Heap}
theorem Inv.adopt{o:HO}(I:Inv X pins σ H s)(hn:H a=none)(new:mf X.prog X.w (upd H a o) s.heap a o)(h0:X.s₀.heap.get? a=none)(hL:a≠X.env.locals)
  (hc:∀x c,X.env.cells.lookup x=some c->c≠a) (hp:∀p∈X.pn++pins,p.1≠a):Inv X pins σ (upd H a o) s where
 ok:=I.ok
 os:=I.os
 bare:=I.bare
 base:={
  keep:=I.base.keep
  slot:=I.base.slot
  free:=λb ob e n hb=>by
   rw[i7 λz=>by subst z;rw[h0]at e;cases e]
   exact I.base.free b ob e n hb
  there:=I.base.there
  wu:=λb xs e=>by
   have q:=I.base.wu b xs e;rw[i7 (i4 q hn)];exact q
  uC:=λb ob u e=>by
   have q:=I.base.uC b ob u e;rw[i7 (i4 q hn)];exact q
  vV:=λb ps e=>by
   obtain⟨m,q⟩:=I.base.vV b ps e;exact⟨m,by rw[i7 (i4 q hn)];exact q⟩}
 loc:=I.loc
 cell:=I.cell
 free:=by rw[i7 (ah hL)];exact I.free
 qe:=λx c e=>by rw[i7 (hc x c e)];exact I.qe x c e
 pin:=λp m=>by
  obtain⟨p1,p2,p3⟩:=I.pin p m;exact⟨p1,by rw[i7 (hp p m)];exact p2,p3⟩
 ko:=λb u e=>by
  by_cases hb:b=a
  ·subst hb;rw[i8]at e;cases e;exact new
  ·rw[i7 hb]at e;exact(I.ko b u e).sj (λ_ _ _ q=>q) (λc q=>by rw[i7 (i4 q hn)];exact q) λc xs q=>by rw[i7 (i4 q hn)];exact q
 len:=I.len
theorem Bo.out{E0:XK}(u:Bo X (λ_=>E0) Ml a cls s')(hst:X.stack=X.env::X.outer)(hf:X.env.frame=some X.env.locals)(hex:X.ex=[]):
  uv X.prog X.w X.outer X.H₀ X.s₀ E0 (.ref a) s':=by
 obtain⟨I,os,bare,way,p,ko,rel,sl,e⟩:=u;rename_i pins σ H H' B s;have DN:∀b,b∉X.ex:=λb=>by rw[hex];simp
 have hfs:∀b,b∈B9 X.stack↔b=X.env.locals∨b∈X.fs:=λb=>by
  rw[hst];unfold B9;rw[bP,hf];exact aP
 have nloc:∀b o,X.s₀.heap.get? b=some o->b≠X.env.locals:=λb o q z=>by
  have:=aD q;have h2:=I.ok.above;rw[z]at this;exact absurd (av this h2) (bw _)
 obtain⟨w1,w2,w3⟩:=way;have w3':s'.heap.FunFrames B X.outer:=by rw[hst]at w3;exact w3.2.2
 refine⟨a,cls,H',B,rfl,os.trans I.os,bare,⟨w1,w2,w3'⟩,p,ko,⟨λb o q n hb=> ?_,λb hb=>rel.fr b ((hfs b).mpr (.inr hb)),λb o q=> ?_,λb xs q=>rel.wu b xs (I.base.wu b xs q),
  λb o u q=>rel.uC b o u (I.base.uC b o u q),λb ps q=> ?_⟩,λb o q hb=> ?_,e⟩
 ·refine rel.keep b o (I.base.keep b o q n hb (DN b)) (I.base.free b o q n (DN b)) λz=> ?_;rcases (hfs b).mp z with z|z
  ·exact nloc b o q z
  ·exact hb z
 ·obtain⟨o1,q1⟩:=I.base.there b o q (DN b);rcases rel.there b o1 q1 with z|z
  ·rcases (hfs b).mp z with z|z
   ·exact absurd z (nloc b o q)
   ·exact .inl z
  ·exact .inr z
 ·obtain⟨m1,q1⟩:=I.base.vV b ps q;obtain⟨m2,q2⟩:=rel.vV b _ q1;exact⟨m1++m2,by rw[q2,gU]⟩
 ·obtain⟨s1,q1⟩:=I.base.slot b o q (I.ok.Ql b hb) hb (DN b);obtain⟨s2,q2⟩:=sl b _ q1 ((hfs b).mpr (.inr hb));exact⟨s2,q2⟩
end
structure Exc(X:Cx)(E:St->XK):Prop where
 pass:∀(pins:List (Addr×Obj)) (σ:St) (H:Hp) (s:Shared) (e:Value) (s':Shared),Inv X pins σ H s->uv X.prog X.w X.stack H s (E σ) e s'->X.xe e s'
 XB:∀(pins:List (Addr×Obj)) (σ:St) (H:Hp) (s s':Shared) (a C:Addr) (args:List Value),Inv X pins σ H s->Heap.MadeExcOf s.heap s'.heap a (.ref C) args->s'.os=s.os->s'.gens=s.gens->
  E σ (.ref C) none H->X.xe (.ref a) s'
 own:PassesOwn (model X.prog X.w) X.A X.env X.xe
theorem Ol{X:Cx}{E:St->XK}(hst:X.stack=X.env::X.outer)(hf:X.env.frame=some X.env.locals):Exc (X.wx (WU X E X.env.locals)) E where
 pass:=λpins σ H s e s' I z=>by obtain⟨a,cls,H',B,ee,os,bare,way,p,ko,rel,sl,q⟩:=z;exact⟨a,cls,ee,⟨I.rX,os,bare,way,.inr (.inl p),ko,rel,sl,q⟩⟩
 XB:=λpins σ H s s' a C args I hm os hg q=>by
  have I:=I.rX;obtain⟨t,he,htn,ht⟩:=hm.there;have hB:(fh s.heap (B9 X.stack)).get? a=none:=by
   cases z:(fh s.heap (B9 X.stack)).get? a with
   |none=>rfl
   |some o=>have:=fE _ z;rw[hm.new]at this;cases this
  refine⟨a,.ref C,rfl,⟨I,os,by rw[hg];exact I.bare,⟨λb o z=>hm.keeps b o (fE _ z),hB,?_⟩,.inl ⟨_,_,_,he,rfl,rfl,rfl,rfl⟩,I.ko.hide I.we,⟨λb o z n hb=>⟨dY _ z hb,n⟩,I.we,
   λb o z=> ?_,λ_ _ z=>z,λ_ _ _ z=>z,λ_ ps z=>⟨#[],by rw[dE];exact z⟩⟩,λb o z _=>⟨o.slots,hm.keeps b o z⟩,q⟩⟩
  ·exact(PySem.W.funFrames_hide I.stack λenv he b hb=>List.mem_filterMap.mpr ⟨env,he,hb⟩).of_keeps λb o z _=>⟨o,hm.keeps b o z,rfl⟩
  ·by_cases hb:b∈B9 X.stack
   ·exact .inl hb
   ·exact .inr ⟨o,dY _ z hb⟩
 own:=λe s'=>VM λa cls ee u=>by
  subst ee;refine u.note rfl hst hf λh' u'=> ?_;unfold cameBackBy;rw[show(X.wx (WU X E X.env.locals)).env.frame=some X.env.locals from hf];refine u'.hold λh2 u2=> ?_;obtain⟨I,os,bare,way,p,ko,rel,sl,q⟩:=u2;exact⟨a,cls,rfl,⟨I,os,bare,way,.inr (.inr p),ko,rel,sl,q⟩⟩
theorem IE.wx{X:Cx}{st:List Stmt}{t:TS}{E:Value->Shared->Prop}(h:IE (X.wx E) st t)(he:∀e s,E e s->X.xe e s):IE X st t:=λpins s σ H D I hw=>
 wpAny_mono (h pins s σ H D (I.wx E) hw) (λ_ _ z=>SP.rX z) he
noncomputable abbrev So (ca:Bool) (P:Program) (w:World) (K:af) (mg:Str->Option Value) (base:Heap) (N:List Str) (qual:Str) (scope:Scope) (f:Addr) (cd:Value) (A:Around) (outer:List Env) (s:Shared) (H:Hp) (E:XK):Cx:=
 (IT (uv P w) ca P w K mg base N qual scope f cd A outer s H E).wx (WU (IT (uv P w) ca P w K mg base N qual scope f cd A outer s H E) (λ_=>E) s.heap.objs.size)
section
variable{P:Program}{w:World}{K:af}{mg:Str->Option Value}{base:Heap}
theorem EB.NF{x qual:Str}{st:Stmt}{f:Addr}{fd:FuncData}{N ps:List Str}{ca:Bool}{k:Nat}{sp:Sp}(F:EB K x qual st f fd)(S:jg N ps (i9 st))(len:∀vs H Q E,sp vs H Q E->vs.length=ps.length)
  (hbody:∀(cdv:Value) (A:Around) (outer:List Env) (s:Shared) (H:Hp) (vs:List V) (Q:VK) (E:XK),lM ca k (A.deeper (envOfC qual (i9 st) s.heap.objs.size f cdv))->
   Exc (So ca P w K mg base N qual (i9 st) f cdv A outer s H E) (λ_=>E)->sp vs H Q E->
   ∃t,IE (So ca P w K mg base N qual (i9 st) f cdv A outer s H E) (mW st) t/\t {nx:=λ_ H'=>Q .non H',rt:=Q} (start N vs) H):mS P w K mg base (uv P w) ca (k+1) f fd ps sp:=by
 obtain⟨oc,od,kV,doc,pm,an,cdv,ct,osl,rfl,lk,hcd⟩:=F.ex;refine Sr (CX:=uv P w) lk hcd S len λA outer s H vs Q E hr hsp=> ?_;obtain⟨t,h,q⟩:=hbody cdv A outer s H vs Q E hr (Ol rfl rfl) hsp;refine⟨t,h.wx λe s2=>VM λa cls ee u=> ?_,q⟩;subst ee;show wpAny _ _ (leaving _ _) _ _ _;unfold leaving;exact wpAny_bind (u.note rfl rfl rfl λh' u'=>u'.X5 λh'' u''=>u''.out rfl rfl rfl)
end
noncomputable def rm (H:Hp) (p:Addr):Hp:=λb=>if b=p then none else H b
theorem Mo{H:Hp}{p:Addr}:rm H p p=none:=by unfold rm;rw[if_pos rfl]
theorem Pz{H:Hp}{p b:Addr}(h:b≠p):rm H p b=H b:=by unfold rm;rw[if_neg h]
theorem K4{H:Hp}{p:Addr}{o:HO}(h:H p=none):rm (upd H p o) p=H:=by
 funext b;by_cases hb:b=p
 ·subst hb;rw[Mo,h]
 ·rw[Pz hb,i7 hb]
def Loose:Option HO->Prop
 |some (.lst _)=>True
 |some (.exc _)=>True
 |some (.WM _ _)=>True
 |_=>False
theorem Inv.rm{X:Cx}{pins:List (Addr×Obj)}{σ:St}{H:Hp}{s:Shared}{p:Addr}(I:Inv X pins σ H s)(hp:Loose (H p)):Inv X pins σ (rm H p) s:=by
 have no:∀{b:Addr},H b=none->Internal.rm H p b=none:=λ{b} e=>by
  unfold Internal.rm;split
  ·rfl
  ·exact e
 have yes:∀{b:Addr} {o:HO},H b=some o->¬Loose (some o)->Internal.rm H p b=some o:=λ{b o} e n=>by
  rw[Pz λz=>by subst z;rw[e]at hp;exact n hp];exact e
 refine⟨I.ok,I.os,I.bare,⟨I.base.keep,I.base.slot,λb o e n hb=>no (I.base.free b o e n hb),I.base.there,λb xs e=>yes (I.base.wu b xs e) (λz=>z),λb o u e=>yes (I.base.uC b o u e) (λz=>z),λb ps e=> ?_⟩,I.loc,I.cell,
  no I.free,λx c e=>no (I.qe x c e),λq m=> ?_,λb u e=> ?_,I.len⟩
 ·obtain⟨m,q⟩:=I.base.vV b ps e;exact⟨m,yes q λz=>z⟩
 ·obtain⟨p1,p2,p3⟩:=I.pin q m;exact⟨p1,no p2,p3⟩
 ·by_cases hb:b=p
  ·subst hb;rw[Mo]at e;cases e
  ·rw[Pz hb]at e;exact(I.ko b u e).sj (λ_ _ _ q=>q) (λc q=>yes q λz=>z) λc xs q=>yes q λz=>z
section
variable{X:Cx}{pins:List (Addr×Obj)}{σ:St}{H:Hp}{s:Shared}
end
def AH(sp:Sp)(E:St->XK)(t:TA):TE:=λσ H Q=>t σ H λvs H1=>sp vs H1 Q (E σ)
def B1(C:Addr)(sp:Sp)(E:St->XK)(t:TA):TE:=λσ H Q=>t σ H λvs H1=>∀x dx,H1 x=none->H1 dx=none->dx≠x->
 sp (.ref x::vs) (upd (upd H1 dx (.own x)) x (.ins C dx [])) (λv H2=>v= .non/\Q (.ref x) H2) (E σ)
section
variable{X:Cx}{ca:Bool}{k:Nat}{f C:Addr}{fd:FuncData}{ps:List Str}{sp:Sp}{E:St->XK}{x m:Str}{p pos apos:Pos}{e o:Expr}{es:List Expr}{ta:TE}{t:TA}
theorem Hz{pins:List (Addr×Obj)}{σ:St}{H:Hp}{s:Shared}{Q:VK}{us:List Value}{vs:List V}(F:mS X.prog X.w X.K X.mg X.base (uv X.prog X.w) ca k f fd ps sp)(hr:lM ca k X.A)(hb:Binds X.K fd ps [])(hx:Exc X E)
  (I:Inv X pins σ H s) (r:Vals vs us) (h:sp vs H Q (E σ)):wpAny (model X.prog X.w) X.A (call (.ref f) us) (EP X pins σ Q) X.xe s:=by
 have hl:(us++[]).length=ps.length:=by rw[aM,←r.length];exact F.len _ _ _ _ h
 have hb':=hb s us I.IB hl;rw[aM]at hb';refine wpAny_call (codeAny_mono (F.run X.A X.stack s H ⟨us,[]⟩ us vs Q (E σ) hr I.Tf hb' r h) λr s' hq=> ?_)
 cases r with
 |error e=>exact hx.pass pins σ H s e s' I hq
 |ok fl=>
  cases fl with
  |ret u=>exact I.after hq
  |next=>exact bT hq
  |brk=>exact bT hq
  |cont=>exact bT hq
theorem O8(F:mS X.prog X.w X.K X.mg X.base (uv X.prog X.w) ca k f fd ps sp)(hr:lM ca k X.A)(hg:Gl X x)(hm:X.mg x=some (.ref f))(hk:bC X.K (.ref f)=true)(hb:Binds X.K fd ps [])(hx:Exc X E)
  (ha:PA X (e::es) t) (hdb:(x==("__debug__":Str))=false:=by decide) (he:starEach (e::es) X.env=(false,eval e X.env)::starEach es X.env:=by rfl) (hpl:(backTo pos (starEach es X.env)).any (·.1)=false:=by rfl):
  PE X (.Call (.Name x p) (e::es) [] pos) (AH sp E t):=by
 intro pins s σ H Q I h;refine wpAny_Call_Name_kw (CL I hg hm ?_ hdb);refine eA (h₀:=X.base) I.ok.mod.U1 hk (mJ (ha pos pins s σ H _ I h) λus s1=>qv λvs H1 I1 r q=>⟨I1.IB,?_⟩) he hpl;exact Hz F hr hb hx I1 r q
theorem Gb{pins:List (Addr×Obj)}{σ:St}{H:Hp}{s:Shared}{Q:VK}{us:List Value}{vs:List V}(M:Mk X.K C f)(F:mS X.prog X.w X.K X.mg X.base (uv X.prog X.w) ca k f fd ps sp)(hr:lM ca (k+1) X.A)(hb:Binds X.K fd ps [])
  (hx:Exc X E) (I:Inv X pins σ H s) (r:Vals vs us)
  (h:∀x dx,H x=none->H dx=none->dx≠x->sp (.ref x::vs) (upd (upd H dx (.own x)) x (.ins C dx [])) (λv H2=>v= .non/\Q (.ref x) H2) (E σ)):
  wpAny (model X.prog X.w) X.A (call (.ref C) us) (EP X pins σ Q) X.xe s:=by
 have hq:=h (s.heap.objs.size+1) s.heap.objs.size (I.ko.fresh (cO _)) (I.ko.fresh (aq _)) (aK (dW _));have I2:=Inv.made (C:=C) I;have r2:Vals (V.ref (s.heap.objs.size+1)::vs) (aO (s.heap.objs.size+1)::us):= .cons rfl r;have hl:(aO (s.heap.objs.size+1)::us++[]).length=ps.length:=by rw[aM,←r2.length];exact F.len _ _ _ _ hq
 have hb':=hb {s with heap:=(s.heap.push bW).push (cI C s.heap.objs.size)} (aO (s.heap.objs.size+1)::us) I2.IB hl;rw[aM]at hb';refine wpAny_call (OV (f:=f) I.IB M.makes M.init (beq_iff_eq.mp M.fn) (codeAny_mono (F.run _ X.stack _ _ ⟨aO (s.heap.objs.size+1)::us,[]⟩ (aO (s.heap.objs.size+1)::us) _ _ (E σ) (hr.make C us [])
  (I2.Tf.make C us []) hb' r2 hq) λr s' hq'=> ?_))
 cases r with
 |error e=>exact hx.pass pins σ _ _ e s' I2 hq'
 |ok fl=>
  cases fl with
  |ret u=>
   obtain⟨v,H',I3,rv,ev,q3⟩:=I2.after hq';subst ev;exact⟨rv,⟨V.ref (s.heap.objs.size+1),H',I3,rfl,q3⟩⟩
  |next=>exact bT hq'
  |brk=>exact bT hq'
  |cont=>exact bT hq'
theorem Pe(M:Mk X.K C f)(F:mS X.prog X.w X.K X.mg X.base (uv X.prog X.w) ca k f fd ps sp)(hr:lM ca (k+1) X.A)(hg:Gl X x)(hm:X.mg x=some (.ref C))(hb:Binds X.K fd ps [])(hx:Exc X E)
  (ha:PA X (e::es) t) (hdb:(x==("__debug__":Str))=false:=by decide) (he:starEach (e::es) X.env=(false,eval e X.env)::starEach es X.env:=by rfl) (hpl:(backTo pos (starEach es X.env)).any (·.1)=false:=by rfl):
  PE X (.Call (.Name x p) (e::es) [] pos) (B1 C sp E t):=by
 intro pins s σ H Q I h;refine wpAny_Call_Name_kw (CL I hg hm ?_ hdb);refine eA (h₀:=X.base) I.ok.mod.U1 M.kp (mJ (ha pos pins s σ H _ I h) λus s1=>qv λvs H1 I1 r q=>⟨I1.IB,?_⟩) he hpl;exact Gb M F hr hb hx I1 r q
theorem Nf(M:Mk X.K C f)(F:mS X.prog X.w X.K X.mg X.base (uv X.prog X.w) ca k f fd ps sp)(hr:lM ca (k+1) X.A)(hg:Gl X x)(hm:X.mg x=some (.ref C))(hb:Binds X.K fd ps [])(hx:Exc X E)
  (hdb:(x==("__debug__":Str))=false:=by decide):PE X (.Call (.Name x p) [] [] pos) (B1 C sp E Ip):=by
 intro pins s σ H Q I h;refine wpAny_Call_Name_kw (CL I hg hm ?_ hdb);exact gR I.IB M.kp (Gb (us:=[]) M F hr hb hx I .nil h)
end
section
variable{X:Cx}{C:Addr}{E:St->XK}{x:Str}{np cpos pos:Pos}{e:Expr}{es:List Expr}{t:TA}
end
section
variable{X:Cx}{pins pins':List (Addr×Obj)}{σ:St}{H:Hp}{s:Shared}{a:Addr}{E:Value->Shared->Prop}
end
abbrev TH:=Ends->St->Hp->Value->Prop
section
variable{X:Cx}{c:Value}{i:Nat}{x n:Str}{np pos:Pos}{b₀:Stmt}{suite:List Stmt}{th:TS}{tr:TH}{rest:List ExceptHandler}
end
section
variable{X:Cx}
theorem PE.mono{e:Expr}{t t':TE}(h:PE X e t)(k:∀σ H Q,t' σ H Q->t σ H Q):PE X e t':=λpins s σ H Q I q=>h pins s σ H Q I (k _ _ _ q)
theorem oZ.mono{f:Value->Value->Sem Value}{r r':R2}(h:oZ X f r)(k:∀x y H Q,r' x y H Q->r x y H Q):oZ X f r':=λpins s σ H x y v u Q I rx ry q=>h pins s σ H x y v u Q I rx ry (k _ _ _ _ q)
theorem nW.mono{f:Value}{r r':List V->Hp->VK->Prop}(h:nW X f r)(k:∀xs H Q,r' xs H Q->r xs H Q):nW X f r':=λpins s σ H xs us Q I rx q=>h pins s σ H xs us Q I rx (k _ _ _ q)
end
def AO(i:Nat):TE:=λσ H Q=>match σ[i]? with
 |some (some v)=>Q v H
 |_=>False
section
variable{X:Cx}
theorem cv(i:Nat){x:Str}{pos:Pos}(hN:X.N[i]? =some x:=by rfl)(hv:UW X.env.scope x:=by first|exact gx rfl|exact fc (gx rfl)|exact fc (fc rfl))(hd:(x==("__debug__":Str))=false:=by decide)
  (hcd:(x==("__classdict__":Str))=false:=by decide):PE X (.Name x pos) (AO i):=(Pj hN hv hd hcd).mono λσ H Q h=>by
 unfold AO at h
 split at h
 ·rename_i v e;exact⟨v,e,h⟩
 ·exact h.elim
def Gv(mg:Str->Option Value)(x:Str)(v:V):Prop:=∃u,mg x=some u/\RelV v u
theorem Wg{x:Str}{v:V}{pos:Pos}(h:Gv X.mg x v)(hg:Gl X x:=by rfl)(hd:(x==("__debug__":Str))=false:=by decide):PE X (.Name x pos) (tC v):=by
 obtain⟨u,hm,r⟩:=h;exact RF hg hm r hd
theorem Wj{x:Str}{T:String}{pos:Pos}(hm:X.mg x=none)(hv:bootBuiltins x=some (.type T))(hg:Gl X x:=by rfl)(hn:x≠"__name__":=by decide)(hd:(x==("__debug__":Str))=false:=by decide):
  PE X (.Name x pos) (tC (.ty T)):=RB hg hm hv rfl hn hd
end
def QH:R2:=λx y H Q=>match x,y with
 | .int i,.int j=>Q (.int (i+j)) H
 |_,_=>False
def QX:R2:=λx y H Q=>match x,y with
 | .int i,.int j=>Q (.int (i-j)) H
 |_,_=>False
def QQ:R2:=λx y H Q=>match x,y with
 | .int i,.int j=>NI i j/\Q (.int (i*j)) H
 |_,_=>False
def LD:R2:=λx y H Q=>match x,y with
 | .int i,.int j=>SE i j/\Q (.int (i/j)) H
 |_,_=>False
def QP:R2:=λx y H Q=>match x,y with
 | .int i,.int j=>0<j/\Q (.int (i%j)) H
 |_,_=>False
def QU:R2:=λx y H Q=>match x,y with
 | .int i,.int j=>SF i j/\Q (.int (i^j.toNat)) H
 |_,_=>False
def ME(p:Int->Int->Bool):R2:=λx y H Q=>match x,y with
 | .int i,.int j=>Q (.bl (p i j)) H
 |_,_=>False
abbrev W4:R2:=ME λi j=>decide (i<j)
abbrev W3:R2:=ME λi j=>decide (i<=j)
abbrev W2:R2:=ME λi j=>decide (j<i)
noncomputable def eqv:V->V->Option Bool
 | .int i,.int j=>some (decide (i=j))
 | .str i,.str j=>some (decide (i=j))
 | .non,.non=>some true
 | .non,.int _=>some false| .int _,.non=>some false
 |_,_=>none
theorem Tg{i j:Int}:eqv (.int i) (.int j)=some (decide (i=j)):=rfl
theorem To{i j:Str}:eqv (.str i) (.str j)=some (decide (i=j)):=rfl
theorem Tn:eqv .non .non=some true:=rfl
theorem Tj{i:Int}:eqv .non (.int i)=some false:=rfl
theorem Ti{i:Int}:eqv (.int i) .non=some false:=rfl
def Vj:R2:=λx y H Q=>match eqv x y with
 |some b=>Q (.bl b) H
 |none=>False
def Vk:R2:=λx y H Q=>match eqv x y with
 |some b=>Q (.bl (!b)) H
 |none=>False
noncomputable def Jc:V->Bool
 | .non=>true
 |_=>false
def WG:R2:=λx y H Q=>match y with
 | .non=>Q (.bl (Jc x)) H
 |_=>False
def GC:R2:=λx y H Q=>match y with
 | .non=>Q (.bl (!Jc x)) H
 |_=>False
def QT:V->Hp->VK->Prop:=λx H Q=>match x with
 | .int i=>Q (.int (-i)) H
 |_=>False
theorem IX{x y:V}{b:Bool}(h:eqv x y=some b):UA x y=true/\decide (x=y)=b:=by
 cases x<;>cases y<;>first
  |exact⟨rfl,(decide_eq_decide.mpr ⟨λz=>by cases z;rfl,λz=>by cases z;rfl⟩).trans (aY h)⟩
  |exact⟨rfl,(decide_eq_false λz=>by cases z).trans (aY h)⟩
  |exact⟨rfl,(decide_eq_true rfl).trans (aY h)⟩
  |exact nomatch h
section
variable{X:Cx}
theorem Vl:oZ X (binaryOp .Add) QH:=T5.mono λx y H Q h=>by
 unfold QH at h
 split at h
 ·exact⟨_,_,rfl,rfl,h⟩
 ·exact h.elim
theorem VE:oZ X (binaryOp .Sub) QX:=Ub.mono λx y H Q h=>by
 unfold QX at h
 split at h
 ·exact⟨_,_,rfl,rfl,h⟩
 ·exact h.elim
theorem Vv:oZ X (binaryOp .Mult) QQ:=T9.mono λx y H Q h=>by
 unfold QQ at h
 split at h
 ·exact⟨_,_,rfl,rfl,h.1,h.2⟩
 ·exact h.elim
theorem S4:oZ X (binaryOp .FloorDiv) LD:=Ry.mono λx y H Q h=>by
 unfold LD at h
 split at h
 ·exact⟨_,_,rfl,rfl,h.1,h.2⟩
 ·exact h.elim
theorem Vu:oZ X (binaryOp .Mod) QP:=T8.mono λx y H Q h=>by
 unfold QP at h
 split at h
 ·exact⟨_,_,rfl,rfl,h.1,h.2⟩
 ·exact h.elim
theorem VA:oZ X (binaryOp .Pow) QU:=T_.mono λx y H Q h=>by
 unfold QU at h
 split at h
 ·exact⟨_,_,rfl,rfl,h.1,h.2⟩
 ·exact h.elim
theorem N5{op:CmpOp}{p:Int->Int->Bool}(h:oZ X (compareOp op) (Sz λi j=> .bl (p i j))):oZ X (compareOp op) (ME p):=h.mono λx y H Q h=>by
 unfold ME at h
 split at h
 ·exact⟨_,_,rfl,rfl,h⟩
 ·exact h.elim
theorem W_:oZ X (compareOp .Lt) W4:=N5 Wb
theorem W9:oZ X (compareOp .LtE) W3:=N5 Wa
theorem W6:oZ X (compareOp .Gt) W2:=N5 V_
theorem Vn:oZ X (compareOp .Eq) Vj:=V9.mono λx y H Q h=>by
 unfold Vj at h
 split at h
 ·rename_i b e;obtain⟨e1,e2⟩:=IX e;exact⟨e1,by rw[e2];exact h⟩
 ·exact h.elim
theorem Vw:oZ X (compareOp .NotEq) Vk:=Wc.mono λx y H Q h=>by
 unfold Vk at h
 split at h
 ·rename_i b e;obtain⟨e1,e2⟩:=IX e;exact⟨e1,by rw[e2];exact h⟩
 ·exact h.elim
theorem FV(x:V):decide (x= .non)=Jc x:=by cases x<;>simp[Jc]
theorem W7:oZ X (compareOp .Is) WG:=T7.mono λx y H Q h=>by
 unfold WG at h
 split at h
 ·exact⟨rfl,by rw[FV];exact h⟩
 ·exact h.elim
theorem QY:oZ X (compareOp .IsNot) GC:=Rz.mono λx y H Q h=>by
 unfold GC at h
 split at h
 ·exact⟨rfl,by rw[FV];exact h⟩
 ·exact h.elim
theorem Vz:Vc X (unaryOp .USub) QT:=λpins s σ H x v Q I rx h=>by
 unfold QT at h
 split at h
 ·exact UQ pins s σ H _ v Q I rx ⟨_,rfl,h⟩
 ·exact h.elim
end
def Px:R2:=λx y H Q=>match x,y with
 | .ref p,.int i=>(match H p with
  |some (.lst xs)=>(match qh xs i with
   |some v=>Q v (rm H p)
   |none=>False)
  |_=>False)
 |_,_=>False
section
variable{X:Cx}{es:List Expr}{e:Expr}{t:TA}{ti:TE}{pos p2:Pos}
theorem Rb:SH X Px:=by
 intro value slice pins s σ H x y v u Q I rx ry h hsub;unfold Px at h
 cases x<;>try exact h.elim
 rename_i p
 cases y<;>try exact h.elim
 rename_i i;dsimp only at h
 cases hp:H p<;>rw[hp]at h<;>try exact h.elim
 rename_i o
 cases o<;>try exact h.elim
 rename_i xs;dsimp only at h
 split at h
 case h_2=>exact h.elim
 rename_i v' ha;have q:=h;refine mJ (G0 value slice pins s σ H _ _ v u (λz H'=>z=v'/\H'=H) I rx ry ⟨p,xs,i,v',rfl,rfl,kO.of hp,ha,rfl,rfl⟩ hsub) λu s' zq=> ?_;obtain⟨z,H',I',r,e1,e2⟩:=zq;subst e1 e2;exact⟨z,rm H' p,I'.rm (by rw[hp];exact bY),r,q⟩
theorem RH(ha:PA X es t)(hi:PE X e ti)(hs:CC e):PE X (.Subscript (.List es p2) e pos) (P0 Px (PV t) ti):=Sx Rb (Pd ha) hi hs
end
def WH:R2:=λx y H Q=>match x,y with
 | .ref p,.int i=>(match H p with
  |some (.lst xs)=>(match qh xs i with
   |some v=>Q v H
   |none=>False)
  |some (.tup xs)=>(match qh xs i with
   |some v=>Q v H
   |none=>False)
  |_=>False)
 |_,_=>False
def QO:List V->Hp->VK->Prop:=λxs H Q=>match xs with
 | [.ref p]=>(match H p with
  |some (.lst ys)=>Q (.int ys.length) H
  |some (.tup ys)=>Q (.int ys.length) H
  |_=>False)
 |_=>False
def QN(K:af):R2:=λx y H Q=>match x,y with
 | .ref p,.int i=>∃xs,kO K H p xs/\(match qh xs i with
   |some v=>Q v H
   |none=>False)
 |_,_=>False
def LG(K:af):List V->Hp->VK->Prop:=λxs H Q=>match xs with
 | [.ref p]=>∃ys,kO K H p ys/\Q (.int ys.length) H
 |_=>False
def cInt:List V->Hp->VK->Prop:=λxs H Q=>match xs with
 | [.bl k]=>Q (.int (if k then 1 else 0)) H
 |_=>False
section
variable{X:Cx}
theorem W8:SH X WH:=by
 intro value slice pins s σ H x y v u Q I rx ry h hsub;unfold WH at h
 cases x<;>try exact h.elim
 rename_i p
 cases y<;>try exact h.elim
 rename_i i;dsimp only at h
 cases hp:H p<;>rw[hp]at h<;>try exact h.elim
 rename_i o
 cases o<;>try exact h.elim
 ·rename_i xs;dsimp only at h
  split at h
  case h_2=>exact h.elim
  rename_i v' ha;exact G0 value slice pins s σ H _ _ v u Q I rx ry ⟨_,xs,_,v',rfl,rfl,kO.of hp,ha,h⟩ hsub
 ·rename_i xs;dsimp only at h
  split at h
  case h_2=>exact h.elim
  rename_i v' ha;exact Tx value slice pins s σ H _ _ v u Q I rx ry ⟨_,xs,_,v',rfl,rfl,Kd.of hp,ha,h⟩ hsub
theorem Vs:SH X (QN X.K):=by
 intro value slice pins s σ H x y v u Q I rx ry h hsub;unfold QN at h
 split at h
 case h_2=>exact h.elim
 obtain⟨xs,hp,h⟩:=h
 split at h
 case h_2=>exact h.elim
 rename_i v' ha;exact G0 value slice pins s σ H _ _ v u Q I rx ry ⟨_,xs,_,v',rfl,rfl,hp,ha,h⟩ hsub
theorem Vt:nW X (.builtin "len") QO:=AQ.mono λxs H Q h=>by
 unfold QO at h;rcases xs with _|⟨x,xs⟩<;>try exact h.elim
 cases x<;>try exact h.elim
 rename_i p;rcases xs with _|⟨y,xs⟩<;>try exact h.elim
 dsimp only at h
 cases hp:H p<;>rw[hp]at h<;>try exact h.elim
 rename_i o
 cases o<;>try exact h.elim
 ·exact⟨_,_,rfl,.inl (kO.of hp),h⟩
 ·exact⟨_,_,rfl,.inr (Kd.of hp),h⟩
theorem S7:nW X (.builtin "len") (LG X.K):=AQ.mono λxs H Q h=>by
 unfold LG at h
 split at h
 case h_2=>exact h.elim
 obtain⟨ys,hp,h⟩:=h;exact⟨_,ys,rfl,.inl hp,h⟩
theorem Vr:nW X (.type "int") cInt:=MJ.mono λxs H Q h=>by
 unfold cInt at h;rcases xs with _|⟨x,xs⟩<;>try exact h.elim
 cases x<;>try exact h.elim
 rcases xs with _|⟨y,xs⟩<;>try exact h.elim
 exact .inr ⟨_,rfl,h⟩
end
theorem Te{CX:NB}{ca:Bool}{P:Program}{w:World}{K:af}{mg:Str->Option Value}{base:Heap}{N:List Str}{qual:Str}{scope:Scope}{f:Addr}{cd:Value}{A:Around}{outer:List Env}{s:Shared}{H:Hp}{E:XK}:
  (IT CX ca P w K mg base N qual scope f cd A outer s H E).K=K:=rfl
section
open Builtin Builtin.ObjectAttr Builtin.Getset_descriptor
variable{prog:Program}{w:World}{A:Around}{E:Value->Shared->Prop}{s:Shared}{K:af}{a C:Addr}
end
noncomputable def U4 (H:Hp):V->Option Value
 | .int _=>some (.type "int")
 | .ref a=>match H a with
  |some (.tup _)=>some (.type "tuple")
  |_=>none
 |_=>none
def NL(_:af)(_:Hp)(_:V):Prop:=True
noncomputable def VR (K:af) (t:Value):V->Option Bool
 | .ty n=>cF K t (.type n)
 | .ref C=>cF K t (.ref C)
 |_=>none
def RV(K:af):List V->Hp->VK->Prop:=λxs H Q=>match xs with
 | [x,c]=>(match U4 H x with
  |some t=>NL K H x/\(match VR K t c with
   |some b=>Q (.bl b) H
   |none=>False)
  |none=>False)
 |_=>False
theorem Ob{X:Cx}:nW X (.builtin "isinstance") (RV X.K):=by
 intro pins s σ H xs us Q I r h;unfold RV at h
 split at h
 case h_2=>exact h.elim
 rename_i x c;obtain⟨u,w',rfl,rx,rc⟩:=vals2 r
 split at h
 case h_2=>exact h.elim
 rename_i t ht;obtain⟨ok,h⟩:=h
 split at h
 case h_2=>exact h.elim
 rename_i b hk;have q:=h;have hc:cF X.K t w'=some b:=by
  cases c<;>first|(cases (show w'=dj _ from rc);exact hk)|(cases (show w'=aO _ from rc);exact hk)|cases hk
 have fin:∀tk,EP X pins σ Q (.bool b) {s with toks:=tk}:=λtk=>⟨.bl b,H,I.tok tk,rfl,q⟩
 cases x with
 |int i=>cases ht;exact FW I rx (.int i) hc fin
 |ref a=>
  unfold U4 at ht;dsimp only at ht
  cases e:H a with
  |none=>rw[e]at ht;cases ht
  |some o=>
   rw[e]at ht
   cases o with
   |tup xs=>cases ht;exact FW I rx (.tup e) hc fin
   |_=>cases ht
 |_=>cases ht
theorem Ym:(0<=sizeLine)=True:=eq_true (by decide)
theorem Yn:(1<=sizeLine)=True:=eq_true (by decide)
theorem Yo:(2<=sizeLine)=True:=eq_true (by decide)
theorem Yp:(3<=sizeLine)=True:=eq_true (by decide)
theorem Rv{a b:String}:(aI a=aI b)=(a=b):=by
 refine propext ⟨λh=> ?_,λh=>by rw[h]⟩;rw[gh,gh]at h;have h1:(a.toList.map gE).toArray=(b.toList.map gE).toArray:=congrArg Str.cps h;have h2:a.toList.map gE=b.toList.map gE:=congrArg Array.toList h1;have h3:a.toList=b.toList:=by
  refine(List.map_inj_right λx y e=> ?_).mp h2;exact Char.ext (UInt32.toNat_inj.mp e)
 exact String.toList_inj.mp h3
noncomputable def notStar:Expr->Bool
 | .Starred _ _=>false
 |_=>true
theorem n_{e:Expr}{rest:List Expr}{env:Env}(h:notStar e=true):starEach (e::rest) env=(false,eval e env)::starEach rest env:=by
 cases e<;>first|rfl|cases h
theorem pY{env:Env}{pos:Pos}:∀{es:List Expr},es.all notStar=true->(backTo pos (starEach es env)).any (·.1)=false
 | [],_=>rfl
 |e::es,h=>by
  rw[bF,bf]at h;rw[n_ h.1];show(false ||(backTo pos (starEach es env)).any (·.1))=false;rw[pY h.2];rfl
section
variable{X:Cx}{ca:Bool}{k:Nat}{f C:Addr}{fd:FuncData}{ps:List Str}{sp:Sp}{E:St->XK}{x m:Str}{p pos apos np cpos:Pos}{e o:Expr}{es:List Expr}{te ta:TE}{t:TA}{id T:String}{r:List V->Hp->VK->Prop}
theorem Uc(ha:PE X e te)(hr:PA X es t)(h:notStar e=true:=by rfl):PA X (e::es) (Ep te t):=RA ha hr (n_ h)
theorem Jy(F:mS X.prog X.w X.K X.mg X.base (uv X.prog X.w) ca k f fd ps sp)(hr:lM ca k X.A)(hg:Gl X x)(hm:X.mg x=some (.ref f))(hk:bC X.K (.ref f)=true)(hb:Binds X.K fd ps [])(hx:Exc X E)
  (ha:PA X (e::es) t) (hdb:(x==("__debug__":Str))=false:=by decide) (h:(e::es).all notStar=true:=by rfl):PE X (.Call (.Name x p) (e::es) [] pos) (AH sp E t):=
 O8 F hr hg hm hk hb hx ha hdb (n_ (by rw[bF,bf]at h;exact h.1)) (pY (by rw[bF,bf]at h;exact h.2))
theorem Pf(M:Mk X.K C f)(F:mS X.prog X.w X.K X.mg X.base (uv X.prog X.w) ca k f fd ps sp)(hr:lM ca (k+1) X.A)(hg:Gl X x)(hm:X.mg x=some (.ref C))(hb:Binds X.K fd ps [])(hx:Exc X E)
  (ha:PA X (e::es) t) (hdb:(x==("__debug__":Str))=false:=by decide) (h:(e::es).all notStar=true:=by rfl):PE X (.Call (.Name x p) (e::es) [] pos) (B1 C sp E t):=
 Pe M F hr hg hm hb hx ha hdb (n_ (by rw[bF,bf]at h;exact h.1)) (pY (by rw[bF,bf]at h;exact h.2))
theorem Nc(hc:nW X (.builtin id) r)(hg:Gl X x)(hm:X.mg x=none)(hv:bootBuiltins x=some (.builtin id))(ha:PA X (e::es) t)(hn:x≠"__name__":=by decide)(hdb:(x==("__debug__":Str))=false:=by decide)
  (h:(e::es).all notStar=true:=by rfl):PE X (.Call (.Name x p) (e::es) [] pos) (UG r t):=
 O5 hc hg hm hv ha hn hdb (n_ (by rw[bF,bf]at h;exact h.1)) (pY (by rw[bF,bf]at h;exact h.2))
theorem KR(hc:nW X (.type T) r)(hg:Gl X x)(hm:X.mg x=none)(hv:bootBuiltins x=some (.type T))(ha:PA X (e::es) t)(hn:x≠"__name__":=by decide)(hdb:(x==("__debug__":Str))=false:=by decide)
  (h:(e::es).all notStar=true:=by rfl):PE X (.Call (.Name x p) (e::es) [] pos) (UG r t):=
 Nd hc hg hm hv ha hn hdb (n_ (by rw[bF,bf]at h;exact h.1)) (pY (by rw[bF,bf]at h;exact h.2))
end
def ke(J:It)(g:TG)(tb:TS)(D:Ends)(σ:St)(H1:Hp):Prop:=∃W:Nat->Nat->St->Hp->Prop,(∃m,W 0 m σ H1)/\∀i m σ H,W i m σ H->
 (J.stop i H/\D.nx σ H)∨(J.go i H/\∃N:St->Hp->Prop,(∀σ' H',N σ' H'->∃m',m'<m/\W (i+1) m' σ' H')/\∀x H',J.SD i H x H'->g x σ H' λσ2 H2=>tb {D with nx:=N,ct:=N,bk:=D.nx} σ2 H2)
theorem Se{wi:TI}{g:TG}{tb:TS}:UH wi g tb=λD σ H=>wi σ H λJ H1=>ke J g tb D σ H1:=rfl
theorem ke.range{lo:Int}{n:Nat}{g:TG}{tb:TS}{D:Ends}{σ:St}{H:Hp}(Pv:Nat->St->Hp->Prop)(h0:Pv 0 σ H)
  (hs:∀i σ H,i<n->Pv i σ H->g (.int (lo+i)) σ H λσ2 H2=>tb {D with nx:=Pv (i+1),ct:=Pv (i+1),bk:=D.nx} σ2 H2) (hd:∀σ H,Pv n σ H->D.nx σ H):ke (Qj lo n) g tb D σ H:=
 MO Pv h0 hs hd
theorem ke.list{K:af}{a:Addr}{xs:List V}{g:TG}{tb:TS}{D:Ends}{σ:St}{H:Hp}(Pv:Nat->St->Hp->Prop)(h0:Pv 0 σ H)(hl:∀i σ H,i<=xs.length->Pv i σ H->kO K H a xs)
  (hs:∀i x σ H,xs[i]? =some x->Pv i σ H->g x σ H λσ2 H2=>tb {D with nx:=Pv (i+1),ct:=Pv (i+1),bk:=D.nx} σ2 H2) (hd:∀σ H,Pv xs.length σ H->D.nx σ H):ke (Qq K a) g tb D σ H:=
 Oq Pv h0 hl hs hd
theorem AM{α:Type}{xs:List α}{j:Nat}:qh xs (j:Int)=xs[j]? :=by
 cases h:xs[j]? with
 |some v=>exact jI h
 |none=>
  have hl:xs.length<=j:=List.getElem?_eq_none_iff.mp h;unfold qh EK;rw[if_pos (by lia),if_neg (by lia)];rfl
theorem Vg{α:Type}{xs:List α}:qh xs 0=xs[0]? :=AM (j:=0)
theorem Vh{α:Type}{xs:List α}:qh xs 1=xs[1]? :=AM (j:=1)
theorem Vi{α:Type}{xs:List α}:qh xs 2=xs[2]? :=AM (j:=2)
theorem sG{n:Nat}{i:Int}(h0:0<=i)(h1:i<n):EK n i=some i.toNat:=by
 unfold EK;rw[if_pos h0,if_pos h1]
theorem SR{α:Type}{xs:List α}{i:Int}(h0:0<=i)(h1:i<xs.length):qh xs i=xs[i.toNat]? :=by
 unfold qh;rw[sG h0 h1];rfl
def MF(K:af)(ta:TE)(f:Str):TE:=λσ H Q=>ta σ H λx H1=>match x with
 | .ref a=>(match H1 a with
  |some (.ins C _ fs)=>Ex K C/\kU K C f/\(match fs.lookup f with
   |some v=>Q v H1
   |none=>False)
  |_=>False)
 |_=>False
def N1(K:af)(ta tv:TE)(f:Str):TS:=λD σ H=>tv σ H λy H1=>ta σ H1 λx H2=>match x with
 | .ref a=>(match H2 a with
  |some (.ins C dx fs)=>Ex K C/\kU K C f/\fs.length<1000/\D.nx σ (upd H2 a (.ins C dx (kB f y fs)))
  |_=>False)
 |_=>False
def Bp(C:Addr)(m:Str)(sp:Sp)(E:St->XK)(ta:TE)(t:TA):TE:=λσ H Q=>ta σ H λx H1=>match x with
 | .ref a=>(match H1 a with
  |some (.ins C' _ fs)=>C'=C/\fs.lookup m=none/\t σ H1 λvs H2=>sp (x::vs) H2 Q (E σ)
  |_=>False)
 |_=>False
def FP:MB:=λo i v H Q=>match o,i with
 | .ref p,.int k=>(match H p with
  |some (.lst xs)=>(match EK xs.length k with
   |some j=>Q (upd H p (.lst (xs.set j v)))
   |none=>False)
  |_=>False)
 |_,_=>False
def QV:R2:=λx y H Q=>match x,y with
 | .ref l,.int k=>(match H l with
  |some (.lst xs)=> -(2^63)<=k/\k<2^63/\xs.length*k.toNat<=sizeLine/\∀p,H p=none->Q (.ref p) (upd H p (.lst (ak k.toNat xs).flatten))
  |_=>False)
 |_,_=>False
def WJ:V->Option Int->Option Int->Hp->VK->Prop:=λx lo hi H Q=>match x with
 | .ref a=>(match H a with
  |some (.lst xs)=>∀p,H p=none->Q (.ref p) (upd H p (.lst (w_ xs lo hi)))
  |_=>False)
 |_=>False
def QW(K:af):V->Option Int->Option Int->Hp->VK->Prop:=λx lo hi H Q=>match x with
 | .ref a=>∃xs,kO K H a xs/\∀p,H p=none->Q (.ref p) (upd H p (.lst (w_ xs lo hi)))
 |_=>False
def N0(t:TE):TO:=λσ H Q=>t σ H λx H1=>match x with
 | .int i=>Q (some i) H1
 |_=>False
def CD:V->List V->Hp->VK->Prop:=λx vs H Q=>match x,vs with
 | .ref l,[y]=>(match H l with
  |some (.lst xs)=>xs.length<sizeLine/\Q .non (upd H l (.lst (xs++[y])))
  |_=>False)
 |_,_=>False
def W0(r:V->List V->Hp->VK->Prop)(to:TE)(t:TA):TE:=λσ H Q=>to σ H λx H1=>match x with
 | .ref a=>(match H1 a with
  |some (.lst _)=>t σ H1 λxs H2=>r x xs H2 Q
  |_=>False)
 |_=>False
noncomputable def KH:V->Option Key
 | .int n=>some (.inl n)
 | .str x=>some (.inr x)
 |_=>none
def IL(td ty:TE):TE:=λσ H Q=>td σ H λx H1=>ty σ H1 λy H2=>match x with
 | .ref a=>(match H2 a,KH y with
  |some (.dK kvs),some k=>(match nD kvs k with
   |some v=>Q v H2
   |none=>False)
  |_,_=>False)
 |_=>False
def NX(td ty tv:TE):TS:=λD σ H=>tv σ H λv H1=>td σ H1 λx H2=>ty σ H2 λy H3=>match x with
 | .ref a=>(match H3 a,KH y with
  |some (.dK kvs),some k=>kvs.length<sizeLine/\D.nx σ (upd H3 a (.dK (putK kvs k v)))
  |_,_=>False)
 |_=>False
theorem A1{y:V}{k:Key}(h:KH y=some k):y=kV k:=by
 cases y<;>cases h<;>rfl
section
variable{X:Cx}{e o i f' value:Expr}{f m:Str}{pos pos' apos cpos p2:Pos}{ta tv td ty tx te:TE}{t:TA}{lo hi:Option Expr}{tl th:TO}
theorem Si.mono{r r':V->Option Int->Option Int->Hp->VK->Prop}(h:Si X r)(k:∀x lo hi H Q,r' x lo hi H Q->r x lo hi H Q):Si X r':=λpins s σ H x v vl vu lo hi sl Q I rx hs pl pu q=>h pins s σ H x v vl vu lo hi sl Q I rx hs pl pu (k _ _ _ _ _ q)
theorem Sk(he:PE X e ta)(hb:attributeBase e f X.env (eval e X.env)=eval e X.env):PE X (.Attribute e f pos) (MF X.K ta f):=by
 intro pins s σ H Q I h;refine Qy hb (mJ (he pins s σ H _ I h) λu s1=>qv λx H1 I1 rx q=> ?_)
 try dsimp only at q
 cases x<;>try exact q.elim
 rename_i a;dsimp only at q
 cases ea:H1 a<;>rw[ea]at q<;>try exact q.elim
 rename_i o
 cases o<;>try exact q.elim
 rename_i C dx fs;obtain⟨c,n,q⟩:=q
 try dsimp only at q
 split at q
 case h_2=>exact q.elim
 rename_i v l;obtain rfl:u=aO a:=rx;exact Kt I1 ea c n l λu' s2 I2 ru=>⟨v,H1,I2,ru,q⟩
theorem Ta(ha:PE X o ta)(hv:PE X value tv)(hs:swapsWith value (some (.Attribute o f pos')) pos.line X.env=pure false):PS X (.Assign [.Attribute o f pos'] value pos) (N1 X.K ta tv f):=by
 intro pins s σ H D I h;refine plainObj_wpAny_Assign_Attribute (mJ (hv pins s σ H _ I h) λu s1=>qv λy H1 I1 ry q=>mJ (ha pins s1 σ H1 _ I1 q) λov s2=>qv λx H2 I2 rx q2=> ?_) hs
 try dsimp only at q2
 split at q2
 case h_2=>exact q2.elim
 rename_i a
 split at q2
 case h_2=>exact q2.elim
 rename_i C dx fs ea;obtain⟨c,n,l,q2⟩:=q2;obtain rfl:ov=aO a:=rx;exact Le I2 ea c n l ry λs3 I3=>⟨σ,_,I3,q2⟩
theorem VC:Qt X FP:=by
 intro pins s σ H o i v ov iv u Q I ro ri rv h;unfold FP at h
 split at h
 case h_2=>exact h.elim
 split at h
 case h_2=>exact h.elim
 rename_i xs hp
 split at h
 case h_2=>exact h.elim
 rename_i j hj;exact set_list pins s σ H _ _ v ov iv u Q I ro ri rv ⟨_,xs,_,j,rfl,rfl,hp,hj,h⟩
theorem VB:oZ X (binaryOp .Mult) QV:=Ua.mono λx y H Q h=>by
 unfold QV at h
 split at h
 case h_2=>exact h.elim
 split at h
 case h_2=>exact h.elim
 rename_i xs hp;exact⟨_,_,xs,rfl,rfl,hp,h.1,h.2.1,h.2.2.1,h.2.2.2⟩
theorem Xa:Si X WJ:=Mt.mono λx lo hi H Q h=>by
 unfold WJ at h
 split at h
 case h_2=>exact h.elim
 split at h
 case h_2=>exact h.elim
 rename_i xs hp;exact⟨_,xs,rfl,kO.of hp,h⟩
theorem VD:Si X (QW X.K):=Mt.mono λx lo hi H Q h=>by
 unfold QW at h
 split at h
 case h_2=>exact h.elim
 obtain⟨xs,hp,h⟩:=h;exact⟨_,xs,rfl,hp,h⟩
theorem S_(h:PE X e te):PO X (some e) (N0 te):=by
 intro pins s σ H Q I hw;rw[evalPart_some];refine mJ (h pins s σ H _ I hw) λu s1=>qv λx H1 I1 r1 q1=> ?_
 try dsimp only at q1
 split at q1
 case h_2=>exact q1.elim
 rename_i i;obtain⟨t,rfl⟩:=r1;exact⟨some i,H1,I1,.int i t,q1⟩
theorem N3:WD X "list.append" CD:=λpins s σ H x xs v us Q I rx rxs h=>by
 unfold CD at h
 cases x<;>try exact h.elim
 rename_i l;rcases xs with _|⟨y,xs⟩<;>try exact h.elim
 rcases xs with _|⟨z,xs⟩<;>try exact h.elim
 dsimp only at h
 cases hp:H l<;>rw[hp]at h<;>try exact h.elim
 rename_i o
 cases o<;>try exact h.elim
 rename_i ys;exact M_ pins s σ H _ _ v us Q I rx rxs ⟨_,ys,_,rfl,rfl,hp,h.1,h.2⟩
theorem Tw{H:Hp}{a:Addr}{kvs:List (Key×V)}(e:H a=some (.dK kvs)):XX H a:= .inl ⟨kvs,.inl e⟩
theorem S0(hu:X.A.units+1<cLine)(ho:PE X o td)(hi:PE X i ty)(hs:SJ i):PE X (.Subscript o i pos) (IL td ty):=by
 intro pins s σ H Q I h;refine Sd PySem.F.slot_dict_getitem.lookup hs (mJ (ho pins s σ H _ I h) λu s1 ⟨x,H1,I1,rx,q1⟩=>mJ (hi pins s1 σ H1 _ I1 q1) λiv s2 ⟨y,H2,I2,ry,q2⟩=> ?_)
 try dsimp only at q2
 split at q2
 case h_2=>exact q2.elim
 rename_i a _
 split at q2
 case h_2=>exact q2.elim
 rename_i kvs k ea ek
 split at q2
 case h_2=>exact q2.elim
 rename_i v ev;have ey:=A1 ek;subst ey;obtain rfl:u=aO a:=rx;have g:Ez H2 a (kV k) (some v):=ev▸Ez.k ea;exact⟨IU I2 g,MM hu I2 g ry λw' s3 I3 rw'=>⟨v,H2,I3,rw',q2⟩⟩
theorem S2(hu:X.A.units+1<cLine)(ho:PE X o td)(hi:PE X i ty)(hv:PE X value tv)(hs:swapsWith value (some (.Subscript o i pos')) pos.line X.env=pure false):
  PS X (.Assign [.Subscript o i pos'] value pos) (NX td ty tv):=by
 intro pins s σ H D I h;refine wpAny_Assign_Subscript (mJ (hv pins s σ H _ I h) λr s1 ⟨v,H1,I1,rv,q1⟩=>mJ (ho pins s1 σ H1 _ I1 q1) λu s2 ⟨x,H2,I2,rx,q2⟩=>mJ (hi pins s2 σ H2 _ I2 q2) λiv s3 ⟨y,H3,I3,ry,q3⟩=> ?_) hs
 try dsimp only at q3
 split at q3
 case h_2=>exact q3.elim
 rename_i a _
 split at q3
 case h_2=>exact q3.elim
 rename_i kvs k ea ek;have ey:=A1 ek;subst ey;obtain rfl:u=aO a:=rx;exact MN hu I3 (Qp.k ea q3.1) ry rv λs4 I4=>⟨σ,_,I4,q3.2⟩
end
section
variable{X:Cx}{e o:Expr}{es:List Expr}{to:TE}{t:TA}{apos cpos:Pos}{r:V->List V->Hp->VK->Prop}
theorem W5{id:String}{name:Str}(slot:Slot "list" name id)(hty:typeOf (.builtin id)=pure (.type "method_descriptor"))(hm:XZ X id r)(ho:PE X o to)(ha:PA X (e::es) t)(hns:(e::es).all notStar=true:=by rfl)
  (hbase:attributeBase o name X.env (eval o X.env)=eval o X.env:=by rfl)
  (hfew:((backTo cpos (starEach (e::es) X.env)).all (λx=> !x.1)&&(backToKw cpos (keywordEach [] X.env)).all (λx=>x.1.isSome)
   &&decide ((e::es).length+([]:List Keyword).length+(if ([]:List Keyword).isEmpty then 0 else 1)<30))=true:=by rfl)
  (hline:(apos.endLine==cpos.line)=true:=by rfl):PE X (.Call (.Attribute o name apos) (e::es) [] cpos) (W0 r to t):=by
 intro pins s σ H Q I h;have hs:starEach (e::es) X.env=(false,eval e X.env)::starEach es X.env:=n_ (by rw[bF,bf]at hns;exact hns.1);have hplain:(backTo cpos (starEach es X.env)).any (·.1)=false:=pY (by rw[bF,bf]at hns;exact hns.2);refine wpAny_Call_method_late hbase hfew hline rfl (mJ (ho pins s σ H _ I h) λv s1=>qv λx H1 I1 r1 q1=> ?_)
 try dsimp only at q1
 split at q1
 case h_2=>exact q1.elim
 rename_i a
 split at q1
 case h_2=>exact q1.elim
 rename_i ys ea;have ty:Yf X.K "list" (.ref a) H1:= .inl ⟨rfl,ys,kO.of ea⟩;obtain⟨h1,h2⟩:=UP I1 r1 ty;refine⟨"list",id,PySem.F.plainAttrs_list,slot,hty,h1,h2,?_⟩;have hA:=ha cpos pins s1 σ H1 _ I1 q1;rw[hs]at hA⊢;refine fW (by show(false ||(backTo cpos (starEach es X.env)).any (·.1))=false;rw[hplain]<;>rfl) (gD ?_);exact mJ hA λus s2=>qv λvs H2 I2 r2 q2=>hm pins s2 σ H2 _ vs v us Q I2 r1 r2 q2
end
section
variable{X:Cx}{ca:Bool}{k:Nat}{f C:Addr}{fd:FuncData}{ps:List Str}{sp:Sp}{E:St->XK}{m:Str}{pos apos:Pos}{e o:Expr}{es:List Expr}{ta:TE}{t:TA}
theorem S9{pl:Sem Bool}(he:PE X o ta)(c:Ex X.K C)(hm:Meth X.K C m f)(F:mS X.prog X.w X.K X.mg X.base (uv X.prog X.w) ca k f fd ps sp)(hr:lM ca k X.A)(hb:Binds X.K fd ps [])(hx:Exc X E)(ha:PA X (e::es) t)
  (hns:(e::es).all notStar=true:=by rfl)
  (ht:eval (.Call (.Attribute o m apos) (e::es) [] pos) X.env=(do
   let ov←eval o X.env
   standAt apos.atName
   let (f,first)←holding [ov] (getMethod ov m pl)
   callWith pos f first (backTo pos (starEach (e::es) X.env)) (backToKw pos (keywordEach [] X.env))):=by rfl):
  PE X (.Call (.Attribute o m apos) (e::es) [] pos) (Bp C m sp E ta t):=by
 intro pins s σ H Q I h;have hst:starEach (e::es) X.env=(false,eval e X.env)::starEach es X.env:=n_ (by rw[bF,bf]at hns;exact hns.1);have hpl:(backTo pos (starEach es X.env)).any (·.1)=false:=pY (by rw[bF,bf]at hns;exact hns.2);refine eV (pl:=pl) (mJ (he pins s σ H _ I h) λu s1=>qv λx H1 I1 rx q=> ?_) ht
 try dsimp only at q
 split at q
 case h_2=>exact q.elim
 rename_i a
 split at q
 case h_2=>exact q.elim
 rename_i C' dx fs ea;obtain⟨rfl,l,q⟩:=q;obtain rfl:u=aO a:=rx;refine y_ I1 ea c hm l ?_;refine eA (first:=[.ref a]) (h₀:=X.base) I.ok.mod.U1 hm.kp (mJ (ha pos pins s1 σ H1 _ I1 q) λus s2=>qv λvs H2 I2 r q2=>⟨I2.IB,?_⟩) hst hpl;exact Hz (us:= .ref a::us) (vs:= .ref a::vs) F hr hb hx I2 (.cons rfl r) q2
theorem QZ{pl:Sem Bool}(he:PE X o ta)(c:Ex X.K C)(hm:Meth X.K C m f)(F:mS X.prog X.w X.K X.mg X.base (uv X.prog X.w) ca k f fd ps sp)(hr:lM ca k X.A)(hb:Binds X.K fd ps [])(hx:Exc X E)
  (ht:eval (.Call (.Attribute o m apos) [] [] pos) X.env=(do
   let ov←eval o X.env
   standAt apos.atName
   let (f,first)←holding [ov] (getMethod ov m pl)
   callWith pos f first (backTo pos (starEach [] X.env)) (backToKw pos (keywordEach [] X.env))):=by rfl):
  PE X (.Call (.Attribute o m apos) [] [] pos) (Bp C m sp E ta Ip):=by
 intro pins s σ H Q I h;refine eV (pl:=pl) (mJ (he pins s σ H _ I h) λu s1=>qv λx H1 I1 rx q=> ?_) ht
 try dsimp only at q
 split at q
 case h_2=>exact q.elim
 rename_i a
 split at q
 case h_2=>exact q.elim
 rename_i C' dx fs ea;obtain⟨rfl,l,q⟩:=q;obtain rfl:u=aO a:=rx;refine y_ I1 ea c hm l ?_;exact gR (first:=[.ref a]) I1.IB hm.kp (Hz (us:=[.ref a]) (vs:=[.ref a]) F hr hb hx I1 (.cons rfl .nil) q)
end
theorem jo.upd{H:Hp}{p:Addr}{o:HO}(h:H p=none):jo H (Internal.upd H p o):=λb u e=>by rw[i7 (i4 e h)];exact e
theorem jT{H:Hp}{p b:Addr}{o:HO}(h:Internal.upd H p o b=none):b≠p/\H b=none:=by
 by_cases z:b=p
 ·subst z;rw[i8]at h;cases h
 ·exact⟨z,by rw[i7 z]at h;exact h⟩
theorem uQ(n:Nat)(x:V):(ak n [x]).flatten=ak n x:=by
 induction n with
 |zero=>rfl
 |succ n ih=>rw[cN,dP,ih,cN];rfl
theorem Og{ws:List Int}{i k:Int}(h0:0<=i)(h1:0<=k)(h2:i+k<=ws.length):w_ (ws.map V.int) (some i) (some (i+k))=((ws.drop i.toNat).take k.toNat).map V.int:=by
 obtain⟨a,rfl⟩:∃a:Nat,i=a:=⟨i.toNat,by lia⟩;obtain⟨b,rfl⟩:∃b:Nat,k=b:=⟨k.toNat,by lia⟩;have e:((a:Int)+(b:Int))=((a+b:Nat):Int):=by lia
 unfold w_;rw[e,HT.HB,HT.HB,aa,e8 (by lia),e8 (by lia),aU,aU,gI,eS,show a+b-a=b by lia]
theorem SS{ks:List Int}{t:Nat}(h:t<ks.length):qh (ks.map V.int) (t:Int)=some (.int (ks.getD t 0)):=by
 rw[AM,ai,ab h,ae,ab h];rfl
theorem jo.put{H H':Hp}{q:Addr}{o:HO}(s:jo H H')(h:H q=none):jo H (Internal.upd H' q o):=λb u e=>by rw[i7 (i4 e h)];exact s b u e
section
variable{prog:Program}{w:World}{A:Around}{R:Result->Shared->Prop}{s:Shared}
theorem uM{elt target iter:Expr}{ifs:List Expr}{scope:Scope}{pos:Pos}{it acc:Value}{env:Env}(I:Nat->Shared->Prop)
  (turn:∀n s,I n s->wpAny (model prog w) A (pyNext it) (λr s₁=>match r with
   |none=>R (.ok .next) s₁
   |some v=>wpAny (model prog w) A (letOwnedTupleGo target it v) (λ_ s₁'=>wpAny (model prog w) A (assign target env v) (λ_ s₂=>
     wpAny (model prog w) A (forIn ifs true λc r=>if r=true then do let ok←isTrue c env (eval c env);pure (dG ok) else pure (dG r)) (λok s₃=>
      if ok=true then wpAny (model prog w) A (eval elt env) (λx s₄=>
       wpAny (model prog w) A (call (.builtin "list.append") [acc,x]) (λ_ s₅=>∃m,m<n/\I m s₅) (λ_ _=>False) s₄) (λ_ _=>False) s₃
      else∃m,m<n/\I m s₃) (λ_ _=>False) s₂) (λ_ _=>False) s₁') (λ_ _=>False) s₁) (λ_ _=>False) s)
  (n:Nat) (h:I n s):
  codeAny (model prog w) A (.compLoop (.ListComp elt [⟨target,iter,ifs,0⟩] scope pos) 0 it acc env) R s:=by
 refine codeAny_loop rfl I (λn s hI=> ?_) n h;show wpAny _ A ((compTurn (.ListComp elt [⟨target,iter,ifs,0⟩] scope pos) 0 it acc env).onRaise (λx=>do noteFrame x env;theTreesLotGoes x)) _ _ s;refine wpAny_noted ?_;rw[compTurn_list];refine wpAny_bind (wpAny_standAt (wpAny_bind (wpAny_mono (turn n s hI) (λr s₁ h₁=> ?_) λ_ _ h'=>h'.elim)))
 cases r with
 |none=>exact wpAny_pure h₁
 |some v=>
  refine wpAny_bind (wpAny_mono h₁ (λ_ s₁' h₁'=> ?_) λ_ _ h'=>h'.elim);refine wpAny_bind (wpAny_mono h₁' (λ_ s₂ h₂=>wpAny_bind (wpAny_mono h₂ (λok s₃ h₃=> ?_) λ_ _ h'=>h'.elim)) λ_ _ h'=>h'.elim)
  cases ok with
  |false=>exact wpAny_pure ⟨rfl,h₃⟩
  |true=>
   exact wpAny_bind (wpAny_bind (wpAny_mono h₃ (λx s₄ h₄=>wpAny_bind (wpAny_mono h₄ (λ_ s₅ h₅=>wpAny_pure (wpAny_pure ⟨rfl,h₅⟩)) λ_ _ h'=>h'.elim)) λ_ _ h'=>h'.elim))
end
noncomputable def Dg (env:Env) (cs:List (Str×Addr)):List (Str×NameKind)->List (Str×Addr)
 | []=>cs
 |(n,k)::r=>Dg env (if k== .free then(n,(env.cells.lookup n).getD 0)::cs else cs) r
noncomputable abbrev GF (scope:Scope) (env:Env):List (Str×Addr):=Dg env [] scope.names
theorem Dh{scope:Scope}{env:Env}(h:∀y∈scope.names,y.2= .free->∃c,env.cells.lookup y.1=some c):closureFor scope env=pure (GF scope env):=by
 have go:∀(l:List (Str×NameKind)) (cs:List (Str×Addr)),(∀y∈l,y.2= .free->∃c,env.cells.lookup y.1=some c)->
   (forIn l cs λ(x:Str×NameKind) (r:List (Str×Addr))=>match x with
    |(name,kind)=>if (kind== .free)=true then do let c←cellOf env name;pure (dG ((name,c)::r)) else pure (dG r):Sem (List (Str×Addr)))=pure (Dg env cs l):=by
  intro l
  induction l with
  |nil=>intro cs _;rfl
  |cons y l ih=>
   intro cs hy;obtain⟨n,k⟩:=y;rw[iH]
   cases hk:(k==cD) with
   |true=>
    obtain⟨c,hc⟩:=hy (n,k) ax (by simpa using hk);have e:cellOf env n=pure c:=by unfold cellOf;rw[show env.cells.lookup n=some c from hc]
    simp only[if_true,e,pure_bind,Dg,hk,show env.cells.lookup n=some c from hc,iC];exact ih _ λz hz=>hy z (ao _ hz)
   |false=>
    simp only[if_false,dF,pure_bind,Dg,hk];exact ih _ λz hz=>hy z (ao _ hz)
 unfold closureFor;have:=go scope.names [] h;simp only[bind_pure_comp,pure_bind]at this⊢
 first|exact this|(rw[this];rfl)|(simpa using this)
theorem wY{env:Env}{y:Str}{c:Addr}:∀{l:List (Str×NameKind)} {cs:List (Str×Addr)},(Dg env cs l).lookup y=some c->cs.lookup y=some c∨((y,cD)∈l/\c=(env.cells.lookup y).getD 0)
 | [],cs,h=> .inl h
 |(n,k)::r,cs,h=>by
  rcases wY (l:=r) h with h1|⟨h1,e⟩
  ·cases hk:(k==cD) with
   |true=>
    rw[hk,if_pos rfl,cU]at h1
    cases hy:y==n with
    |true=>
     rw[hy]at h1;have e1:y=n:=by simpa using hy
     have e2:k= .free:=by simpa using hk
     subst e1 e2;exact .inr ⟨ax,(aY h1).symm⟩
    |false=>rw[hy]at h1;exact .inl h1
   |false=>rw[hk]at h1;exact .inl (by simpa using h1)
  ·exact .inr ⟨ao _ h1,e⟩
theorem Bq{env:Env}{y:Str}:∀{l:List (Str×NameKind)} {cs:List (Str×Addr)},((y,cD)∈l∨∃c,cs.lookup y=some c)->∃c,(Dg env cs l).lookup y=some c
 | [],cs,h=>h.elim (λz=>by cases z) id
 |(n,k)::r,cs,h=>by
  refine Bq (l:=r) ?_;rcases h with h|⟨c,h⟩
  ·rcases List.mem_cons.mp h with e|h
   ·cases e
    exact .inr ⟨(env.cells.lookup y).getD 0,by rw[if_pos (by decide),cU];simp⟩
   ·exact .inl h
  ·refine .inr ?_
   cases hk:(k==cD) with
   |false=>exact⟨c,by simpa using h⟩
   |true=>
    rw[if_pos rfl,cU]
    cases hy:y==n with
    |true=>exact⟨_,rfl⟩
    |false=>exact⟨c,h⟩
theorem lookup_mem{y:Str}{k:NameKind}:∀{l:List (Str×NameKind)},l.lookup y=some k->(y,k)∈l
 | [],h=>by cases h
 |(n,k')::r,h=>by
  rw[cU]at h
  cases hy:y==n with
  |true=>
   rw[hy]at h;have e1:y=n:=by simpa using hy
   subst e1
   cases h
   exact ax
  |false=>rw[hy]at h;exact ao _ (lookup_mem h)
structure oa(fsc scope:Scope)(x:List Str)(N2:List Str):Prop where
 kind:scope.kind= .function
 VO:fsc.kind= .function
 own:∀z∈x,scope.names.lookup z=some .local
 DM:∀y∈scope.names,y.2≠ .cell
 locs:∀y∈scope.names,y.2= .local->scope.names.lookup y.1=some .local
 Ww:∀y∈scope.names,y.2= .free->¬y.1∈x
 cells:∀y∈scope.names,y.2= .free->fsc.names.lookup y.1=some .cell
 nd:(x++N2).Nodup
 wA:∀y∈N2,scope.names.lookup y=some .free
theorem Bb{env:Env}(hk:env.scope.kind= .function):∀{names:List (Str×NameKind)} {y:Str},names.lookup y=some .free->env.kindOf y=some .cell->
  (names.map λ(n,k)=>if (k==cD&&env.scope.kind== .function&&env.kindOf n==some .cell) then(n,iR) else(n,k)).lookup y=some .cell
 | [],_,h,_=>by simp at h
 |(n,k)::r,y,h,hc=>by
  have ih:= @Bb env hk r y;show aX y ((if (k==cD&&env.scope.kind== .function&&env.kindOf n==some .cell)=true then(n,iR) else(n,k))::_)=_
  cases hy:y==n with
  |true=>
   have e1:y=n:=by simpa using hy
   subst e1;simp only[cU,hy]at h
   cases h
   simp[hk,hc]
  |false=>
   simp only[cU,hy]at h;by_cases hq:(k==cD&&env.scope.kind== .function&&env.kindOf n==some .cell)=true
   ·rw[if_pos hq];simp only[cU,hy];exact ih h hc
   ·rw[if_neg hq];simp only[cU,hy];exact ih h hc
theorem JF{scope:Scope}{env:Env}{y:Str}(hn:∀z∈scope.names,z.2≠ .cell)(h:(relabel scope env).names.lookup y=some .cell∨(relabel scope env).names.lookup y=some .free):(y,cD)∈scope.names:=by
 have go:∀{k:NameKind},(y,k)∈(relabel scope env).names->k= .cell∨k= .free->(y,cD)∈scope.names:=λ{k} hm hk=>by
  obtain⟨⟨n,k0⟩,hz,e⟩:=List.mem_map.mp hm;dsimp only at e
  split at e
  ·rename_i hq;have e1:n=y:=congrArg au e;rw[bf,bf]at hq;have e2:k0= .free:=by simpa using hq.1.1
   rw[←e1,←e2];exact hz
  ·have e1:n=y:=congrArg au e;have e2:k0=k:=congrArg bN e;rcases hk with rfl|rfl
   ·exact absurd e2 (hn _ hz)
   ·rw[←e1,←e2];exact hz
 rcases h with h|h
 ·exact go (lookup_mem h) (.inl rfl)
 ·exact go (lookup_mem h) (.inr rfl)
noncomputable def AR (σ:St) (js:List Nat):St:=js.map λj=>(σ[j]?).join
noncomputable abbrev Cx.vY (X:Cx) (scope:Scope) (N:List Str) (x:List Str) (s:Shared) (H:Hp) (C:Addr) (ex:List Addr):Cx:=
 {X with N:=N,s₀:=s,H₀:=H,env:=compEnvC scope (GF scope X.env) C X.env,outer:=X.stack,ex:=ex,fn:=λy=>x.contains y,pn:=[],xe:=λ_ _=>False}
def uw(J:It)(wA:St)(tt:TT)(te:TE)(H1:Hp)(Q:VK):Prop:=
 ∃W:Nat->Nat->List V->Hp->Prop,(∃m,W 0 m [] H1)/\∀i m ys H,W i m ys H->ys.length<=sizeLine/\
  ((J.stop i H/\∀p,H p=none->Q (.ref p) (upd H p (.lst ys)))∨
   (J.go i H/\∀x H',J.SD i H x H'->tt (some x::wA) H' λb H2=>if b=true then te (some x::wA) H2 λy H3=>∃m',m'<m/\W (i+1) m' (ys++[y]) H3 else∃m',m'<m/\W (i+1) m' ys H2))
def J6(js:List Nat)(wi:TI)(tt:TT)(te:TE):TE:=λσ H Q=>wi σ H λJ H1=>uw J (AR σ js) tt te H1 Q
def EC(X:Cx)(ifs:List Expr)(tt:TT):Prop:=
 ∀(pins:List (Addr×Obj)) (s:Shared) (σ:St) (H:Hp) (Q:Bool->Hp->Prop),Inv X pins σ H s->tt σ H Q->
  wpAny (model X.prog X.w) X.A (forIn ifs true λc r=>if r=true then do let ok←isTrue c X.env (eval c X.env);pure (dG ok) else pure (dG r)) (TP X pins σ Q) X.xe s
def UL:TT:=λ_ H Q=>Q true H
theorem Pn{X:Cx}:EC X [] UL:=λpins s σ H Q I h=>wpAny_tests_nil ⟨H,I,h⟩
theorem Po{X:Cx}{c:Expr}{tt:TT}(h:PT X c tt):EC X [c] tt:=λpins s σ H Q I q=>wpAny_tests_one (h pins s σ H Q I q)
section
variable{X:Cx}{pins:List (Addr×Obj)}{σ:St}{H:Hp}{s:Shared}{scope fsc:Scope}{x:List Str}{N2:List Str}{js:List Nat}{fp:List Addr}{C:Addr}
theorem wZ(S:oa fsc scope x N2)(hf:X.env.scope=fsc)(ok:X.Ok){y:Str}{c:Addr}(e:(GF scope X.env).lookup y=some c):X.env.cells.lookup y=some c:=by
 rcases wY e with z|⟨z,e2⟩
 ·cases z
 ·obtain⟨c',hc⟩:=ok.has y (.inl (show X.env.scope.names.lookup y=some .cell by rw[hf];exact S.cells _ z rfl));rw[hc]at e2;rw[hc,e2];rfl
theorem SW(S:oa fsc scope x N2)(hf:X.env.scope=fsc)(I:Inv X pins σ H s)(hC:s.heap.objs.size<=C)(f:∀b∈fp,AL X pins H b)(ho:∀b∈fp,∃o,s.heap.get? b=some o):(X.vY scope (x++N2) x s H C fp).Ok where
 mod:=I.ok.mod
 kind:=S.kind
 glob:=I.ok.glob
 blt:=I.ok.blt
 above:=hC
 inj:=λy z c e1 e2=>I.ok.inj y z c (wZ S hf I.ok e1) (wZ S hf I.ok e2)
 has:=λy h=>Bq (.inl (JF S.DM h))
 Tb:=λy c h e=>by
  have ey:y∈x:=by simpa using h
  rcases wY e with z|⟨z,_⟩
  ·cases z
  ·exact absurd ey (S.Ww _ z rfl)
 hd:=I.ok.hd
 frames:=I.ok.frames
 Ws:= .inl rfl
 Xc:=λb hb=>by
  obtain⟨o,e⟩:=ho b hb;exact⟨aK (av (aD e) hC),λy c ec=>(f b hb).2.2.2.2.1 y c (wZ S hf I.ok ec)⟩
 bs:=I.bs
 MD:=aA I.ok.MD I.sz
 DN:=λb o e hb=>by
  rcases (f b hb).2.2.2.1 with z|z
  ·exact I.ok.DN b o e z
  ·exact absurd (av (aD e) (aA I.ok.MD z)) (bw _)
 Om:=λb hb hm=>by
  rcases List.mem_cons.mp (I.En b hm) with z|z
  ·exact(f b hb).2.1 z
  ·exact(f b hb).2.2.1 z
 wm:=I.stack
 Ql:=I.we
theorem QG(S:oa fsc scope x N2)(hf:X.env.scope=fsc)(hjs:js.map (λj=>X.N[j]?)=N2.map some)(I:Inv X pins σ H s)(hC:s.heap.objs.size<=C)(f:∀b∈fp,AL X pins H b)(ho:∀b∈fp,∃o,s.heap.get? b=some o)
  {h':Heap} {t':Nat} {m:Str->Option Value} (hm:h'.Ns C m) (k:∀b o,s.heap.get? b=some o->h'.get? b=some o):Inv (X.vY scope (x++N2) x s H C fp) [] (ak x.length none++AR σ js) H {s with heap:=h',toks:=t'} where
 ok:=SW S hf I hC f ho
 os:=rfl
 bare:=I.bare
 base:=Un.kept k
 loc:=⟨m,hm,λi y v e1 e2 e3=>by
  by_cases hi:i<x.length
  ·have e2:(ak x.length none++AR σ js)[i]? =some (some v):=e2;rw[bJ (by rw[ba];exact hi),b_,if_pos hi]at e2
   cases e2
  ·have e1:(x++N2)[i]? =some y:=e1;have e2:(ak x.length none++AR σ js)[i]? =some (some v):=e2;rw[bD (by lia)]at e1;rw[bD (by rw[ba];lia),ba]at e2;generalize i-x.length=i at e1 e2;unfold AR at e2;rw[ai]at e2;obtain⟨j,hj,e2⟩:=Option.map_eq_some_iff.mp e2;have e4:X.N[j]? =some y:=by
    have q:=congrArg (λl=>l[i]?) hjs;simp only[ai,hj,e1,fb]at q;exact aY q
   have hy:y∈N2:=aJ e1;have hfree:=S.wA y hy;have hcell:X.env.scope.names.lookup y=some .cell:=by rw[hf];exact S.cells _ (lookup_mem hfree) rfl
   have e5:σ[j]? =some (some v):=by
    cases q:σ[j]? with
    |none=>rw[q]at e2;cases e2
    |some o=>rw[q]at e2;have:o=some v:=e2;rw[this]
   obtain⟨m0,_,hl⟩:=I.loc;obtain⟨u,r,l⟩:=hl j y v e4 e5 (.inr (.inl hcell));refine⟨u,r,.inr ⟨.inl (Bb (by rw[hf];exact S.VO) hfree hcell),?_⟩⟩;rcases l with ⟨z,_⟩|⟨_,c,ec,o,eo,ed⟩
   ·have z':X.env.scope.names.lookup y=some .local:=z;rw[hcell]at z';cases z'
   ·obtain⟨c',hc'⟩:=Bq (env:=X.env) (cs:=[]) (.inl (lookup_mem hfree));have e6:=wZ S hf I.ok hc';rw[ec]at e6;cases e6
    exact⟨c,hc',o,k _ _ eo,ed⟩⟩
 cell:=λy c e=>by
  obtain⟨v,o,eo,ed⟩:=I.cell y c (wZ S hf I.ok e);exact⟨v,o,k _ _ eo,ed⟩
 free:=I.ko.fresh hC
 qe:=λy c e=>I.qe y c (wZ S hf I.ok e)
 pin:=λp hp=>by simp at hp
 ko:=I.ko.kept k
 len:=by
  have q:=congrArg dN hjs;simp only[aa]at q;simp[AR,q]
def Gp(J:It)(k:Nat)(g:TG)(wA:St)(tt:TT)(te:TE)(H1:Hp)(Q:VK):Prop:=
 ∃W:Nat->Nat->List V->Hp->Prop,(∃m,W 0 m [] H1)/\∀i m ys H,W i m ys H->ys.length<=sizeLine/\
  ((J.stop i H/\∀p,H p=none->Q (.ref p) (upd H p (.lst ys)))∨
   (J.go i H/\∀x H',J.SD i H x H'->∀os:St,os.length=k->g x (os++wA) H' λσ2 H2=>(∃os':St,os'.length=k/\σ2=os'++wA)/\
    tt σ2 H2 λb H3=>if b=true then te σ2 H3 λy H4=>∃m',m'<m/\W (i+1) m' (ys++[y]) H4 else∃m',m'<m/\W (i+1) m' ys H3))
theorem LJ{J:It}{wA:St}{tt:TT}{te:TE}{H1:Hp}{Q:VK}(h:uw J wA tt te H1 Q):Gp J 1 (nZ 0) wA tt te H1 Q:=by
 obtain⟨W,w0,turn⟩:=h;refine⟨W,w0,λi m ys H hw=> ?_⟩;obtain⟨hz,alt⟩:=turn i m ys H hw;refine⟨hz,alt.imp id λ⟨go,step⟩=>⟨go,λx H' hy os ho=> ?_⟩⟩
 match os,ho with
 | [o],_=>exact⟨⟨[some x],rfl,rfl⟩,step x H' hy⟩
def Gm(K:af)(J:It)(wA:St)(tt:TT)(te:TE)(H1:Hp)(Q:VK):Prop:=
 ∃W:Nat->Nat->List V->Hp->Prop,(∃m,W 0 m [] H1)/\∀i m ys H,W i m ys H->ys.length<=sizeLine/\
  ((J.stop i H/\∀p,H p=none->Q (.ref p) (upd H p (.lst ys)))∨
   (J.go i H/\∀x H',J.SD i H x H'->∃a u v,x= .ref a/\Kd K H' a [u,v]/\
    tt (some u::some v::wA) H' λb H3=>if b=true then te (some u::some v::wA) H3 λy H4=>∃m',m'<m/\W (i+1) m' (ys++[y]) H4 else∃m',m'<m/\W (i+1) m' ys H3))
abbrev g2(K:af):TG:=Ov K 2 (wB (nZ 0) (wB (nZ 1) MP))
theorem IQ{K:af}{J:It}{wA:St}{tt:TT}{te:TE}{H1:Hp}{Q:VK}(h:Gm K J wA tt te H1 Q):Gp J 2 (g2 K) wA tt te H1 Q:=by
 obtain⟨W,w0,turn⟩:=h;refine⟨W,w0,λi m ys H hw=> ?_⟩;obtain⟨hz,alt⟩:=turn i m ys H hw;refine⟨hz,alt.imp id λ⟨go,step⟩=>⟨go,λx H' hy os ho=> ?_⟩⟩;obtain⟨a,u,v,ex,sq,st⟩:=step x H' hy
 match os,ho with
 | [o,o'],_=>exact⟨a,[u,v],ex,sq,rfl,u,[v],rfl,v,[],rfl,rfl,⟨[some u,some v],rfl,rfl⟩,st⟩
def Eo(K:af)(js:List Nat)(wi:TI)(tt:TT)(te:TE):TE:=λσ H Q=>wi σ H λJ H1=>Gm K J (AR σ js) tt te H1 Q
theorem Bd{C:Addr}{h h':Heap}(hs:d9 C h h'){b:Addr}{o:Obj}(hb:b≠C)(e:h.get? b=some o):h'.get? b=some o:=(hs.2 b hb).trans e
theorem GB{Y:Cx}{pl:List (Addr×Obj)}{σ':St}{H3:Hp}{s4:Shared}{h':Heap}{D:Addr}{ys:List V}{its:List Value}{n:Nat}(I:Inv X pins σ H s)(f:∀b∈fp,AL X pins H b)
  (hY:Y=X.vY scope (x++N2) x s H C fp) (hC:s.heap.objs.size<=C) (hD:s.heap.objs.size<=D) (hDC:D≠C) (I4:Inv Y pl σ' H3 s4) (hs:d9 C s4.heap h') (hD3:H3 D=none)
  (eD:s4.heap.get? D=some {cls:= .type "list",data:= .seq its.toArray n}) (rv:Vals ys its) (hz:ys.length<=sizeLine):Inv X pins σ (upd H3 D (.lst ys)) {s4 with heap:=h'}:=by
 subst hY;have ne:∀b o,s.heap.get? b=some o->b≠C:=λb o e=>aK (av (aD e) hC);have neD:∀b o,s.heap.get? b=some o->b≠D:=λb o e=>aK (av (aD e) hD);have fC:H3 C=none:=I4.free;have un:Un (B9 X.stack) fp H H3 s.heap h':=⟨λb o e n hb hx=>Bd hs (ne b o e) (I4.base.keep b o e n hb hx),λb o e n hb hx=>by
   obtain⟨sl,e1⟩:=I4.base.slot b o e n hb hx;exact⟨sl,Bd hs (ne b o e) e1⟩,I4.base.free,λb o e hx=>by
   obtain⟨o',e1⟩:=I4.base.there b o e hx;exact⟨o',Bd hs (ne b o e) e1⟩,I4.base.wu,I4.base.uC,I4.base.vV⟩
 have ko:qR X.prog X.w H3 h':=λb ob e=>(I4.ko b ob e).sj (λc w' hc q=>by
  refine(hs.2 c ?_).trans q;rintro rfl;rcases hc with rfl|hc
  ·rw[fC]at e;cases e
  ·rw[fC]at hc;cases hc) (λ_ q=>q) λ_ _ q=>q
 have I6:Inv X pins σ H3 {s4 with heap:=h'}:=I.Sl (ch:=fp) I4.os un ko I4.bare λb hb=>⟨(f b hb).2.2.2.1,(f b hb).2.1,(f b hb).2.2.2.2.1,(f b hb).2.2.2.2.2⟩;have h0:X.s₀.heap.get? D=none:=by
  cases z:X.s₀.heap.get? D with
  |none=>rfl
  |some o=>exact absurd (av (aD z) (aA I.sz hD)) (bw _)
 exact I6.adopt (a:=D) (o:= .lst ys) hD3 ⟨hz,its,n,rv,Bd hs hDC eD⟩ h0 (ah (aK (av I.lt hD))) (λy c ec z=>by
  obtain⟨v,o,eo,_⟩:=I.cell y c ec;exact neD c o eo z) λp hp z=>neD p.1 p.2 (I.pin p hp).1 z
theorem Br{elt iter tg:Expr}{pos p0:Pos}{g:TG}{CW:It->Hp->Prop}{ifs:List Expr}{wi:TI}{tt:TT}{te:TE}{use:Option (Value->Sem Unit)}{R:Value->Shared->Prop}{Q:VK}(S:oa fsc scope x N2)(hf:X.env.scope=fsc)(hjs:js.map (λj=>X.N[j]?)=N2.map some)(hc:X.calm=true)(hi:PI X tg iter wi)(hg:∀s H C ex,PG (X.vY scope (x++N2) x s H C ex) tg g)
  (ht:∀s H C ex,EC (X.vY scope (x++N2) x s H C ex) ifs tt) (he:∀s H C ex,PE (X.vY scope (x++N2) x s H C ex) elt te) (hs:∀v,foldedSetIterable iter X.env v=pure v) (I:Inv X pins σ H s) (hCW:∀J H1,CW J H1->Gp J x.length g (AR σ js) tt te H1 Q) (h:wi σ H CW)
  (fin:∀(fp:List Addr) (s2 s4:Shared) (H2 H3:Hp) (C D:Addr) (Y:Cx) (pl:List (Addr×Obj)) (σ':St) (ys:List V) (its:List Value) (n:Nat),Inv X pins σ H2 s2->(∀b∈fp,AL X pins H2 b)->Y=X.vY scope (x++N2) x s2 H2 C fp->s2.heap.objs.size<=C->s2.heap.objs.size<=D->D≠C->
   Inv Y pl σ' H3 s4->H3 D=none->s4.heap.get? D=some {cls:= .type "list",data:= .seq its.toArray n}->Vals ys its->ys.length<=sizeLine->Q (.ref D) (upd H3 D (.lst ys))->compPost (model X.prog X.w) X.A X.xe use R (.ref D) C (.ok .next) s4):
  wpAny (model X.prog X.w) X.A (comprehension (.ListComp elt [⟨tg,iter,ifs,0⟩] scope pos) scope X.env p0 (newList []) false (eval iter X.env) use) R X.xe s:=by
 refine wpAny_comprehension_free (use:=use) (cl:=GF scope X.env) rfl hs (Dh λy hy e=>I.ok.has y.1 (.inl (show X.env.scope.names.lookup y.1=some .cell by rw[hf];exact S.cells y hy e))) S.kind S.locs ?_;refine wpAny_mono (hi pins s σ H _ I h) (λv s1 h1=>wpAny_mono h1 (λitv s2 h2=> ?_) λ_ _ z=>z) λ_ _ z=>z;obtain⟨it,fp,tn,J,H2,e,I2,T,st2,f2,hcw⟩:=h2;obtain⟨W,⟨m0,w0⟩,turn⟩:=hCW _ _ hcw;subst e;have ho2:∀b∈fp,∃o,s2.heap.get? b=some o:=λb hb=>let ⟨o,e,_⟩:=T.obj _ _ st2 b hb;⟨o,e⟩
 refine wpAny_newObj_type (wpAny_newFunctionEnv S.DM (by intro y hy;simp at hy) (λh₁ hns₁ hsb₁=> ?_) S.kind);dsimp only at hns₁ hsb₁⊢;generalize hH2:s2.heap.push {cls:= .type "list",dict:=none,data:= .seq ([]:List Value).toArray}=G at hns₁ hsb₁⊢;have hGs:G.objs.size=s2.heap.objs.size+1:=by rw[←hH2,gp]
 generalize hCe:G.objs.size=C at hns₁ hsb₁⊢;have hCs:C=s2.heap.objs.size+1:=hCe.symm.trans hGs;generalize hDe:s2.heap.objs.size=D at*;have hC:s2.heap.objs.size<=C:=by lia
 have hDC:D≠C:=by lia
 have leDC:D<=C:=by lia
 have old:∀b o,s2.heap.get? b=some o->h₁.get? b=some o:=λb o e=>by
  have hb:b<D:=hDe▸aD e;exact hsb₁.extBut b o (aK (av hb leDC)) (ay _ (hH2▸ay _ e))
 have eD1:h₁.get? D=some {cls:= .type "list",data:= .seq ([]:List Value).toArray}:=by
  refine hsb₁.extBut _ _ hDC (ay _ ?_);rw[←hH2,←hDe];exact bA _ rfl
 have I4:=QG (C:=C) (h':=h₁) (t':=s2.toks+([]:List (Str×Value)).length) S hf hjs I2 hC f2 ho2 hns₁ old;generalize hY:X.vY scope (x++N2) x s2 H2 C fp=Y at I4;have hYA:Y.A=X.A:=by rw[←hY]
 have hYp:Y.prog=X.prog:=by rw[←hY]
 have hYw:Y.w=X.w:=by rw[←hY]
 have hYK:Y.K=X.K:=by rw[←hY]
 have hYc:Y.calm=true:=by rw[←hY];exact hc
 have hYL:Y.env.locals=C:=hY▸rfl;have hYx:Y.xe=λ_ _=>False:=by rw[←hY]
 have hYe:Y.env=compEnvC scope (GF scope X.env) C X.env:=by rw[←hY]
 have hYs:Y.s₀.heap.objs.size=D:=by rw[←hY];exact hDe
 have hYpn:Y.pn=[]:=by rw[←hY]
 have fpD:∀b∈fp,b<D:=λb hb=>by
  obtain⟨o,e⟩:=ho2 b hb;exact hDe▸aD e
 have cel:∀y c,Y.env.cells.lookup y=some c->X.env.cells.lookup y=some c:=λy c e=>by
  rw[hYe]at e;exact wZ S hf I2.ok e
 have celD:∀y c,Y.env.cells.lookup y=some c->c≠D:=λy c e z=>by
  obtain⟨v,o,eo,_⟩:=I2.cell y c (cel y c e);have q:=aD eo;rw[hDe,z]at q;exact bw _ q
 have Dfs:D∉Y.fs:=by
  rw[←hY];intro hm;obtain⟨_,o,eo,_⟩:=I2.stack.mem hm;have q:=aD eo;rw[hDe]at q;exact bw _ q
 have stat:∀{H':Hp} {pl:List (Addr×Obj)},(∀b∈fp,H' b=none)->(∀p∈pl,p.1=D)->∀b∈fp,AL Y pl H' b:=λ{H' pl} hn hp b hb=>by
  refine⟨hn b hb,by rw[hYL];exact aK (av (fpD b hb) leDC),?_,.inl (by rw[←hY];exact hb),λy c e=>(f2 b hb).2.2.2.2.1 y c (cel y c e),λp hm=> ?_⟩
  ·rw[←hY];intro hm;rcases List.mem_cons.mp (I2.En b hm) with z|z
   ·exact(f2 b hb).2.1 z
   ·exact(f2 b hb).2.2.1 z
  ·rw[hYpn,fR]at hm;rw[hp p hm];exact(aK (fpD b hb)).symm
 have pinD:∀{σ':St} {H':Hp} {s':Shared} {o:Obj},Inv Y [] σ' H' s'->s'.heap.get? D=some o->(∀v,o.data≠ .cell v)->H' D=none->Inv Y [(D,o)] σ' H' s':=λ{σ' H' s' o} Iy e d n=>
  Iy.Ba λp hp=>by
   rw[az]at hp;subst hp;exact⟨e,n,by rw[hYL];exact hDC,Dfs,d⟩
 have pg:PG Y tg g:=by rw[←hY];exact hg _ _ _ _
 have ht':EC Y ifs tt:=by rw[←hY];exact ht _ _ _ _
 have he':PE Y elt te:=by rw[←hY];exact he _ _ _ _
 have loop:∀s₃:Shared,s₃={s2 with heap:=h₁,toks:=s2.toks+([]:List (Str×Value)).length}->
   codeAny (model X.prog X.w) X.A (.compLoop (.ListComp elt [⟨tg,iter,ifs,0⟩] scope pos) 0 (.ref it) (.ref D) (compEnvC scope (GF scope X.env) C X.env))
    (compPost (model X.prog X.w) X.A X.xe use R (.ref D) C) s₃:=by
  rintro s₃ rfl;refine uM (λn s'=>∃i ys os its k H',dN os=x.length/\Inv Y [] (os++AR σ js) H' s'/\tn i s'.heap/\(∀b∈fp,H' b=none)/\H' D=none/\s'.heap.get? D=some {cls:= .type "list",data:= .seq (its:List Value).toArray k}/\Vals ys its/\W i n ys H') ?_ m0
   ⟨0,[],ak x.length none,[],0,H2,ba,I4,T.keep _ _ _ st2 λb _ o e=>old b o e,λb hb=>(f2 b hb).1,I2.ko.fresh (by lia),eD1,.nil,w0⟩
  rintro n s3 ⟨i,ys,os,its,k,H3,hos,I3,st3,fr3,hD3,eD3,rv3,w3⟩;obtain⟨hz,alt⟩:=turn i n ys H3 w3;have I3p:=pinD I3 eD3 (λv z=>by cases z) hD3;rcases alt with ⟨stop,q⟩|⟨go,step⟩
  ·have h4:=T.done Y hYp hYw hYK hYc i _ s3 _ H3 (λ_ _=>False) I3p (stat fr3 λp hp=>by rw[az]at hp;subst hp;rfl) st3 stop;rw[hYA]at h4;refine wpAny_mono h4 (λr s4=>gB λhr I4'=> ?_) λ_ _ z=>z;subst hr;have pD:=I4'.pin (D,{cls:= .type "list",data:= .seq its.toArray k}) (aH _ (List.mem_singleton.mpr rfl));exact fin fp s2 s4 H2 H3 C D Y _ _ ys its k I2 f2 hY.symm hC (by lia) hDC I4' pD.2.1 pD.1 rv3 hz (q D pD.2.1)
  ·have h4:=T.item Y hYp hYw hYK hYc i _ s3 _ H3 (λ_ _=>False) I3p (stat fr3 λp hp=>by rw[az]at hp;subst hp;rfl) st3 go;rw[hYA]at h4;refine wpAny_mono h4 (λr s4 zq=> ?_) λ_ _ z=>z;obtain⟨u,hr,h4'⟩:=zq;subst hr;refine wpAny_mono h4' (λ_ s5 zq=> ?_) λ_ _ z=>z;obtain⟨xv,H5,I5,r5,y5,st5,fr5⟩:=zq;have I5':=I5.pinned (stat fr5 λp hp=>by rw[az]at hp;subst hp;rfl) (T.obj _ _ st5);have keepT:∀{σ7:St} {H7:Hp} {s7:Shared},Inv Y ([(D,{cls:= .type "list",data:= .seq its.toArray k})]++DV fp s5.heap) σ7 H7 s7->tn (i+1) s7.heap/\(∀b∈fp,H7 b=none)/\H7 D=none/\
     s7.heap.get? D=some {cls:= .type "list",data:= .seq its.toArray k}:=λ{σ7 H7 s7} I7=>by
    have pD:=I7.pin (D,{cls:= .type "list",data:= .seq its.toArray k}) (aH _ (aQ _ (List.mem_singleton.mpr rfl)));refine⟨T.keep _ _ _ st5 λb hb o e=>(I7.pin (b,o) (aH _ (aH _ (sN hb e)))).1,λb hb=> ?_,pD.2.1,pD.1⟩;obtain⟨o,e,d⟩:=T.obj _ _ st5 b hb;exact(I7.pin (b,o) (aH _ (aH _ (sN hb e)))).2.1
   have h6:=pg _ s5 _ H5 xv u _ I5' r5 (step xv H5 y5 os hos);rw[hYA,hYe,hYp,hYw,hYx]at h6;refine wpAny_mono h6 (λ_ s6 zq=> ?_) λ_ _ z=>z;obtain⟨σ6,H6,I6,⟨os',hos',e6⟩,q6⟩:=zq;subst e6;have h7:=ht' _ s6 _ H6 _ I6 q6;rw[hYA,hYe,hYp,hYw,hYx]at h7;refine wpAny_mono h7 (λb s7 zq=> ?_) λ_ _ z=>z;obtain⟨H7,I7,q7⟩:=zq
   cases b with
   |false=>
    rw[if_neg aR]at q7⊢;obtain⟨m',hm,w7⟩:=q7;obtain⟨k1,k2,k3,k4⟩:=keepT I7;exact⟨m',hm,i+1,ys,os',its,k,H7,hos',I7.Ba λp hp=>by simp at hp,k1,k2,k3,k4,rv3,w7⟩
   |true=>
    rw[if_pos rfl]at q7⊢;have h8:=he' _ s7 _ H7 _ I7 q7;rw[hYA,hYe,hYp,hYw,hYx]at h8;refine wpAny_mono h8 (λy s8 zq=> ?_) λ_ _ z=>z;obtain⟨yv,H8,I8,r8,m',hm,w8⟩:=zq;obtain⟨k1,k2,k3,k4⟩:=keepT I8;refine wpAny_list_append_plain (l:=D) (items:=its.toArray) ⟨k,k4⟩ (λh9 pl9 sb9=> ?_) (by rw[aL,←rv3.length];exact hz);obtain⟨k9,e9⟩:=pl9;have I9:Inv Y [] (os'++AR σ js) H8 {s8 with heap:=h9}:=(I8.Ba (pins':=[]) λp hp=>by simp at hp).turned (it:=D) (t':=s8.toks) (λb o hb e=>(sb9.2 b hb).trans e) k3 (by rw[hYL];exact hDC)
     (.inr (by rw[hYs];exact aq _)) celD (by rw[hYpn];intro p hp;simp at hp)
    exact⟨m',hm,i+1,ys++[yv],os',its++[y],k9,H8,hos',I9,T.keep _ _ _ k1 λb hb o e=>(sb9.2 b (aK (fpD b hb))).trans e,k2,k3,by rw[e9,List.push_toArray],rv3.snoc r8,w8⟩
 exact codeAny_compStart_list (loop _ rfl) (T.self _ 0 _ _ _ (T.keep _ _ _ st2 λb _ o e=>old b o e) (loop _ rfl))
theorem Pk{x:Str}{px:Pos}(S:oa fsc scope [x] N2){s:Shared}{H:Hp}{C:Addr}{ex:List Addr}:PG (X.vY scope (x::N2) [x] s H C ex) (.Name x px) (nZ 0):=
 CO (i:=0) S.nd rfl (.inl (lookup_relabel_local (S.own x ax))) (.inl (by show [x].contains x=true;simp))
theorem RD{x:Str}{elt iter:Expr}{px pos:Pos}{ifs:List Expr}{wi:TI}{tt:TT}{te:TE}(S:oa fsc scope [x] N2)(hf:X.env.scope=fsc)(hjs:js.map (λj=>X.N[j]?)=N2.map some)(hc:X.calm=true)(hi:PI X (.Name x px) iter wi)
  (ht:∀s H C ex,EC (X.vY scope (x::N2) [x] s H C ex) ifs tt) (he:∀s H C ex,PE (X.vY scope (x::N2) [x] s H C ex) elt te) (hs:∀v,foldedSetIterable iter X.env v=pure v:=by intro _;rfl):
  PE X (.ListComp elt [⟨.Name x px,iter,ifs,0⟩] scope pos) (J6 js wi tt te):=by
 intro pins s σ H Q I h;rw[eval_ListComp];refine Br (x:=[x]) (g:=nZ 0) (use:=none) S hf hjs hc hi (λ_ _ _ _=>Pk S) ht he hs I (λ_ _=>LJ) h λfp s2 s4 H2 H3 C D Y pl σ' ys its n I2 f2 hY hC hD hDC I4 hD3 eD rv hz q=> ?_;obtain⟨m,hn,_⟩:=I4.loc;rw[show Y.env.locals=C from hY▸rfl]at hn;exact⟨m,hn,λh' hs'=>⟨.ref D,_,GB (scope:=scope) (x:=[x]) (N2:=N2) I2 f2 hY hC hD hDC I4 hs' hD3 eD rv hz,rfl,q⟩⟩
theorem Mi{x1 x2:Str}{p1 p2 pt:Pos}{k:Nat}(hc:X.calm=true)(S:oa fsc scope [x1,x2] N2){s:Shared}{H:Hp}{C:Addr}{ex:List Addr}:PG (X.vY scope (x1::x2::N2) [x1,x2] s H C ex) (.Tuple [.Name x1 p1,.Name x2 p2] k pt) (g2 X.K):=
 Pm (X:=X.vY scope (x1::x2::N2) [x1,x2] s H C ex) hc
  (DU (CO (i:=0) S.nd rfl (.inl (lookup_relabel_local (S.own x1 ax))) (.inl (by show [x1,x2].contains x1=true;simp)))
   (DU (CO (i:=1) S.nd rfl (.inl (lookup_relabel_local (S.own x2 (ao _ ax)))) (.inl (by show [x1,x2].contains x2=true;simp))) Mj))
theorem Pa{x1 x2:Str}{elt iter:Expr}{p1 p2 pt pos:Pos}{k:Nat}{ifs:List Expr}{wi:TI}{tt:TT}{te:TE}(S:oa fsc scope [x1,x2] N2)(hf:X.env.scope=fsc)(hjs:js.map (λj=>X.N[j]?)=N2.map some)(hc:X.calm=true)(hi:PI X (.Tuple [.Name x1 p1,.Name x2 p2] k pt) iter wi)
  (ht:∀s H C ex,EC (X.vY scope (x1::x2::N2) [x1,x2] s H C ex) ifs tt) (he:∀s H C ex,PE (X.vY scope (x1::x2::N2) [x1,x2] s H C ex) elt te) (hs:∀v,foldedSetIterable iter X.env v=pure v:=by intro _;rfl):
  PE X (.ListComp elt [⟨.Tuple [.Name x1 p1,.Name x2 p2] k pt,iter,ifs,0⟩] scope pos) (Eo X.K js wi tt te):=by
 intro pins s σ H Q I h;rw[eval_ListComp];refine Br (x:=[x1,x2]) (g:=g2 X.K) (use:=none) S hf hjs hc hi (λ_ _ _ _=>Mi hc S) ht he hs I (λ_ _=>IQ) h λfp s2 s4 H2 H3 C D Y pl σ' ys its n I2 f2 hY hC hD hDC I4 hD3 eD rv hz q=> ?_;obtain⟨m,hn,_⟩:=I4.loc;rw[show Y.env.locals=C from hY▸rfl]at hn;exact⟨m,hn,λh' hs'=>⟨.ref D,_,GB (scope:=scope) (x:=[x1,x2]) (N2:=N2) I2 f2 hY hC hD hDC I4 hs' hD3 eD rv hz,rfl,q⟩⟩
theorem JB{x:List Str}{elt iter tg:Expr}{py pos spos:Pos}{g:TG}{CW:St->VK->It->Hp->Prop}{ifs:List Expr}{wi:TI}{tt:TT}{te:TE}{i:Nat}{y:Str}(hN:X.N.Nodup)(hy:X.N[i]? =some y)(hl:Loc X.env.scope y)
  (S:oa fsc scope x N2) (hf:X.env.scope=fsc) (hjs:js.map (λj=>X.N[j]?)=N2.map some) (hc:X.calm=true) (hi:PI X tg iter wi) (hg:∀s H C ex,PG (X.vY scope (x++N2) x s H C ex) tg g)
  (ht:∀s H C ex,EC (X.vY scope (x++N2) x s H C ex) ifs tt) (he:∀s H C ex,PE (X.vY scope (x++N2) x s H C ex) elt te) (hCW:∀{σ:St} (Q:VK) J H1,CW σ Q J H1->Gp J x.length g (AR σ js) tt te H1 Q) (hs:∀v,foldedSetIterable iter X.env v=pure v)
  (hsw:swapsWith (.ListComp elt [⟨tg,iter,ifs,0⟩] scope pos) (some (.Name y py)) spos.line X.env=pure true) (hfn:X.fn y=true∨X.env.scope.names.lookup y=some .local):
  PS X (.Assign [.Name y py] (.ListComp elt [⟨tg,iter,ifs,0⟩] scope pos) spos) (CA (λσ H Q=>wi σ H (CW σ Q)) (nZ i)):=by
 intro pins s σ H Dn I h;rw[exec_Assign_Name_used _ _ _ _ hsw];refine wpAny_bind (wpAny_standAt (wpAny_bind ?_));show wpAny _ _ (do let _←comprehension (.ListComp elt [⟨tg,iter,ifs,0⟩] scope pos) scope X.env _ (newList []) false (eval iter X.env) (some (assign (.Name y py) X.env))) _ _ s;refine wpAny_bind (wpAny_mono (Br (x:=x) (g:=g) (use:=some (assign (.Name y py) X.env)) (R:=λ_ s'=>SP X pins Dn .next s') S hf hjs hc hi hg ht he hs I (hCW _) h λfp s2 s4 H2 H3 C D Y pl σ' ys its n I2 f2 hY hC hD hDC I4 hD3 eD rv hz q=> ?_)
  (λ_ s' hq=>wpAny_pure (wpAny_pure hq)) λ_ _ e=>e)
 show wpAny _ _ (assign (.Name y py) X.env (.ref D)) _ _ s4;have I7:Inv X pins σ (upd H3 D (.lst ys)) s4:=GB (scope:=scope) (x:=x) (N2:=N2) (h':=s4.heap) I2 f2 hY hC hD hDC I4 (Heap.SameBut.refl ..) hD3 eD rv hz;have nC:∀b o,s2.heap.get? b=some o->b≠C:=λb o e=>aK (av (aD e) hC);have cC:∀z c,X.env.cells.lookup z=some c->c≠C:=λz c e=>by
  obtain⟨v,o,eo,_⟩:=I2.cell z c e;exact nC c o eo
 have lC:X.env.locals≠C:=aK (av I2.lt hC);obtain⟨m,hn,_⟩:=I4.loc;have eL:Y.env.locals=C:=hY▸rfl;have fC:upd H3 D (HO.lst ys) C=none:=by rw[i7 (ah hDC)];exact eL▸I4.free
 rw[eL]at hn;refine wpAny_assign_Name (Gi I7 hN hy hl (v:= .ref D) rfl (λs'' I8 zq=> ?_) hfn);obtain⟨a,sb,ha⟩:=zq;have na:C≠a:=by
  rcases ha with rfl|ha
  ·exact ah lC
  ·exact ah (cC _ _ ha)
 refine⟨m,hn.sameBut sb na,λh' hs'=>⟨_,_,I8.turned (it:=C) (t':=s''.toks) (λb o hb e=>(hs'.2 b hb).trans e) fC (ah lC) (.inr (aA I2.sz hC)) cC λp hp=> ?_,q⟩⟩;exact nC p.1 p.2 (I2.pin p hp).1
theorem KW{x:Str}{elt iter:Expr}{px py pos spos:Pos}{ifs:List Expr}{wi:TI}{tt:TT}{te:TE}{i:Nat}{y:Str}(hN:X.N.Nodup)(hy:X.N[i]? =some y)(hl:Loc X.env.scope y)
  (S:oa fsc scope [x] N2) (hf:X.env.scope=fsc) (hjs:js.map (λj=>X.N[j]?)=N2.map some) (hc:X.calm=true) (hi:PI X (.Name x px) iter wi)
  (ht:∀s H C ex,EC (X.vY scope (x::N2) [x] s H C ex) ifs tt) (he:∀s H C ex,PE (X.vY scope (x::N2) [x] s H C ex) elt te) (hs:∀v,foldedSetIterable iter X.env v=pure v:=by intro _;rfl)
  (hsw:swapsWith (.ListComp elt [⟨.Name x px,iter,ifs,0⟩] scope pos) (some (.Name y py)) spos.line X.env=pure true:=by rfl)
  (hfn:X.fn y=true∨X.env.scope.names.lookup y=some .local:=by first|exact .inl rfl|exact .inr rfl|assumption):
  PS X (.Assign [.Name y py] (.ListComp elt [⟨.Name x px,iter,ifs,0⟩] scope pos) spos) (CA (J6 js wi tt te) (nZ i)):=JB (x:=[x]) (g:=nZ 0) (CW:=λσ Q J H1=>uw J (AR σ js) tt te H1 Q) hN hy hl S hf hjs hc hi (λ_ _ _ _=>Pk S) ht he (λ_ _ _=>LJ) hs hsw hfn
theorem JC{x1 x2:Str}{elt iter:Expr}{p1 p2 pt py pos spos:Pos}{k:Nat}{ifs:List Expr}{wi:TI}{tt:TT}{te:TE}{i:Nat}{y:Str}(hN:X.N.Nodup)(hy:X.N[i]? =some y)(hl:Loc X.env.scope y)
  (S:oa fsc scope [x1,x2] N2) (hf:X.env.scope=fsc) (hjs:js.map (λj=>X.N[j]?)=N2.map some) (hc:X.calm=true) (hi:PI X (.Tuple [.Name x1 p1,.Name x2 p2] k pt) iter wi)
  (ht:∀s H C ex,EC (X.vY scope (x1::x2::N2) [x1,x2] s H C ex) ifs tt) (he:∀s H C ex,PE (X.vY scope (x1::x2::N2) [x1,x2] s H C ex) elt te) (hs:∀v,foldedSetIterable iter X.env v=pure v:=by intro _;rfl)
  (hsw:swapsWith (.ListComp elt [⟨.Tuple [.Name x1 p1,.Name x2 p2] k pt,iter,ifs,0⟩] scope pos) (some (.Name y py)) spos.line X.env=pure true:=by rfl)
  (hfn:X.fn y=true∨X.env.scope.names.lookup y=some .local:=by first|exact .inl rfl|exact .inr rfl|assumption):
  PS X (.Assign [.Name y py] (.ListComp elt [⟨.Tuple [.Name x1 p1,.Name x2 p2] k pt,iter,ifs,0⟩] scope pos) spos) (CA (Eo X.K js wi tt te) (nZ i)):=JB (x:=[x1,x2]) (g:=g2 X.K) (CW:=λσ Q J H1=>Gm X.K J (AR σ js) tt te H1 Q) hN hy hl S hf hjs hc hi (λ_ _ _ _=>Mi hc S) ht he (λ_ _ _=>IQ) hs hsw hfn
end
section
variable{X:Cx}{tg:Expr}
end
noncomputable def wW:List (Option Bool)->Option Bool
 | []=>some true
 |none::_=>none
 |some b::r=>(wW r).map λc=>b&&c
noncomputable def x_ (H:Hp):Nat->V->V->Option Bool
 |0,x,y=>if nY x=true/\nY y=true then some (NC x y) else none
 |d+1,x,y=>match x,y with
  | .ref a,.ref b=>(match H a,H b with
   |some (.lst xs),some (.lst ys)=>if xs.length=ys.length then wW (cZ (x_ H d) xs ys) else some false
   |some (.tup xs),some (.tup ys)=>if xs.length=ys.length then wW (cZ (x_ H d) xs ys) else none
   |_,_=>none)
  |x,y=>if nY x=true/\nY y=true then some (NC x y) else none
theorem sv{l:List (Option Bool)}{b:Bool}:wW l=some b->∃e:Nat->Bool,(∀j o,l[j]? =some o->o=some (e j))/\(bh l.length).all e=b:=by
 induction l generalizing b with
 |nil=>intro h;cases h;exact⟨λ_=>true,λj o z=>by simp at z,rfl⟩
 |cons o r ih=>
  intro h
  cases o with
  |none=>cases h
  |some b0=>
   obtain⟨c,hc,rfl⟩:=Option.map_eq_some_iff.mp h;obtain⟨e,h1,h2⟩:=ih hc;refine⟨λj=>match j with|0=>b0|j+1=>e j,λj o z=> ?_,?_⟩
   ·cases j with
    |zero=>simp at z;exact z.symm
    |succ j=>exact h1 j o (by simpa using z)
   ·rw[aF,f9,bF,List.all_map,←h2];rfl
theorem IW{x:V}(h:nY x=true):NC x x=true:=by
 cases x<;>first|rfl|exact decide_eq_true rfl|exact nomatch h
theorem Di{H:Hp}:∀(d:Nat) {x:V} {b:Bool},x_ H d x x=some b->b=true
 |0,x,b,h=>by
  unfold x_ at h
  split at h
  ·rename_i z;cases h;exact IW z.1
  ·cases h
 |d+1,x,b,h=>by
  unfold x_ at h
  split at h
  ·split at h
   ·rename_i xs ys e1 e2;rw[e1]at e2
    cases e2
    rw[if_pos rfl]at h;obtain⟨e,h1,h2⟩:=sv h;rw[←h2,eU];intro j hj;rw[iP,cK,c9]at hj;have z:=h1 j (x_ H d xs[j] xs[j]) (by rw[cy,ab hj]);exact Di d z
   ·rename_i xs ys e1 e2;rw[e1]at e2
    cases e2
    rw[if_pos rfl]at h;obtain⟨e,h1,h2⟩:=sv h;rw[←h2,eU];intro j hj;rw[iP,cK,c9]at hj;have z:=h1 j (x_ H d xs[j] xs[j]) (by rw[cy,ab hj]);exact Di d z
   ·cases h
  ·split at h
   ·rename_i z;cases h;exact IW z.1
   ·cases h
section
variable{X:Cx}
theorem uP{pins:List (Addr×Obj)}{σ:St}{H:Hp}{s:Shared}(I:Inv X pins σ H s):∀(d:Nat) (A:Around) {x y:V} {u v:Value} {b:Bool},A.units+d<cLine->RelV x u->RelV y v->x_ H d x y=some b->iN A s u v b
 |0,A,x,y,u,v,b,hu,rx,ry,h=>by
  unfold x_ at h
  split at h
  ·rename_i z;cases h;exact Kq rx ry z.1 z.2
  ·cases h
 |d+1,A,x,y,u,v,b,hu,rx,ry,h=>by
  by_cases hs:∃a,x= .ref a/\y= .ref a
  ·obtain⟨a,rfl,rfl⟩:=hs
   cases (show u=aO a from rx)
   cases (show v=aO a from ry)
   rw[Di (d+1) h];exact SeqAt.EqAt.same _
  ·unfold x_ at h
   split at h
   ·rename_i a c
    split at h
    ·rename_i xs ys e1 e2
     cases (show u=aO a from rx)
     cases (show v=aO c from ry)
     have hne:a≠c:=λz=>hs ⟨a,rfl,by rw[z]⟩;obtain⟨i1,r1,p1,_⟩:=I.list (kO.of e1);obtain⟨i2,r2,p2,_⟩:=I.list (kO.of e2);refine h_ hne ?_;have l1:=r1.length;have l2:=r2.length
     split at h
     ·rename_i hl;obtain⟨e,h1,h2⟩:=sv h;rw[cK,←hl,c9]at h2;have z:=SeqAt.RcAt.lists (A:=A) (s:=s) (e:=e) p1.isList p2.isList (by simp;lia) (by lia) λj j1 j2=> ?_
      ·have e3:i1.toArray.size=xs.length:=by simp[l1]
       rw[e3,h2]at z;exact z
      ·simp only[aL]at j1 j2;have k1:j<xs.length:=by lia
       have k2:j<ys.length:=by lia
       obtain⟨w1,g1,q1⟩:=r1.get (ab k1);obtain⟨w2,g2,q2⟩:=r2.get (ab k2);have z:=h1 j (x_ H d xs[j] ys[j]) (by rw[cy,ab k1,ab k2]);have e4:i1.toArray[j]=w1:=by simpa [j1] using g1
       have e5:i2.toArray[j]=w2:=by simpa [j2] using g2
       rw[e4,e5];exact uP I d A.in1 (by rw[dR];lia) q1 q2 z
     ·rename_i hl
      cases h
      exact SeqAt.RcAt.lists_lengths p1.isList p2.isList (by simp;lia) (by lia)
    ·rename_i xs ys e1 e2
     cases (show u=aO a from rx)
     cases (show v=aO c from ry)
     have hne:a≠c:=λz=>hs ⟨a,rfl,by rw[z]⟩;obtain⟨i1,r1,p1,_⟩:=I.tuple (.inl (.inl e1));obtain⟨i2,r2,p2,_⟩:=I.tuple (.inl (.inl e2));refine h_ hne ?_;have l1:=r1.length;have l2:=r2.length
     split at h
     ·rename_i hl;obtain⟨e,h1,h2⟩:=sv h;rw[cK,←hl,c9]at h2;have z:=SeqAt.RcAt.tuples (A:=A) (s:=s) (e:=e) p1 p2 (by lia) λj j1 j2=> ?_
      ·have e3:i1.toArray.size=xs.length:=by simp[l1]
       have e4:i2.toArray.size=xs.length:=by simp[←l2,hl]
       rw[e3,e4,c9,h2,beq_self_eq_true,Bool.and_true]at z;exact z
      ·simp only[aL]at j1 j2;have k1:j<xs.length:=by lia
       have k2:j<ys.length:=by lia
       obtain⟨w1,g1,q1⟩:=r1.get (ab k1);obtain⟨w2,g2,q2⟩:=r2.get (ab k2);have z:=h1 j (x_ H d xs[j] ys[j]) (by rw[cy,ab k1,ab k2]);have e4:i1.toArray[j]=w1:=by simpa [j1] using g1
       have e5:i2.toArray[j]=w2:=by simpa [j2] using g2
       rw[e4,e5];exact uP I d A.in1 (by rw[dR];lia) q1 q2 z
     ·cases h
    ·cases h
   ·split at h
    ·rename_i z;cases h;exact Kq rx ry z.1 z.2
    ·cases h
def QK:R2:=λx y H Q=>match x,y with
 | .ref a,.ref b=>(match H a,H b with
  |some (.lst xs),some (.lst ys)=>if xs.length=ys.length then(match wW (cZ (x_ H 2) xs ys) with
    |some k=>Q (.bl k) H
    |none=>False) else Q (.bl false) H
  |_,_=>False)
 |_,_=>False
def QR:R2:=λx y H Q=>match x,y with
 | .ref a,.ref b=>(match H a,H b with
  |some (.lst xs),some (.lst ys)=>if xs.length=ys.length then(match wW (cZ (x_ H 2) xs ys) with
    |some k=>Q (.bl (!k)) H
    |none=>False) else Q (.bl true) H
  |_,_=>False)
 |_,_=>False
theorem Vp(hu:X.A.units+8<cLine):oZ X (compareOp .Eq) QK:=by
 intro pins s σ H x y v u Q I rx ry h;unfold QK at h
 cases x<;>try exact h.elim
 rename_i a
 cases y<;>try exact h.elim
 rename_i b;dsimp only at h
 cases e1:H a<;>rw[e1]at h<;>try exact h.elim
 rename_i o
 cases o<;>try exact h.elim
 rename_i xs
 cases e2:H b<;>rw[e2]at h<;>try exact h.elim
 rename_i o
 cases o<;>try exact h.elim
 rename_i ys;dsimp only at h
 cases (show v=aO a from rx)
 cases (show u=aO b from ry)
 obtain⟨i1,r1,p1,_⟩:=I.list (kO.of e1);obtain⟨i2,r2,p2,_⟩:=I.list (kO.of e2);have l1:=r1.length;have l2:=r2.length
 split at h
 ·rename_i hl
  split at h
  case h_2=>exact h.elim
  rename_i k hk;obtain⟨e,h1,h2⟩:=sv hk;rw[cK,←hl,c9]at h2;refine SeqAt.eq_listAt (e:=e) p1.isList p2.isList (by simp;lia) (by lia) (λj j1 j2=> ?_) ⟨.bl k,H,I,?_,h⟩
  ·simp only[aL]at j1 j2;have k1:j<xs.length:=by lia
   have k2:j<ys.length:=by lia
   obtain⟨w1,g1,q1⟩:=r1.get (ab k1);obtain⟨w2,g2,q2⟩:=r2.get (ab k2);have z:=h1 j (x_ H 2 xs[j] ys[j]) (by rw[cy,ab k1,ab k2]);have e4:i1.toArray[j]=w1:=by simpa [j1] using g1
   have e5:i2.toArray[j]=w2:=by simpa [j2] using g2
   rw[e4,e5];exact uP I 2 X.A.in1 (by rw[dR];lia) q1 q2 z
  ·have e3:i1.toArray.size=xs.length:=by simp[l1]
   rw[e3,h2];exact rfl
 ·exact SeqAt.eq_list_lengthsAt p1.isList p2.isList (by simp;lia) (by lia) ⟨.bl false,H,I,rfl,h⟩
end
section
variable{X:Cx}
theorem Vx(hu:X.A.units+8<cLine):oZ X (compareOp .NotEq) QR:=by
 intro pins s σ H x y v u Q I rx ry h;unfold QR at h
 cases x<;>try exact h.elim
 rename_i a
 cases y<;>try exact h.elim
 rename_i b;dsimp only at h
 cases e1:H a<;>rw[e1]at h<;>try exact h.elim
 rename_i o
 cases o<;>try exact h.elim
 rename_i xs
 cases e2:H b<;>rw[e2]at h<;>try exact h.elim
 rename_i o
 cases o<;>try exact h.elim
 rename_i ys;dsimp only at h
 cases (show v=aO a from rx)
 cases (show u=aO b from ry)
 obtain⟨i1,r1,p1,_⟩:=I.list (kO.of e1);obtain⟨i2,r2,p2,_⟩:=I.list (kO.of e2);have l1:=r1.length;have l2:=r2.length
 split at h
 ·rename_i hl
  split at h
  case h_2=>exact h.elim
  rename_i k hk;obtain⟨e,h1,h2⟩:=sv hk;rw[cK,←hl,c9]at h2;refine SeqAt.RcNeAt.lists (e:=e) p1.isList p2.isList (by simp;lia) (by lia) (λj j1 j2=> ?_) X.prog X.w X.xe _ ⟨.bl (!k),H,I,?_,h⟩
  ·simp only[aL]at j1 j2;have k1:j<xs.length:=by lia
   have k2:j<ys.length:=by lia
   obtain⟨w1,g1,q1⟩:=r1.get (ab k1);obtain⟨w2,g2,q2⟩:=r2.get (ab k2);have z:=h1 j (x_ H 2 xs[j] ys[j]) (by rw[cy,ab k1,ab k2]);have e4:i1.toArray[j]=w1:=by simpa [j1] using g1
   have e5:i2.toArray[j]=w2:=by simpa [j2] using g2
   rw[e4,e5];exact uP I 2 X.A.in1 (by rw[dR];lia) q1 q2 z
  ·have e3:i1.toArray.size=xs.length:=by simp[l1]
   rw[e3,h2];exact rfl
 ·exact SeqAt.RcNeAt.lists_lengths p1.isList p2.isList (by simp;lia) (by lia) X.prog X.w X.xe _ ⟨.bl true,H,I,rfl,h⟩
end
theorem uw.IZ{K:af}{a:Addr}{xs:List V}{wA:St}{tt:TT}{te:TE}{H:Hp}{Q:VK}(p:V->Bool)(f:V->V)(hS:kO K H a xs)(hz:xs.length<=sizeLine)
  (ht:∀x∈xs,∀K':Bool->Hp->Prop,K' (p x) H->tt (some x::wA) H K') (he:∀x∈xs,p x=true->∀K':VK,K' (f x) H->te (some x::wA) H K')
  (q:∀l,H l=none->Q (.ref l) (upd H l (.lst ((xs.filter p).map f)))):uw (Qq K a) wA tt te H Q:=by
 refine⟨λi m ys H'=>H'=H/\i<=xs.length/\m=xs.length-i/\ys=((xs.take i).filter p).map f,⟨xs.length,rfl,bR _,rfl,by simp⟩,λi m ys H' zq=> ?_⟩;obtain⟨e1,hi,em,ey⟩:=zq;subst e1 ey;refine⟨aA (by rw[aa];exact aA (cV _ _) (by rw[bE];lia)) hz,?_⟩;by_cases z:i<xs.length
 ·have hx:xs[i]? =some xs[i]:=ab z;refine .inr ⟨⟨xs,xs[i],hS,hx⟩,λx H2=>gB λe2 e3=> ?_⟩;have ex:x=xs[i]:=by have:=e3 xs hS;rw[hx]at this;exact(aY this).symm
  rw[e2,ex];have tk:xs.take (i+1)=xs.take i++[xs[i]]:=by rw[bx,hx];rfl
  refine ht _ (bc z) _ ?_
  cases hp:p xs[i] with
  |true=>
   rw[if_pos rfl];refine he _ (bc z) hp _ ⟨xs.length-(i+1),by lia,rfl,z,rfl,?_⟩;rw[tk,dk,aB];simp[hp]
  |false=>
   rw[if_neg aR];refine⟨xs.length-(i+1),by lia,rfl,z,rfl,?_⟩;rw[tk,dk,aB];simp[hp]
 ·have e:i=xs.length:=by lia
  subst e;rw[bo];exact .inl ⟨⟨xs,hS,aq _⟩,q⟩
theorem LP{X:Cx}{scope:Scope}{N:List Str}{x:List Str}{s:Shared}{H:Hp}{C:Addr}{ex:List Addr}:Exc (X.vY scope N x s H C ex) (λ_ _ _ _=>False):=
 ⟨λ_ _ _ _ _ _ _ z=>by obtain⟨_,_,_,_,_,_,_,_,_,_,_,_,h⟩:=z;exact h,λ_ _ _ _ _ _ _ _ _ _ _ _ h=>h,iK⟩
noncomputable def bools:List V->Option (List Bool)
 | []=>some []
 | .bl b::r=>(bools r).map λbs=>b::bs
 |_::_=>none
def LH:List V->Hp->VK->Prop:=λxs H Q=>match xs with
 | [.ref a]=>(match H a with
  |some (.lst ys)=>∀l,H l=none->Q (.ref l) (upd H l (.lst ys))
  |_=>False)
 |_=>False
def QJ:R2:=λx y H Q=>match eqv x y with
 |some b=>Q (.bl b) H
 |none=>QK x y H Q
def MG:R2:=λx y H Q=>match eqv x y with
 |some b=>Q (.bl (!b)) H
 |none=>QR x y H Q
section
variable{X:Cx}
theorem S8:nW X (.type "list") LH:=GD.mono λxs H Q h=>by
 unfold LH at h
 split at h
 case h_2=>exact h.elim
 split at h
 case h_2=>exact h.elim
 rename_i ys e;exact⟨_,ys,rfl,.inl (kO.of e),h⟩
theorem Vo(hu:X.A.units+8<cLine):oZ X (compareOp .Eq) QJ:=by
 intro pins s σ H x y v u Q I rx ry h;unfold QJ at h
 split at h
 ·rename_i b e;exact Vn pins s σ H x y v u Q I rx ry (by unfold Vj;rw[e];exact h)
 ·exact Vp hu pins s σ H x y v u Q I rx ry h
theorem N8(hu:X.A.units+8<cLine):oZ X (compareOp .NotEq) MG:=by
 intro pins s σ H x y v u Q I rx ry h;unfold MG at h
 split at h
 ·rename_i b e;exact Vw pins s σ H x y v u Q I rx ry (by unfold Vk;rw[e];exact h)
 ·exact Vx hu pins s σ H x y v u Q I rx ry h
theorem GV{ca:Bool}{k:Nat}{A:Around}(hr:lM ca k A):A.units+8<cLine:=aT (gP (by decide:8<=64) _) hr.units
end
theorem B8{K:af}{a:Addr}{xs:List V}{wA:St}{tt:TT}{te:TE}{H:Hp}{Q:VK}(P:Nat->List V->Hp->Prop)(h0:P 0 [] H)(hS:∀i ys H',P i ys H'->kO K H' a xs)(hz:xs.length<=sizeLine)(hlen:∀i ys H',P i ys H'->ys.length<=i)
  (step:∀i x ys H',xs[i]? =some x->P i ys H'->∀K1:List V->Hp->Prop,(∀ys' H3,P (i+1) ys' H3->K1 ys' H3)->tt (some x::wA) H' λb H2=>if b=true then te (some x::wA) H2 (λy H3=>K1 (ys++[y]) H3) else K1 ys H2)
  (q:∀ys H',P xs.length ys H'->∀l,H' l=none->Q (.ref l) (upd H' l (.lst ys))):uw (Qq K a) wA tt te H Q:=by
 refine⟨λi m ys H'=>P i ys H'/\i<=xs.length/\m=xs.length-i,⟨xs.length,h0,bR _,rfl⟩,λi m ys H' zq=> ?_⟩;obtain⟨hP,hi,em⟩:=zq;refine⟨aA (aA (hlen _ _ _ hP) hi) hz,?_⟩;have hS':=hS _ _ _ hP;by_cases z:i<xs.length
 ·have hx:xs[i]? =some xs[i]:=ab z;refine .inr ⟨⟨xs,xs[i],hS',hx⟩,λx H2=>gB λe2 e3=> ?_⟩;have ex:x=xs[i]:=by have:=e3 xs hS';rw[hx]at this;exact(aY this).symm
  rw[e2,ex];exact step i _ ys H' hx hP (λys' H3=>∃m',m'<m/\(P (i+1) ys' H3/\i+1<=xs.length/\m'=xs.length-(i+1))) λys' H3 h=>⟨_,by omega,h,z,rfl⟩
 ·have e:i=xs.length:=by lia
  subst e;exact .inl ⟨⟨xs,hS',aq _⟩,q _ _ hP⟩
theorem Gh:∀{l1 l2:List Int},l1.Perm l2->l1.Pairwise (·<=·)->l2.Pairwise (·<=·)->l1=l2
 | [],l2,p,_,_=>(List.Perm.nil_eq p)
 |a::r,[],p,_,_=>absurd p.length_eq (by simp)
 |a::r,b::r2,p,h1,h2=>by
  have ha:a∈b::r2:=p.mem_iff.mp ax;have hb:b∈a::r:=p.mem_iff.mpr ax;rw[dM]at h1 h2;have e:a=b:=by
   rcases List.mem_cons.mp ha with e|ha
   ·exact e
   ·rcases List.mem_cons.mp hb with e|hb
    ·exact e.symm
    ·have:=h2.1 a ha;have:=h1.1 b hb;lia
  subst e;rw[Gh ((List.perm_cons a).mp p) h1.2 h2.2]
noncomputable def kC (ns:List Int):List Int:=ns.mergeSort (λa b=>decide (a<=b))
theorem mM(ns:List Int):(kC ns).Perm ns:=List.mergeSort_perm ns _
theorem sF(ns:List Int):(kC ns).Pairwise (·<=·):=by
 have h:=List.pairwise_mergeSort (le:=λ(a b:Int)=>decide (a<=b)) (λa b c=>by simp;lia) (λa b=>by simp;lia) ns;exact h.imp (by simp)
theorem AY{ns ns':List Int}(p:ns'.Perm ns)(h:ns'.Pairwise (·<=·)):ns'=kC ns:=Gh (p.trans (mM ns).symm) h (sF ns)
theorem OK{a b:List Int}(p:a.Perm b):kC a=kC b:=AY ((mM a).trans p) (sF a)
noncomputable def Ja:List V->Option (List Int)
 | []=>some []
 | .int i::r=>(Ja r).map λns=>i::ns
 |_::_=>none
theorem FU:∀ns:List Int,Ja (ns.map V.int)=some ns
 | []=>rfl
 |n::r=>by simp only[aE,Ja,FU r,fb]
theorem Jb:∀{ys:List V} {ns:List Int},Ja ys=some ns->ys=ns.map V.int
 | [],ns,h=>by cases h;rfl
 |y::r,ns,h=>by
  cases y with
  |int i=>
   obtain⟨cs,hc,rfl⟩:=Option.map_eq_some_iff.mp h;rw[aE,←Jb hc]
  |_=>cases h
section
variable{X:Cx}
def CJ:List V->Hp->VK->Prop:=λxs H Q=>match xs with
 | [.ref a]=>(match H a with
  |some (.lst ys)=>(match Ja ys with
   |some ns=>ns.length<64/\∀l,H l=none->Q (.ref l) (upd H l (.lst ((kC ns).map V.int)))
   |none=>False)
  |_=>False)
 |_=>False
theorem MT{ns:List Int}{vs:List Value}(h:Vals (ns.map V.int) vs):IntsAre vs ns:=by
 induction ns generalizing vs with
 |nil=>cases h;exact .nil
 |cons n r ih=>cases h with|cons h t=>obtain⟨k,rfl⟩:=h;exact .cons n k (ih t)
theorem Oa:nW X (.builtin "sorted") CJ:=by
 intro pins s σ H xs us Q I r h;unfold CJ at h
 split at h
 case h_2=>exact h.elim
 rename_i a;obtain⟨u,rfl,rx⟩:=vals1 r
 cases (show u=aO a from rx)
 split at h
 case h_2=>exact h.elim
 rename_i ys ea
 split at h
 case h_2=>exact h.elim
 rename_i ns hb;have ey:=Jb hb;subst ey;obtain⟨hl,h⟩:=h;obtain⟨its,rv,pl,hz⟩:=I.list (kO.of ea);have hlen:=rv.length;rw[aa]at hlen;refine sorted_ints pl.isList (MT rv) (by lia) λout ns' h1 h2 h3=> ?_;have e:=AY h2 h3;subst e;have hln:=h2.length_eq;have hf:H (s.heap.objs.size+1)=none:=I.ko.fresh (cO _);refine⟨.ref (s.heap.objs.size+1),_,I.laid (t':=s.toks) (λb o e=>sortedAll_old e) (cO _) (show mf X.prog X.w _ _ _ (.lst ((kC ns).map V.int)) from ?_),rfl,h _ hf⟩;obtain⟨en,he⟩:=sortedAll_at s.heap its out;exact⟨by rw[aa,hln];exact aA (c8 hl) (by decide),out.toList,en,B6 h1,by simpa using he⟩
noncomputable def Dp:List (Key×V)->Option (List Int)
 | []=>some []
 |(.inl i,_)::r=>(Dp r).map λns=>i::ns
 |_::_=>none
theorem I_:∀{kvs:List (Key×V)} {ns:List Int},Dp kvs=some ns->kvs.map (·.1)=ns.map aS
 | [],ns,h=>by cases h;rfl
 |(k,v)::r,ns,h=>by
  cases k with
  |inl i=>
   obtain⟨cs,hc,rfl⟩:=Option.map_eq_some_iff.mp h;rw[aE,aE,←I_ hc]
  |inr x=>cases h
def AN:List V->Hp->VK->Prop:=λxs H Q=>match xs with
 | [.ref a]=>(match H a with
  |some (.dK kvs)=>(match Dp kvs with
   |some ns=>ns.length<64/\∀l,H l=none->Q (.ref l) (upd H l (.lst ((kC ns).map V.int)))
   |none=>False)
  |_=>False)
 |_=>False
theorem Dq:∀{l:List Value} {ns:List Int},l.length=ns.length->(∀(j:Nat) (v:Value),l[j]? =some v->∃t,v= .int (ns.getD j 0) t)->IntsAre l ns
 | [],[],_,_=> .nil
 |v::r,n::m,hl,h=>by
  obtain⟨t,e⟩:=h 0 v rfl;rw[e];exact .cons n t (Dq (by simpa using hl) λj w hw=>h (j+1) w (by simpa using hw))
theorem MZ{i:Int}{v:Value}(h:Ca (.inl i) v=true):∃t,v= .int i t:=by
 rcases lA h with ⟨k,t,e,rfl⟩|⟨x,t,e,_⟩
 ·cases e;exact⟨t,rfl⟩
 ·cases e
theorem MH(hc:X.calm=true):nW X (.builtin "sorted") AN:=by
 intro pins s σ H xs us Q I r h;unfold AN at h
 split at h
 case h_2=>exact h.elim
 rename_i a;obtain⟨u,rfl,rx⟩:=vals1 r
 cases (show u=aO a from rx)
 split at h
 case h_2=>exact h.elim
 rename_i kvs ea
 split at h
 case h_2=>exact h.elim
 rename_i ns hb;obtain⟨hl,h⟩:=h;obtain⟨z,hd,vs,rel,o,es,ep,hat⟩:=LO I.ko ea;have da:Heap.DictAt (lZ X.prog X.w) s.heap a vs ep:=⟨o,es,hat⟩;have hk1:=I_ hb;have hk2:=rel.keys;have hlen:vs.length=ns.length:=by
  have:=congrArg dN (hk2.symm.trans hk1);simpa using this
 have h64:64<=sizeLine:=by decide
 refine fJ kind_sorted plain_sorted entry_sorted (args_sorted1 _) ?_;refine wpAny_bind (wpAny_pure ?_);refine wpAny_bind (PySem.W.kdu_collect (PySem.W.kdl_dict hd) (by show X.A.handled=none;exact I.ok.hd hc) da (by lia) λh' tk acc hk hi=> ?_);have hal:acc.toList.length=ns.length:=by rw[←hlen];simpa using hi.1
 have hints:IntsAre acc.toList ns:=Dq hal λj v hv=>by
  obtain⟨k,x,e1,e2⟩:=hi.2 j v (by simpa using hv);have e3:(vs.map (·.1))[j]? =some k:=by rw[ai,e1];rfl
  rw[←hk2,hk1,ai]at e3;obtain⟨n,e4,rfl⟩:=Option.map_eq_some_iff.mp e3;obtain⟨t,rfl⟩:=MZ (show Ca (.inl n) v=true from e2);exact⟨t,by rw[ae,e4];rfl⟩
 refine wpAny_bind (wpAny_newList ?_ (by lia));have hgt:(h'.push {cls:= .type "list",data:= .seq acc.toList.toArray}).get? h'.objs.size=some (seqObj "list" acc.toList.toArray 0):=bA _ rfl;refine wpAny_bind (wpAny_holding (wpAny_call_entry slot_list_sort ⟨_,hgt,rfl⟩ entry_list_sort (list_sort_tree hgt hints (by lia) λout ns' h1 h2 h3=> ?_) (args_list_sort _)));refine⟨_,rfl,wpAny_pure ⟨_,rfl,?_⟩⟩;have e:=AY h2 h3;subst e;have hln:=h2.length_eq;have I2:Inv X pins σ H {s with heap:=h',toks:=tk}:=I.kept λb o e=>hk b o e;have hf:H h'.objs.size=none:=I2.ko.fresh (aq _);obtain⟨en,he⟩:=sortedHeap_at (h:=h'.push {cls:= .type "list",data:= .seq acc.toList.toArray}) (a:=h'.objs.size) (vs:=acc.toList) (out:=out) hgt;refine⟨.ref h'.objs.size,_,I2.laid (t':=tk) (λb o e=>(sortedHeap_old (aK (aD e)) (aD (ay _ e))).trans (ay _ e)) (aq _) (show mf X.prog X.w _ _ _ (.lst ((kC ns).map V.int)) from ?_),rfl,h _ hf⟩;exact⟨by rw[aa,hln];exact aA (c8 hl) (by decide),out.toList,en,B6 h1,by simpa using he⟩
def QI:R2:=λx y H Q=>match x,y with
 | .ref l,.ref b=>(match H l,H b with
  |some (.lst xs),some (.lst zs)=>xs.length+zs.length<=sizeLine/\∀p,H p=none->Q (.ref p) (upd H p (.lst (xs++zs)))
  |_,_=>False)
 |_,_=>False
theorem Vm:oZ X (binaryOp .Add) QI:=T6.mono λx y H Q h=>by
 unfold QI at h
 split at h
 case h_2=>exact h.elim
 split at h
 case h_2=>exact h.elim
 rename_i xs zs e1 e2;exact⟨_,_,xs,zs,rfl,rfl,e1,e2,h.1,h.2⟩
def CF:V->List V->Hp->VK->Prop:=λx vs H Q=>match x,vs with
 | .ref l,[.ref b]=>(match H l,H b with
  |some (.lst xs),some (.lst zs)=>l≠b/\xs.length+zs.length<=sizeLine/\Q .non (upd H l (.lst (xs++zs)))
  |_,_=>False)
 |_,_=>False
theorem N6:WD X "list.extend" CF:=λpins s σ H x xs v us Q I rx rxs h=>by
 unfold CF at h
 cases x<;>try exact h.elim
 rename_i l;rcases xs with _|⟨y,xs⟩<;>try exact h.elim
 cases y<;>try exact h.elim
 rename_i b;rcases xs with _|⟨y,xs⟩<;>try exact h.elim
 dsimp only at h
 cases e1:H l<;>rw[e1]at h<;>try exact h.elim
 rename_i o
 cases o<;>try exact h.elim
 rename_i ys
 cases e2:H b<;>rw[e2]at h<;>try exact h.elim
 rename_i o
 cases o<;>try exact h.elim
 rename_i zs;exact Na pins s σ H _ _ v us Q I rx rxs ⟨_,_,ys,zs,rfl,rfl,e1,e2,h.2.1,h.2.2⟩
def QL:R2:=λx y H Q=>match y with
 | .ref a=>(match H a,KH x with
  |some (.dK kvs),some k=>Q (.bl (nD kvs k).isSome) H
  |_,_=>False)
 |_=>False
def CI:R2:=λx y H Q=>match y with
 | .ref a=>(match H a,KH x with
  |some (.dK kvs),some k=>Q (.bl (!(nD kvs k).isSome)) H
  |_,_=>False)
 |_=>False
theorem Vq(hu:X.A.units+1<cLine):oZ X (compareOp .In) QL:=by
 intro pins s σ H x y v u Q I rx ry h;unfold QL at h
 split at h
 case h_2=>exact h.elim
 rename_i a
 split at h
 case h_2=>exact h.elim
 rename_i kvs k ea ek;have ey:=A1 ek;subst ey
 cases (show u=aO a from ry)
 exact Xb hu I (Ez.k ea) rx λs' I'=>⟨.bl _,H,I',rfl,h⟩
theorem N9(hu:X.A.units+1<cLine):oZ X (compareOp .NotIn) CI:=by
 intro pins s σ H x y v u Q I rx ry h;unfold CI at h
 split at h
 case h_2=>exact h.elim
 rename_i a
 split at h
 case h_2=>exact h.elim
 rename_i kvs k ea ek;have ey:=A1 ek;subst ey
 cases (show u=aO a from ry)
 exact Q5 hu I (Ez.k ea) rx λs' I'=>⟨.bl _,H,I',rfl,h⟩
def LF:List V->Hp->VK->Prop:=λxs H Q=>match xs with
 | [.ref a]=>(match H a with
  |some (.dK kvs)=>Q (.int kvs.length) H
  |_=>False)
 |_=>False
theorem S6:nW X (.builtin "len") LF:=MK.mono λxs H Q h=>by
 unfold LF at h
 split at h
 case h_2=>exact h.elim
 split at h
 case h_2=>exact h.elim
 rename_i kvs e;exact⟨_,kvs,rfl,e,h⟩
end
def NW(td ty:TE):TE:=λσ H Q=>td σ H λx H1=>match x with
 | .ref a=>(match H1 a with
  |some (.dK _)=>ty σ H1 λy H2=>(match H2 a,KH y with
   |some (.dK kvs),some k=>(match nD kvs k with
    |some v=>Q v (upd H2 a (.dK (AU kvs k)))
    |none=>False)
   |_,_=>False)
  |_=>False)
 |_=>False
section
variable{X:Cx}{o e:Expr}{td ty:TE}{apos cpos:Pos}
theorem S1(ho:PE X o td)(he:PE X e ty)(m:M1 X o "pop" apos e cpos):PE X (.Call (.Attribute o "pop" apos) [e] [] cpos) (NW td ty):=by
 intro pins s σ H Q I h;refine wpAny_Call_method m.base m.X4 m.line PySem.F.plainAttrs_dict gz PySem.F.type_dict_pop (mJ (ho pins s σ H _ I h) λu s1=>qv λx H1 I1 rx q1=> ?_)
 try dsimp only at q1
 split at q1
 case h_2=>exact q1.elim
 rename_i a
 split at q1
 case h_2=>exact q1.elim
 rename_i kvs0 ea0;obtain rfl:u=aO a:=rx;obtain⟨t1,t2,_⟩:=Tv I1 (Tw ea0);refine⟨t1,t2,?_⟩;rw[m.trees];refine fW rfl (gD (fB (mJ (he pins s1 σ H1 _ I1 q1) λiv s2=>qv λy H2 I2 ry q2=>fG ?_)))
 try dsimp only at q2
 split at q2
 case h_2=>exact q2.elim
 rename_i kvs k ea ek
 split at q2
 case h_2=>exact q2.elim
 rename_i v l;have ey:=A1 ek;subst ey;exact VI I2 ea ry l (.inl rfl) λw' s3 I3 rw'=>⟨v,_,I3,rw',q2⟩
end
def Kk(ta:TA):TE:=λσ H Q=>ta σ H λvs H1=>match vs with
 | [.int i,.int j]=> -(2^62)<=i/\i<2^62/\ -(2^62)<=j/\j<2^62/\(j-i).toNat<=sizeLine/\∀p,H1 p=none->Q (.ref p) (upd H1 p (.lst ((bh (j-i).toNat).map λt:Nat=>V.int (i+(t:Int)))))
 |_=>False
theorem J9:∀(l:List Value) (a:Int),(∀(j:Nat) (v:Value),l[j]? =some v->∃t,v= .int (a+j) t)->Vals ((bh l.length).map λt:Nat=>V.int (a+(t:Int))) l
 | [],_,_=> .nil
 |v::r,a,h=>by
  rw[aF,f9,aE,bj];obtain⟨t,e⟩:=h 0 v rfl;refine .cons ⟨t,e⟩ ?_;have z:=J9 r (a+1) λj w hw=>by
   obtain⟨t,e⟩:=h (j+1) w (by simpa using hw);exact⟨t,by rw[e];congr 1;lia⟩
  have ef:((λt:Nat=>V.int (a+t))∘Nat.succ)=λt:Nat=>V.int (a+1+t):=by
   funext t;show V.int (a+((t+1:Nat):Int))=_;congr 1;lia
  rw[ef];exact z
section
variable{X:Cx}{a b:Expr}{ta:TA}{p pos p2 pos2:Pos}
theorem Pc(hc:X.calm=true)(hgl:Gl X "list")(hml:X.mg "list"=none)(hgr:Gl X "range")(hmr:X.mg "range"=none)(ha:PA X [a,b] ta)(hs:starEach [a,b] X.env=[(false,eval a X.env),(false,eval b X.env)]:=by rfl)(hs2:starEach [b] X.env=[(false,eval b X.env)]:=by rfl):
  PE X (.Call (.Name "list" p) [.Call (.Name "range" p2) [a,b] [] pos2] [] pos) (Kk ta):=by
 intro pins s σ H Q I h;refine wpAny_Call_Name_kw (sL I hgl hml ζt ?_ (by decide) (by decide));refine bQ ?_ (n_ rfl) (pY rfl);rw[n_ (e:= .Call (.Name "range" p2) [a,b] [] pos2) (rest:=[]) rfl];show wpAny _ _ (spliced ((false,eval (.Call (.Name "range" p2) [a,b] [] pos2) X.env)::backTo pos (starEach [] X.env))) _ _ s;refine fB (Call_ (sL I hgr hmr boot_range (bQ (mJ (ha pos2 pins s σ H _ I h) λus s1=>qv λvs H1 I1 r1 q1=> ?_) (by rw[hs,hs2]) (by rw[hs2];rfl))))
 try dsimp only at q1
 rcases vs with _|⟨x,vs⟩<;>try exact q1.elim
 cases x<;>try exact q1.elim
 rename_i i;rcases vs with _|⟨y,vs⟩<;>try exact q1.elim
 cases y<;>try exact q1.elim
 rename_i j;rcases vs with _|⟨z,vs⟩<;>try exact q1.elim
 obtain⟨q1,q2,q3,q4,q5,q⟩:=q1
 cases r1 with
 |cons r rr=>
  cases rr with
  |cons r' rr=>
   cases rr
   obtain⟨t,rfl⟩:=r;obtain⟨t',rfl⟩:=r';refine call_range_2 (fG ?_);refine call_list_range (I1.ok.hd hc) (iU ..) (small_one q1 q2 q3 q4) (n:=(j-i).toNat) (by rw[rangeSize_one];split<;>lia) (aA q5 (by decide)) λh' tk acc' c' hk he hi=> ?_;have I2:=I1.kept (h':=s1.heap.push {cls:= .type "range",data:= .fields #[.int i t,.int j t',.int 1 s1.toks]}) (t':=s1.toks+1) λb o e=>ay _ e;have hl:acc'.toList.length=(j-i).toNat:=by simpa using hi.1
   have vr:=J9 acc'.toList i λk v hv=>by
    obtain⟨tt,e⟩:=hi.2 k v (by simpa using hv);exact⟨tt,by rw[e];congr 1;lia⟩
   rw[hl]at vr;have fr:=I2.ko.fresh (aq _);exact⟨.ref _,_,I2.laid (t':=tk) hk (aq _) (show mf X.prog X.w _ h' _ (.lst ((bh (j-i).toNat).map λt:Nat=>V.int (i+(t:Int)))) from⟨by rw[aa,bI];exact q5,acc'.toList,c',vr,by simpa using he⟩),rfl,q _ fr⟩
end
section
variable{X:Cx}{pins:List (Addr×Obj)}{σ:St}{H:Hp}{s:Shared}{h':Heap}
theorem Inv.Sh{t':Nat}{it jt:Addr}(I:Inv X pins σ H s)(k:∀b o,b≠it->b≠jt->s.heap.get? b=some o->h'.get? b=some o)(f:AL X pins H it)(g:AL X pins H jt):Inv X pins σ H {s with heap:=h',toks:=t'}:=by
 obtain⟨hn,hL,_,h1,h2,h3⟩:=f;obtain⟨hn',hL',_,h1',h2',h3'⟩:=g;have nit:∀b u,H b=some u->b≠it:=λb u e z=>by rw[z,hn]at e;cases e
 have njt:∀b u,H b=some u->b≠jt:=λb u e z=>by rw[z,hn']at e;cases e
 have k':∀b o,b∉ [it,jt]->s.heap.get? b=some o->h'.get? b=some o:=λb o hc e=>k b o (λz=>hc (by simp[z])) (λz=>hc (by simp[z])) e;refine I.step (g':=s.gens) (d':=s.drawn) (ch:=[it,jt]) (λb hb=> ?_) (λb o _ _ hc e _=>k' b o hc e) (λb o _ _ hc e _=>⟨o.slots,k' b o hc e⟩) (λ_ _ _ _ n=>n)
  (λb o hc e=>⟨o,k' b o hc e⟩) (λ_ _ e=>e) (λ_ _ _ e=>e) (λb ps e=>⟨#[],by rw[e];simp⟩) (λm hm=> ?_) (λb u e=> ?_) I.bare
 ·rcases List.mem_cons.mp hb with rfl|hb
  ·exact⟨h1,hL,h2,h3⟩
  ·rw[az]at hb;subst hb;exact⟨h1',hL',h2',h3'⟩
 ·obtain⟨o,es,ep,ho,r⟩:=hm;exact⟨o,es,ep,k _ o (ah hL) (ah hL') ho,r⟩
 ·refine(I.ko b u e).sj (λc v hc q=>k c v ?_ ?_ q) (λ_ q=>q) λ_ _ q=>q
  ·rcases hc with z|z
   ·rw[z];exact nit b u e
   ·exact nit c _ z
  ·rcases hc with z|z
   ·rw[z];exact njt b u e
   ·exact njt c _ z
end
noncomputable def Wz (K:af) (a:Addr):It:=
 ⟨λi H=>∃xs x,kO K H a xs/\xs[i]? =some x,λi H x H'=>∃p y,H p=none/\x= .ref p/\H'=upd H p (.tup [.int i,y])/\∀xs,kO K H a xs->xs[i]? =some y,λi H=>∃xs,kO K H a xs/\xs.length<=i⟩
theorem Ny{P:Program}{w:World}{K:af}{elts:List Expr}{k:Nat}{pos:Pos}(a e it:Addr)(ne:e≠it):Turn P w K (.Tuple elts k pos) (Wz K a) [e,it] e (λi h=>(∃old,IsEnum h e it (i:Int) old)/\h.IsListIter it a i) where
 mem:=by simp
 obj:=λi h st b hb=>by
  obtain⟨⟨old,en⟩,li⟩:=st;rcases List.mem_cons.mp hb with rfl|hb
  ·exact⟨_,en,λv z=>by cases z⟩
  ·rw[az]at hb;subst hb;obtain⟨o,e,c,d⟩:=li;exact⟨o,e,λv z=>by rw[d]at z;cases z⟩
 keep:=λi h h' st k=>by
  obtain⟨⟨old,en⟩,li⟩:=st;exact⟨⟨old,k e (by simp) _ en⟩,li.at λo e=>k it (by simp) o e⟩
 item:=by
  intro X hP hw hK hc i pins s σ H E I hf st hg;subst hP hw hK;obtain⟨xs,x,hq,hx⟩:=hg;obtain⟨its,rv,p,hz⟩:=I.list hq;obtain⟨u,hu,ru⟩:=rv.get hx;obtain⟨⟨old,en⟩,li⟩:=st;have fe:=hf e (by simp);have fi:=hf it (by simp);refine wpAny_pyNext_enum_item en li p.isList (x:=u) (by simpa using hu) ne λh' out li' tup sz kp=> ?_;refine⟨_,rfl,wpAny_letOwnedTupleGo_enum out λh2 en2 sb2=> ?_⟩;have hT:∀b o,s.heap.get? b=some o->s.heap.objs.size≠b:=λb o eb=>c_ (aD eb);obtain⟨oe,eE⟩:∃o,s.heap.get? e=some o:=⟨_,en⟩;obtain⟨oi,eI,_⟩:=id li;have I1:Inv X pins σ H {s with heap:=h2,toks:=s.toks+1}:=I.Sh (λb o n1 n2 eb=>(sb2.2 b n1).trans (kp b o n1 n2 eb)) fe fi;have hf0:H s.heap.objs.size=none:=I.ko.fresh (aq _);have tup2:h2.get? s.heap.objs.size=some {cls:=dj "tuple",data:=il #[dt (↑i) s.toks,u]}:=(sb2.2 _ (hT e oe eE)).trans tup;have h0:X.s₀.heap.get? s.heap.objs.size=none:=by
   cases z:X.s₀.heap.get? s.heap.objs.size with
   |none=>rfl
   |some o=>exact absurd (av (aD z) I.sz) (bw _)
  have I2:=I1.adopt (a:=s.heap.objs.size) (o:= .tup [.int i,x]) hf0 ⟨show 2<=sizeLine by decide,[dt (↑i) s.toks,u],.cons ⟨_,rfl⟩ (.cons ru .nil),⟨_,tup2,rfl,_,rfl⟩⟩ h0 (c_ I.lt) (λy c ec z=>by
    obtain⟨v,o,eo,_⟩:=I.cell y c ec;exact hT c o eo z.symm) λp hp z=>hT p.1 p.2 (I.pin p hp).1 z.symm
  refine⟨.ref s.heap.objs.size,_,I2,rfl,⟨_,x,hf0,rfl,rfl,λys hy=>by rw[I.A3 hy hq];exact hx⟩,⟨⟨_,by exact_mod_cast en2⟩,?_⟩,λb hb=> ?_⟩
  ·exact li'.at λo eo=>(sb2.2 it (ah ne)).trans eo
  ·have nb:b≠s.heap.objs.size:=by
    rcases List.mem_cons.mp hb with rfl|hb
    ·exact ah (hT _ oe eE)
    ·rw[az]at hb;subst hb;exact ah (hT _ oi eI)
   rw[i7 nb];exact(hf b hb).1
 done:=by
  intro X hP hw hK hc i pins s σ H E I hf st hg;subst hP hw hK;obtain⟨xs,hq,hx⟩:=hg;obtain⟨its,rv,p,hz⟩:=I.list hq;obtain⟨⟨old,en⟩,li⟩:=st;obtain⟨f0,f1,f2,f3,f4,f5⟩:=hf it (by simp);have hl:=rv.length;exact wpAny_pyNext_enum_end (I.ok.hd hc) en li p.isList (by simp;lia) λh' eb=>⟨rfl,I.turned (t':=s.toks) (λb o hb e=>eb b o hb e) f0 f1 f3 f4 f5⟩
 self:=λ_ _ _ _ _ st h=>let ⟨⟨_,en⟩,_⟩:=st;wpAny_pyIter_enum en h
def OB(K:af)(ta:TA):TI:=λσ H R=>ta σ H λvs H1=>match vs with
 | [.ref a]=>(∃xs,kO K H1 a xs)/\R (Wz K a) H1
 |_=>False
section
variable{X:Cx}
theorem RI{elts:List Expr}{k:Nat}{tpos:Pos}{a:Expr}{ta:TA}{p pos:Pos}(hg:Gl X "enumerate")(hm:X.mg "enumerate"=none)(ha:PA X [a] ta)(hs:starEach [a] X.env=[(false,eval a X.env)]:=by rfl):
  PI X (.Tuple elts k tpos) (.Call (.Name "enumerate" p) [a] [] pos) (OB X.K ta):=by
 intro pins s σ H R I h;refine Call_ (sL I hg hm boot_enumerate (bQ (mJ (ha pos pins s σ H _ I h) λus s1=>qv λvs H1 I1 r1 q1=> ?_) hs rfl))
 try dsimp only at q1
 split at q1
 case h_2=>exact q1.elim
 rename_i l;obtain⟨⟨xs,hq⟩,q⟩:=q1
 cases r1 with
 |cons r rr=>
  cases rr
  cases r
  obtain⟨its,rv,pl,hz⟩:=I1.list hq;refine call_enumerate_list pl.isList λh' en li sz kp=> ?_;have I2:Inv X pins σ H1 {s1 with heap:=h'}:=I1.kept (t':=s1.toks) kp;refine wpAny_pyIter_enum en ?_;refine⟨s1.heap.objs.size+1,[s1.heap.objs.size+1,s1.heap.objs.size],_,_,H1,rfl,I2,Ny l _ _ (c_ (dW _)),⟨⟨_,by exact_mod_cast en⟩,li⟩,λb hb=> ?_,q⟩;rcases List.mem_cons.mp hb with rfl|hb
  ·exact I1.Ot (cO _) (I1.ko.fresh (cO _))
  ·rw[az]at hb;subst hb;exact I1.Ot (aq _) (I1.ko.fresh (aq _))
end
theorem sC{K:af}{a:Addr}{xs:List V}{wA:St}{tt:TT}{te:TE}{H:Hp}{Q:VK}(P:Nat->List V->Hp->Prop)(h0:P 0 [] H)(hS:∀i ys H',P i ys H'->kO K H' a xs)(hz:xs.length<=sizeLine)(hlen:∀i ys H',P i ys H'->ys.length<=i)
  (step:∀(i:Nat) x ys H',xs[i]? =some x->P i ys H'->∀p,H' p=none->∀K1:List V->Hp->Prop,(∀ys' H3,P (i+1) ys' H3->K1 ys' H3)->tt (some (.int i)::some x::wA) (upd H' p (.tup [.int i,x])) λb H2=>if b=true then te (some (.int i)::some x::wA) H2 (λy H3=>K1 (ys++[y]) H3) else K1 ys H2)
  (q:∀ys H',P xs.length ys H'->∀l,H' l=none->Q (.ref l) (upd H' l (.lst ys))):Gm K (Wz K a) wA tt te H Q:=by
 refine⟨λi m ys H'=>P i ys H'/\i<=xs.length/\m=xs.length-i,⟨xs.length,h0,bR _,rfl⟩,λi m ys H' zq=> ?_⟩;obtain⟨hP,hi,em⟩:=zq;refine⟨aA (aA (hlen _ _ _ hP) hi) hz,?_⟩;have hS':=hS _ _ _ hP;by_cases z:i<xs.length
 ·have hx:xs[i]? =some xs[i]:=ab z;refine .inr ⟨⟨xs,xs[i],hS',hx⟩,λx H2 zq=> ?_⟩;obtain⟨p,y,hp,ex,eH,hy⟩:=zq;have ey:y=xs[i]:=by have:=hy xs hS';rw[hx]at this;exact(aY this).symm
  subst ex eH ey;refine⟨p,_,_,rfl,.inl (.inl i8),?_⟩;exact step i _ ys H' hx hP p hp (λys' H3=>∃m',m'<m/\(P (i+1) ys' H3/\i+1<=xs.length/\m'=xs.length-(i+1))) λys' H3 h=>⟨_,by omega,h,z,rfl⟩
 ·have e:i=xs.length:=by lia
  subst e;exact .inl ⟨⟨xs,hS',aq _⟩,q _ _ hP⟩
theorem AS{lo:Int}{n:Nat}{wA:St}{tt:TT}{te:TE}{H:Hp}{Q:VK}(P:Nat->List V->Hp->Prop)(h0:P 0 [] H)(hz:n<=sizeLine)(hlen:∀i ys H',P i ys H'->ys.length<=i)
  (step:∀(i:Nat) ys H',i<n->P i ys H'->∀K1:List V->Hp->Prop,(∀ys' H3,P (i+1) ys' H3->K1 ys' H3)->tt (some (.int (lo+i))::wA) H' λb H2=>if b=true then te (some (.int (lo+i))::wA) H2 (λy H3=>K1 (ys++[y]) H3) else K1 ys H2)
  (q:∀ys H',P n ys H'->∀l,H' l=none->Q (.ref l) (upd H' l (.lst ys))):uw (Qj lo n) wA tt te H Q:=by
 refine⟨λi m ys H'=>P i ys H'/\i<=n/\m=n-i,⟨n,h0,bR _,rfl⟩,λi m ys H' zq=> ?_⟩;obtain⟨hP,hi,em⟩:=zq;refine⟨aA (aA (hlen _ _ _ hP) hi) hz,?_⟩;by_cases z:i<n
 ·refine .inr ⟨z,λx H2=>gB λe2 e3=> ?_⟩;rw[e2,e3];exact step i ys H' z hP (λys' H3=>∃m',m'<m/\(P (i+1) ys' H3/\i+1<=n/\m'=n-(i+1))) λys' H3 h=>⟨_,by omega,h,z,rfl⟩
 ·have e:i=n:=by lia
  subst e;exact .inl ⟨aq _,q _ _ hP⟩
section
variable{X:Cx}
def LC:R2:=λx y H Q=>match x,y with
 | .ref a,.ref b=>(match H a,H b with
  |some (.tup xs),some (.tup ys)=>xs≠ []/\ys≠ []/\xs.length+ys.length<=sizeLine/\∀p,H p=none->Q (.ref p) (upd H p (.tup (xs++ys)))
  |_,_=>False)
 |_,_=>False
theorem SY:oZ X (binaryOp .Add) LC:=Rx.mono λx y H Q h=>by
 unfold LC at h
 cases x<;>try exact h.elim
 rename_i a
 cases y<;>try exact h.elim
 rename_i b;dsimp only at h
 cases e1:H a<;>rw[e1]at h<;>try exact h.elim
 rename_i o
 cases o<;>try exact h.elim
 rename_i xs
 cases e2:H b<;>rw[e2]at h<;>try exact h.elim
 rename_i o
 cases o<;>try exact h.elim
 rename_i zs;exact⟨_,_,xs,zs,rfl,rfl,.of e1,.of e2,h.1,h.2.2.1,λz=>absurd z h.2.1,λ_=>h.2.2.2⟩
theorem S5{K:af}{e:Expr}{f:Str}{pos:Pos}{ta:TE}(hK:X.K=K)(he:PE X e ta)(hb:attributeBase e f X.env (eval e X.env)=eval e X.env):PE X (.Attribute e f pos) (MF K ta f):=hK▸Sk he hb
end
structure JE(X:Cx)(e:Expr)(t:TE):Prop where
 run:PE X e t
structure JT(X:Cx)(e:Expr)(t:TT):Prop where
 run:PT X e t
structure JW(X:Cx)(e:Expr)(t:TT):Prop where
 run:PW X e t
structure JA(X:Cx)(e:List Expr)(t:TA):Prop where
 run:PA X e t
structure JS(X:Cx)(e:Stmt)(t:TS):Prop where
 run:PS X e t
structure kY(X:Cx)(e:List Stmt)(t:TS):Prop where
 run:IE X e t
structure JG(X:Cx)(e:Expr)(t:TG):Prop where
 run:PG X e t
structure WB(X:Cx)(e:List Expr)(t:Qk):Prop where
 run:U9 X e t
structure JI(X:Cx)(tg e:Expr)(t:TI):Prop where
 run:PI X tg e t
structure JO(X:Cx)(e:Option Expr)(t:TO):Prop where
 run:PO X e t
structure MA(X:Cx)(e:List Expr)(t:TT):Prop where
 run:EC X e t
structure Bn(X:Cx)(f:Value->Value->Sem Value)(r:R2):Prop where
 run:oZ X f r
structure XY(X:Cx)(f:Value->Sem Value)(r:V->Hp->VK->Prop):Prop where
 run:Vc X f r
structure uI(X:Cx)(f:Value)(r:List V->Hp->VK->Prop):Prop where
 run:nW X f r
structure WO(X:Cx)(r:R2):Prop where
 run:SH X r
structure WR(X:Cx)(r:V->Option Int->Option Int->Hp->VK->Prop):Prop where
 run:Si X r
structure U7(X:Cx)(t:MB):Prop where
 run:Qt X t
structure WQ(X:Cx)(id:String)(r:V->List V->Hp->VK->Prop):Prop where
 run:XZ X id r
section
variable{X:Cx}{rest:List Expr}{lo hi:Option Expr}{id T:String}{op:Operator}{st:Stmt}{srest:List Stmt}{hrest:List ExceptHandler}
theorem iZ(i:Nat){x:Str}{pos:Pos}(hN:X.N[i]? =some x:=by rfl)(hv:UW X.env.scope x:=by first|exact gx rfl|exact fc (gx rfl)|exact fc (fc rfl))(hd:(x==("__debug__":Str))=false:=by decide)(hcd:(x==("__classdict__":Str))=false:=by decide):JE X (.Name x pos) (AO i):=⟨cv i hN hv hd hcd⟩
theorem kT{x:Str}{v:V}{pos:Pos}(h:Gv X.mg x v)(hg:Gl X x:=by rfl)(hd:(x==("__debug__":Str))=false:=by decide):JE X (.Name x pos) (tC v):=⟨Wg h hg hd⟩
theorem A0{x:Str}{T:String}{pos:Pos}(hm:X.mg x=none)(hv:bootBuiltins x=some (.type T))(hg:Gl X x:=by rfl)(hn:x≠"__name__":=by decide)(hd:(x==("__debug__":Str))=false:=by decide):JE X (.Name x pos) (tC (.ty T)):=⟨Wj hm hv hg hn hd⟩
theorem j7{j pos}:JE X (.Constant .none j pos) (tC .non):=⟨Uh⟩
theorem lH{b j pos}:JE X (.Constant (.bool b) j pos) (tC (.bl b)):=⟨Wf⟩
theorem i6{i j pos}:JE X (.Constant (.int i) j pos) (tC (.int i)):=⟨Ug⟩
theorem i_{x j pos}:JE X (.Constant (.str x) j pos) (tC (.str x)):=⟨Uk⟩
theorem ja{op:Operator}{r:R2}(ho:Bn X (binaryOp op) r)(ha:JE X a ta)(hb:JE X b tb):JE X (.BinOp a op b pos) (P0 r ta tb):=⟨Wi ho.run ha.run hb.run⟩
theorem G8{op:UnaryOp}{r:V->Hp->VK->Prop}(ho:XY X (unaryOp op) r)(ha:JE X a ta):JE X (.UnaryOp op a pos) (XJ r ta):=⟨Wk ho.run ha.run⟩
theorem Jg(ha:JE X a ta):JE X (.UnaryOp .Not a pos) (PZ ta):=⟨Ui ha.run⟩
theorem qB(ha:JE X a ta)(hb:JE X (.BoolOp .And (b::rest) pos) tb):JE X (.BoolOp .And (a::b::rest) pos) (PQ ta tb):=⟨Ue ha.run hb.run⟩
theorem qC{op}{t:TE}(h:JE X a t):JE X (.BoolOp op [a] pos) t:=⟨Uj h.run⟩
theorem nM{op:CmpOp}{r:R2}(ho:Bn X (compareOp op) r)(ha:JE X a ta)(hb:JE X b tb)(hm:behindInMarks op b=false):JE X (.Compare a [op] [b] pos) (P0 r ta tb):=⟨RC ho.run ha.run hb.run hm⟩
theorem KA{op op':CmpOp}{r r':R2}(ho:Bn X (compareOp op) r)(ho':Bn X (compareOp op') r')(ha:JE X a ta)(hb:JE X b tb)(hc:JE X c tc)(hm:lastMarks [op,op'] [b,c]=false:=by with_unfolding_all rfl):JE X (.Compare a [op,op'] [b,c] pos) (Lp r r' ta tb tc):=⟨O_ ho.run ho'.run ha.run hb.run hc.run hm⟩
theorem kh(h:JA X es t):JE X (.List es pos) (PV t):=⟨Pd h.run⟩
theorem lY{x1}(h:JA X es t):JE X (.Tuple es x1 pos) (UK t):=⟨Ul h.run⟩
theorem Aa  :JE X (.Dict [] [] pos) Lq:=⟨Pb⟩
theorem sH{r:V->Option Int->Option Int->Hp->VK->Prop}(hr:WR X r)(he:JE X e te)(hl:JO X lo tl)(hu:JO X hi th):JE X (.Subscript e (.Slice lo hi none p2) pos) (XI r te tl th):=⟨Ph hr.run he.run hl.run hu.run⟩
theorem FY(ha:JA X es t)(hi:JE X e ti)(hs:CC e):JE X (.Subscript (.List es p2) e pos) (P0 Px (PV t) ti):=⟨RH ha.run hi.run hs⟩
theorem jb(ho:JE X o td)(hi:JE X i ty)(hu:X.A.units+1<cLine:=by exact wC hr)(hs:SJ i:=by exact λ_ _=>rfl):JE X (.Subscript o i pos) (IL td ty):=⟨S0 hu ho.run hi.run hs⟩
theorem jv{r:R2}(hr:WO X r)(ha:JE X a ta)(hb:JE X b tb)(hs:CC b:=by exact λ_ _=>rfl):JE X (.Subscript a b pos) (P0 r ta tb):=⟨Sx hr.run ha.run hb.run hs⟩
theorem Kz(F:mS X.prog X.w X.K X.mg X.base (uv X.prog X.w) ca k f fd ps sp)(hr:lM ca k X.A)(hg:Gl X x)(hm:X.mg x=some (.ref f))(hk:bC X.K (.ref f)=true)(hb:Binds X.K fd ps [])(hx:Exc X E)(ha:JA X (e::es) t)(hdb:(x==("__debug__":Str))=false:=by decide)(h:(e::es).all notStar=true:=by rfl):JE X (.Call (.Name x p) (e::es) [] pos) (AH sp E t):=⟨Jy F hr hg hm hk hb hx ha.run hdb h⟩
theorem oh(M:Mk X.K C f)(F:mS X.prog X.w X.K X.mg X.base (uv X.prog X.w) ca k f fd ps sp)(hr:lM ca (k+1) X.A)(hg:Gl X x)(hm:X.mg x=some (.ref C))(hb:Binds X.K fd ps [])(hx:Exc X E)(ha:JA X (e::es) t)(hdb:(x==("__debug__":Str))=false:=by decide)(h:(e::es).all notStar=true:=by rfl):JE X (.Call (.Name x p) (e::es) [] pos) (B1 C sp E t):=⟨Pf M F hr hg hm hb hx ha.run hdb h⟩
theorem uR(M:Mk X.K C f)(F:mS X.prog X.w X.K X.mg X.base (uv X.prog X.w) ca k f fd ps sp)(hr:lM ca (k+1) X.A)(hg:Gl X x)(hm:X.mg x=some (.ref C))(hb:Binds X.K fd ps [])(hx:Exc X E)(hdb:(x==("__debug__":Str))=false:=by decide):JE X (.Call (.Name x p) [] [] pos) (B1 C sp E Ip):=⟨Nf M F hr hg hm hb hx hdb⟩
theorem ji(hc:uI X (.builtin id) r)(hg:Gl X x)(hm:X.mg x=none)(hv:bootBuiltins x=some (.builtin id))(ha:JA X (e::es) t)(hn:x≠"__name__":=by decide)(hdb:(x==("__debug__":Str))=false:=by decide)(h:(e::es).all notStar=true:=by rfl):JE X (.Call (.Name x p) (e::es) [] pos) (UG r t):=⟨Nc hc.run hg hm hv ha.run hn hdb h⟩
theorem qj(hc:uI X (.type T) r)(hg:Gl X x)(hm:X.mg x=none)(hv:bootBuiltins x=some (.type T))(ha:JA X (e::es) t)(hn:x≠"__name__":=by decide)(hdb:(x==("__debug__":Str))=false:=by decide)(h:(e::es).all notStar=true:=by rfl):JE X (.Call (.Name x p) (e::es) [] pos) (UG r t):=⟨KR hc.run hg hm hv ha.run hn hdb h⟩
theorem nP{id:String}{name:Str}(slot:Slot "list" name id)(hty:typeOf (.builtin id)=pure (.type "method_descriptor"))(hm:WQ X id r)(ho:JE X o to)(ha:JA X (e::es) t)(hns:(e::es).all notStar=true:=by rfl)(hbase:attributeBase o name X.env (eval o X.env)=eval o X.env:=by rfl)(hfew:((backTo cpos (starEach (e::es) X.env)).all (λx=> !x.1)&&(backToKw cpos (keywordEach [] X.env)).all (λx=>x.1.isSome)
   &&decide ((e::es).length+([]:List Keyword).length+(if ([]:List Keyword).isEmpty then 0 else 1)<30))=true:=by rfl) (hline:(apos.endLine==cpos.line)=true:=by rfl):JE X (.Call (.Attribute o name apos) (e::es) [] cpos) (W0 r to t):=⟨W5 slot hty hm.run ho.run ha.run hns hbase hfew hline⟩
theorem jd(he:JE X e ta)(hb:attributeBase e f X.env (eval e X.env)=eval e X.env):JE X (.Attribute e f pos) (MF X.K ta f):=⟨Sk he.run hb⟩
theorem Je{K:af}{e:Expr}{f:Str}{pos:Pos}{ta:TE}(hK:X.K=K)(he:JE X e ta)(hb:attributeBase e f X.env (eval e X.env)=eval e X.env):JE X (.Attribute e f pos) (MF K ta f):=⟨S5 hK he.run hb⟩
theorem MW  :JO X none Iq:=⟨RK⟩
theorem qy(h:JE X e te):JO X (some e) (N0 te):=⟨S_ h.run⟩
theorem iX  :JA X [] Ip:=⟨KQ⟩
theorem iW(ha:JE X e te)(hr:JA X es t)(h:notStar e=true:=by rfl):JA X (e::es) (Ep te t):=⟨Uc ha.run hr.run h⟩
theorem jS(ha:JT X a tA):JT X (.UnaryOp .Not a pos) (UI tA):=⟨Uv ha.run⟩
theorem k_{X:Cx}{e:Expr}{t:TT}(h:JW X e t):JT X e t:=⟨PW.pt h.run⟩
theorem je{op:CmpOp}{r:R2}(ho:Bn X (compareOp op) r)(ha:JE X a ta)(hb:JE X b tb)(hm:behindInMarks op b=false):JT X (.Compare a [op] [b] pos) (P2 (P0 r ta tb)):=⟨RR ho.run ha.run hb.run hm⟩
theorem jB(ha:JE X a ta)(he:∀whole,isTrue a X.env whole=(do let v←whole;standAt a.pos;holding [v] (truthy v))):JT X a (λσ H Q=>ta σ H λx H'=>∃k,NO X.K x H' k/\Q k H'):=⟨Pt ha.run he⟩
theorem ox(ha:JT X a tA):JW X (.BoolOp .And [a] pos) tA:=⟨RS ha.run⟩
theorem mY(ha:JT X a tA):JW X (.BoolOp .Or [a] pos) tA:=⟨Ux ha.run⟩
theorem mv(ha:JT X a tA)(hb:JW X (.BoolOp .And (b::rest) pos) tB'):JW X (.BoolOp .And (a::b::rest) pos) (UE tA tB'):=⟨Uw ha.run hb.run⟩
theorem nO(ha:JT X a tA)(hb:JW X (.BoolOp .Or (b::rest) pos) tB'):JW X (.BoolOp .Or (a::b::rest) pos) (XH tA tB'):=⟨Wn ha.run hb.run⟩
theorem jh  :kY X [] PY:=⟨RP⟩
theorem i3(h1:JS X st t):kY X [st] t:=⟨RQ h1.run⟩
theorem iY(h1:JS X st t)(h2:kY X srest u):kY X (st::srest) (pE t u):=⟨Pr h1.run h2.run⟩
theorem jG{i:Nat}{x:Str}(hN:X.N.Nodup)(hi:X.N[i]? =some x)(hx:Loc X.env.scope x)(hf:X.fn x=true∨X.env.scope.names.lookup x=some .local:=by first|exact .inl rfl|exact .inr rfl|assumption):JG X (.Name x pos) (nZ i):=⟨CO hN hi hx hf⟩
theorem jf(he:JE X e te):JS X (.Return (some e) pos) (UJ te):=⟨Ut he.run⟩
theorem MY  :JS X (.Return none pos) P1:=⟨RO⟩
theorem jc(he:JE X e te)(hs:swapsWith e none pos.line X.env=pure false:=by rfl):JS X (.Expr e pos) (PU te):=⟨RN he.run hs⟩
theorem ju{c:Expr}{a b:List Stmt}{tc:TT}(hc:JT X c tc)(ha:kY X a t)(hb:kY X b u):JS X (.If c a b pos) (Lr tc t u):=⟨Wm hc.run ha.run hb.run⟩
theorem jr{i:Nat}{x:Str}{e:Expr}{te:TE}{pos':Pos}(hN:X.N.Nodup)(hi:X.N[i]? =some x)(hx:Loc X.env.scope x)(he:JE X e te)(hs:swapsWith e (some (.Name x pos')) pos.line X.env=pure false:=by rfl)(hf:X.fn x=true∨X.env.scope.names.lookup x=some .local:=by first|exact .inl rfl|exact .inr rfl|assumption):JS X (.Assign [.Name x pos'] e pos) (CA te (nZ i)):=⟨Uu hN hi hx he.run hs hf⟩
theorem j6(ha:JE X o ta)(hv:JE X value tv)(hs:swapsWith value (some (.Attribute o f pos')) pos.line X.env=pure false):JS X (.Assign [.Attribute o f pos'] value pos) (N1 X.K ta tv f):=⟨Ta ha.run hv.run hs⟩
theorem qx(hu:X.A.units+1<cLine)(ho:JE X o td)(hi:JE X i ty)(hv:JE X value tv)(hs:swapsWith value (some (.Subscript o i pos')) pos.line X.env=pure false):JS X (.Assign [.Subscript o i pos'] value pos) (NX td ty tv):=⟨S2 hu ho.run hi.run hv.run hs⟩
theorem mn{tg e:Expr}{te:TE}{g:TG}(he:JE X e te)(hg:JG X tg g)(hs:swapsWithSole [tg] e pos.line X.env=pure false:=by rfl)(hw:swappedStores [tg] e X.env=pure none:=by rfl)(h1:(assignEach [tg] X.env).map (·.2)=[assign tg X.env]:=by rfl):JS X (.Assign [tg] e pos) (CA te g):=⟨Ur he.run hg.run hs hw h1⟩
theorem mj{o i:Expr}{to ti:TE}{t:MB}(ho:JE X o to)(hi:JE X i ti)(hs:U7 X t)(ha:∀v,assign (.Subscript o i pos) X.env v=(do
   let ov←holding [v] (eval o X.env)
   let iv←holding [v,ov] (eval i X.env)
   standAt pos
   holding [v,ov,iv] (setItem ov iv v)
   release [v,ov,iv] []):=by intro _;rfl):JG X (.Subscript o i pos) (Ou to ti t):=⟨Um ho.run hi.run hs.run ha⟩
theorem kS{a:Expr}{ta:TA}{p pos:Pos}(hg:Gl X "range")(hm:X.mg "range"=none)(ha:JA X [a] ta)(hs:starEach [a] X.env=[(false,eval a X.env)]:=by rfl):JI X tg (.Call (.Name "range" p) [a] [] pos) (OD ta):=⟨Nh hg hm ha.run hs⟩
theorem Jh{a b:Expr}{ta:TA}{p pos:Pos}(hg:Gl X "range")(hm:X.mg "range"=none)(ha:JA X [a,b] ta)(hs:starEach [a,b] X.env=[(false,eval a X.env),(false,eval b X.env)]:=by rfl)(hs2:starEach [b] X.env=[(false,eval b X.env)]:=by rfl):JI X tg (.Call (.Name "range" p) [a,b] [] pos) (OE ta):=⟨Ni hg hm ha.run hs hs2⟩
theorem pf  :WB X [] MP:=⟨Mj⟩
theorem ky{e:Expr}{es:List Expr}{t:TG}{u:Qk}(h1:JG X e t)(h2:WB X es u)(hs:(assignEach (e::es) X.env).map (·.2)=assign e X.env::(assignEach es X.env).map (·.2):=by rfl):WB X (e::es) (wB t u):=⟨DU h1.run h2.run hs⟩
theorem ka{l:Expr}{tl:TE}(hl:JE X l tl):JI X tg l (OC X.K tl):=⟨RJ hl.run⟩
theorem r_{elts:List Expr}{k:Nat}{tpos:Pos}{a:Expr}{ta:TA}{p pos:Pos}(hg:Gl X "enumerate")(hm:X.mg "enumerate"=none)(ha:JA X [a] ta)(hs:starEach [a] X.env=[(false,eval a X.env)]:=by rfl):JI X (.Tuple elts k tpos) (.Call (.Name "enumerate" p) [a] [] pos) (OB X.K ta):=⟨RI hg hm ha.run hs⟩
theorem jY{iter:Expr}{body:List Stmt}{wi:TI}{g:TG}{tb:TS}{pos:Pos}(hp:PassesOwn (model X.prog X.w) X.A X.env X.xe)(hc:X.calm=true)(hi:JI X tg iter wi)(hg:JG X tg g)(hb:kY X body tb)(hs:∀x,foldedSetIterable iter X.env x=pure x:=by intro _;rfl):JS X (.For tg iter body [] pos) (UH wi g tb):=⟨Us hp hc hi.run hg.run hb.run hs⟩
theorem wa{x:Str}{elt iter:Expr}{px pos:Pos}{ifs:List Expr}{wi:TI}{tt:TT}{te:TE}(S:oa fsc scope [x] N2)(hf:X.env.scope=fsc)(hjs:js.map (λj=>X.N[j]?)=N2.map some)(hc:X.calm=true)(hi:JI X (.Name x px) iter wi)(ht:∀s H C ex,MA (X.vY scope (x::N2) [x] s H C ex) ifs tt)(he:∀s H C ex,JE (X.vY scope (x::N2) [x] s H C ex) elt te)(hs:∀v,foldedSetIterable iter X.env v=pure v:=by intro _;rfl):JE X (.ListComp elt [⟨.Name x px,iter,ifs,0⟩] scope pos) (J6 js wi tt te):=⟨RD S hf hjs hc hi.run (λs H C ex=>(ht s H C ex).run) (λs H C ex=>(he s H C ex).run) hs⟩
theorem KC{x1 x2:Str}{elt iter:Expr}{p1 p2 pt pos:Pos}{k:Nat}{ifs:List Expr}{wi:TI}{tt:TT}{te:TE}(S:oa fsc scope [x1,x2] N2)(hf:X.env.scope=fsc)(hjs:js.map (λj=>X.N[j]?)=N2.map some)(hc:X.calm=true)(hi:JI X (.Tuple [.Name x1 p1,.Name x2 p2] k pt) iter wi)(ht:∀s H C ex,MA (X.vY scope (x1::x2::N2) [x1,x2] s H C ex) ifs tt)(he:∀s H C ex,JE (X.vY scope (x1::x2::N2) [x1,x2] s H C ex) elt te)(hs:∀v,foldedSetIterable iter X.env v=pure v:=by intro _;rfl):JE X (.ListComp elt [⟨.Tuple [.Name x1 p1,.Name x2 p2] k pt,iter,ifs,0⟩] scope pos) (Eo X.K js wi tt te):=⟨Pa S hf hjs hc hi.run (λs H C ex=>(ht s H C ex).run) (λs H C ex=>(he s H C ex).run) hs⟩
theorem oF{x:Str}{elt iter:Expr}{px py pos spos:Pos}{ifs:List Expr}{wi:TI}{tt:TT}{te:TE}{i:Nat}{y:Str}(hN:X.N.Nodup)(hy:X.N[i]? =some y)(hl:Loc X.env.scope y)(S:oa fsc scope [x] N2)(hf:X.env.scope=fsc)(hjs:js.map (λj=>X.N[j]?)=N2.map some)(hc:X.calm=true)(hi:JI X (.Name x px) iter wi)(ht:∀s H C ex,MA (X.vY scope (x::N2) [x] s H C ex) ifs tt)(he:∀s H C ex,JE (X.vY scope (x::N2) [x] s H C ex) elt te)(hs:∀v,foldedSetIterable iter X.env v=pure v:=by intro _;rfl)(hsw:swapsWith (.ListComp elt [⟨.Name x px,iter,ifs,0⟩] scope pos) (some (.Name y py)) spos.line X.env=pure true:=by rfl)(hfn:X.fn y=true∨X.env.scope.names.lookup y=some .local:=by first|exact .inl rfl|exact .inr rfl|assumption):JS X (.Assign [.Name y py] (.ListComp elt [⟨.Name x px,iter,ifs,0⟩] scope pos) spos) (CA (J6 js wi tt te) (nZ i)):=⟨KW hN hy hl S hf hjs hc hi.run (λs H C ex=>(ht s H C ex).run) (λs H C ex=>(he s H C ex).run) hs hsw hfn⟩
theorem wD{x1 x2:Str}{elt iter:Expr}{p1 p2 pt py pos spos:Pos}{k:Nat}{ifs:List Expr}{wi:TI}{tt:TT}{te:TE}{i:Nat}{y:Str}(hN:X.N.Nodup)(hy:X.N[i]? =some y)(hl:Loc X.env.scope y)(S:oa fsc scope [x1,x2] N2)(hf:X.env.scope=fsc)(hjs:js.map (λj=>X.N[j]?)=N2.map some)(hc:X.calm=true)(hi:JI X (.Tuple [.Name x1 p1,.Name x2 p2] k pt) iter wi)(ht:∀s H C ex,MA (X.vY scope (x1::x2::N2) [x1,x2] s H C ex) ifs tt)(he:∀s H C ex,JE (X.vY scope (x1::x2::N2) [x1,x2] s H C ex) elt te)(hs:∀v,foldedSetIterable iter X.env v=pure v:=by intro _;rfl)(hsw:swapsWith (.ListComp elt [⟨.Tuple [.Name x1 p1,.Name x2 p2] k pt,iter,ifs,0⟩] scope pos) (some (.Name y py)) spos.line X.env=pure true:=by rfl)(hfn:X.fn y=true∨X.env.scope.names.lookup y=some .local:=by first|exact .inl rfl|exact .inr rfl|assumption):JS X (.Assign [.Name y py] (.ListComp elt [⟨.Tuple [.Name x1 p1,.Name x2 p2] k pt,iter,ifs,0⟩] scope pos) spos) (CA (Eo X.K js wi tt te) (nZ i)):=⟨JC hN hy hl S hf hjs hc hi.run (λs H C ex=>(ht s H C ex).run) (λs H C ex=>(he s H C ex).run) hs hsw hfn⟩
theorem qD{es:List Expr}{k:Nat}{t:Qk}{n:Nat}(hc:X.calm=true)(h:WB X es t)(hn:(assignEach es X.env).length=n:=by rfl)(hst:(assignEach es X.env).findIdx? (·.1)=none:=by rfl):JG X (.Tuple es k pos) (Ov X.K n t):=⟨Pm hc h.run hn hst⟩
theorem Dv{X:Cx}:MA X [] UL:=⟨Pn⟩
theorem l_{X:Cx}{c:Expr}{tt:TT}(h:JT X c tt):MA X [c] tt:=⟨Po h.run⟩
theorem jM  :Bn X (binaryOp .Add) QH:=⟨Vl⟩
theorem lX  :Bn X (binaryOp .Sub) QX:=⟨VE⟩
theorem vZ  :Bn X (binaryOp .Mult) QQ:=⟨Vv⟩
theorem lE  :Bn X (binaryOp .FloorDiv) LD:=⟨S4⟩
theorem jU  :Bn X (binaryOp .Mod) QP:=⟨Vu⟩
theorem LZ  :Bn X (binaryOp .Pow) QU:=⟨VA⟩
theorem p_  :Bn X (compareOp .Lt) W4:=⟨W_⟩
theorem G1  :Bn X (compareOp .LtE) W3:=⟨W9⟩
theorem Dr  :Bn X (compareOp .Gt) W2:=⟨W6⟩
theorem lj  :Bn X (compareOp .Eq) Vj:=⟨Vn⟩
theorem G2  :Bn X (compareOp .NotEq) Vk:=⟨Vw⟩
theorem z_  :Bn X (compareOp .Is) WG:=⟨W7⟩
theorem pe  :Bn X (compareOp .IsNot) GC:=⟨QY⟩
theorem G4  :XY X (unaryOp .USub) QT:=⟨Vz⟩
theorem AZ  :Bn X (binaryOp .Mult) QV:=⟨VB⟩
theorem jE  :WO X WH:=⟨W8⟩
theorem Rh  :WO X (QN X.K):=⟨Vs⟩
theorem jJ  :uI X (.builtin "len") QO:=⟨Vt⟩
theorem ON  :uI X (.builtin "len") (LG X.K):=⟨S7⟩
theorem qz{X:Cx}:uI X (.builtin "isinstance") (RV X.K):=⟨Ob⟩
theorem Rg  :uI X (.type "int") cInt:=⟨Vr⟩
theorem OO  :WR X WJ:=⟨Xa⟩
theorem L0  :WR X (QW X.K):=⟨VD⟩
theorem nK  :U7 X FP:=⟨VC⟩
theorem kr  :WQ X "list.append" CD:=⟨N3⟩
theorem Ds  :uI X (.type "list") LH:=⟨S8⟩
theorem pK(hu:X.A.units+8<cLine):Bn X (compareOp .Eq) QJ:=⟨Vo hu⟩
theorem v_(hu:X.A.units+8<cLine):Bn X (compareOp .NotEq) MG:=⟨N8 hu⟩
theorem Ab{c:Expr}{body:List Stmt}{tc:TT}{tb:TS}(hp:PassesOwn (model X.prog X.w) X.A X.env X.xe)(hc:JT X c tc)(hb:kY X body tb):JS X (.While c body [] pos) (P4 tc tb):=⟨Pq hp hc.run hb.run⟩
theorem Rc  :Bn X (binaryOp .Add) QI:=⟨Vm⟩
theorem KD(hc:X.calm=true)(hgl:Gl X "list")(hml:X.mg "list"=none)(hgr:Gl X "range")(hmr:X.mg "range"=none)(ha:JA X [a,b] ta)(hs:starEach [a,b] X.env=[(false,eval a X.env),(false,eval b X.env)]:=by rfl)(hs2:starEach [b] X.env=[(false,eval b X.env)]:=by rfl):JE X (.Call (.Name "list" p) [.Call (.Name "range" p2) [a,b] [] pos2] [] pos) (Kk ta):=⟨Pc hc hgl hml hgr hmr ha.run hs hs2⟩
theorem Rf(hu:X.A.units+1<cLine):Bn X (compareOp .In) QL:=⟨Vq hu⟩
theorem Kw(hu:X.A.units+1<cLine):Bn X (compareOp .NotIn) CI:=⟨N9 hu⟩
theorem Jd(ho:JE X o td)(he:JE X e ty)(m:M1 X o "pop" apos e cpos):JE X (.Call (.Attribute o "pop" apos) [e] [] cpos) (NW td ty):=⟨S1 ho.run he.run m⟩
theorem OM  :uI X (.builtin "len") LF:=⟨S6⟩
theorem Kv  :WQ X "list.extend" CF:=⟨N6⟩
theorem Ky  :uI X (.builtin "sorted") CJ:=⟨Oa⟩
theorem B_(hc:X.calm=true):uI X (.builtin "sorted") AN:=⟨MH hc⟩
theorem OL  :Bn X (binaryOp .Add) LC:=⟨SY⟩
end
section
variable{X:Cx}{scope:Scope}{N2:List Str}{x:List Str}{s:Shared}{Hb:Hp}{C:Addr}{ex:List Addr}
theorem Jj{a:Expr}{ta:TE}(ha:JE (X.vY scope N2 x s Hb C ex) a ta)(he:∀whole,isTrue a (X.vY scope N2 x s Hb C ex).env whole=(do let v←whole;standAt a.pos;holding [v] (truthy v))):JT (X.vY scope N2 x s Hb C ex) a (λσ H Q=>ta σ H λx H'=>∃k,NO X.K x H' k/\Q k H'):=jB ha he
end
variable{X:Cx}
section
variable{X:Cx}{pins:List (Addr×Obj)}{σ:St}{H:Hp}{s:Shared}{h':Heap}
theorem Inv.Mv{t':Nat}{ch:List Addr}(I:Inv X pins σ H s)(k:∀b o,b∉ch->s.heap.get? b=some o->h'.get? b=some o)(f:∀b∈ch,AL X pins H b):Inv X pins σ H {s with heap:=h',toks:=t'}:=by
 have nit:∀b u,H b=some u->b∉ch:=λb u e z=>by rw[(f b z).1]at e;cases e
 refine I.step (g':=s.gens) (d':=s.drawn) (ch:=ch) (λb hb=> ?_) (λb o _ _ hc e _=>k b o hc e) (λb o _ _ hc e _=>⟨o.slots,k b o hc e⟩) (λ_ _ _ _ n=>n)
  (λb o hc e=>⟨o,k b o hc e⟩) (λ_ _ e=>e) (λ_ _ _ e=>e) (λb ps e=>⟨#[],by rw[e];simp⟩) (λm hm=> ?_) (λb u e=> ?_) I.bare
 ·obtain⟨hn,hL,_,h1,h2,h3⟩:=f b hb;exact⟨h1,hL,h2,h3⟩
 ·obtain⟨o,es,ep,ho,r⟩:=hm;exact⟨o,es,ep,k _ o (λz=>(f _ z).2.1 rfl) ho,r⟩
 ·refine(I.ko b u e).sj (λc v hc q=>k c v ?_ q) (λ_ q=>q) λ_ _ q=>q;rcases hc with z|z
  ·rw[z];exact nit b u e
  ·exact nit c _ z
end
noncomputable def U6 (K:af) (a b:Addr):It:=
 ⟨λi H=>∃xs x ys y,kO K H a xs/\xs[i]? =some x/\kO K H b ys/\ys[i]? =some y,λi H x H'=>∃p u v,H p=none/\x= .ref p/\H'=upd H p (.tup [u,v])/\(∀xs,kO K H a xs->xs[i]? =some u)/\∀ys,kO K H b ys->ys[i]? =some v,
  λi H=>∃xs ys,kO K H a xs/\kO K H b ys/\(xs.length<=i∨ys.length<=i)⟩
theorem P9{P:Program}{w:World}{K:af}{elts:List Expr}{k:Nat}{pos:Pos}(a b z TI TO i1 i2:Addr)(D:ZipApart z TI TO i1 i2 a b):
  Turn P w K (.Tuple elts k pos) (U6 K a b) [z,TI,TO,i1,i2] z (λi h=>IsZip h z TI TO .none/\IsPair h TI (.ref i1) (.ref i2)/\(∃c d,IsPair h TO c d)/\h.IsListIter i1 a i/\h.IsListIter i2 b i) where
 mem:=by simp
 obj:=λi h st c hc=>by
  obtain⟨hz,hTI,⟨_,_,hTO⟩,l1,l2⟩:=st;simp only[aP,aG,or_false]at hc;rcases hc with rfl|rfl|rfl|rfl|rfl
  ·exact⟨_,hz,λv z=>by cases z⟩
  ·exact⟨_,hTI,λv z=>by cases z⟩
  ·exact⟨_,hTO,λv z=>by cases z⟩
  ·obtain⟨o,e,c,d⟩:=l1;exact⟨o,e,λv z=>by rw[d]at z;cases z⟩
  ·obtain⟨o,e,c,d⟩:=l2;exact⟨o,e,λv z=>by rw[d]at z;cases z⟩
 keep:=λi h h' st k=>by
  obtain⟨hz,hTI,⟨c,d,hTO⟩,l1,l2⟩:=st;exact⟨k z (by simp) _ hz,k TI (by simp) _ hTI,⟨c,d,k TO (by simp) _ hTO⟩,l1.at λo e=>k i1 (by simp) o e,l2.at λo e=>k i2 (by simp) o e⟩
 item:=by
  intro X hP hw hK hc i pins s σ H E I hf st hg;subst hP hw hK;obtain⟨xs,x,ys,y,hq,hx,hq2,hy⟩:=hg;obtain⟨its,rv,p,hzl⟩:=I.list hq;obtain⟨u,hu,ru⟩:=rv.get hx;obtain⟨its2,rv2,p2,hzl2⟩:=I.list hq2;obtain⟨v,hv,rv'⟩:=rv2.get hy;obtain⟨hz,hTI,⟨c0,d0,hTO⟩,l1,l2⟩:=st;refine wpAny_pyNext_zip_item D hz hTI hTO l1 l2 p.isList p2.isList (x:=u) (y:=v) (by simpa using hu) (by simpa using hv) λh' z1 to1 l1' l2' tup sz kp=> ?_;refine⟨_,rfl,wpAny_letOwnedTupleGo_zip z1 λh2 z2 sb2=> ?_⟩;have hT:∀b o,s.heap.get? b=some o->s.heap.objs.size≠b:=λb o eb=>c_ (aD eb);have nT:∀b∈ [z,TI,TO,i1,i2],b≠s.heap.objs.size:=λb hb=>by
   simp only[aP,aG,or_false]at hb;rcases hb with rfl|rfl|rfl|rfl|rfl
   ·exact ah (hT _ _ hz)
   ·exact ah (hT _ _ hTI)
   ·exact ah (hT _ _ hTO)
   ·obtain⟨o,e,_⟩:=l1;exact ah (hT _ _ e)
   ·obtain⟨o,e,_⟩:=l2;exact ah (hT _ _ e)
  have I1:Inv X pins σ H {s with heap:=h2,toks:=s.toks}:=I.Mv (ch:=[z,TI,TO,i1,i2]) (λb o nb eb=>(sb2.2 b (λq=>nb (by rw[q];simp))).trans (kp b o (λq=>nb (by rw[q];simp)) (λq=>nb (by rw[q];simp)) (λq=>nb (by rw[q];simp)) (λq=>nb (by rw[q];simp)) eb)) hf;have hf0:H s.heap.objs.size=none:=I.ko.fresh (aq _);have tup2:h2.get? s.heap.objs.size=some {cls:=dj "tuple",data:=il #[u,v]}:=(sb2.2 _ (ah (nT z (by simp)))).trans tup;have h0:X.s₀.heap.get? s.heap.objs.size=none:=by
   cases e:X.s₀.heap.get? s.heap.objs.size with
   |none=>rfl
   |some o=>exact absurd (av (aD e) I.sz) (bw _)
  have I2:=I1.adopt (a:=s.heap.objs.size) (o:= .tup [x,y]) hf0 ⟨show 2<=sizeLine by decide,[u,v],.cons ru (.cons rv' .nil),⟨_,tup2,rfl,_,rfl⟩⟩ h0 (c_ I.lt) (λq c ec zq=>by
    obtain⟨v',o,eo,_⟩:=I.cell q c ec;exact hT c o eo zq.symm) λp hp zq=>hT p.1 p.2 (I.pin p hp).1 zq.symm
  refine⟨.ref s.heap.objs.size,_,I2,rfl,⟨_,x,y,hf0,rfl,rfl,λzs hzs=>by rw[I.A3 hzs hq];exact hx,λzs hzs=>by rw[I.A3 hzs hq2];exact hy⟩,⟨z2,(sb2.2 TI D.TIz).trans (kp TI _ D.TIz D.TITO D.TIi1 D.TIi2 hTI),⟨u,v,(sb2.2 TO D.TOz).trans to1⟩,l1'.at λo eo=>(sb2.2 i1 D.i1z).trans eo,l2'.at λo eo=>(sb2.2 i2 D.i2z).trans eo⟩,λb hb=> ?_⟩;rw[i7 (nT b hb)];exact(hf b hb).1
 done:=by
  intro X hP hw hK hc i pins s σ H E I hf st hg;subst hP hw hK;obtain⟨xs,ys,hq,hq2,hx⟩:=hg;obtain⟨its,rv,p,hzl⟩:=I.list hq;obtain⟨its2,rv2,p2,hzl2⟩:=I.list hq2;obtain⟨hz,hTI,⟨c0,d0,hTO⟩,l1,l2⟩:=st;have e1:=rv.length;have e2:=rv2.length;refine wpAny_pyNext_zip_end (I.ok.hd hc) D hz hTI hTO l1 l2 p.isList p2.isList (by
   rcases hx with hx|hx
   ·left;simp;lia
   ·right;simp;lia) λh' kp=>⟨rfl,?_⟩
  exact I.Mv (t':=s.toks) (ch:=[z,TI,TO,i1,i2]) (λb o nb eb=>kp b o (λq=>nb (by rw[q];simp)) (λq=>nb (by rw[q];simp)) (λq=>nb (by rw[q];simp)) (λq=>nb (by rw[q];simp)) eb) hf
 self:=λ_ _ _ _ _ st h=>wpAny_pyIter_zip st.1 h
def Tt(K:af)(ta:TA):TI:=λσ H R=>ta σ H λvs H1=>match vs with
 | [.ref a,.ref b]=>(∃xs,kO K H1 a xs)/\(∃xs,kO K H1 b xs)/\R (U6 K a b) H1
 |_=>False
section
variable{X:Cx}
theorem Up{elts:List Expr}{k:Nat}{tpos:Pos}{a b:Expr}{ta:TA}{p pos:Pos}(hg:Gl X "zip")(hm:X.mg "zip"=none)(ha:PA X [a,b] ta)(hs:starEach [a,b] X.env=(false,eval a X.env)::starEach [b] X.env:=by rfl)(hs2:(backTo pos (starEach [b] X.env)).any (·.1)=false:=by rfl):
  PI X (.Tuple elts k tpos) (.Call (.Name "zip" p) [a,b] [] pos) (Tt X.K ta):=by
 intro pins s σ H R I h;refine Call_ (sL I hg hm PyProof.Rows.Boot.«zip» (bQ (mJ (ha pos pins s σ H _ I h) λus s1=>qv λvs H1 I1 r1 q1=> ?_) hs hs2))
 try dsimp only at q1
 rcases vs with _|⟨x,vs⟩<;>try exact q1.elim
 cases x<;>try exact q1.elim
 rename_i l1;rcases vs with _|⟨y,vs⟩<;>try exact q1.elim
 cases y<;>try exact q1.elim
 rename_i l2;rcases vs with _|⟨z,vs⟩<;>try exact q1.elim
 obtain⟨⟨xs,hq⟩,⟨ys,hq2⟩,q⟩:=q1
 cases r1 with
 |cons r rr=>
  cases rr with
  |cons r' rr'=>
   cases rr'
   cases r
   cases r'
   obtain⟨its,rv,pl,hz⟩:=I1.list hq;obtain⟨its2,rv2,pl2,hz2⟩:=I1.list hq2;refine call_zip_2 pl.isList pl2.isList λh' z1 ti to li1 li2 sz kp=> ?_;have I2:Inv X pins σ H1 {s1 with heap:=h'}:=I1.kept (t':=s1.toks) kp;refine wpAny_pyIter_zip z1 ?_;have n1:l1<s1.heap.objs.size:=by obtain⟨o,e,_⟩:=pl.isList;exact aD e
   have n2:l2<s1.heap.objs.size:=by obtain⟨o,e,_⟩:=pl2.isList;exact aD e
   have D:∀n:Nat,l1<n->l2<n->ZipApart (n+4) (n+2) (n+3) n (n+1) l1 l2:=λn h1 h2=>
    ⟨aK (by lia),aK (by lia),aK (by lia),aK (by lia),aK (by lia),c_ (by lia),c_ (by lia),c_ (by lia),c_ (by lia),aK (by lia),
     aK (av h1 (bM n 4)),aK (av h1 (bM n 3)),aK (av h1 (bM n 0)),aK (av h1 (bM n 1)),aK (av h2 (bM n 4)),aK (av h2 (bM n 3)),aK (av h2 (bM n 0)),aK (av h2 (bM n 1))⟩
   refine⟨s1.heap.objs.size+4,[s1.heap.objs.size+4,s1.heap.objs.size+2,s1.heap.objs.size+3,s1.heap.objs.size,s1.heap.objs.size+1],_,_,H1,rfl,I2,P9 l1 l2 (s1.heap.objs.size+4) (s1.heap.objs.size+2) (s1.heap.objs.size+3) s1.heap.objs.size (s1.heap.objs.size+1) (D _ n1 n2),⟨z1,ti,⟨_,_,to⟩,li1,li2⟩,λb hb=> ?_,q⟩;have hb':s1.heap.objs.size<=b:=by
    simp only[aP,aG,or_false]at hb;rcases hb with rfl|rfl|rfl|rfl|rfl
    ·exact bM _ _
    ·exact bM _ _
    ·exact bM _ _
    ·exact aq _
    ·exact bM _ _
   exact I1.Ot hb' (I1.ko.fresh hb')
end
theorem Ji{X:Cx}{elts:List Expr}{k:Nat}{tpos:Pos}{a b:Expr}{ta:TA}{p pos:Pos}(hg:Gl X "zip")(hm:X.mg "zip"=none)(ha:JA X [a,b] ta)(hs:starEach [a,b] X.env=(false,eval a X.env)::starEach [b] X.env:=by rfl)(hs2:(backTo pos (starEach [b] X.env)).any (·.1)=false:=by rfl):JI X (.Tuple elts k tpos) (.Call (.Name "zip" p) [a,b] [] pos) (Tt X.K ta):=⟨Up hg hm ha.run hs hs2⟩
theorem ke.zip{K:af}{a b:Addr}{xs ys:List V}{g:TG}{tb:TS}{D:Ends}{σ:St}{H:Hp}(Pv:Nat->St->Hp->Prop)(hlen:xs.length=ys.length)(h0:Pv 0 σ H)(hl:∀i σ H,i<=xs.length->Pv i σ H->kO K H a xs/\kO K H b ys)
  (hs:∀i x y σ H p,xs[i]? =some x->ys[i]? =some y->Pv i σ H->H p=none->g (.ref p) σ (upd H p (.tup [x,y])) λσ2 H2=>tb {D with nx:=Pv (i+1),ct:=Pv (i+1),bk:=D.nx} σ2 H2) (hd:∀σ H,Pv xs.length σ H->D.nx σ H):ke (U6 K a b) g tb D σ H:=by
 refine⟨λi m σ H=>Pv i σ H/\i<=xs.length/\m=xs.length-i,⟨_,h0,bR _,rfl⟩,λi m σ H zq=> ?_⟩;obtain⟨hP,hi,hm⟩:=zq;obtain⟨sa,sb⟩:=hl i σ H hi hP;by_cases z:i<xs.length
 ·have ex:xs[i]? =some xs[i]:=ab z;have ey:ys[i]? =some (ys[i]'(by omega)):=ab (by omega);refine .inr ⟨⟨xs,_,ys,_,sa,ex,sb,ey⟩,Pv (i+1),λσ' H' hN=>⟨xs.length-(i+1),by lia,hN,z,rfl⟩,?_⟩;rintro x H' ⟨p,u,v,hp,rfl,rfl,hu,hv⟩;exact hs i u v σ H p (hu xs sa) (hv ys sb) hP hp
 ·have e:i=xs.length:=by lia
  subst e;exact .inl ⟨⟨xs,ys,sa,sb,.inl (aq _)⟩,hd σ H hP⟩
section
variable{X:Cx}{pins:List (Addr×Obj)}{σ:St}{H:Hp}{s:Shared}{d:Addr}{kvs:List (Key×V)}
end
section
variable{X:Cx}
end
section
variable{X:Cx}
structure WC(X:Cx)(pos:Pos)(keys:List (Option Expr))(values:List Expr)(trs:List (TE×TE)):Prop where
 run:U_ X pos keys values trs
theorem MX{pos:Pos}:WC X pos [] [] []:=⟨RL⟩
theorem qE{pos:Pos}{k v:Expr}{ks:List (Option Expr)}{vs:List Expr}{tk tv:TE}{trs:List (TE×TE)}(hk:JE X k tk)(hv:JE X v tv)(hr:WC X pos ks vs trs):WC X pos (some k::ks) (v::vs) ((tk,tv)::trs):=⟨Pp hk.run hv.run hr.run⟩
theorem MV{pos:Pos}{keys:List (Option Expr)}{values:List Expr}{trs:List (TE×TE)}(h:WC X pos keys values trs)(hall:keys.all (·.isSome)=true:=by rfl)(hl:keys.length=values.length:=by rfl)(h0:keys≠ []:=by simp)(h15:keys.length<=15:=by decide):JE X (.Dict keys values pos) (PR trs):=⟨RE h.run hall hl h0 h15⟩
end
def QS:R2:=λx y H Q=>match x,y with
 | .ref a,.ref b=>(match H a,H b with
  |some (.tup xs),some (.tup ys)=>xs.length=ys.length/\(match wW (cZ (x_ H 2) xs ys) with
    |some k=>Q (.bl (!k)) H
    |none=>False)
  |_,_=>MG (.ref a) (.ref b) H Q)
 |x,y=>MG x y H Q
theorem Vy{X:Cx}(hu:X.A.units+8<cLine):oZ X (compareOp .NotEq) QS:=by
 intro pins s σ H x y v u Q I rx ry h;unfold QS at h
 split at h
 case h_2=>exact N8 hu pins s σ H _ _ v u Q I rx ry h
 rename_i a b
 split at h
 case h_2=>exact N8 hu pins s σ H _ _ v u Q I rx ry h
 rename_i xs ys e1 e2;obtain⟨hl,h⟩:=h
 cases (show v=aO a from rx)
 cases (show u=aO b from ry)
 obtain⟨i1,r1,p1,_⟩:=I.tuple (.inl (.inl e1));obtain⟨i2,r2,p2,_⟩:=I.tuple (.inl (.inl e2));have l1:=r1.length;have l2:=r2.length
 split at h
 case h_2=>exact h.elim
 rename_i k hk;obtain⟨e,h1,h2⟩:=sv hk;rw[cK,←hl,c9]at h2;refine SeqAt.RcNeAt.tuples (e:=e) p1 p2 (by lia) (λj j1 j2=> ?_) X.prog X.w X.xe _ ⟨.bl (!k),H,I,?_,h⟩
 ·simp only[aL]at j1 j2;have k1:j<xs.length:=by lia
  have k2:j<ys.length:=by lia
  obtain⟨w1,g1,q1⟩:=r1.get (ab k1);obtain⟨w2,g2,q2⟩:=r2.get (ab k2);have z:=h1 j (x_ H 2 xs[j] ys[j]) (by rw[cy,ab k1,ab k2]);have e4:i1.toArray[j]=w1:=by simpa [j1] using g1
  have e5:i2.toArray[j]=w2:=by simpa [j2] using g2
  rw[e4,e5];exact uP I 2 X.A.in1 (by rw[dR];lia) q1 q2 z
 ·have e3:i1.toArray.size=xs.length:=by simp[l1]
  have e4:i2.toArray.size=xs.length:=by simp[←l2,hl]
  rw[e3,e4,c9,h2,beq_self_eq_true,Bool.and_true];exact rfl
theorem G3{X:Cx}(hu:X.A.units+8<cLine):Bn X (compareOp .NotEq) QS:=⟨Vy hu⟩
section
variable{X:Cx}
end
section
variable{X:Cx}
def NY(neg:Bool):R2:=λx y H Q=>match y with
 | .ref p=>(match H p with
  |some (.lst xs)=>nY x=true/\xs.all nY=true/\Q (.bl (if neg then !Ra x xs else Ra x xs)) H
  |some (.tup xs)=>nY x=true/\xs.all nY=true/\Q (.bl (if neg then !Ra x xs else Ra x xs)) H
  |_=>False)
 |_=>False
theorem QM{K:af}{neg:Bool}{x y:V}{H:Hp}{Q:VK}(h:NY neg x y H Q):Yb K neg x y H Q:=by
 unfold NY at h
 split at h
 case h_2=>exact h.elim
 split at h
 ·rename_i xs e;exact⟨_,xs,rfl,.inl (kO.of e),h⟩
 ·rename_i xs e;exact⟨_,xs,rfl,.inr (Kd.of e),h⟩
 ·exact h.elim
theorem N_:oZ X (compareOp .NotIn) (NY true):=Ht.mono λ_ _ _ _=>QM
abbrev g3(K:af):TG:=Ov K 3 (wB (nZ 0) (wB (nZ 1) (wB (nZ 2) MP)))
section
variable{fsc scope:Scope}{N2:List Str}{js:List Nat}
end
theorem Dt:Bn X (compareOp .NotIn) (NY true):=⟨N_⟩
end
theorem ke.uT{K:af}{a:Addr}{xs:List V}{g:TG}{tb:TS}{D:Ends}{σ:St}{H:Hp}(Pv:Nat->St->Hp->Prop)(h0:Pv 0 σ H)(hl:∀i σ H,i<=xs.length->Pv i σ H->kO K H a xs)
  (hs:∀i x σ H,xs[i]? =some x->Pv i σ H->∀R:St->Hp->Prop,(∀σ' H',Pv (i+1) σ' H'->R σ' H')->g x σ H λσ2 H2=>tb {D with nx:=R,ct:=R,bk:=D.nx} σ2 H2) (hd:∀σ H,Pv xs.length σ H->D.nx σ H):ke (Qq K a) g tb D σ H:=
 ke.list Pv h0 hl (λi x σ H hx hp=>hs i x σ H hx hp _ λ_ _ h=>h) hd
theorem ke.vw{lo:Int}{n:Nat}{g:TG}{tb:TS}{D:Ends}{σ:St}{H:Hp}(Pv:Nat->St->Hp->Prop)(h0:Pv 0 σ H)
  (hs:∀i σ H,i<n->Pv i σ H->∀R:St->Hp->Prop,(∀σ' H',Pv (i+1) σ' H'->R σ' H')->g (.int (lo+i)) σ H λσ2 H2=>tb {D with nx:=R,ct:=R,bk:=D.nx} σ2 H2) (hd:∀σ H,Pv n σ H->D.nx σ H):ke (Qj lo n) g tb D σ H:=
 ke.range Pv h0 (λi σ H hi hp=>hs i σ H hi hp _ λ_ _ h=>h) hd
theorem ints_get{ks:List Int}{i:Nat}{x:V}(h:(ks.map V.int)[i]? =some x):∃hi:i<ks.length,x= .int ks[i]/\ks.take (i+1)=ks.take i++[ks[i]]:=by
 have hi:i<ks.length:=by have:=(List.getElem?_eq_some_iff.mp h).1;rw[aa]at this;exact this
 rw[ai,ab hi]at h;exact⟨hi,(aY h).symm,List.take_succ_eq_append_getElem hi⟩
theorem OH{x:Int}{l:List Int}:Ra (.int x) (l.map V.int)=decide (x∈l):=by
 unfold Ra;rw[List.any_map]
 induction l with
 |nil=>rfl
 |cons a r ih=>
  rw[dX,ih];have:(((λy=>NC y (V.int x))∘V.int) a)=decide (x=a):=by
   show(a==x)=decide (x=a);by_cases h:a=x
   ·simp[h]
   ·simp[h,ah h]
  rw[this];by_cases h:x=a
  ·simp[h]
  ·simp[h]
theorem rZ{H:Hp}{d:Nat}:∀{l r:List Int},l.length=r.length->wW (cZ (x_ H (d+1)) (l.map V.int) (r.map V.int))=some (decide (l=r))
 | [],[],_=>rfl
 |a::l,b::r,h=>by
  have ih:=rZ (H:=H) (d:=d) (l:=l) (r:=r) (by simpa using h);have e:x_ H (d+1) (V.int a) (V.int b)=some (decide (a=b)):=by
   simp only[x_,nY,and_self,if_true,NC];by_cases z:a=b
   ·simp[z]
   ·simp[z]
  show wW (x_ H (d+1) (V.int a) (V.int b)::cZ (x_ H (d+1)) (l.map V.int) (r.map V.int))=_;rw[e];show(wW (cZ (x_ H (d+1)) (l.map V.int) (r.map V.int))).map _=_;rw[ih];by_cases z:a=b<;>by_cases y:l=r<;>simp[z,y]
theorem fsc{N P:List Str}{sc:Scope}(a:sc.kind= .function:=by rfl)(b:sc.isCoroutine=false:=by rfl)(c:sc.isGenerator=false:=by rfl)(d:N.Nodup:=by decide+kernel)(e:N.take P.length=P:=by rfl)(f:∀x∈P,sc.names.lookup x=some .local∨sc.names.lookup x=some .cell:=by decide+kernel)(g:∀y∈sc.names,y.2≠ .free:=by decide+kernel):jg N P sc:=⟨a,b,c,d,e,f,g⟩
theorem lo{sc:Scope}{x:Str}(h:Loc sc x:=by first|exact gx rfl|exact fc rfl):Loc sc x:=h
def Xj(C:Addr)(m:Str)(x:V)(H:Hp):Prop:=match x with
 | .ref a=>(match H a with
  |some (.ins C' _ fs)=>C'=C/\fs.lookup m=none
  |_=>False)
 |_=>False
theorem NZ{C:Addr}{m:Str}{sp:Sp}{E:St->XK}{ta:TE}{t:TA}{σ:St}{H:Hp}{Q:VK}:Bp C m sp E ta t σ H Q=ta σ H λx H1=>Xj C m x H1/\t σ H1 λvs H2=>sp (x::vs) H2 Q (E σ):=by
 unfold Bp;congr;funext x H1;unfold Xj
 cases x with
 |ref a=>
  dsimp only;rcases H1 a with _|o
  ·simp
  ·cases o<;>dsimp only<;>try simp
   simp[and_assoc]
 |_=>simp
theorem VN{b:Bool}{P:Bool->Prop}:(∃k,V.bl b=V.bl k/\P k)=P b:=propext ⟨λ⟨_,e,p⟩=>by cases e;exact p,λp=>⟨b,rfl,p⟩⟩
noncomputable def Tp (f:Str) (x:V) (H:Hp):Option V:=match x with
 | .ref a=>(match H a with
  |some (.ins _ _ fs)=>fs.lookup f
  |_=>none)
 |_=>none
def Xd(K:af)(f:Str)(x:V)(H:Hp):Prop:=match x with
 | .ref a=>(match H a with
  |some (.ins C _ _)=>Ex K C/\kU K C f
  |_=>False)
 |_=>False
theorem SX{K:af}{ta:TE}{f:Str}{σ:St}{H:Hp}{Q:VK}:MF K ta f σ H Q=ta σ H λx H1=>Xd K f x H1/\(match Tp f x H1 with
  |some v=>Q v H1
  |none=>False):=by
 unfold MF;congr;funext x H1;unfold Tp Xd
 cases x with
 |ref a=>
  dsimp only;rcases H1 a with _|o
  ·simp
  ·cases o<;>dsimp only<;>try simp
   rename_i C dx fs
   cases aX f fs<;>simp[and_assoc]
 |_=>simp
theorem UX{a0 a1 q:Prop}(h:a0/\a1/\q):q/\a0/\a1:=⟨h.2.2,h.1,h.2.1⟩
theorem Ke{a0 a1 a2 q:Prop}(h:a0/\a1/\a2/\q):q/\a0/\a1/\a2:=⟨h.2.2.2,h.1,h.2.1,h.2.2.1⟩
theorem Sj{a0 a1 a2 a3 q:Prop}(h:a0/\a1/\a2/\a3/\q):q/\a0/\a1/\a2/\a3:=⟨h.2.2.2.2,h.1,h.2.1,h.2.2.1,h.2.2.2.1⟩
theorem WE{a0 a1 a2 a3 a4 q:Prop}(h:a0/\a1/\a2/\a3/\a4/\q):q/\a0/\a1/\a2/\a3/\a4:=⟨h.2.2.2.2.2,h.1,h.2.1,h.2.2.1,h.2.2.2.1,h.2.2.2.2.1⟩
theorem X2{a0 a1 a2 a3 a4 a5 q:Prop}(h:a0/\a1/\a2/\a3/\a4/\a5/\q):q/\a0/\a1/\a2/\a3/\a4/\a5:=⟨h.2.2.2.2.2.2,h.1,h.2.1,h.2.2.1,h.2.2.2.1,h.2.2.2.2.1,h.2.2.2.2.2.1⟩
theorem WY{a0 a1 a2 a3 a4 a5 a6 q:Prop}(h:a0/\a1/\a2/\a3/\a4/\a5/\a6/\q):q/\a0/\a1/\a2/\a3/\a4/\a5/\a6:=⟨h.2.2.2.2.2.2.2,h.1,h.2.1,h.2.2.1,h.2.2.2.1,h.2.2.2.2.1,h.2.2.2.2.2.1,h.2.2.2.2.2.2.1⟩
theorem WW{a0 a1 a2 a3 a4 a5 a6 a7 a8 a9 a10 a11 q:Prop}(h:a0/\a1/\a2/\a3/\a4/\a5/\a6/\a7/\a8/\a9/\a10/\a11/\q):q/\a0/\a1/\a2/\a3/\a4/\a5/\a6/\a7/\a8/\a9/\a10/\a11:=⟨h.2.2.2.2.2.2.2.2.2.2.2.2,h.1,h.2.1,h.2.2.1,h.2.2.2.1,h.2.2.2.2.1,h.2.2.2.2.2.1,h.2.2.2.2.2.2.1,h.2.2.2.2.2.2.2.1,h.2.2.2.2.2.2.2.2.1,h.2.2.2.2.2.2.2.2.2.1,h.2.2.2.2.2.2.2.2.2.2.1,h.2.2.2.2.2.2.2.2.2.2.2.1⟩
theorem WX{a0 a1 a2 a3 a4 a5 a6 a7 a8 a9 a10 a11 a12 q:Prop}(h:a0/\a1/\a2/\a3/\a4/\a5/\a6/\a7/\a8/\a9/\a10/\a11/\a12/\q):q/\a0/\a1/\a2/\a3/\a4/\a5/\a6/\a7/\a8/\a9/\a10/\a11/\a12:=⟨h.2.2.2.2.2.2.2.2.2.2.2.2.2,h.1,h.2.1,h.2.2.1,h.2.2.2.1,h.2.2.2.2.1,h.2.2.2.2.2.1,h.2.2.2.2.2.2.1,h.2.2.2.2.2.2.2.1,h.2.2.2.2.2.2.2.2.1,h.2.2.2.2.2.2.2.2.2.1,h.2.2.2.2.2.2.2.2.2.2.1,h.2.2.2.2.2.2.2.2.2.2.2.1,h.2.2.2.2.2.2.2.2.2.2.2.2.1⟩
theorem uO{α:Type}{C:List α->Prop}(h:∀a0,C [a0]):∀us:List α,us.length=1->C us
 | [a0],_=>h a0
theorem rY{α:Type}{C:List α->Prop}(h:∀a0 a1,C [a0,a1]):∀us:List α,us.length=2->C us
 | [a0,a1],_=>h a0 a1
theorem AV{α:Type}{C:List α->Prop}(h:∀a0 a1 a2,C [a0,a1,a2]):∀us:List α,us.length=3->C us
 | [a0,a1,a2],_=>h a0 a1 a2
theorem UZ{α:Type}{C:List α->Prop}(h:∀a0 a1 a2 a3,C [a0,a1,a2,a3]):∀us:List α,us.length=4->C us
 | [a0,a1,a2,a3],_=>h a0 a1 a2 a3
theorem X3{α:Type}{C:List α->Prop}(h:∀a0 a1 a2 a3 a4,C [a0,a1,a2,a3,a4]):∀us:List α,us.length=5->C us
 | [a0,a1,a2,a3,a4],_=>h a0 a1 a2 a3 a4
section
variable{X:Cx}{r:V->List V->Hp->VK->Prop}{o:Expr}{to:TE}{apos cpos:Pos}
end
section
variable{X:Cx}
end
end Internal
namespace Internal
open PySem PySem.Spec PyProof.Rows
section
variable{P:Program}{w:World}{A:Around}{E:Value->Shared->Prop}{s:Shared}
end
end Internal
namespace Internal
open PySem PySem.Spec PyProof.Rows
section
variable{P:Program}{w:World}{A:Around}{E:Value->Shared->Prop}{s:Shared}{z TI TO i1 i2 l1 l2:Addr}{k1 k2:Nat}{xs ys:Array Value}{x y a b:Value}{J1 J2:Heap->Nat->Prop}
end
end Internal
namespace Internal
open PySem PySem.Spec PyProof.Rows
end Internal
namespace Internal
open PySem PySem.Spec PyProof.Rows
section
variable{X:Cx}{pins:List (Addr×Obj)}{σ:St}{H:Hp}{s:Shared}{k:Bool}{a:Addr}{xs ys:List V}
end
section
variable{X:Cx}
end
section
variable{X:Cx}{r:V->List V->Hp->VK->Prop}{o i:Expr}{to td ty:TE}{apos cpos pos:Pos}
end
section
variable{X:Cx}{E:St->XK}{a L:Addr}{cls:Value}{s':Shared}{M:Model}{A:Around}{Q:Unit->Shared->Prop}{E':Value->Shared->Prop}
end
section
variable{M:Model}{A:Around}{E:Value->Shared->Prop}{s:Shared}{env:Env}
end
section
variable{prog:Program}{w:World}{A:Around}{R:Result->Shared->Prop}{s:Shared}
end
section
variable{X:Cx}{pins:List (Addr×Obj)}{σ:St}{H:Hp}{s:Shared}{scope fsc:Scope}{x:List Str}{N2:List Str}{js:List Nat}{fp:List Addr}{C:Addr}
end
section
variable{X:Cx}{pins:List (Addr×Obj)}{σ:St}{H:Hp}{s:Shared}
theorem US{H:Hp}{a:Addr}{o:HO}(h:H a=some o):upd H a o=H:=by
 funext b;by_cases e:b=a
 ·subst e;rw[i8,h]
 ·rw[i7 e]
theorem Inv.tabs{P:Addr}{ps more:Array Value}{h':Heap}{t':Nat}(I:Inv X pins σ H s)(hP:H P=some (.Co ps))(ext:∀b o,b≠P->s.heap.get? b=some o->h'.get? b=some o)(hP':h'.get? P=some {cls:= .none,data:= .fields (ps++more)}):
  Inv X pins σ (upd H P (.Co (ps++more))) {s with heap:=h',toks:=t'}:=by
 have ne:∀b,H b=none->b≠P:=λb n z=>by rw[z,hP]at n;cases n
 refine I.step (g':=s.gens) (d':=s.drawn) (ch:=[]) (λ_ z=>nomatch z) (λb o _ _ _ e n=>ext b o (ne b n) e) (λb o _ _ _ e n=>⟨o.slots,ext b o (ne b n) e⟩) (λb o _ e n=>by rw[i7 (ne b n)];exact n) (λb o _ e=> ?_) (λb xs e=>by rw[i7 λz=>by rw[z,hP]at e;cases e];exact e) (λb o u e=>by rw[i7 λz=>by rw[z,hP]at e;cases e];exact e) (λb qs e=> ?_) (λm hm=> ?_) (λb u e=> ?_) I.bare
 ·by_cases hb:b=P
  ·exact⟨_,by rw[hb];exact hP'⟩
  ·exact⟨o,ext b o hb e⟩
 ·by_cases hb:b=P
  ·subst hb;rw[hP]at e;cases e
   exact⟨more,i8⟩
  ·exact⟨#[],by rw[i7 hb,e];simp⟩
 ·obtain⟨o,es,ep,e,r⟩:=hm;exact⟨o,es,ep,ext _ o (ne _ I.free) e,r⟩
 ·by_cases hb:b=P
  ·subst hb;rw[i8]at e;cases e
   exact hP'
  ·rw[i7 hb]at e;refine(I.ko b u e).sj (λc v hc q=>ext c v ?_ q) (λc q=>by rw[i7 λz=>by rw[z,hP]at q;cases q];exact q) (λc xs q=>by rw[i7 λz=>by rw[z,hP]at q;cases q];exact q);rcases hc with rfl|hc
   ·exact hb
   ·exact λz=>by rw[z,hP]at hc;cases hc
end
def Ly(ts:List Addr)(H:Hp):Prop:=(∀b,b∉ts->H b=none∨∃o xs,H b=some (.GL o (.lst xs)))/\∀b∈ts,H b=some (.Co #[])
theorem M4{ts:List Addr}{P:Program}{w:World}{K:af}{mg mb:Str->Option Value}{CX:NB}{ca:Bool}{k:Nat}{fa a:Addr}{fd:FuncData}{x:Str}{sp:Sp}{s₁:Shared}{vs:List Value}{ns:List Int}
  (KX:K.In s₁.heap) (hns:s₁.heap.Ns mainGlobals mg) (hb:s₁.heap.Ns builtinsNs mb) (hbb:∀x:Str,x≠"__name__"->mb x=bootBuiltins x) (hlim:s₁.heap.NoLimit) (hbm:BMain mg s₁.heap) (hts:∀p∈ts,s₁.heap.get? p=some {cls:= .none,data:= .fields #[]}) (hKt:∀p∈ts,K.lookup p=none) (hct:∀p∈ts,isCodeTable s₁.heap p) (hg:s₁.gens= #[])
  (ha:s₁.heap.get? a=some {cls:= .type "list",data:= .seq vs.toArray}) (hi:IntsAre vs ns) (hl:ns.length<=sizeLine) (hr:lM ca k callerA)
  (F:∀base:Heap,K.In base->base.Ns mainGlobals mg->mS P w K mg base CX ca k fa fd [x] sp) (hbind:∀(s:Shared) (u:Value),BindsTo s fd ⟨[u],[]⟩ [(x,u)])
  (hsp:∀H:Hp,Ly ts H->kO K H a (ns.map V.int)->sp [.ref a] H (λv _=>v= .bl true) λ_ _ _=>False)
  (hCX:∀H e s',CX [] H s₁ (λ_ _ _=>False) e s'->False):
  codeAny (model P w) callerA (.call (.ref fa) ⟨[.ref a],[]⟩) (λr s'=>r= .ok (.ret (.bool true))/\OldK s₁.heap s'.heap/\s'.os=s₁.os/\AllBare s'.gens) s₁:=by
 have rv:=B6 hi;have lenV:=hi.length;have hat:a∉ts:=λh=>by
  have:=hts a h;rw[ha]at this;injection this with this
  injection this with h1
  cases h1
 have core:∀H:Hp,Ly ts H->kO K H a (ns.map V.int)->qR P w H s₁.heap->(∀b,H b≠none->b=a∨b∈ts)->(a∉ts->H a≠none->K.lookup a=none)->
   codeAny (model P w) callerA (.call (.ref fa) ⟨[.ref a],[]⟩) (λr s'=>r= .ok (.ret (.bool true))/\OldK s₁.heap s'.heap/\s'.os=s₁.os/\AllBare s'.gens) s₁:=by
  intro H hO hS ko hA hK;have base_of:∀{b:Addr} {o:Obj},s₁.heap.get? b=some o->H b=none->(GU s₁.heap H).get? b=some o:=λe n=>OA e n;have noA:∀{b:Addr} {o:Obj} {es:Array DictEntry} {ep:Nat},s₁.heap.get? b=some o->o.data= .dict es ep->H b=none:=λ{b o es ep} e d=>by
   cases q:H b with
   |none=>rfl
   |some u=>
    rcases hA b (by rw[q];simp) with e'|e'
    ·subst e';rw[ha]at e;cases e
     have d':il vs.toArray _=Data.dict es ep:=d
     cases d'
    ·rw[hts b e']at e;cases e
     have d':ig #[]=Data.dict es ep:=d
     cases d'
  have nsK:∀{b:Addr} {m:Str->Option Value},s₁.heap.Ns b m->(GU s₁.heap H).Ns b m:=λ{b m} ⟨o,es,ep,e,d,r⟩=>⟨o,es,ep,base_of e (noA e d),d,r⟩;have hKb:K.In (GU s₁.heap H):=λb o e=>base_of (KX b o e) (by
   cases q:H b with
   |none=>rfl
   |some u=>
    rcases hA b (by rw[q];simp) with e'|e'
    ·subst e';rw[hK hat (by rw[q];simp)]at e;cases e
    ·rw[hKt b e']at e;cases e)
  have hM:Mod K mg (GU s₁.heap H):=⟨hKb,nsK hns,⟨mb,nsK hb,hbb⟩,let ⟨mc,h1,h2⟩:=hlim;⟨mc,nsK h1,h2⟩,let ⟨bm,ob,b1,b2,b3,b4⟩:=hbm;⟨bm,ob,b1,b2,base_of b3 (by
   cases q:H bm with
   |none=>rfl
   |some u=>
    rcases hA bm (by rw[q];simp) with e'|e'
    ·subst e';rw[ha]at b3;cases b3
     have d':il vs.toArray _=Data.plain:=b4.2.2
     cases d'
    ·rw[hts bm e']at b3;cases b3
     have d':ig #[]=Data.plain:=b4.2.2
     cases d'),b4⟩⟩
  have e0:EA P w K mg (GU s₁.heap H) callerA [] s₁ H:=⟨rfl,hM,λb o e=>Ru e,hE (MR _ _),trivial,λb hb=>absurd (show b∈([]:List Addr) from hb) (by simp),ko,.of_eq hg⟩;refine codeAny_mono ((F _ hKb (nsK hns)).run callerA [] s₁ H ⟨[.ref a],[]⟩ [.ref a] [.ref a] _ _ hr e0 (hbind s₁ (.ref a)) (.cons rfl .nil) (hsp H hO hS)) λr s' h=> ?_
  cases r with
  |error e=>exact(hCX H e s' h).elim
  |ok fl=>
   cases fl with
   |next=>exact bT h
   |brk=>exact bT h
   |cont=>exact bT h
   |ret u=>
    obtain⟨v,H',os,bare,un,hok',r',q⟩:=h;have q':v= .bl true:=q;subst q';obtain rfl:u=iO true:=r';have key:∀b o,s₁.heap.get? b=some o->asItWas s₁.heap s'.heap b o/\∃o',s'.heap.get? b=some o':=λb o e=>by
     by_cases hb:b∈ts
     ·obtain⟨more,z2⟩:=un.vV b #[] (hO.2 b hb);have e2:s'.heap.get? b=some {cls:= .none,data:= .fields (#[]++more)}:=hok' b _ z2;rw[hts b hb]at e;cases e
      exact⟨.inr (.inl ⟨hct b hb,rfl,#[],more,rfl,e2⟩),_,e2⟩
     ·have k:s'.heap.get? b=some o:=by
       rcases hO.1 b hb with z|⟨ob,xs,z⟩
       ·exact un.keep b o e z (by intro z;exact absurd (show b∈([]:List Addr) from z) (by simp)) (by simp)
       ·have z2:=un.uC b ob _ z;obtain⟨e1,_⟩:=ko b _ z;obtain⟨e2,_⟩:=hok' b _ z2;rw[e]at e1;cases e1
        exact e2
      exact⟨.inl k,o,k⟩
    exact⟨rfl,⟨λb o e=>(key b o e).1,λb o e=>(key b o e).2⟩,os,bare⟩
 cases hk:K.lookup a with
 |some o=>
  have e:=KX a o hk;rw[ha]at e
  cases e
  refine core (λb=>if b∈ts then some (.Co #[]) else none) ⟨λb hb=> .inl (if_neg hb),λb hb=>if_pos hb⟩ (.inr ⟨_,vs.toArray,_,hk,rfl,rfl,rfl,by rw[aL,lenV];exact hl,by simpa using rv⟩) (λb u z=> ?_) (λb z=> ?_) λh z=>absurd (if_neg h) z
  ·by_cases hb:b∈ts
   ·have z':=(if_pos hb).symm.trans z
    cases z'
    exact hts b hb
   ·have z':=(if_neg hb).symm.trans z
    cases z'
  ·by_cases hb:b∈ts
   ·exact .inr hb
   ·exact absurd (if_neg hb) z
 |none=>
  refine core (λb=>if b∈ts then some (.Co #[]) else if b=a then some (.GL {cls:= .type "list",data:= .seq vs.toArray} (.lst (ns.map V.int))) else none) ⟨λb hb=> ?_,λb hb=>if_pos hb⟩ (.inl (.inr ⟨{cls:= .type "list",data:= .seq vs.toArray},(if_neg hat).trans (if_pos rfl)⟩)) (λb u z=> ?_) (λb z=> ?_) λ_ _=>hk
  ·by_cases hba:b=a
   ·exact .inr ⟨_,_,(if_neg hb).trans (if_pos hba)⟩
   ·exact .inl ((if_neg hb).trans (if_neg hba))
  ·by_cases hb:b∈ts
   ·have z':=(if_pos hb).symm.trans z
    cases z'
    exact hts b hb
   ·have z:=(if_neg hb).symm.trans z;by_cases hba:b=a
    ·have z':=(if_pos hba).symm.trans z
     cases z'
     subst hba;exact⟨ha,by rw[aa];exact hl,vs,_,rv,ha⟩
    ·have z':=(if_neg hba).symm.trans z
     cases z'
  ·by_cases hb:b∈ts
   ·exact .inr hb
   ·by_cases hba:b=a
    ·exact .inl hba
    ·exact absurd ((if_neg hb).trans (if_neg hba)) z
theorem Qc{ts:List Addr}{l:fT}{n k:Nat}{q:Program}{loose:List Str}{XP:(Str->Option Value)->Heap->Prop}{YP:World->Heap->Prop}{d:DefRec}{K:Params->af}{CX:World->NB}{ca:Bool}{sp:World->Sp}{x:Str}
  (hn:l.most=some n) (hn2:n<=sizeLine) (hdf:d.params.defaults=[]) (hr:lM ca k callerA)
  (hY:∀(w:World) (h:Heap),YP w h->(K w.params).In h) (hT:∀(w:World) (h:Heap),YP w h->∀p∈ts,h.get? p=some {cls:= .none,data:= .fields #[]}) (hKt:∀(w:World),∀p∈ts,(K w.params).lookup p=none) (hct:∀(w:World),∀p∈ts,∃c,df (K w.params) c p=true)
  (F:∀(w:World) (mg:Str->Option Value) (fa:Addr) (h:Heap),(K w.params).In h->h.Ns mainGlobals mg->mg d.name=some (.ref fa)->
   ∃fd:FuncData,(∀(s:Shared) (u:Value),BindsTo s fd ⟨[u],[]⟩ [(x,u)])/\
    ∀base:Heap,(K w.params).In base->base.Ns mainGlobals mg->mS l.prog w (K w.params) mg base (CX w) ca k fa fd [x] (sp w))
  (hsp:∀(w:World) (H:Hp) (a:Addr) (ns:List Int),ns.length<=n->Ly ts H->kO (K w.params) H a (ns.map V.int)->sp w [.ref a] H (λv _=>v= .bl true) λ_ _ _=>False)
  (hCX:∀(w:World) (H:Hp) (s:Shared) (e:Value) (s':Shared),CX w [] H s (λ_ _ _=>False) e s'->False):
  iS q loose XP YP l.row.toRowW d [] (λf vs=>iM f vs):=by
 refine Att.IH hn hdf λw s₀ s₁ mg mb fa o pm cd doc a vs ns G Y ho hd hcd hmg hobj hints hlen hg=> ?_;have KX:=hY w _ Y;obtain⟨fd,hb,hF⟩:=F w mg fa _ KX G.T.g hmg;exact M4 (ts:=ts) KX G.T.g G.T.b G.T.builtins G.T.nolimit G.T.bmain (hT w _ Y) (hKt w) (λp hp=>by
  obtain⟨c,hc⟩:=hct w p hp;exact((gS KX hc).tab (hT w _ Y p hp)).isCodeTable) hg hobj hints (aA hlen hn2) hr hF hb (λH hO hS=>hsp w H a ns hlen hO hS) λH e s'=>hCX w H s₁ e s'
section
variable{P:Program}{w:World}{K:af}{mg:Str->Option Value}{base:Heap}
theorem EB.Xu{x qual:Str}{st:Stmt}{f:Addr}{fd:FuncData}{N ps:List Str}{ca:Bool}{k:Nat}{sp:Sp}(F:EB K x qual st f fd)(S:jg N ps (i9 st))(len:∀vs H Q E,sp vs H Q E->vs.length=ps.length)
  (hbody:∀(cdv:Value) (A:Around) (outer:List Env) (s:Shared) (H:Hp) (vs:List V) (Q:VK) (E:XK),fd.code=cdv->lM ca k (A.deeper (envOfC qual (i9 st) s.heap.objs.size f cdv))->
   Exc (So ca P w K mg base N qual (i9 st) f cdv A outer s H E) (λ_=>E)->sp vs H Q E->
   ∃t,IE (So ca P w K mg base N qual (i9 st) f cdv A outer s H E) (mW st) t/\t {nx:=λ_ H'=>Q .non H',rt:=Q} (start N vs) H):mS P w K mg base (uv P w) ca (k+1) f fd ps sp:=by
 obtain⟨oc,od,kV,doc,pm,an,cdv,ct,osl,rfl,lk,hcd⟩:=F.ex;refine Sr (CX:=uv P w) lk hcd S len λA outer s H vs Q E hr hsp=> ?_;obtain⟨t,h,q⟩:=hbody cdv A outer s H vs Q E rfl hr (Ol rfl rfl) hsp;refine⟨t,h.wx λe s2=>VM λa cls ee u=> ?_,q⟩;subst ee;show wpAny _ _ (leaving _ _) _ _ _;unfold leaving;exact wpAny_bind (u.note rfl rfl rfl λh' u'=>u'.X5 λh'' u''=>u''.out rfl rfl rfl)
end
section
variable{prog:Program}{w:World}{A:Around}{E:Value->Shared->Prop}{s:Shared}{κ:SortKind}{r:Value->Int}{a₀:Array Keyed}{st:SortSt}
noncomputable def rk (r:Value->Int) (xs:Array Keyed) (i:Nat):Int:=(xs[i]?.map λp=>r p.1).getD 0
structure SB(κ:SortKind)(a₀:Array Keyed)(st:SortSt):Prop where
 pm:(arrOf st).Perm a₀
 kd:kindOf st=κ
 fl:failedOf st=none
 pd:pendingOf st= #[]
def Cm(prog:Program)(w:World)(A:Around)(s:Shared)(κ:SortKind)(r:Value->Int)(a₀:Array Keyed):Prop:=
 ∀(E:Value->Shared->Prop) (Q:Bool->Shared->Prop) (p q:Keyed),p∈a₀.toList->q∈a₀.toList->r p.1≠r q.1->Q (decide (r p.1<r q.1)) s->wpAny (model prog w) A (keyLt' κ p.1 q.1) Q E s
def Ap(r:Value->Int)(xs:Array Keyed):Prop:=(xs.toList.map λp=>r p.1).Nodup
theorem Ap.of{xs ys:Array Keyed}(h:Ap r ys)(p:xs.Perm ys):Ap r xs:=
 (((Array.perm_iff_toList_perm.mp p).map λq:Keyed=>r q.1).nodup_iff).mpr h
theorem Ga{xs:Array Keyed}{i:Nat}(h:i<xs.size):rk r xs i=r xs[i].1:=by
 unfold rk;rw[getElem?_pos xs i h];rfl
theorem Py{xs:Array Keyed}(h:Ap r xs){i j:Nat}(hi:i<xs.size)(hj:j<xs.size)(n:i≠j):rk r xs i≠rk r xs j:=by
 have g:∀{i j:Nat},i<xs.size->j<xs.size->i<j->rk r xs i≠rk r xs j:=λ{i j} hi hj l=>by
  have:=List.pairwise_iff_getElem.mp h i j (by simpa using hi) (by simpa using hj) l;rw[Ga hi,Ga hj];simpa using this
 rcases Nat.lt_or_gt_of_ne n with l|l
 ·exact g hi hj l
 ·exact λe=>g hj hi l e.symm
theorem CQ{xs ys:Array Keyed}{i j:Nat}(h:xs[i]? =ys[j]?):rk r xs i=rk r ys j:=by unfold rk;rw[h]
theorem SB.sz(b:SB κ a₀ st):(arrOf st).size=a₀.size:=b.pm.size_eq
theorem SB.set(b:SB κ a₀ st){xs:Array Keyed}(p:xs.Perm (arrOf st)):SB κ a₀ (setArr st xs):=⟨p.trans b.pm,b.kd,b.fl,b.pd⟩
theorem JH(c:Cm prog w A s κ r a₀)(ap:Ap r a₀)(b:SB κ a₀ st){i j:Nat}(hi:i<a₀.size)(hj:j<a₀.size)(ne:i≠j){Q:Option Bool->SortSt->Prop}
  (h:Q (some (decide (rk r (arrOf st) i<rk r (arrOf st) j))) st):wpS (model prog w) A E s (ltAt' i j) Q st:=by
 have hi':i<(arrOf st).size:=by rw[b.sz];exact hi
 have hj':j<(arrOf st).size:=by rw[b.sz];exact hj
 have mem:∀{k:Nat} (hk:k<(arrOf st).size),(arrOf st)[k]∈a₀.toList:=λhk=>(Array.perm_iff_toList_perm.mp b.pm).mem_iff.mp (by simp);have ne':=Py (ap.of b.pm) hi' hj' ne;rw[Ga hi',Ga hj']at h ne';rw[ltAt'_eq];refine wpS_bind (wpS_get (wpS_bind ?_));rw[elem'_eq,getElem?_pos _ i hi'];refine wpS_pure (wpS_bind ?_);rw[elem'_eq,getElem?_pos _ j hj'];refine wpS_pure ?_;rw[lt'_eq];refine wpS_bind (wpS_get (wpS_bind ?_));rw[b.kd];refine wpS_lift (wpAny_attempt (c _ _ _ _ (mem hi') (mem hj') ne' ⟨rfl,?_⟩));exact wpS_pure h
def Ri(r:Value->Int)(xs:Array Keyed)(k:Nat):Prop:=∀i j,i<=j->j<k->rk r xs i<=rk r xs j
theorem NT(c:Cm prog w A s κ r a₀)(ap:Ap r a₀)(b:SB κ a₀ st){a m:Nat}(hm:m<=a₀.size)(h1:1<=a)(ham:a<=m)(up:Ri r (arrOf st) a){Q:AscSt->SortSt->Prop}
  (h:∀n,a<=n->n<=m->Ri r (arrOf st) n->(n<m->rk r (arrOf st) n<rk r (arrOf st) (n-1))->Q (none,n) st):wpS (model prog w) A E s (ascLoop a m) Q st:=by
 unfold ascLoop;refine wpS_forRange (I:=λi c st'=>st=st'/\c=(none,i)/\Ri r (arrOf st) i) ?_ ?_ ⟨rfl,rfl,up⟩
 ·rintro i _ _ hi him ⟨rfl,rfl,ui⟩;refine wpS_bind (JH c ap b (by lia) (by lia) (show i≠i-1 by lia) ?_);dsimp only;by_cases z:rk r (arrOf st) i<rk r (arrOf st) (i-1)
  ·rw[if_pos (decide_eq_true z)];exact wpS_pure (h i hi (by lia) ui λ_=>z)
  ·rw[if_neg (by simpa using z)];refine wpS_pure ⟨rfl,rfl,λx y xy yl=> ?_⟩;by_cases e:y=i
   ·subst e;by_cases e2:x=y
    ·subst e2;exact b7 _
    ·exact gX (ui x (y-1) (by lia) (by lia)) (by lia)
   ·exact ui x y xy (by lia)
 ·rintro _ _ ⟨rfl,rfl,ui⟩;rw[show max a m=m by lia]at ui⊢;exact h m ham (aq _) ui λz=>absurd z (bw _)
theorem Q6(c:Cm prog w A s κ r a₀)(ap:Ap r a₀)(b:SB κ a₀ st){a m:Nat}(hm:m<=a₀.size)(h1:1<=a)(ham:a<=m)(dn:∀i j,i<j->j<a->rk r (arrOf st) j<rk r (arrOf st) i){Q:DescSt->SortSt->Prop}
  (h:∀n,a<=n->n<=m->(∀i j,i<j->j<n->rk r (arrOf st) j<rk r (arrOf st) i)->Q (none,n,0) st):wpS (model prog w) A E s (descLoop a m) Q st:=by
 unfold descLoop;refine wpS_forRange (I:=λi c st'=>st=st'/\c=(none,i,0)/\∀x y,x<y->y<i->rk r (arrOf st) y<rk r (arrOf st) x) ?_ ?_ ⟨rfl,rfl,dn⟩
 ·rintro i _ _ hi him ⟨rfl,rfl,di⟩;refine wpS_bind (JH c ap b (by lia) (by lia) (show i≠i-1 by lia) ?_);dsimp only;by_cases z:rk r (arrOf st) i<rk r (arrOf st) (i-1)
  ·rw[if_pos (decide_eq_true z),if_neg (by lia)];refine wpS_pure ⟨rfl,rfl,λx y xy yl=> ?_⟩;by_cases e:y=i
   ·subst e;by_cases e2:x=y-1
    ·subst e2;exact z
    ·exact Int.lt_trans z (di x (y-1) (by lia) (by lia))
   ·exact di x y xy (by lia)
  ·rw[if_neg (by simpa using z)];have ne:=Py (ap.of b.pm) (show i<(arrOf st).size by rw[b.sz];lia) (show i-1<(arrOf st).size by rw[b.sz];lia) (by lia);refine wpS_bind (JH c ap b (by lia) (by lia) (show i-1≠i by lia) ?_);dsimp only;rw[if_pos (decide_eq_true (show rk r (arrOf st) (i-1)<rk r (arrOf st) i by lia))];exact wpS_pure (h i hi (by lia) di)
 ·rintro _ _ ⟨rfl,rfl,di⟩;rw[show max a m=m by lia]at di⊢;exact h m ham (aq _) di
theorem Uz(c:Cm prog w A s κ r a₀)(ap:Ap r a₀)(b:SB κ a₀ st)(h1:1<=a₀.size){Q:Option Nat->SortSt->Prop}
  (h:∀n st',SB κ a₀ st'->n<=a₀.size->Ri r (arrOf st') n->Q (some n) st'):wpS (model prog w) A E s (countRun' 0 a₀.size) Q st:=by
 rw[countRun0_eq];refine wpS_bind (NT c ap b (aq _) (aq _) h1 (λi j ij j1=>by rw[show i=j by lia];exact b7 _) λn n1 nm un fall=> ?_);dsimp only;by_cases e:n=a₀.size
 ·rw[if_pos (by simpa using e)];exact wpS_pure (h n _ b nm un)
 ·rw[if_neg (by simpa using e)];by_cases e1:n>1
  ·rw[if_pos e1];refine wpS_bind (JH c ap b (by lia) (by omega) (show 0≠n-1 by omega) ?_);dsimp only;have ne:=Py (ap.of b.pm) (show 0<(arrOf st).size by rw[b.sz];lia) (show n-1<(arrOf st).size by rw[b.sz];omega) (by omega);have le:=un 0 (n-1) (by lia) (by omega);rw[if_pos (decide_eq_true (show rk r (arrOf st) 0<rk r (arrOf st) (n-1) by lia))];exact wpS_pure (h n _ b nm un)
  ·rw[if_neg e1];have e2:n=1:=by lia
   subst e2;unfold descPart;refine wpS_bind (wpS_lift (wpAny_rule ⟨rfl,?_⟩));have z:=fall (by lia);refine wpS_bind (Q6 c ap b (aq _) (by decide) (by lia) (λi j ij j2=>by rw[show i=0 by lia,show j=1 by lia];exact z) λn n1 nm dn=> ?_);dsimp only;rw[if_neg (by lia)];unfold tail3;rw[reverseSlice'_eq];refine wpS_bind (wpS_modify (wpS_bind ?_));have pm:=mirror_perm (arrOf st) 0 n ((n-0)/2);have e:∀k,k<n->rk r (mirror (arrOf st) 0 n ((n-0)/2)) k=rk r (arrOf st) (n-1-k):=λk hk=>by
    have q:=getElem?_mirror_all (xs:=arrOf st) (i:=0) (j:=n) (by rw[b.sz];exact nm) k;rw[if_pos ⟨bR _,hk⟩,cP]at q;exact CQ q
   refine NT c ap (b.set pm) (aq _) (by lia) nm (λi j ij jn=> ?_) λn' _ nm' un' _=> ?_
   ·show rk r (mirror (arrOf st) 0 n ((n-0)/2)) i<=rk r (mirror (arrOf st) 0 n ((n-0)/2)) j;rw[e i (by lia),e j jn];by_cases e2:i=j
    ·subst e2;exact b7 _
    ·exact Int.le_of_lt (dn _ _ (by lia) (by omega))
   ·exact wpS_pure (h n' _ (b.set pm) nm' un')
theorem Tu(c:Cm prog w A s κ r a₀)(ap:Ap r a₀)(b:SB κ a₀ st){ok:Nat}(ko:ok<=a₀.size)(up:Ri r (arrOf st) ok){Q:Bool->SortSt->Prop}
  (h:∀st',SB κ a₀ st'->Ri r (arrOf st') a₀.size->Q true st'):wpS (model prog w) A E s (binarySort' 0 a₀.size ok) Q st:=by
 rw[binarySort'_eq];simp only[cP];refine wpS_bind (wpS_forRange (I:=λk c st'=>c=(none,())/\SB κ a₀ st'/\Ri r (arrOf st') (min k a₀.size)) (Q:=λc st'=>wpS _ _ _ _ _ Q st') ?_ ?_ ⟨rfl,b,λi j ij jl=> ?_⟩)
 ·rintro k _ st' hk hkn ⟨rfl,b',u'⟩;rw[e8 (c8 hkn)]at u';have ks:k<(arrOf st').size:=by rw[b'.sz];exact hkn
  refine wpS_bind (wpS_mono (wpS_forRange (Q:=λc st''=>st'=st''/\∃lo hi,c=(none,lo,hi)/\lo<=k/\(∀i,i<lo->rk r (arrOf st') i<=rk r (arrOf st') k)/\∀i,lo<=i->i<k->rk r (arrOf st') k<=rk r (arrOf st') i) (I:=λx c st''=>st'=st''/\∃lo hi,c=(none,lo,hi)/\lo<=hi/\hi<=k/\hi-lo<=k-x/\(∀i,i<lo->rk r (arrOf st') i<=rk r (arrOf st') k)/\∀i,hi<=i->i<k->rk r (arrOf st') k<=rk r (arrOf st') i) ?_ ?_ ⟨rfl,0,k,rfl,bR _,aq _,by lia,λi z=>absurd z (cq _),λi z1 z2=>by lia⟩) ?_)
  ·rintro x _ _ _ hx ⟨rfl,lo,hi,rfl,l1,l2,l3,f1,f2⟩;dsimp only;by_cases g:lo>=hi
   ·rw[if_pos g];exact wpS_pure ⟨rfl,lo,hi,rfl,by lia,f1,λi i1 i2=>f2 i (by lia) i2⟩
   ·rw[if_neg g];refine wpS_bind (JH c ap b' hkn (by lia) (show k≠(lo+hi)/2 by lia) ?_);dsimp only;by_cases z:rk r (arrOf st') k<rk r (arrOf st') ((lo+hi)/2)
    ·rw[if_pos (decide_eq_true z)];exact wpS_pure ⟨rfl,lo,_,rfl,by lia,by lia,by omega,f1,λi i1 i2=>gX (Int.le_of_lt z) (u' _ _ i1 i2)⟩
    ·rw[if_neg (by simpa using z)];exact wpS_pure ⟨rfl,_,hi,rfl,by lia,by omega,by omega,λi i1=>gX (u' i ((lo+hi)/2) (by lia) (by lia)) (by lia),f2⟩
  ·rintro _ _ ⟨rfl,lo,hi,rfl,l1,l2,l3,f1,f2⟩;exact⟨rfl,lo,hi,rfl,by lia,f1,λi i1 i2=>f2 i (by lia) i2⟩
  ·rintro _ _ ⟨rfl,lo,hi,rfl,l1,f1,f2⟩;dsimp only;rw[moveDown'_eq];refine wpS_bind (wpS_modify (wpS_pure ⟨rfl,b'.set (bubble_perm _ _ _),λi j ij jk=> ?_⟩));have bb:∀x,rk r (bubble (arrOf st') k (k-lo)) x=if x=lo then rk r (arrOf st') k else if lo<x/\x<=k then rk r (arrOf st') (x-1) else rk r (arrOf st') x:=λx=>by
    have q:=getElem?_bubble ks (k-lo) (by lia) x;rw[show k-(k-lo)=lo by lia]at q;by_cases c1:x=lo
    ·rw[if_pos c1]at q⊢;exact CQ q
    ·rw[if_neg c1]at q⊢;by_cases c2:lo<x/\x<=k
     ·rw[if_pos c2]at q⊢;exact CQ q
     ·rw[if_neg c2]at q⊢;exact CQ q
   show rk r (bubble (arrOf st') k (k-lo)) i<=rk r (bubble (arrOf st') k (k-lo)) j;rw[bb,bb];have jk':j<k+1:=by lia
   by_cases i1:i<lo
   ·rw[if_neg (by lia),if_neg (by lia)];by_cases j1:j=lo
    ·rw[if_pos j1];exact f1 i i1
    ·rw[if_neg j1];by_cases j2:lo<j/\j<=k
     ·rw[if_pos j2];exact u' _ _ (by lia) (by lia)
     ·rw[if_neg j2];exact u' _ _ ij (by lia)
   ·by_cases i2:i=lo
    ·rw[if_pos i2];by_cases j1:j=lo
     ·rw[if_pos j1];exact b7 _
     ·rw[if_neg j1,if_pos (by lia)];exact f2 _ (by lia) (by lia)
    ·rw[if_neg i2,if_pos (by lia),if_neg (by lia),if_pos (by lia)];exact u' _ _ (by omega) (by lia)
 ·rintro _ st' ⟨rfl,b',u'⟩;rw[show min (max (max ok 1) a₀.size) a₀.size=a₀.size by lia]at u';exact wpS_pure (h st' b' u')
 ·by_cases e:ok=0
  ·rw[show i=j by lia];exact b7 _
  ·exact up i j ij (by lia)
theorem RZ(c:Cm prog w A s κ r a₀)(ap:Ap r a₀)(b:SB κ a₀ st)(h2:2<=a₀.size)(h64:a₀.size<64){Q:Unit->SortSt->Prop}
  (h:∀st',(arrOf st').Perm a₀->failedOf st'=none->Ri r (arrOf st') a₀.size->Q () st'):wpS (model prog w) A E s sortRuns' Q st:=by
 have mr:minRun' a₀.size a₀.size 0=a₀.size:=by
  obtain⟨f,hf⟩:=Nat.exists_eq_succ_of_ne_zero (show a₀.size≠0 by lia);have e:=minRun'_succ f a₀.size 0;rw[if_pos h64]at e;rw[show a₀.size=f+1 from hf]at e⊢;exact e
 rw[sortRuns'_eq];refine wpS_bind (wpS_get ?_);simp only[b.sz,mr];have fin:∀st',SB κ a₀ st'->Ri r (arrOf st') a₀.size->(setPending st' ((pendingOf st').push (0,a₀.size,0)):SortSt)=setPending st' #[(0,a₀.size,0)]:=λst' b' _=>by rw[b'.pd];rfl
 refine wpS_bind (wpS_mono (wpS_forRange (Q:=λc st'=>c=(none,a₀.size)/\∃st2,SB κ a₀ st2/\Ri r (arrOf st2) a₀.size/\st'=setPending st2 #[(0,a₀.size,0)])
  (I:=λx c st'=>if x=0 then c=(none,0)/\SB κ a₀ st' else c=(none,a₀.size)/\∃st2,SB κ a₀ st2/\Ri r (arrOf st2) a₀.size/\st'=setPending st2 #[(0,a₀.size,0)]) ?_ ?_ (by rw[if_pos rfl];exact⟨rfl,b⟩)) ?_)
 ·intro x c' st' _ hx I;by_cases x0:x=0
  ·subst x0;rw[if_pos rfl]at I;obtain⟨rfl,b'⟩:=I;dsimp only;rw[if_neg (by lia)];simp only[Nat.sub_zero,c9,cP];refine wpS_bind (Uz c ap b' (by lia) λn st2 b2 n2 u2=> ?_);dsimp only;by_cases z:n<a₀.size
   ·rw[if_pos z];refine wpS_bind (wpS_lift (wpAny_rule ⟨rfl,?_⟩));refine wpS_bind (Tu c ap b2 n2 u2 λst3 b3 u3=> ?_);simp only[Bool.not_true,dF,if_false];refine wpS_bind (wpS_get ?_);rw[show(pendingOf st3).back? =none by rw[b3.pd];rfl];dsimp only;exact wpS_bind (wpS_modify (wpS_pure ⟨rfl,st3,b3,u3,fin st3 b3 u3⟩))
   ·rw[if_neg z];obtain rfl:n=a₀.size:=by lia
    refine wpS_bind (wpS_get ?_);rw[show(pendingOf st2).back? =none by rw[b2.pd];rfl];dsimp only;exact wpS_bind (wpS_modify (wpS_pure ⟨rfl,st2,b2,u2,fin st2 b2 u2⟩))
  ·rw[if_neg x0]at I;obtain⟨rfl,r⟩:=I;dsimp only;rw[if_pos (aq _)];exact wpS_pure ⟨rfl,r⟩
 ·intro c' st' I;rw[if_neg (by lia)]at I;exact I
 ·rintro _ _ ⟨rfl,st2,b2,u2,rfl⟩;dsimp only;refine wpS_bind (wpS_mono (wpS_forRange (Q:=λc st'=>c=(none,())/\setPending st2 #[(0,a₀.size,0)]=st') (I:=λ_ c st'=>c=(none,())/\setPending st2 #[(0,a₀.size,0)]=st') ?_ (λ_ _ z=>z) ⟨rfl,rfl⟩) ?_)
  ·rintro _ _ _ _ _ ⟨rfl,rfl⟩;refine wpS_bind (wpS_get ?_);rw[if_pos (show(pendingOf (setPending st2 #[(0,a₀.size,0)])).size<=1 from aq 1)];exact wpS_pure ⟨rfl,rfl⟩
  ·rintro _ _ ⟨rfl,rfl⟩;exact wpS_pure (h _ b2.pm b2.fl u2)
def IF(h:Heap)(r:Value->Int)(v:Value):Prop:=∃a i t u,v= .ref a/\h.IsTuple a #[.int i t,u]/\r v=i
theorem IF.old{h h':Heap}{v:Value}(p:IF h r v)(k:∀a o,h.get? a=some o->o.cls= .type "tuple"->h'.get? a=some o):IF h' r v:=by
 obtain⟨a,i,t,u,e,⟨o,e1,e2,n,e3⟩,er⟩:=p;exact⟨a,i,t,u,e,⟨o,k _ _ e1 e2,e2,n,e3⟩,er⟩
theorem Oo(v:Value):firstOfTuple' v=(do if (←typeOf v) != .type "tuple" then return none
                                              return (←eN v)[0]?):=rfl
theorem Rn(b:Bool)(x y:Value):keyLt' (tuples' b) x y=(do
  let xs←eN x;let ys←eN y
  for ((p,q),i) in (xs.toList.zip ys.toList).zipIdx do
             if !(←eqBool p q) then return←oneLt' (b&&i==0) p q
  return xs.size<ys.size):=rfl
theorem Mb{M:Model}{α β:Type}{f:α->Sem β}{G:β->Prop}:∀{vs:List α} {Q:Array β->Shared->Prop},(∀v∈vs,∃y,G y/\∀Q':β->Shared->Prop,Q' y s->wpAny M A (f v) Q' E s)->(∀ys:List β,ys.length=vs.length->(∀y∈ys,G y)->Q ys.toArray s)->wpAny M A (vs.toArray.mapM f) Q E s:=by
 have g:∀{vs:List α} {Q:List β->Shared->Prop},(∀v∈vs,∃y,G y/\∀Q':β->Shared->Prop,Q' y s->wpAny M A (f v) Q' E s)->(∀ys:List β,ys.length=vs.length->(∀y∈ys,G y)->Q ys s)->wpAny M A (vs.mapM f) Q E s:=by
  intro vs
  induction vs with
  |nil=>intro Q _ q;rw[List.mapM_nil];exact wpAny_pure (q [] rfl (λ_ z=>nomatch z))
  |cons v r ih=>
   intro Q h q;rw[List.mapM_cons];obtain⟨y,gy,k⟩:=h v (ax ..);refine wpAny_bind (k _ (wpAny_bind (ih (λu hu=>h u (ao _ hu)) λys l g=>wpAny_pure (q (y::ys) (by simp[l]) λz hz=> ?_))));rcases List.mem_cons.mp hz with rfl|hz
   ·exact gy
   ·exact g z hz
 intro vs Q h q;rw[List.mapM_toArray,←bind_pure_comp];exact wpAny_bind (g h λys l gg=>wpAny_pure (q ys l gg))
theorem Wl{vs:List Value}(ht:∀v∈vs,IF s.heap r v):Cm prog w A s (tuples' true) r (pairsOf vs):=by
 intro E Q p q hp hq ne h;have m:∀{p:Keyed},p∈(pairsOf vs).toList->p.1∈vs:=λ{p} hp=>by rw[pairsOf_toList]at hp;exact(eZ (a:=p.1) (b:=p.2) hp).1
 obtain⟨a,i,t,u,ea,⟨o,o1,o2,n,o3⟩,er⟩:=ht _ (m hp);obtain⟨b,j,t',u',eb,⟨o',o1',o2',n',o3'⟩,er'⟩:=ht _ (m hq);rw[er,er']at h ne;rw[Rn,ea,eb];refine wpAny_bind (listItems_at o1 o3 (wpAny_bind (listItems_at o1' o3' ?_)));show wpAny _ _ (forIn [((dt i t,dt j t'),0),((u,u'),1)] _ _>>=_) _ _ _;refine wpAny_bind ?_;rw[iH];refine wpAny_bind (wpAny_bind (wpAny_eqBool_int ?_));rw[show(i==j)=false by simpa using ne];refine wpAny_bind (oneLt_int ?_);exact wpAny_pure (wpAny_pure (wpAny_pure h))
theorem RM{vs:List Value}(h0:0<vs.length)(ht:∀v∈vs,IF s.heap r v){Q:SortKind->Shared->Prop}(h:Q (tuples' true) s):wpAny (model prog w) A (keyKind' vs.toArray) Q E s:=by
 rw[keyKind'_eq];refine wpAny_bind (Mb (G:=λy=>∃i t,y=some (dt i t)) (λv hv=> ?_) λys yl yg=> ?_)
 ·obtain⟨a,i,t,u,rfl,⟨o,o1,o2,n,o3⟩,er⟩:=ht v hv;refine⟨some (.int i t),⟨i,t,rfl⟩,λQ' q=> ?_⟩;rw[Oo];refine wpAny_bind (wpAny_typeOf_ref o1 ?_);rw[o2,if_neg (by decide)];exact wpAny_bind (listItems_at o1 o3 (wpAny_pure q))
 ·rw[if_pos (by rw[ir,eU];intro y hy;obtain⟨i,t,rfl⟩:=yg y hy;rfl)];refine wpAny_bind (wpAny_rule (wpAny_bind ?_));rw[oneTypeOnly'_eq,List.filterMap_toArray];have g2:∀x∈ys.filterMap id,∃i t,x=dt i t:=λx hx=>by
   obtain⟨y,hy,e⟩:=List.mem_filterMap.mp hx;obtain⟨i,t,rfl⟩:=yg y hy
   cases e;exact⟨i,t,rfl⟩
  have l2:0<(ys.filterMap id).length:=by
   obtain⟨y,hy⟩:=fk (show 0<ys.length by lia);obtain⟨i,t,rfl⟩:=yg y hy;exact fZ (List.mem_filterMap.mpr ⟨_,hy,rfl⟩)
  refine wpAny_bind (Mb (G:=λy=>y=dj "int") (λv hv=> ?_) λzs zl zg=> ?_)
  ·obtain⟨i,t,rfl⟩:=g2 v hv;exact⟨_,rfl,λQ' q=>wpAny_typeOf (typeIs_int s i t) q⟩
  ·cases zs with
   |nil=>rw[dJ]at zl;lia
   |cons z rr=>
    obtain rfl:=zg z (ax ..);show wpAny _ _ (pure (if ((dj "int"::rr).toArray.all λx=>x==dj "int")=true then some (dj "int") else none)) _ _ _;rw[if_pos (by rw[ir,eU];intro y hy;rw[zg y hy];decide)];exact wpAny_pure (wpAny_pure h)
theorem PK{a:Addr}{vs:List Value}{n:Nat}{P:Fin->Shared->Prop}(ho:s.heap.get? a=some (seqObj "list" vs.toArray n))(ht:∀v∈vs,IF s.heap r v)(nd:(vs.map r).Nodup)(h64:vs.length<64)
  (h:∀out:Array Value,out.toList.Perm vs->(out.toList.map r).Pairwise (·<=·)->P (.done (.ret .none)) {s with heap:=sortedHeap s.heap a vs out}):
  wpAny (model prog w) A (Builtin.«list.sort» ⟨[.ref a],[]⟩) P E s:=by
 have ha:=aD ho;have hsz:vs.toArray.size=vs.length:=by simp
 obtain⟨e1,ho1⟩:∃e1,(s.heap.update a (cT λ_=> #[])).get? a=some (seqObj "list" #[] e1):=⟨_,get?_update_seq ho (λ_=> #[])⟩;rw[list_sort_plain];refine wpAny_bind (listItems_at ho rfl (wpAny_bind (listUpdate_at ho rfl (wpAny_bind (seqEpoch_at ho1 rfl (wpAny_bind (wpAny_newTuple (wpAny_bind (wpAny_newList (wpAny_holding ?_))))))))));have old:∀b o,s.heap.get? b=some o->b≠a->(((s.heap.update a (cT λ_=> #[])).push (seqObj "tuple" vs.toArray 0)).push (seqObj "list" #[] 0)).get? b=some o:=λb o e nb=>ay _ (ay _ (by rw[gL _ _ _ _ nb];exact e));have ho6:(((s.heap.update a (cT λ_=> #[])).push (seqObj "tuple" vs.toArray 0)).push (seqObj "list" #[] 0)).get? a=some (seqObj "list" #[] e1):=ay _ (ay _ ho1);show wpAny (model prog w) A _ P E {s with heap:=((s.heap.update a (cT λ_=> #[])).push (seqObj "tuple" vs.toArray 0)).push (seqObj "list" #[] 0)};have fin:∀xs:Array Keyed,xs.Perm (pairsOf vs)->Ri r xs (pairsOf vs).size->(xs.map (·.2)).toList.Perm vs/\((xs.map (·.2)).toList.map r).Pairwise (·<=·):=λxs pm up=>by
  have pl:=Array.perm_iff_toList_perm.mp pm;rw[pairsOf_toList]at pl;have e12:∀p∈xs.toList,p.2=p.1:=λp hp=>by
   obtain⟨i,hi,e⟩:=List.mem_iff_getElem.mp (pl.mem_iff.mp hp);rw[List.getElem_zip]at e;rw[←e]
  refine⟨by rw[Array.toList_map];exact(pl.map _).trans (by rw[List.map_snd_zip (aq _)]),?_⟩;rw[List.pairwise_iff_getElem];intro i j hi hj ij;simp only[aa,fm,gj]at hi hj;have q:=up i j (c8 ij) (by rw[←pm.size_eq];exact hj);rw[Ga hi,Ga hj]at q;simp only[de,Array.getElem_toList,Array.getElem_map];rw[e12 xs[i] (by simp),e12 xs[j] (by simp)];exact q
 have ht6:∀v∈vs,IF (((s.heap.update a (cT λ_=> #[])).push (seqObj "tuple" vs.toArray 0)).push (seqObj "list" #[] 0)) r v:=λv hv=>(ht v hv).old λb o e c=>old b o e λz=>by rw[z,ho]at e;cases e;exact absurd (show dj "list"=dj "tuple" from c) (by decide)
 by_cases h2:vs.toArray.size<2
 ·rw[if_pos h2,if_pos h2];refine wpAny_bind (wpAny_pure ?_);dsimp only;rw[StateT.run_pure];refine wpAny_bind (wpAny_pure (wpAny_bind (seqEpoch_at ho6 rfl (wpAny_bind (listUpdate_at ho6 rfl ?_ (hsz2:=by rw[gj];show(pairsOf vs).size<=_;rw[pairsOf_size,sizeLine_eq];lia))))));simp only[bne_self_eq_false,dF,if_false];obtain⟨f1,f2⟩:=fin (pairsOf vs) (iE _) λi j ij jl=>by rw[show i=j by rw[pairsOf_size]at jl;lia];exact b7 _
  exact wpAny_pure (h _ f1 f2)
 ·rw[if_neg h2,if_neg h2];refine wpAny_bind (RM (r:=r) (by lia) ht6 (wpAny_bind (wpAny_mono (RZ (κ:=tuples' true) (r:=r) (a₀:=pairsOf vs) (Q:=λ_ st'=>(arrOf st').Perm (pairsOf vs)/\failedOf st'=none/\Ri r (arrOf st') (pairsOf vs).size) (Wl ht6) ?_ ⟨iE _,rfl,rfl,rfl⟩ (by rw[pairsOf_size];lia) (by rw[pairsOf_size];exact h64) λst' a1 a2 a3=>⟨a1,a2,a3⟩) ?_ λ_ _ e=>e)))
  ·show((pairsOf vs).toList.map _).Nodup;rw[pairsOf_toList,show(λp:Keyed=>r p.1)=r∘au from rfl,←bj,List.map_fst_zip (aq _)];exact nd
  rintro⟨⟨⟩,st'⟩ _ ⟨rfl,pm,hf,up⟩;refine wpAny_bind (seqEpoch_at ho6 rfl (wpAny_bind (listUpdate_at ho6 rfl ?_ (hsz2:=by refine aA (hE ((gj ..).trans (pm.size_eq.trans (pairsOf_size _)))) ?_;rw[sizeLine_eq];lia))));dsimp only;rw[hf];simp only[bne_self_eq_false,dF,if_false];obtain⟨f1,f2⟩:=fin _ pm up;exact wpAny_pure (h _ f1 f2)
theorem Lf{l:Addr}{vs:List Value}{Q:Value->Shared->Prop}(hl:s.heap.IsList l vs.toArray)(ht:∀v∈vs,IF s.heap r v)(nd:(vs.map r).Nodup)(h64:vs.length<64)
  (h:∀out:Array Value,out.toList.Perm vs->(out.toList.map r).Pairwise (·<=·)->Q (.ref (s.heap.objs.size+1)) {s with heap:=sortedAll s.heap vs out}):
  wpAny (model prog w) A (call (.builtin "sorted") [.ref l]) Q E s:=by
 refine fJ kind_sorted plain_sorted entry_sorted (args_sorted1 _) (show wpAny _ _ (Builtin.«sorted» _) _ _ _ from ?_);unfold Builtin.«sorted»;refine wpAny_bind (m:=checkCount "sorted" 1 1 _) (wpAny_pure (wpAny_bind (collect_list hl (wpAny_bind (wpAny_newList ?_)))));have z:((s.heap.push (seqObj "list" #[] 0)).update s.heap.objs.size (cT (·++vs.toArray))).objs.size=s.heap.objs.size+1:=(Heap.size_update ..).trans (size_push' ..);have at':(((s.heap.push (seqObj "list" #[] 0)).update s.heap.objs.size (cT (·++vs.toArray))).push (seqObj "list" vs.toArray 0)).get? (s.heap.objs.size+1)=some (seqObj "list" vs.toArray 0):=z▸bA _ rfl;show wpAny _ _ _ _ _ ({s with heap:=((s.heap.push (seqObj "list" #[] 0)).update s.heap.objs.size (cT (·++vs.toArray))).push (seqObj "list" vs.toArray 0)}:Shared);rw[z];refine wpAny_bind (wpAny_holding (wpAny_call_entry slot_list_sort ⟨_,at',rfl⟩ entry_list_sort (PK (r:=r) at' (λv hv=>(ht v hv).old λb o e c=>ay _ ?_) nd h64 λout f1 f2=>⟨_,rfl,wpAny_pure ⟨_,rfl,h out f1 f2⟩⟩) (args_list_sort _)));rw[gL _ _ _ _ (aK (aD e))];exact ay _ e
end
section
variable{X:Cx}
def Dc:List V->Hp->VK->Prop:=λxs H Q=>∃(a:Addr) (ys:List Addr),xs=[.ref a]/\H a=some (.lst (ys.map V.ref))/\ys.length<64/\∃ps:Addr->Int×Int,(∀y∈ys,H y=some (.tup [.int (ps y).1,.int (ps y).2]))/\(ys.map λy=>(ps y).1).Nodup/\
 ∀(zs:List Addr) (l:Addr),H l=none->zs.Perm ys->(zs.map λy=>(ps y).1).Pairwise (·<=·)->Q (.ref l) (upd H l (.lst (zs.map V.ref)))
theorem NA{ys:List Addr}{vs:List Value}(h:Vals (ys.map V.ref) vs):vs=ys.map aO:=by
 induction ys generalizing vs with
 |nil=>cases h;rfl
 |cons y r ih=>cases h with|cons h t=>cases (show _=aO y from h);rw[ih t];rfl
theorem F_:∀{ys:List Addr},Vals (ys.map V.ref) (ys.map aO)
 | []=> .nil
 |y::r=> .cons rfl F_
theorem MI:nW X (.builtin "sorted") Dc:=by
 intro pins s σ H xs us Q I r h;obtain⟨a,ys,rfl,ea,yl,ps,hp,nd,h⟩:=h;obtain⟨u,rfl,rx⟩:=vals1 r
 cases (show u=aO a from rx)
 obtain⟨its,rv,pl,hz⟩:=I.list (kO.of ea);obtain rfl:=NA rv;have ez:∀zs:List Addr,(zs.map aO).map (λv=>match v with| .ref y=>(ps y).1|_=>0)=zs.map λy=>(ps y).1:=λzs=>by rw[bj];rfl
 refine Lf (r:=λv=>match v with| .ref y=>(ps y).1|_=>0) pl.isList (λv hv=> ?_) (by rw[ez];exact nd) (by rw[aa];exact yl) λout f1 f2=> ?_
 ·obtain⟨y,hy,rfl⟩:=List.mem_map.mp hv;obtain⟨its,rv,p,_⟩:=I.tuple (.inl (.inl (hp y hy)));obtain⟨u1,u2,rfl,r1,r2⟩:=rv.two;obtain⟨t,rfl⟩:=r1;exact⟨y,_,t,u2,rfl,p,rfl⟩
 ·obtain⟨zs,e,pm⟩:∃zs:List Addr,out.toList=zs.map aO/\zs.Perm ys:=by
   refine⟨out.toList.map λv=>match v with| .ref y=>y|_=>0,?_,?_⟩
   ·rw[bj];refine(bt (g:=id) λv hv=> ?_).trans (fA _)|>.symm;obtain⟨y,_,rfl⟩:=List.mem_map.mp (f1.mem_iff.mp hv);rfl
   ·have:=f1.map λv=>match v with| .ref y=>y|_=>0
    rw[bj]at this;exact this.trans (by rw[show((λv:Value=>match v with| .ref y=>y|_=>0)∘aO)=id from rfl,fA])
  have hf:H (s.heap.objs.size+1)=none:=I.ko.fresh (cO _);obtain⟨en,he⟩:=sortedAll_at s.heap (ys.map aO) out;refine⟨.ref (s.heap.objs.size+1),_,I.laid (t':=s.toks) (λb o e=>sortedAll_old e) (cO _) (show mf X.prog X.w _ _ _ (.lst (zs.map V.ref)) from⟨by rw[aa,pm.length_eq];exact aA (c8 yl) (by decide),out.toList,en,by rw[e];exact F_,by simpa using he⟩),rfl,h zs _ hf pm ?_⟩;rw[e,ez]at f2;exact f2
theorem Jf:uI X (.builtin "sorted") Dc:=⟨MI⟩
end
noncomputable abbrev AJ (o:Obj):HO:= .GL o (.own 0)
noncomputable def nX (H:Hp) (c:Addr):Hp:=λb=>if b=c then none else H b
theorem o9{H:Hp}{c:Addr}:nX H c c=none:=if_pos rfl
theorem lR{H:Hp}{b c:Addr}(h:b≠c):nX H c b=H b:=if_neg h
section
variable{P:Program}{w:World}{K:af}{mg:Str->Option Value}{base:Heap}{A:Around}{outer:List Env}{s s':Shared}{H H':Hp}{c:Addr}{o:Obj}
theorem qR.AJ(h:qR P w H s.heap)(n:H c=none)(e:s.heap.get? c=some o):qR P w (upd H c (Internal.AJ o)) s.heap:=λb u q=>by
 by_cases hb:b=c
 ·subst hb;rw[i8]at q;cases q
  exact⟨e,o,e⟩
 ·rw[i7 hb]at q;refine(h b u q).sj (λ_ _ _ z=>z) (λd z=> ?_) λd xs z=> ?_
  ·rw[i7 (i4 z n)];exact z
  ·rw[i7 (i4 z n)];exact z
theorem qR.drop(h:qR P w H s.heap)(e:H c=some (Internal.AJ o)):qR P w (nX H c) s.heap:=λb u q=>by
 by_cases hb:b=c
 ·subst hb;rw[o9]at q;cases q
 ·rw[lR hb]at q;refine(h b u q).sj (λ_ _ _ z=>z) (λd z=> ?_) λd xs z=> ?_
  ·rw[lR];exact z;rintro rfl;rw[e]at z;cases z
  ·rw[lR];exact z;rintro rfl;rw[e]at z;cases z
theorem EA.AJ(E:EA P w K mg base A outer s H)(n:H c=none)(e:s.heap.get? c=some o)(hb:base.get? c=none)(hf:c∉B9 outer):EA P w K mg base A outer s (upd H c (Internal.AJ o)):=
 ⟨E.frames,E.mod,λb u q=>⟨(E.bs b u q).1,by rw[i7 λz=>by subst z;rw[hb]at q;cases q];exact(E.bs b u q).2⟩,E.MD,E.wm,λb q=>by rw[i7 λz=>by subst z;exact hf q];exact E.Ql b q,E.ko.AJ n e,E.bare⟩
theorem CE.drop{Q:VK}{u:Value}(n:H c=none)(e:s.heap.get? c=some o)(h:CE outer P w (upd H c (Internal.AJ o)) s (λv H2=>Q v (nX H2 c)) u s'):CE outer P w H s Q u s':=by
 obtain⟨v,H',os,bare,un,ko,r,q⟩:=h;have k:H' c=some (Internal.AJ o):=un.uC c o _ i8;have kc:s'.heap.get? c=some o:=(ko c _ k).1;refine⟨v,nX H' c,os,bare,⟨λb ob q1 q2 q3 q4=> ?_,λb ob q1 q2 q3 q4=> ?_,λb ob q1 q2 q3=> ?_,λb ob q1 q2=>un.there b ob q1 q2,λb xs q1=> ?_,λb ob z q1=> ?_,λb xs q1=> ?_⟩,ko.drop k,r,q⟩
 ·by_cases hb:b=c
  ·subst hb;rw[e]at q1;cases q1;exact kc
  ·exact un.keep b ob q1 (by rw[i7 hb];exact q2) q3 q4
 ·by_cases hb:b=c
  ·subst hb;rw[e]at q1;cases q1;exact⟨o.slots,kc⟩
  ·exact un.slot b ob q1 (by rw[i7 hb];exact q2) q3 q4
 ·by_cases hb:b=c
  ·subst hb;exact o9
  ·rw[lR hb];exact un.free b ob q1 (by rw[i7 hb];exact q2) q3
 ·have hb:=i4 q1 n;rw[lR hb];exact un.wu b xs (by rw[i7 hb];exact q1)
 ·have hb:=i4 q1 n;rw[lR hb];exact un.uC b ob z (by rw[i7 hb];exact q1)
 ·have hb:=i4 q1 n;rw[lR hb];exact un.vV b xs (by rw[i7 hb];exact q1)
end
structure Gr where
 qual:Str
 params:Arguments
 body:Expr
 scope:Scope
 pos:Pos
 x:Str
 y:Str
def Qn(H:Hp)(L:Gr)(c':Addr):Prop:=∃oc vs t,H c'=some (Internal.AJ oc)/\oc.data= .fields vs/\vs[1]? =some (.str L.qual t)
def Qo(mg:Str->Option Value)(L:Gr)(H:Hp)(l c:Addr)(v:V):Prop:=∃c' ctv oz u,H l=some (Internal.AJ (d8 "<lambda>" L.qual L.params L.body L.scope [(L.x,c)] ((mg "__name__").getD .none) c' ctv))/\Qn H L c'/\H c=some (Internal.AJ oz)/\oz.data= .cell (some u)/\RelV v u
def wV(H:Hp)(L:Gr)(P:Addr):Prop:=∃ps,H P=some (.Co ps)/\TriplesOk ps.toList/\∀cv,codeAmong L.pos ps.toList=some cv->∃c',cv= .ref c'/\Qn H L c'
theorem wV.new{H:Hp}{L:Gr}{P:Addr}(h:H P=some (.Co #[])):wV H L P:=⟨#[],h,trivial,λ_ z=>nomatch z⟩
theorem wV.to{H H':Hp}{L:Gr}{P:Addr}(h:wV H L P)(e:H' P=H P)(k:∀b o,H b=some (Internal.AJ o)->H' b=some (Internal.AJ o)):wV H' L P:=by
 obtain⟨ps,h1,h2,h3⟩:=h;exact⟨ps,e.trans h1,h2,λcv z=>let ⟨c',e,oc,vs,t,q,r⟩:=h3 cv z;⟨c',e,oc,vs,t,k _ _ q,r⟩⟩
theorem Qo.to{mg:Str->Option Value}{H H':Hp}{L:Gr}{l c:Addr}{v:V}(h:Qo mg L H l c v)(k:∀b o,H b=some (Internal.AJ o)->H' b=some (Internal.AJ o)):Qo mg L H' l c v:=by
 obtain⟨c',ctv,oz,u,h1,⟨oc,vs,t,q,r⟩,h3,h4⟩:=h;exact⟨c',ctv,oz,u,k _ _ h1,⟨oc,vs,t,k _ _ q,r⟩,k _ _ h3,h4⟩
section
variable{X:Cx}{pins:List (Addr×Obj)}{σ:St}{H:Hp}{s:Shared}
theorem Inv.Sv{b:Addr}(I:Inv X pins σ H s)(hb:s.heap.objs.size<=b):(b∈X.ex∨X.s₀.heap.objs.size<=b)/\b≠X.env.locals/\(∀x c,X.env.cells.lookup x=some c->c≠b)/\∀p∈X.pn++pins,p.1≠b:=by
 have lt:∀{a:Addr} {o:Obj},s.heap.get? a=some o->a≠b:=λe z=>absurd (av (aD e) hb) (by rw[z];exact bw _);refine⟨.inr (aA I.sz hb),?_,λx c e=> ?_,λp hp=>lt (I.pin p hp).1⟩
 ·obtain⟨m,⟨o,es,ep,ho,_⟩,_⟩:=I.loc;exact(lt ho).symm
 ·obtain⟨v,o,ho,_⟩:=I.cell x c e;exact lt ho
theorem Inv.Mu{b:Addr}{o:Obj}(I:Inv X pins σ H s)(n:H b=none)(e:s.heap.get? b=some o)(hb:(b∈X.ex∨X.s₀.heap.objs.size<=b)/\b≠X.env.locals/\(∀x c,X.env.cells.lookup x=some c->c≠b)/\∀p∈X.pn++pins,p.1≠b):
  Inv X pins σ (upd H b (Internal.AJ o)) s:=by
 have ne:∀{a:Addr} {u:HO},H a=some u->a≠b:=λh z=>by rw[z,n]at h;cases h
 have J:=I.step (h':=s.heap) (H':=upd H b (Internal.AJ o)) (g':=s.gens) (t':=s.toks) (d':=s.drawn) (ch:=[b]) (λa ha=>by rw[az]at ha;subst ha;exact hb) (λ_ _ _ _ _ h _=>h) (λ_ u _ _ _ h _=>⟨u.slots,h⟩)
  (λa u ha _ h=>by rw[i7 (λz=>ha (List.mem_singleton.mpr z))];exact h) (λ_ u _ h=>⟨u,h⟩) (λa xs h=>by rw[i7 (ne h)];exact h) (λa u z h=>by rw[i7 (ne h)];exact h) (λa xs h=>⟨#[],by rw[i7 (ne h),dE];exact h⟩) (λ_ h=>h) (I.ko.AJ n e) I.bare
 exact J
theorem Inv.lam{P l c':Addr}{ps more:Array Value}{h':Heap}{t':Nat}{fo oc:Obj}(I:Inv X pins σ H s)(hP:H P=some (.Co ps))(ext:∀b o,b≠P->s.heap.get? b=some o->h'.get? b=some o)(hP':h'.get? P=some {cls:= .none,data:= .fields (ps++more)})
  (hl:s.heap.objs.size<=l) (el:h'.get? l=some fo) (hlc:c'≠l) (hc:(s.heap.objs.size<=c'/\h'.get? c'=some oc)∨H c'=some (Internal.AJ oc)):
  Inv X pins σ (upd (upd (upd H P (.Co (ps++more))) c' (Internal.AJ oc)) l (Internal.AJ fo)) {s with heap:=h',toks:=t'}:=by
 have J:=I.tabs (t':=t') hP ext hP';have nw:∀{b:Addr},s.heap.objs.size<=b->b≠P/\H b=none:=λ{b} hb=>by
  have n:=I.ko.fresh hb;exact⟨(λz=>by rw[z,hP]at n;cases n),n⟩
 have J2:Inv X pins σ (upd (upd H P (.Co (ps++more))) c' (Internal.AJ oc)) {s with heap:=h',toks:=t'}:=by
  rcases hc with ⟨hc,ec⟩|hc
  ·exact J.Mu (by rw[i7 (nw hc).1];exact(nw hc).2) ec (I.Sv hc)
  ·rw[US (by rw[i7 (λz=>by rw[z,hP]at hc;cases hc)];exact hc)];exact J
 exact J2.Mu (by rw[i7 hlc.symm,i7 (nw hl).1];exact(nw hl).2) el (I.Sv hl)
end
def Wt(mg:Str->Option Value)(L:Gr)(P cc:Addr):TE:=λ_ H Q=>wV H L P/\∀(H2:Hp) (l:Addr),(∀b o,b≠P->H b=some o->H2 b=some o)->wV H2 L P->H l=none->
 (∃c' ctv,H2 l=some (Internal.AJ (d8 "<lambda>" L.qual L.params L.body L.scope [(L.x,cc)] ((mg "__name__").getD .none) c' ctv))/\Qn H2 L c')->Q (.ref l) H2
def PX(mg:Str->Option Value)(C:Addr)(m:Str)(sp:Sp)(P:Addr)(i:Nat)(L:Gr)(ta:TE):TE:=λσ H Q=>ta σ H λx H1=>∃a dx fs v,x= .ref a/\H1 a=some (.ins C dx fs)/\fs.lookup m=none/\σ[i]? =some (some v)/\wV H1 L P/\
 ∀(H2:Hp) (l c:Addr),(∀b o,b≠P->H1 b=some o->H2 b=some o)->wV H2 L P->H1 l=none->H1 c=none->Qo mg L H2 l c v->sp [x,.ref l] H2 (λr H3=>Q r (nX H3 c)) λ_ _ _=>False
section
variable{X:Cx}{ca:Bool}{k:Nat}{f C:Addr}{fd:FuncData}{ps:List Str}{sp:Sp}{m:Str}{pos apos:Pos}{o:Expr}{ta:TE}
theorem RG{L:Gr}{P c cc:Addr}(hcode:X.env.code= .ref c)(hK:df X.K c P=true)(hq:X.env.qual++"<lambda>"=L.qual)(hcc:X.env.cells.lookup L.x=some cc)(hcl:∀env:Env,GF L.scope env=[(L.x,(env.cells.lookup L.x).getD 0)])
  (hfr:∀y∈L.scope.names,y.2= .free->y.1=L.x) (hdef:defaultsOf L.params X.env=([],[])):PE X (.Lambda L.params L.body L.scope L.pos) (Wt X.mg L P cc):=by
 intro pins s σ H Q I ⟨⟨ps,hP,ht,hc⟩,q⟩;have hPs:s.heap.get? P=some (PySem.W.tabObj ps):=I.ko P _ hP;have CH:PySem.W.CodeHd s.heap c P:=gS I.IB hK;have hg:s.heap.Ns mainGlobals X.mg:=I.mod.glob.keeps I.bk;have hgP:mainGlobals≠P:=λz=>by
  obtain⟨o,es,ep,e,d,_⟩:=hg;rw[z,hPs]at e;cases e;cases d
 obtain⟨bm,ob,b1,b2,b3,b4,b5,b6⟩:=I.mod.bmain;have b3:=I.bk _ _ b3;have hb:s.heap.BuiltinsAt X.mg P:=⟨bm,ob,b1,b2,(λz=>by
   obtain⟨o,es,ep,e,d,_⟩:=hg;rw[z,e]at b3;cases b3;rw[d]at b6;cases b6),(λz=>by rw[z,hPs]at b3;cases b3;cases b4),b3,b4,b5,b6⟩
 have hclo:closureFor L.scope X.env=pure [(L.x,cc)]:=by
  rw[Dh (scope:=L.scope) (env:=X.env) λy hy e=>by rw[hfr y hy e];exact⟨cc,hcc⟩,hcl,hcc];rfl
 refine PySem.W.kla_eval hdef ?_;rw[hq]
 cases hnf:codeAmong L.pos ps.toList with
 |none=>
  refine PySem.W.kla_makeFunction hclo I.ok.glob hg hcode CH hPs ht hnf hgP hb λc' ctv h' tk ext hge hlt hrec htab=> ?_;obtain⟨c2,oc,vs,t,e2,hoc,hd,hv⟩:=hrec
  cases e2
  have hle:P<h'.objs.size:=aD htab;have hl:s.heap.objs.size<=h'.objs.size:=c8 (aT hge hlt);have n1:=I.ko.fresh hl;have n2:=I.ko.fresh hge;have J:=I.lam (t':=tk) (l:=h'.objs.size) (c':=c') (oc:=oc) (fo:=d8 "<lambda>" L.qual L.params L.body L.scope [(L.x,cc)] ((X.mg "__name__").getD .none) c' ctv) (more:= #[rawInt L.pos.line,rawInt L.pos.col,.ref c']) hP (λb o hb e=>ay _ (ext b o hb e)) (ay _ htab) hl (bA _ rfl) (aK hlt) (.inl ⟨hge,ay _ hoc⟩);refine⟨.ref h'.objs.size,_,J,rfl,q _ _ (λb o hb e=> ?_) ⟨ps++ #[rawInt L.pos.line,rawInt L.pos.col,.ref c'],?_,?_,λcv z=> ?_⟩ n1 ⟨c',ctv,i8,oc,vs,t,?_,hd,hv⟩⟩
  ·rw[i7 (i4 e n1),i7 (i4 e n2),i7 hb];exact e
  ·rw[i7 (aK hle),i7 (λz=>by rw[←z,hP]at n2;cases n2),i8]
  ·rw[gK];exact TriplesOk_snoc _ _ _ _ ht
  ·rw[gK]at z;rw[show(#[rawInt L.pos.line,rawInt L.pos.col,aO c']:Array Value).toList=[rawInt L.pos.line,rawInt L.pos.col,aO c'] from rfl,codeAmong_snoc _ ht hnf]at z
   cases z
   exact⟨c',rfl,oc,vs,t,by rw[i7 (aK hlt),i8],hd,hv⟩
  ·rw[i7 (aK hlt),i8]
 |some cv=>
  obtain⟨c',rfl,oc,vs,t,ec,hd,hv⟩:=hc cv hnf;refine PySem.W.kla_makeFunctionHit hclo I.ok.glob hg hcode CH hPs ht hnf hb λctv h' tk ext hge=> ?_;have n1:=I.ko.fresh hge;have ncl:c'≠h'.objs.size:=i4 ec n1;have J:=I.lam (t':=tk) (l:=h'.objs.size) (c':=c') (oc:=oc) (more:= #[]) hP (λb o _ e=>ay {cls:= .type "function",data:= .func (gA "<lambda>" L.qual L.params L.body L.scope [(L.x,cc)] ((X.mg "__name__").getD .none) (.ref c') ctv)} (ext b o e)) (by rw[dE];exact ay _ (ext _ _ hPs)) hge (bA _ rfl) ncl (.inr ec);have sm:∀b o,H b=some o->upd (upd (upd H P (.Co (ps++ #[]))) c' (Internal.AJ oc)) h'.objs.size (Internal.AJ (d8 "<lambda>" L.qual L.params L.body L.scope [(L.x,cc)] ((X.mg "__name__").getD .none) c' ctv)) b=some o:=λb o e=>by
   rw[i7 (i4 e n1)];by_cases h1:b=c'
   ·rw[h1,i8,←ec,←h1,e]
   ·rw[i7 h1];by_cases h2:b=P
    ·rw[h2,i8,dE,←hP,←h2,e]
    ·rw[i7 h2];exact e
  exact⟨.ref h'.objs.size,_,J,rfl,q _ _ (λb o _ e=>sm b o e) ⟨ps,sm _ _ hP,ht,λcv z=>by rw[hnf]at z;cases z;exact⟨c',rfl,oc,vs,t,sm _ _ ec,hd,hv⟩⟩ n1 ⟨c',ctv,i8,oc,vs,t,sm _ _ ec,hd,hv⟩⟩
theorem Pg{pl:Sem Bool}{L:Gr}{P c:Addr}{i:Nat}(he:PE X o ta)(cl:Ex X.K C)(hm:Meth X.K C m f)(F:mS X.prog X.w X.K X.mg X.base (uv X.prog X.w) ca k f fd ps sp)(hr:lM ca k X.A)(hb:Binds X.K fd ps [])
  (hcode:X.env.code= .ref c) (hK:df X.K c P=true) (hq:X.env.qual++"<lambda>"=L.qual) (hN:X.N[i]? =some L.x) (hk:X.env.kindOf L.x=some .cell) (hfn:X.fn L.x=true) (hcl:∀env:Env,GF L.scope env=[(L.x,(env.cells.lookup L.x).getD 0)])
  (hfr:∀y∈L.scope.names,y.2= .free->y.1=L.x) (hdef:defaultsOf L.params X.env=([],[]))
  (ht:eval (.Call (.Attribute o m apos) [.Lambda L.params L.body L.scope L.pos] [] pos) X.env=(do
   let ov←eval o X.env
   standAt apos.atName
   let (f,first)←holding [ov] (getMethod ov m pl)
   callWith pos f first (backTo pos (starEach [.Lambda L.params L.body L.scope L.pos] X.env)) (backToKw pos (keywordEach [] X.env))):=by rfl):
  PE X (.Call (.Attribute o m apos) [.Lambda L.params L.body L.scope L.pos] [] pos) (PX X.mg C m sp P i L ta):=by
 intro pins s σ H Q I h;refine eV (pl:=pl) (mJ (he pins s σ H _ I h) λu s1 zq=> ?_) ht;obtain⟨x,H1,I1,rx,a,dx,fs,v,ex,ea,l,hv,tb,q⟩:=zq;subst ex;obtain rfl:u=aO a:=rx;refine y_ I1 ea cl hm l ?_;obtain⟨cc,hcc⟩:=I1.ok.has L.x (.inl hk);have nC:=I1.qe _ _ hcc;refine eA (first:=[.ref a]) (h₀:=X.base) I.ok.mod.U1 hm.kp (mJ ((Uc (RG (cc:=cc) hcode hK hq hcc hcl hfr hdef) KQ) pos pins s1 σ H1 (λvs H2=>∃lf,vs=[.ref lf]/\(∀b o,b≠P->H1 b=some o->H2 b=some o)/\wV H2 L P/\H1 lf=none/\
  ∃c' ctv,H2 lf=some (Internal.AJ (d8 "<lambda>" L.qual L.params L.body L.scope [(L.x,cc)] ((X.mg "__name__").getD .none) c' ctv))/\Qn H2 L c') I1 ⟨tb,λH2 lf sm tb nl z=>⟨lf,rfl,sm,tb,nl,z⟩⟩) λus s2 zq=> ?_) (n_ rfl) rfl
 obtain⟨vs,H2,J,r,lf,ev,sm,tb,nl,c',ctv,el,oc,ws,t,q1,q2⟩:=zq;refine⟨J.IB,?_⟩;subst ev;obtain⟨u2,rfl,ru⟩:=vals1 r;obtain rfl:u2=aO lf:=ru;have hcell:∃oz u,s2.heap.get? cc=some oz/\oz.data= .cell (some u)/\RelV v u:=by
  obtain⟨mm,_,hl⟩:=J.loc;obtain⟨u,r,lk⟩:=hl i L.x v hN hv (.inr (.inl hk));rcases lk with ⟨z,_⟩|⟨_,c2,e2,oz,z1,z2⟩
  ·rw[hk]at z;cases z
  ·rw[hcc]at e2;cases e2
   exact⟨oz,u,z1,z2,r⟩
 obtain⟨oz,uz,ec,dz,rz⟩:=hcell;have nc:=J.qe _ _ hcc;have ne:∀{b:Addr} {u:HO},H2 b=some u->b≠cc:=λe z=>by rw[z,nc]at e;cases e
 have hsp:=q (upd H2 cc (Internal.AJ oz)) lf cc (λb o hb e=>by rw[i7 (ne (sm b o hb e))];exact sm b o hb e) (by
   obtain⟨ps',e1,e2,e3⟩:=tb;exact⟨ps',by rw[i7 (ne e1)];exact e1,e2,λcv z=>let ⟨c'',z1,oc,vs,t,z2,z3⟩:=e3 cv z;⟨c'',z1,oc,vs,t,by rw[i7 (ne z2)];exact z2,z3⟩⟩) nl nC
  ⟨c',ctv,oz,uz,by rw[i7 (ne el)];exact el,⟨oc,ws,t,by rw[i7 (ne q1)];exact q1,q2⟩,i8,dz,rz⟩
 have hge:X.s₀.heap.objs.size<=cc:=I1.ok.Tb _ _ hfn hcc;have hbase:X.base.get? cc=none:=gG (aA I1.ok.MD hge);have hfs:cc∉B9 X.stack:=λz=>by
  rcases List.mem_cons.mp (J.En _ z) with z|z
  ·exact J.Sm _ _ hcc z
  ·obtain⟨_,o,ho,_⟩:=J.ok.wm.mem z;exact absurd (av (aD ho) hge) (bw _)
 have e0:=J.Tf.AJ nc ec hbase hfs;have r2:Vals [V.ref a,V.ref lf] [aO a,aO lf]:= .cons rfl (.cons rfl .nil);refine wpAny_call (codeAny_mono (F.run X.A X.stack s2 _ ⟨[.ref a,.ref lf],[]⟩ [.ref a,.ref lf] [.ref a,.ref lf] _ _ hr e0 (by
  have:=hb s2 [.ref a,.ref lf] J.IB (by rw[aM,←F.len _ _ _ _ hsp];rfl);rw[aM]at this;exact this) r2 hsp) λr s' hq=> ?_)
 cases r with
 |error e=>obtain⟨_,_,_,_,_,_,_,_,_,_,_,_,h⟩:=hq;exact h.elim
 |ok fl=>
  cases fl with
  |ret u=>exact J.after (CE.drop nc ec hq)
  |next=>exact bT hq
  |brk=>exact bT hq
  |cont=>exact bT hq
end
noncomputable def Q4 (ca:Bool) (X:Cx) (L:Gr) (l c c':Addr) (s:Shared) (H:Hp):Cx where
 prog:=X.prog
 w:=X.w
 K:=X.K
 mg:=X.mg
 base:=X.base
 A:=X.A.deeper (hV L.qual L.scope s.heap.objs.size l (.ref c') [(L.x,c)])
 N:=[L.y,L.x]
 s₀:=s
 H₀:=H
 env:=hV L.qual L.scope s.heap.objs.size l (.ref c') [(L.x,c)]
 outer:=X.stack
 stack:=hV L.qual L.scope s.heap.objs.size l (.ref c') [(L.x,c)]::X.stack
 ex:=[]
 calm:=ca
 fn:=λ_=>false
 pn:=[]
 xe:=λ_ _=>False
structure SI(L:Gr):Prop where
 kind:L.scope.kind= .function
 co:L.scope.isCoroutine=false
 gen:L.scope.isGenerator=false
 DM:∀x∈L.scope.names,x.2≠ .cell
 par:L.scope.names.lookup L.y=some .local
 free:L.scope.names.lookup L.x=some .free
 one:∀y,L.scope.names.lookup y=some .free->y=L.x
 bind:∀(cl:List (Str×Addr)) (pm cdv ct u:Value),bindArgs (gA "<lambda>" L.qual L.params L.body L.scope cl pm cdv ct) ⟨[u],[]⟩=pure [(L.y,u)]
def Lo(mg:Str->Option Value)(L:Gr)(i:Nat)(t te:TE):TE:=λσ H Q=>∃l c v,σ[i]? =some (some (.ref l))/\Qo mg L H l c v/\te σ H λa H1=>H1=H/\∃r,t [some a,some v] (nX H c) (λr' H2=>r'=r/\H2=nX H c)/\Q r H
theorem qR.UR{P:Program}{w:World}{H:Hp}{h:Heap}{c:Addr}{o:Obj}(x:qR P w (nX H c) h)(e:H c=some (Internal.AJ o))(eh:h.get? c=some o):qR P w H h:=λb u q=>by
 by_cases hb:b=c
 ·subst hb;rw[e]at q;cases q;exact⟨eh,o,eh⟩
 ·have back:∀{d:Addr} {z:HO},nX H c d=some z->H d=some z:=λ{d z} q=>by
   by_cases hd:d=c
   ·rw[hd,o9]at q;cases q
   ·rw[lR hd]at q;exact q
  exact(x b u (by rw[lR hb];exact q)).sj (λ_ _ _ z=>z) (λd z=>back z) λd xs z=>back z
section
variable{X:Cx}{ca:Bool}{k:Nat}{pos p:Pos}{e:Expr}{te t:TE}
theorem O9{L:Gr}{i:Nat}{y:Str}(S:SI L)(hN:X.N[i]? =some y)(hv:UW X.env.scope y)(hr:lM ca (k+1) X.A)(he:PE X e te)
  (hbody:∀(l c c':Addr) (s:Shared) (H:Hp),lM ca k (Q4 ca X L l c c' s H).A->PE (Q4 ca X L l c c' s H) L.body t)
  (hns:notStar e=true:=by rfl) (hd:(y==("__debug__":Str))=false:=by decide) (hcd:(y==("__classdict__":Str))=false:=by decide):
  PE X (.Call (.Name y p) [e] [] pos) (Lo X.mg L i t te):=by
 intro pins s σ H Q I h;obtain⟨l,c,v,hσ,⟨c',ctv,oz,uz,el,⟨oc,ws,tq,ec,q1,q2⟩,ez,dz,rz⟩,h⟩:=h;refine wpAny_Call_Name_kw (mJ (Pj (X:=X) hN hv hd hcd pins s σ H (λv H1=>v= .ref l/\H1=H) I ⟨_,hσ,rfl,rfl⟩) λu s0 zq=> ?_);obtain⟨v0,H0,I0,rv,ev,eH⟩:=zq;subst ev eH;obtain rfl:u=aO l:=rv;refine PySem.W.callWith_F (first:=[]) ⟨_,_,_,_,(I0.ko l _ el).1⟩ (mJ ((Uc he KQ hns) pos pins s0 σ H0 (λvs H1=>match vs with| [a]=>H1=H0/\∃r,t [some a,some v] (nX H0 c) (λr' H2=>r'=r/\H2=nX H0 c)/\Q r H0|_=>False) I0 h)
  λus s1=>qv λvs H1 I1 r1 hh=> ?_) (n_ hns) rfl
 obtain⟨a,rfl⟩:∃a,vs=[a]:=by
  rcases vs with _|⟨a,_|⟨b,z⟩⟩
  ·exact hh.elim
  ·exact⟨a,rfl⟩
  ·exact hh.elim
 obtain⟨eH,r,ht,hq⟩:=hh;subst eH;refine⟨⟨_,_,_,_,(I1.ko l _ el).1⟩,?_⟩;obtain⟨u,rfl,ru⟩:=vals1 r1;have hl:=(I1.ko l _ el).1;have hz:=(I1.ko c _ ez).1;have ncs:c∉B9 X.stack:=λz=>by rw[I1.we c z]at ez;cases ez
 refine wpAny_call (codeAny_mono (PySem.W.kla_callFunE (R:=λr s'=>match r with| .ok (.ret u)=>EP X pins σ Q u s'|_=>False) hr.depth hl rfl S.co S.gen rfl ⟨c',oc,ws,tq,rfl,(I1.ko c' _ ec).1,q1,q2⟩ ?_) λr s' hq=> ?_)
 ·show wpAny _ _ (bindArgs (gA "<lambda>" L.qual L.params L.body L.scope [(L.x,c)] ((X.mg "__name__").getD .none) (.ref c') ctv) ⟨[u],[]⟩) _ _ _;rw[S.bind];refine wpAny_pure (wpAny_newFunctionEnv S.DM (λx hx=> ?_) (λh₁ hn hsb=>⟨((I1.mod.nolimit).keeps I1.bk).fresh _ hsb,PySem.W.kla_codeExpr ?_⟩) S.kind)
  ·rw[az]at hx;subst hx;exact S.par
  have hk₁:∀b o,s1.heap.get? b=some o->h₁.get? b=some o:=λb o e=>hsb.extBut b o (aK (aD e)) (ay _ e);have dr:∀b,H1 b=none->nX H1 c b=none:=λb n=>by
   by_cases hb:b=c
   ·rw[hb];exact o9
   ·rw[lR hb];exact n
  have no:∀b:Addr,b∉(Q4 ca X L l c c' s1 (nX H1 c)).ex:=λb z=>absurd (show b∈([]:List Addr) from z) (by simp);have lk:∀{y:Str} {d:Addr},(Q4 ca X L l c c' s1 (nX H1 c)).env.cells.lookup y=some d->y=L.x/\d=c:=λ{y d} e=>by
   have m:(y,d)∈ [(L.x,c)]:=cm e;rw[az]at m;cases m;exact⟨rfl,rfl⟩
  have lx:(Q4 ca X L l c c' s1 (nX H1 c)).env.cells.lookup L.x=some c:=by
   show [(L.x,c)].lookup L.x=some c;simp
  have J:Inv (Q4 ca X L l c c' s1 (nX H1 c)) [] [some a,some v] (nX H1 c) {s1 with heap:=h₁,toks:=s1.toks+[(L.y,u)].length}:=by
   refine⟨⟨I1.ok.mod,S.kind,rfl,rfl,aq _,λy z d h1 h2=>(lk h1).1.trans (lk h2).1.symm,λy hy=> ?_,λy d z=>eT z,λz=>hr.hd z,gC I1.ok.frames,.inr ⟨rfl,rfl⟩,λb z=>absurd z (no b),λb o e=>⟨(I1.bs b o e).1,dr _ (I1.bs b o e).2⟩,aA I1.ok.MD I1.sz,λb _ _=>no b,λb z=>absurd z (no b),I1.stack,λb z=>dr _ (I1.we b z)⟩,
    rfl,I1.bare,Un.kept hk₁,⟨_,hn,λi y w h1 h2 h3=> ?_⟩,λy d e=> ?_,dr _ (I1.ko.fresh (aq _)),λy d e=> ?_,λp hp=>absurd (show p∈([]:List (Addr×Obj)) from hp) (by simp),(I1.ko.drop ez).kept hk₁,rfl⟩
   ·have hy:L.scope.names.lookup y=some .cell∨L.scope.names.lookup y=some .free:=hy;rcases hy with hy|hy
    ·exact absurd rfl (S.DM _ (cm hy))
    ·rw[S.one y hy];exact⟨c,lx⟩
   ·have h1: [L.y,L.x][i]? =some y:=h1
    match i,h1,h2 with
    |0,h1,h2=>
     cases h1;cases h2
     refine⟨u,ru,.inl ⟨S.par,?_⟩⟩;show [(L.y,u)].reverse.lookup L.y=some u;simp
    |1,h1,h2=>
     cases h1;cases h2
     exact⟨uz,rz,.inr ⟨.inr S.free,c,lx,oz,hk₁ _ _ hz,dz⟩⟩
    |n+2,h1,_=>cases h1
   ·obtain⟨rfl,rfl⟩:=lk e;exact⟨_,oz,hk₁ _ _ hz,dz⟩
   ·rw[(lk e).2];exact o9
  refine wpAny_mono (hbody l c c' s1 (nX H1 c) (hr.deeper _) [] _ _ _ _ J ht) (λu' s' zq=> ?_) λe' s' z=>z.elim;obtain⟨r',H2,J',rv,er,eH⟩:=zq;subst er eH;have kc:s'.heap.get? c=some oz:=J'.base.keep c oz hz o9 ncs (no c);exact⟨r',H1,I1.Sl (ch:=[]) J'.os ⟨λb o e n hb hx=>J'.base.keep b o e (dr b n) hb (no b),λb o e n hb hx=>J'.base.slot b o e (dr b n) hb (no b),λb o e n _=>n,λb o e _=>J'.base.there b o e (no b),λ_ _ z=>z,λ_ _ _ z=>z,λ_ _ z=>⟨#[],by rw[dE];exact z⟩⟩
   (J'.ko.UR ez kc) J'.bare (λb z=>absurd z (by simp)),rv,hq⟩
 ·cases r with
  |error e=>exact hq.elim
  |ok fl=>
   cases fl with
   |ret u=>exact hq
   |next=>exact bT hq
   |brk=>exact bT hq
   |cont=>exact bT hq
end
theorem LQ{ca:Bool}{X:Cx}{L:Gr}{l c c':Addr}{s:Shared}{H:Hp}:Exc (Q4 ca X L l c c' s H) (λ_ _ _ _=>False):=⟨λ_ _ _ _ _ _ _ z=>by obtain⟨_,_,_,_,_,_,_,_,_,_,_,_,h⟩:=z;exact h,λ_ _ _ _ _ _ _ _ _ _ _ _ h=>h,iK⟩
section
variable{X:Cx}{ca:Bool}{k:Nat}{pos p:Pos}{e:Expr}{te t:TE}{f C:Addr}{fd:FuncData}{ps:List Str}{sp:Sp}{m:Str}{apos:Pos}{o:Expr}{ta:TE}
theorem Du{L:Gr}{i:Nat}{y:Str}(S:SI L)(hN:X.N[i]? =some y)(hr:lM ca (k+1) X.A)(he:JE X e te)
  (hbody:∀(l c c':Addr) (s:Shared) (H:Hp),lM ca k (Q4 ca X L l c c' s H).A->JE (Q4 ca X L l c c' s H) L.body t)
  (hv:UW X.env.scope y:=by first|exact gx rfl|exact fc (gx rfl)|exact fc (fc rfl)) (hns:notStar e=true:=by rfl) (hd:(y==("__debug__":Str))=false:=by decide) (hcd:(y==("__classdict__":Str))=false:=by decide):
  JE X (.Call (.Name y p) [e] [] pos) (Lo X.mg L i t te):=⟨O9 S hN hv hr he.run (λl c c' s H h=>(hbody l c c' s H h).run) hns hd hcd⟩
theorem KG{pl:Sem Bool}{L:Gr}{P c:Addr}{i:Nat}(he:JE X o ta)(cl:Ex X.K C)(hm:Meth X.K C m f)(F:mS X.prog X.w X.K X.mg X.base (uv X.prog X.w) ca k f fd ps sp)(hr:lM ca k X.A)(hb:Binds X.K fd ps [])
  (hcode:X.env.code= .ref c) (hK:df X.K c P=true) (hq:X.env.qual++"<lambda>"=L.qual) (hN:X.N[i]? =some L.x) (hk:X.env.kindOf L.x=some .cell) (hfn:X.fn L.x=true) (hcl:∀env:Env,GF L.scope env=[(L.x,(env.cells.lookup L.x).getD 0)])
  (hfr:∀y∈L.scope.names,y.2= .free->y.1=L.x) (hdef:defaultsOf L.params X.env=([],[]))
  (ht:eval (.Call (.Attribute o m apos) [.Lambda L.params L.body L.scope L.pos] [] pos) X.env=(do
   let ov←eval o X.env
   standAt apos.atName
   let (f,first)←holding [ov] (getMethod ov m pl)
   callWith pos f first (backTo pos (starEach [.Lambda L.params L.body L.scope L.pos] X.env)) (backToKw pos (keywordEach [] X.env))):=by rfl):
  JE X (.Call (.Attribute o m apos) [.Lambda L.params L.body L.scope L.pos] [] pos) (PX X.mg C m sp P i L ta):=⟨Pg he.run cl hm F hr hb hcode hK hq hN hk hfn hcl hfr hdef ht⟩
end
noncomputable def VS (q x y:Str) (sc:Scope):Stmt->Gr
 | .Expr (.Call _ (.Lambda p b s pos::_) _ _) _=>⟨q,p,b,s,pos,x,y⟩
 |_=>⟨q,⟨[],[],none,[],[],none,[]⟩,.Name "" ⟨0,0,0,0⟩,sc,⟨0,0,0,0⟩,x,y⟩
section
variable{X:Cx}
end
end Internal
namespace Internal
theorem qp{H:Hp}{a b:PySem.Addr}{o u:HO}(e:H b=some u)(n:b≠a):upd H a o b=some u:=by rw[i7 n];exact e
end Internal
namespace Internal.K13
open Internal.V renaming int->ι,ref->ξ
open PySem Internal
local macro_rules|`(tactic|simp?[$l,*]$[$o]?)=>do let b:=("UJ PQ PZ UG Ep Ip tC AO RV VR Te Int.reduceAdd Bool.not_false Internal.start aE bZ aF dJ ak aM fP true_and Nat.reduceAdd e_ pE Int.reduceLT Int.reduceEq Nat.reduceLT Rv String.reduceEq i8 N1 fO P0 QX and_true Tp Xd CA nZ Int.reduceSub cz fR List.set_cons_zero List.set_cons_succ Nat.reduceSub Lq AN LH PV Ym J6 AR OC V.ref.injEq exists_eq_left' UK UL IL KH Yn Yp OB Eo P2 GC Jc Bool.not_true dF Yo PY Lr W4 ME decide_eq_true_eq QH QQ LD QP Vj Tg To Tn Tj Ti SE NI Int.reduceNeg Int.reducePow decide_true XH decide_false QO OD V.int.injEq List.cons.injEq exists_and_left WH Se and_assoc wB MP W3 UE Vg PU Bool.not_eq_true' CD W0 Vh decide_eq_false_iff_not NY Option.some.injEq AH UI W2 NO Bool.true_eq_false exists_eq_left Xj XJ QT QV NW WJ N0 XI FP Ou WG true_or B1 NX Vk exists_const reduceCtorEq false_and and_false MG QR QJ QK Tt Px cInt P1 Vi QW QS".splitOn " ").toArray.map λs=>Lean.mkIdent s.toName;`(tactic|simp only[↓reduceIte,↓VN,↓SX,↓NZ,$[$b:ident],*,$l,*]$[$o]?)
local macro_rules|`(⇑$x)=>`(some (ξ $x))|`(↥$x)=>`(some (ι $x))
local macro_rules|`(tactic|ext$p*)=>`(tactic|(rintro Gq hGq$p*;subst hGq))
local macro_rules|`(tactic|exists$b)=>do let i:=λs:String=>Lean.mkIdent s.toName;`(tactic|refine $(i "jj") (λ$(i "σ'") $(i "H'")=>$b) (λ$(i "R") $(i "hR")=> ?_) ?_)
local macro_rules|`(tactic|specialize$t)=>do let i:=λs:String=>Lean.mkIdent s.toName;`(tactic|refine $t (λvs H Q E h=>by repeat (first|(subst ‹vs=_›;rfl)|(cases h;rename_i h))) (λ_ _ _ _ _ $(i "H") _ $(i "Q") $(i "E") $(i "hr") $(i "hx") $(i "h")=> ?_))
local macro_rules|`(∅)=>`(by decide+kernel)
local macro_rules|`(⋯)=>`(by lia)
set_option genSizeOf false
set_option genInjectivity false
noncomputable def top (i:Nat):Stmt:=PySem.Challenge.pw_cellkeep_k13_whole_young_book_and_names.main.body.getD i (.Pass ⟨0,0,0,0⟩)
noncomputable abbrev Az:Stmt:=top 12
noncomputable abbrev tR:Stmt:=inClass (top 58) 0
noncomputable abbrev tS:Stmt:=inClass (top 58) 1
noncomputable abbrev tU:Stmt:=inClass (top 58) 2
noncomputable abbrev rN:Stmt:=inClass (top 58) 6
noncomputable abbrev tH:Stmt:=inClass (top 64) 1
noncomputable abbrev vx:Stmt:=inClass (top 66) 0
noncomputable abbrev rH:Stmt:=inClass (top 66) 4
noncomputable abbrev tJ:Stmt:=inClass (top 66) 5
noncomputable abbrev vz:Stmt:=inClass (top 69) 3
noncomputable abbrev tN:Stmt:=inClass (top 71) 0
noncomputable abbrev n9:Stmt:=inClass (top 71) 2
noncomputable abbrev tP:Stmt:=inClass (top 71) 5
noncomputable abbrev vD:Stmt:=inClass (top 73) 0
noncomputable abbrev qm:Stmt:=inClass (top 73) 5
noncomputable abbrev BN:Stmt:=top 77
noncomputable abbrev tY:Stmt:=top 78
noncomputable abbrev tX:Stmt:=top 80
noncomputable abbrev qo:Stmt:=top 85
noncomputable abbrev vM:Stmt:=top 13
noncomputable abbrev tT:Stmt:=inClass (top 58) 5
noncomputable abbrev nA:Stmt:=inClass (top 71) 7
noncomputable abbrev vL:Stmt:=top 18
noncomputable abbrev Ay:Stmt:=top 19
noncomputable abbrev uc:Stmt:=top 29
noncomputable abbrev BP:Stmt:=top 40
noncomputable abbrev K6:Stmt:=top 41
noncomputable abbrev rK:Stmt:=inClass (top 56) 0
noncomputable abbrev nR:Stmt:=inClass (top 56) 4
noncomputable abbrev mU:Stmt:=inClass (top 56) 5
noncomputable abbrev vB:Stmt:=inClass (top 58) 4
noncomputable abbrev tL:Stmt:=inClass (top 69) 0
noncomputable abbrev oP:Stmt:=inClass (top 69) 4
noncomputable abbrev vA:Stmt:=inClass (top 71) 4
noncomputable abbrev BM:Stmt:=inClass (top 73) 2
noncomputable abbrev rS:Stmt:=top 20
noncomputable abbrev ub:Stmt:=top 21
noncomputable abbrev K7:Stmt:=top 24
noncomputable abbrev rL:Stmt:=inClass (top 56) 1
noncomputable abbrev rJ:Stmt:=inClass (top 56) 3
noncomputable abbrev nB:Stmt:=inClass (top 73) 7
noncomputable abbrev rQ:Stmt:=top 22
noncomputable abbrev t_:Stmt:=top 23
noncomputable abbrev HD:Stmt:=top 25
noncomputable abbrev qK:Stmt:=inClass (top 56) 2
noncomputable abbrev tI:Stmt:=inClass (top 64) 0
noncomputable abbrev tK:Stmt:=inClass (top 66) 1
noncomputable abbrev Ar:Stmt:=inClass (top 66) 3
noncomputable abbrev vy:Stmt:=inClass (top 69) 2
noncomputable abbrev tM:Stmt:=inClass (top 71) 1
noncomputable abbrev tO:Stmt:=inClass (top 71) 3
noncomputable abbrev vF:Stmt:=inClass (top 73) 1
noncomputable abbrev vE:Stmt:=inClass (top 73) 3
noncomputable abbrev vC:Stmt:=inClass (top 73) 4
noncomputable abbrev tQ:Stmt:=inClass (top 75) 0
noncomputable abbrev vK:Stmt:=top 38
noncomputable abbrev rO:Stmt:=top 39
noncomputable abbrev rP:Stmt:=top 51
noncomputable abbrev As:Stmt:=inClass (top 66) 2
noncomputable abbrev vJ:Stmt:=top 79
noncomputable abbrev PC:Stmt:=top 30
noncomputable abbrev AA:Stmt:=top 31
noncomputable abbrev D0:Stmt:=top 32
noncomputable abbrev K9:Stmt:=top 36
noncomputable abbrev BQ:Stmt:=top 37
noncomputable abbrev Au:Stmt:=top 82
noncomputable abbrev vH:Stmt:=top 83
noncomputable abbrev AB:Stmt:=top 33
noncomputable abbrev K5:Stmt:=top 34
noncomputable abbrev rR:Stmt:=top 35
noncomputable abbrev HC:Stmt:=top 44
noncomputable abbrev BO:Stmt:=top 52
noncomputable abbrev pM:Stmt:=top 87
noncomputable abbrev D1:Stmt:=top 43
noncomputable abbrev ua:Stmt:=top 53
noncomputable abbrev rM:Stmt:=inClass (top 58) 8
noncomputable abbrev pB:Stmt:=inClass (top 64) 5
noncomputable abbrev tZ:Stmt:=top 50
noncomputable abbrev oN:Stmt:=inClass (top 64) 3
noncomputable abbrev qd:Stmt:=inClass (top 64) 4
noncomputable abbrev pX:Stmt:=top 86
noncomputable abbrev K8:Stmt:=top 49
noncomputable abbrev vI:Stmt:=top 81
noncomputable abbrev vG:Stmt:=top 89
noncomputable abbrev Av:Stmt:=top 91
noncomputable abbrev vN:Stmt:=top 48
noncomputable abbrev qL:Stmt:=inClass (top 75) 2
noncomputable abbrev tW:Stmt:=top 84
noncomputable abbrev pW:Stmt:=top 90
noncomputable abbrev Aw:Stmt:=top 47
noncomputable abbrev lL:Stmt:=top 46
noncomputable abbrev mC:Stmt:=top 88
noncomputable abbrev q0:Stmt:=top 92
noncomputable abbrev Ge:Stmt:=top 93
theorem q9{s t:TS}{D:Ends}{σ:St}{H:Hp}(P:St->Hp->Prop)(h1:∀R:St->Hp->Prop,(∀σ' H',P σ' H'->R σ' H')->s {D with nx:=R} σ H)(h2:∀σ' H',P σ' H'->t D σ' H'):pE s t D σ H:=h1 (t D) h2
def XG:TS:=λ_ _ _=>False
theorem jK{X:Cx}{st:Stmt}:JS X st XG:=⟨λ_ _ _ _ _ _ h=>h.elim⟩
noncomputable def cat (ns:List Int) (k:Int):Int:=ns.getD k.toNat 0
theorem NU{ns:List Int}{k:Int}(h0:0<=k)(h:k<(ns.map ι).length):qh (ns.map ι) k=some (.int (cat ns k)):=by
 obtain⟨n,rfl⟩:∃n:Nat,k=n:=⟨k.toNat,⋯⟩;rw[aa]at h;refine jI ?_;rw[ai,ab ⋯];simp only[cat,aU,fb,ae,ab (show n<ns.length by lia),iC]
theorem Q0{ns:List Int}{k:Int}(h0:0<=k)(h:¬k<(ns.map ι).length):cat ns k=0:=by
 rw[aa]at h;unfold cat;rw[ae,bz ⋯];rfl
theorem jj{s t:TS}{D:Ends}{σ:St}{H:Hp}(P:St->Hp->Prop)(h1:∀R:St->Hp->Prop,(∀σ' H',P σ' H'->R σ' H')->s {D with nx:=R} σ H)(h2:∀G:St->Hp->Prop,G=t D->∀σ' H',P σ' H'->G σ' H'):pE s t D σ H:=h1 (t D) (h2 (t D) rfl)
theorem ke.enum{K:af}{a:Addr}{xs:List V}{g:TG}{tb:TS}{D:Ends}{σ:St}{H:Hp}(Pv:Nat->St->Hp->Prop)(h0:Pv 0 σ H)(hl:∀i σ H,i<=xs.length->Pv i σ H->kO K H a xs)
  (hs:∀(i:Nat) x σ H p,xs[i]? =some x->Pv i σ H->H p=none->∀R:St->Hp->Prop,(∀σ' H',Pv (i+1) σ' H'->R σ' H')->g (.ref p) σ (upd H p (.tup [.int i,x])) λσ2 H2=>tb {D with nx:=R,ct:=R,bk:=D.nx} σ2 H2) (hd:∀σ H,Pv xs.length σ H->D.nx σ H):ke (Wz K a) g tb D σ H:=by
 refine⟨λi m σ H=>Pv i σ H/\i<=xs.length/\m=xs.length-i,⟨_,h0,bR _,rfl⟩,λi m σ H ⟨hP,hi,hm⟩=> ?_⟩;have sa:=hl i σ H hi hP;by_cases z:i<xs.length
 ·refine .inr ⟨⟨xs,_,sa,ab z⟩,Pv (i+1),λσ' H' hN=>⟨xs.length-(i+1),by omega,hN,z,rfl⟩,?_⟩;rintro x H' ⟨p,y,hp,rfl,rfl,hy⟩;exact hs i y σ H p (hy xs sa) hP hp _ λ_ _ h=>h
 ·obtain rfl:i=xs.length:=by lia
  exact .inl ⟨⟨xs,sa,aq _⟩,hd σ H hP⟩
theorem ke.XS{K:af}{a b:Addr}{xs ys:List V}{g:TG}{tb:TS}{D:Ends}{σ:St}{H:Hp}(Pv:Nat->St->Hp->Prop)(hlen:xs.length=ys.length)(h0:Pv 0 σ H)(hl:∀i σ H,i<=xs.length->Pv i σ H->kO K H a xs/\kO K H b ys)
  (hs:∀i x y σ H p,xs[i]? =some x->ys[i]? =some y->Pv i σ H->H p=none->∀R:St->Hp->Prop,(∀σ' H',Pv (i+1) σ' H'->R σ' H')->g (.ref p) σ (upd H p (.tup [x,y])) λσ2 H2=>tb {D with nx:=R,ct:=R,bk:=D.nx} σ2 H2) (hd:∀σ H,Pv xs.length σ H->D.nx σ H):ke (U6 K a b) g tb D σ H:=
 ke.zip Pv hlen h0 hl (λi x y σ H p hx hy hP hp=>hs i x y σ H p hx hy hP hp _ λ_ _ h=>h) hd
theorem Of{xs:List V}{k:Nat}(h:k<=xs.length):w_ xs (some (k:Int)) none=xs.drop k:=by
 unfold w_;rw[HT.HB,HT.PB,e8 h,f_ (by rw[dU];lia)]
theorem sD{tc:TT}{t u:TS}{D:Ends}{σ:St}{H:Hp}(h:∀K:Bool->Hp->Prop,K true H->tc σ H K)(ht:t D σ H):Lr tc t u D σ H:=h _ (by rw[if_pos rfl];exact ht)
theorem uy{tc:TT}{t u:TS}{D:Ends}{σ:St}{H:Hp}(h:∀K:Bool->Hp->Prop,K false H->tc σ H K)(ht:u D σ H):Lr tc t u D σ H:=h _ (by rw[if_neg (by intro z;cases z)];exact ht)
inductive C3 (p0 p1 p2:Prop):Prop
 |mk (h0:p0) (h1:p1) (h2:p2):C3 p0 p1 p2
inductive C4 (p0 p1 p2 p3:Prop):Prop
 |mk (h0:p0) (h1:p1) (h2:p2) (h3:p3):C4 p0 p1 p2 p3
inductive C5 (p0 p1 p2 p3 p4:Prop):Prop
 |mk (h0:p0) (h1:p1) (h2:p2) (h3:p3) (h4:p4):C5 p0 p1 p2 p3 p4
inductive C6 (p0 p1 p2 p3 p4 p5:Prop):Prop
 |mk (h0:p0) (h1:p1) (h2:p2) (h3:p3) (h4:p4) (h5:p5):C6 p0 p1 p2 p3 p4 p5
inductive C7 (p0 p1 p2 p3 p4 p5 p6:Prop):Prop
 |mk (h0:p0) (h1:p1) (h2:p2) (h3:p3) (h4:p4) (h5:p5) (h6:p6):C7 p0 p1 p2 p3 p4 p5 p6
inductive C8 (p0 p1 p2 p3 p4 p5 p6 p7:Prop):Prop
 |mk (h0:p0) (h1:p1) (h2:p2) (h3:p3) (h4:p4) (h5:p5) (h6:p6) (h7:p7):C8 p0 p1 p2 p3 p4 p5 p6 p7
inductive C9 (p0 p1 p2 p3 p4 p5 p6 p7 p8:Prop):Prop
 |mk (h0:p0) (h1:p1) (h2:p2) (h3:p3) (h4:p4) (h5:p5) (h6:p6) (h7:p7) (h8:p8):C9 p0 p1 p2 p3 p4 p5 p6 p7 p8
inductive Qm (p0 p1 p2 p3 p4 p5 p6 p7 p8 p9:Prop):Prop
 |mk (h0:p0) (h1:p1) (h2:p2) (h3:p3) (h4:p4) (h5:p5) (h6:p6) (h7:p7) (h8:p8) (h9:p9):Qm p0 p1 p2 p3 p4 p5 p6 p7 p8 p9
inductive Wy (p0 p1 p2 p3 p4 p5 p6 p7 p8 p9 p10:Prop):Prop
 |mk (h0:p0) (h1:p1) (h2:p2) (h3:p3) (h4:p4) (h5:p5) (h6:p6) (h7:p7) (h8:p8) (h9:p9) (h10:p10):Wy p0 p1 p2 p3 p4 p5 p6 p7 p8 p9 p10
inductive XT (p0 p1 p2 p3 p4 p5 p6 p7 p8 p9 p10 p11 p12:Prop):Prop
 |mk (h0:p0) (h1:p1) (h2:p2) (h3:p3) (h4:p4) (h5:p5) (h6:p6) (h7:p7) (h8:p8) (h9:p9) (h10:p10) (h11:p11) (h12:p12):XT p0 p1 p2 p3 p4 p5 p6 p7 p8 p9 p10 p11 p12
inductive XU (p0 p1 p2 p3 p4 p5 p6 p7 p8 p9 p10 p11 p12 p13:Prop):Prop
 |mk (h0:p0) (h1:p1) (h2:p2) (h3:p3) (h4:p4) (h5:p5) (h6:p6) (h7:p7) (h8:p8) (h9:p9) (h10:p10) (h11:p11) (h12:p12) (h13:p13):XU p0 p1 p2 p3 p4 p5 p6 p7 p8 p9 p10 p11 p12 p13
inductive Y2 {t0:Type} {t1:Type} (p:t0->t1->Prop):Prop
 |mk (x0:t0) (x1:t1) (h:p x0 x1):Y2 p
inductive Y3 {t0:Type} {t1:Type} {t2:Type} (p:t0->t1->t2->Prop):Prop
 |mk (x0:t0) (x1:t1) (x2:t2) (h:p x0 x1 x2):Y3 p
inductive Y4 {t0:Type} {t1:Type} {t2:Type} {t3:Type} (p:t0->t1->t2->t3->Prop):Prop
 |mk (x0:t0) (x1:t1) (x2:t2) (x3:t3) (h:p x0 x1 x2 x3):Y4 p
inductive Y5 {t0:Type} {t1:Type} {t2:Type} {t3:Type} {t4:Type} (p:t0->t1->t2->t3->t4->Prop):Prop
 |mk (x0:t0) (x1:t1) (x2:t2) (x3:t3) (x4:t4) (h:p x0 x1 x2 x3 x4):Y5 p
inductive Y6 {t0:Type} {t1:Type} {t2:Type} {t3:Type} {t4:Type} {t5:Type} (p:t0->t1->t2->t3->t4->t5->Prop):Prop
 |mk (x0:t0) (x1:t1) (x2:t2) (x3:t3) (x4:t4) (x5:t5) (h:p x0 x1 x2 x3 x4 x5):Y6 p
inductive Y7 {t0:Type} {t1:Type} {t2:Type} {t3:Type} {t4:Type} {t5:Type} {t6:Type} (p:t0->t1->t2->t3->t4->t5->t6->Prop):Prop
 |mk (x0:t0) (x1:t1) (x2:t2) (x3:t3) (x4:t4) (x5:t5) (x6:t6) (h:p x0 x1 x2 x3 x4 x5 x6):Y7 p
inductive Y8 {t0:Type} {t1:Type} {t2:Type} {t3:Type} {t4:Type} {t5:Type} {t6:Type} {t7:Type} (p:t0->t1->t2->t3->t4->t5->t6->t7->Prop):Prop
 |mk (x0:t0) (x1:t1) (x2:t2) (x3:t3) (x4:t4) (x5:t5) (x6:t6) (x7:t7) (h:p x0 x1 x2 x3 x4 x5 x6 x7):Y8 p
inductive Y9 {t0:Type} {t1:Type} {t2:Type} {t3:Type} {t4:Type} {t5:Type} {t6:Type} {t7:Type} {t8:Type} (p:t0->t1->t2->t3->t4->t5->t6->t7->t8->Prop):Prop
 |mk (x0:t0) (x1:t1) (x2:t2) (x3:t3) (x4:t4) (x5:t5) (x6:t6) (x7:t7) (x8:t8) (h:p x0 x1 x2 x3 x4 x5 x6 x7 x8):Y9 p
inductive X1 {t0:Type} {t1:Type} {t2:Type} {t3:Type} {t4:Type} {t5:Type} {t6:Type} {t7:Type} {t8:Type} {t9:Type} {t10:Type} (p:t0->t1->t2->t3->t4->t5->t6->t7->t8->t9->t10->Prop):Prop
 |mk (x0:t0) (x1:t1) (x2:t2) (x3:t3) (x4:t4) (x5:t5) (x6:t6) (x7:t7) (x8:t8) (x9:t9) (x10:t10) (h:p x0 x1 x2 x3 x4 x5 x6 x7 x8 x9 x10):X1 p
noncomputable abbrev lm:Gr:=VS (("collect_young":Str)++".<locals>."++"<lambda>") "areas" "at" (i9 lL) ((mW lL).getD 1 (.Pass ⟨0,0,0,0⟩))
theorem X7:SI lm:=⟨rfl,rfl,rfl,∅,rfl,rfl,λy h=>(by decide+kernel:∀p∈lm.scope.names,p.2=cD->p.1=lm.x) (y,.free) (cm h) rfl,λ_ _ _ _ _=>rfl⟩
def Kn(H:Hp):V->Prop
 | .non=>True
 | .bl _=>True
 | .int _=>True
 | .str _=>True
 | .ref a=>(∃xs,H a=some (.lst xs))∨(∃xs,H a=some (.tup xs))∨∃kvs,H a=some (.dK kvs)
 |_=>False
noncomputable def wi (v:V) (a b:Int):Bool:=match v with
 | .int i=>decide (a<=i)&&decide (i<=b)
 |_=>false
theorem AK{i a b:Int}(h1:a<=i)(h2:i<=b):wi (.int i) a b=true:=by simp[wi,h1,h2]
noncomputable def iv:V->Int
 | .int i=>i
 |_=>0
noncomputable def kd (v:V):Option Str:=match v with
 | .int w=>if w= -1 then some "nothing" else if w%2=0/\wi (.int (w/2)) (-1000000000000) 1000000000000=true then some "number" else if w%2=1/\wi (.int (w/2)) 0 9999=true then some "place" else none
 |_=>none
noncomputable def wo (v:V):V:=match v with
 | .int w=>if w= -1 then .non else .int (w/2)
 |_=> .non
theorem oG{i:Int}:kd (.int i)=if i= -1 then some (aI "nothing") else if i%2=0/\ -2000000000000<=i/\i<=2000000000000 then some (aI "number") else if i%2=1/\1<=i/\i<=19999 then some (aI "place") else none:=by
 have e1:(i%2=0/\wi (.int (i/2)) (-1000000000000) 1000000000000=true)↔(i%2=0/\ -2000000000000<=i/\i<=2000000000000):=by
  simp only[wi,bf,decide_eq_true_eq];constructor<;>intro h<;>lia
 have e2:(i%2=1/\wi (.int (i/2)) 0 9999=true)↔(i%2=1/\1<=i/\i<=19999):=by
  simp only[wi,bf,decide_eq_true_eq];constructor<;>intro h<;>lia
 simp only[kd,e1,e2]
def Pl(v:V):Prop:=∀H,Kn H v
theorem Qx{ws:List Int}{i:Int}(h0:0<=i)(h1:i<=ws.length-1):qh (ws.map ι) i=some (.int (ws.getD i.toNat 0)):=by
 rw[SR h0 (by rw[aa];lia),ai,ab ⋯,ae,ab (show i.toNat<ws.length by lia)];rfl
theorem LY{ws:List Int}{i:Int}(h0:0<=i)(h1:i<=ws.length-1):EK (ws.map ι).length i=some i.toNat:=sG h0 (by rw[aa];lia)
theorem D_{ws:List Int}{i:Nat}{x:Int}:(ws.map ι).set i (.int x)=(ws.set i x).map ι:=by rw[ei]
theorem XD:¬(("size":Str)="words"):=∅
noncomputable def Mc (n:Int) (q:Addr):List (Str×V):=[("size",ι n),("words",ξ q)]
theorem DF{n:Int}{q:Addr}:(Mc n q).lookup ("size":Str)=some (.int n):=by
 simp[Mc,aX]
theorem wc{n:Int}{q:Addr}:(Mc n q).lookup ("words":Str)=some (.ref q):=by
 simp[Mc,aX,show(("words":Str)=="size")=false by decide+kernel]
theorem DD{n:Int}{q:Addr}{m:Str}(h1:(m==("size":Str))=false)(h2:(m==("words":Str))=false):(Mc n q).lookup m=none:=by
 simp[Mc,aX,h1,h2]
theorem OW{n:Int}{q:Addr}:(Mc n q).lookup ("want_place":Str)=none:=DD ∅ ∅
theorem OX{n:Int}{q:Addr}:(Mc n q).lookup ("want_stretch":Str)=none:=DD ∅ ∅
theorem DE{n:Int}{q:Addr}:(Mc n q).lookup ("read":Str)=none:=DD ∅ ∅
theorem Bx{n:Int}{q:Addr}:(Mc n q).lookup ("write":Str)=none:=DD ∅ ∅
theorem TN{n:Int}{q:Addr}:(Mc n q).lookup ("copy":Str)=none:=DD ∅ ∅
theorem TQ{n:Int}{q:Addr}:kB "words" (.ref q) (kB "size" (.int n) [])=Mc n q:=by
 simp[kB,XD,Mc]
structure j9(c:Addr)(H:Hp)(p q:Addr)(ws:List Int):Prop where
 ob:∃dx,H p=some (.ins c dx (Mc ws.length q))
 ls:H q=some (.lst (ws.map ι))
section
variable{c p q:Addr}{H H':Hp}{ws:List Int}
theorem j9.ne(m:j9 c H p q ws):p≠q:=by
 obtain⟨⟨dx,e⟩,l⟩:=m;intro z;subst z;rw[e]at l;cases l
theorem j9.keep(m:j9 c H p q ws)(h:∀b o,H b=some o->b=p∨b=q->H' b=some o):j9 c H' p q ws:=
 ⟨m.ob.imp λdx e=>h _ _ e (.inl rfl),h _ _ m.ls (.inr rfl)⟩
theorem j9.same(m:j9 c H p q ws)(s:jo H H'):j9 c H' p q ws:=m.keep λb o e _=>s b o e
theorem j9.put(m:j9 c H p q ws)(i:Nat)(x:Int):j9 c (upd H q (.lst ((ws.set i x).map ι))) p q (ws.set i x):=by
 refine⟨?_,i8⟩;obtain⟨dx,e⟩:=m.ob;refine⟨dx,?_⟩;rw[i7 m.ne,aN];exact e
end
def jZ(ws:List Int):Prop:=∀w∈ws,(kd (.int w)).isSome=true
noncomputable def hd (w:Int):Option Int:=if w%2=0/\0<=w/\w<=68/\w/2%4<=2 then some (w/2) else none
noncomputable def lQ (ws:List Int) (i:Nat):Option Int:=match hd (ws.getD i 0) with
 |some n=>if (i:Int)+n/4<=ws.length-1 then some n else none
 |none=>none
theorem VQ{w n:Int}(h:hd w=some n):w=2*n/\0<=n/\n<=34/\n%4<=2:=by
 unfold hd at h
 split at h
 ·cases h;omega
 ·cases h
theorem L7{ws:List Int}(h:jZ ws){i:Nat}(hi:i<ws.length):∃x,kd (.int (ws.getD i 0))=some x:=by
 have:ws.getD i 0∈ws:=by rw[ae,ab hi];exact bc hi
 exact Option.isSome_iff_exists.mp (h _ this)
theorem qu{ws:List Int}{i:Nat}{n:Int}(h:lQ ws i=some n):ws.getD i 0=2*n/\0<=n/\n<=34/\n%4<=2/\(i:Int)+n/4<=ws.length-1:=by
 unfold lQ at h
 split at h
 ·rename_i m e
  split at h
  ·cases h
   obtain⟨a,b,c,d⟩:=VQ e;exact⟨a,b,c,d,by assumption⟩
  ·cases h
 ·cases h
theorem Jk{i:Int}{x:Str}(h:kd (.int i)=some x):(x=aI "nothing"/\i= -1)∨(x=aI "number"/\i%2=0/\ -2000000000000<=i/\i<=2000000000000)∨(x=aI "place"/\i%2=1/\1<=i/\i<=19999):=by
 rw[oG]at h
 split at h
 ·cases h;exact .inl ⟨rfl,by assumption⟩
 ·split at h
  ·cases h;exact .inr (.inl ⟨rfl,by assumption⟩)
  ·split at h
   ·cases h;exact .inr (.inr ⟨rfl,by assumption⟩)
   ·cases h
theorem oC{ws:List Int}{i:Nat}:lQ ws i=if ws.getD i 0%2=0/\0<=ws.getD i 0/\ws.getD i 0<=68/\ws.getD i 0/2%4<=2/\(i:Int)+ws.getD i 0/2/4<=ws.length-1 then some (ws.getD i 0/2) else none:=by
 unfold lQ hd;generalize ws.getD i 0=W;by_cases c:W%2=0/\0<=W/\W<=68/\W/2%4<=2
 ·rw[if_pos c];by_cases d:(i:Int)+W/2/4<=ws.length-1
  ·rw[if_pos ⟨c.1,c.2.1,c.2.2.1,c.2.2.2,d⟩];exact if_pos d
  ·rw[if_neg λz=>d z.2.2.2.2];exact if_neg d
 ·rw[if_neg c,if_neg λz=>c ⟨z.1,z.2.1,z.2.2.1,z.2.2.2.1⟩]
noncomputable def mX (w:Int):Bool:=decide (w%2=1/\0<w)
noncomputable def blank (ws:List Int) (i:Nat):Nat->List Int
 |0=>ws
 |k+1=>(blank ws i k).set (i+k) (-1)
theorem qr{ws:List Int}{i:Nat}:∀k,(blank ws i k).length=ws.length
 |0=>rfl
 |k+1=>by rw[blank,aN,qr k]
theorem uL{ws:List Int}{i j:Nat}:∀k,(blank ws i k)[j]? =if i<=j/\j<i+k then ws[j]?.map (λ_=> -1) else ws[j]?
 |0=>by rw[if_neg ⋯];rfl
 |k+1=>by
  rw[blank,aW,qr];by_cases z:i+k=j
  ·subst z;have c:i<=i+k/\i+k<i+(k+1):=by lia
   rw[if_pos rfl,if_pos c];by_cases y:i+k<ws.length
   ·rw[if_pos y,ab y];rfl
   ·rw[if_neg y,bz ⋯];rfl
  ·rw[if_neg z,uL k];by_cases y:i<=j/\j<i+k
   ·rw[if_pos y,if_pos ⋯]
   ·rw[if_neg y,if_neg ⋯]
noncomputable def laid (ws:List Int) (i s:Nat):List Int:=(blank ws i (s+1)).set i (8*s)
theorem Dy{ws:List Int}{i s:Nat}:(laid ws i s).length=ws.length:=by rw[laid,aN,qr]
theorem Rl{ws:List Int}{i s:Nat}:blank (ws.set i (8*s)) (i+1) s=laid ws i s:=by
 refine eB λj=> ?_;rw[uL,laid,aW,aW,uL,qr];by_cases z:i=j
 ·subst z;rw[if_neg ⋯,if_pos rfl,if_pos rfl]
 ·rw[if_neg z,if_neg z];by_cases y:i+1<=j/\j<i+1+s
  ·rw[if_pos y,if_pos ⋯]
  ·rw[if_neg y,if_neg ⋯]
theorem jZ.set{ws:List Int}{i:Nat}{x:Int}(h:jZ ws)(hx:(kd (.int x)).isSome=true):jZ (ws.set i x):=λw hw=>by
 rcases dZ hw with z|rfl
 ·exact h w z
 ·exact hx
theorem jZ.blank{ws:List Int}{i:Nat}(h:jZ ws):∀k,jZ (blank ws i k)
 |0=>h
 |k+1=>(jZ.blank h k).set (by rw[oG,if_pos rfl];rfl)
theorem Rm{ws:List Int}{i s j:Nat}(h:j<i∨i+s<j):(laid ws i s).getD j 0=ws.getD j 0:=by
 rw[laid,ae,aW,if_neg ⋯,uL,if_neg ⋯,←ae]
theorem Rk{ws:List Int}{i s:Nat}(h:i<ws.length):(laid ws i s).getD i 0=8*s:=by
 rw[laid,ae,aW,if_pos rfl,if_pos (by rw[qr];exact h)];rfl
theorem Kl{ws:List Int}{i s:Nat}(hs:s<=8)(h:i+s<ws.length):lQ (laid ws i s) i=some (4*s):=by
 rw[oC,Rk ⋯,Dy,if_pos ⋯];congr 1;lia
theorem jZ.laid{ws:List Int}{i s:Nat}(h:jZ ws)(hs:s<=8):jZ (laid ws i s):=
 (h.blank _).set (by rw[oG,if_neg ⋯,if_pos ⋯];rfl)
theorem Xm:¬(("begin":Str)="top"):=∅
theorem Xn:¬(("end":Str)="top"):=∅
noncomputable def qP (b e t:Int):List (Str×V):=[("begin",ι b),("end",ι e),("top",ι t)]
section
variable{b e t x:Int}{m:Str}
theorem Gg:(qP b e t).lookup ("begin":Str)=some (.int b):=by simp[qP,aX]
theorem Wr:(qP b e t).lookup ("end":Str)=some (.int e):=by
 simp[qP,aX,show(("end":Str)=="begin")=false by decide+kernel]
theorem JR:(qP b e t).lookup ("top":Str)=some (.int t):=by
 simp[qP,aX,show(("top":Str)=="begin")=false by decide+kernel,show(("top":Str)=="end")=false by decide+kernel]
theorem BW(h1:(m==("begin":Str))=false)(h2:(m==("end":Str))=false)(h3:(m==("top":Str))=false):(qP b e t).lookup m=none:=by
 simp[qP,aX,h1,h2,h3]
theorem vR:(qP b e t).lookup ("room":Str)=none:=BW ∅ ∅ ∅
theorem Ea:(qP b e t).lookup ("used":Str)=none:=BW ∅ ∅ ∅
theorem CT:(qP b e t).lookup ("has":Str)=none:=BW ∅ ∅ ∅
theorem JU:(qP b e t).lookup ("take":Str)=none:=BW ∅ ∅ ∅
theorem Nq:(qP b e t).lookup ("empty":Str)=none:=BW ∅ ∅ ∅
theorem BV:(qP b e t).lookup ("cells":Str)=none:=BW ∅ ∅ ∅
theorem Ms:kB "top" (.int x) (qP b e t)=qP b e x:=by simp[kB,qP,Xm,Xn]
theorem Mr:(qP b e t).length=3:=rfl
end
def walks(ws:List Int):Int->List Int->Int->Prop
 |a,[],t=>a=t
 |a,s::r,t=>(0<=a/\a<ws.length/\∃n,lQ ws a.toNat=some n/\n/4+1=s)/\walks ws (a+s) r t
noncomputable def BE:Int->List Int->List Int
 |_,[]=>[]
 |a,s::r=>a::BE (a+s) r
theorem FQ{ws:List Int}{a:Int}{n s:Int}(hc:lQ ws a.toNat=some n)(hs:n/4+1=s):1<=s/\s<=9:=by
 obtain⟨_,h0,h1,_,_⟩:=qu hc;lia
theorem Gj{ws:List Int}:∀{sz:List Int} {a t:Int},walks ws a sz t->a+sz.length<=t
 | [],a,t,h=>by have:a=t:=h;simp[this]
 |s::r,a,t,h=>by
  have h1:=Gj h.2;obtain⟨_,_,n,hc,hn⟩:=h.1;have:=FQ hc hn;rw[aF];lia
theorem F9:∀{xs:List Int} {a s:Int},BE a (xs++[s])=BE a xs++[a+xs.sum]
 | [],a,s=>by simp[BE]
 |x::r,a,s=>by
  rw[cz];simp only[BE,bK,cz];rw[F9,show a+x+r.sum=a+(x+r.sum) by lia]
theorem Jz:∀{xs:List Int} {a:Int},(BE a xs).length=xs.length
 | [],_=>rfl
 |x::r,a=>by simp only[BE,aF,Jz]
theorem TU:¬(("memory":Str)="old"):=∅
theorem TV:¬(("memory":Str)="young"):=∅
theorem V2:¬(("memory":Str)="spare"):=∅
theorem TX:¬(("old":Str)="young"):=∅
theorem V3:¬(("old":Str)="spare"):=∅
theorem V4:¬(("young":Str)="spare"):=∅
noncomputable def uK (m o y s:Addr):List (Str×V):=[("memory",ξ m),("old",ξ o),("young",ξ y),("spare",ξ s)]
section
variable{m o y s x:Addr}{f:Str}
theorem oo:(uK m o y s).lookup ("memory":Str)=some (.ref m):=by simp[uK,aX]
theorem CZ:(uK m o y s).lookup ("old":Str)=some (.ref o):=by
 simp[uK,aX,show(("old":Str)=="memory")=false by decide+kernel]
theorem ux:(uK m o y s).lookup ("young":Str)=some (.ref y):=by
 simp[uK,aX,show(("young":Str)=="memory")=false by decide+kernel,show(("young":Str)=="old")=false by decide+kernel]
theorem FI:(uK m o y s).lookup ("spare":Str)=some (.ref s):=by
 simp[uK,aX,show(("spare":Str)=="memory")=false by decide+kernel,show(("spare":Str)=="old")=false by decide+kernel,show(("spare":Str)=="young")=false by decide+kernel]
theorem Gs(h1:(f==("memory":Str))=false)(h2:(f==("old":Str))=false)(h3:(f==("young":Str))=false)(h4:(f==("spare":Str))=false):(uK m o y s).lookup f=none:=by
 simp[uK,aX,h1,h2,h3,h4]
theorem NP:(uK m o y s).lookup ("flip":Str)=none:=Gs ∅ ∅ ∅ ∅
theorem SO:(uK m o y s).lookup ("lay_young":Str)=none:=Gs ∅ ∅ ∅ ∅
theorem SN:(uK m o y s).lookup ("lay_old":Str)=none:=Gs ∅ ∅ ∅ ∅
theorem NQ:(uK m o y s).lookup ("lay_into":Str)=none:=Gs ∅ ∅ ∅ ∅
theorem SQ:kB "spare" (.ref s) (kB "young" (.ref y) (kB "old" (.ref o) (kB "memory" (.ref m) [])))=uK m o y s:=by simp[kB,uK,TU,TV,V2,TX,V3,V4]
theorem NS:kB "young" (.ref x) (uK m o y s)=uK m o x s:=by simp[kB,uK,TV,TX]
theorem NR:kB "spare" (.ref x) (uK m o y s)=uK m o y x:=by simp[kB,uK,V2,V3,V4]
theorem Qv:(uK m o y s).length=4:=rfl
end
structure S3 where
 b:Int
 e:Int
 t:Int
def qt(c:Addr)(H:Hp)(p:Addr)(x:S3):Prop:=∃dx,H p=some (.ins c dx (qP x.b x.e x.t))
structure nU(cA cM cS:Addr)(H:Hp)(p m q o y s:Addr)(ws:List Int)(so sy ss:S3):Prop where
 ob:∃dx,H p=some (.ins cA dx (uK m o y s))
 mem:j9 cM H m q ws
 old:qt cS H o so
 oV:qt cS H y sy
 Em:qt cS H s ss
 oy:o≠y
 os:o≠s
 ys:y≠s
 pd:p≠m/\p≠o/\p≠y/\p≠s
 md:m≠o/\m≠y/\m≠s
section
variable{cA cM cS:Addr}{H H':Hp}{p m q o y s:Addr}{ws ws':List Int}{so sy ss:S3}
theorem qt.ne{c x q':Addr}{xs:List V}{z:S3}(h:qt c H x z)(hq:H q'=some (.lst xs)):x≠q':=by
 obtain⟨dx,e⟩:=h;intro w;subst w;rw[e]at hq;cases hq
theorem qt.same{c x:Addr}{z:S3}(h:qt c H x z)(k:jo H H'):qt c H' x z:=h.imp λdx e=>k _ _ e
theorem nU.same(a:nU cA cM cS H p m q o y s ws so sy ss)(h:jo H H'):nU cA cM cS H' p m q o y s ws so sy ss:=
 {a with ob:=a.ob.imp λdx e=>h _ _ e,mem:=a.mem.same h,old:=a.old.same h,oV:=a.oV.same h,Em:=a.Em.same h}
theorem nU.flip(a:nU cA cM cS H p m q o y s ws so sy ss){dx:Addr}(e:H' p=some (.ins cA dx (uK m o s y)))(k:∀b x,H b=some x->b≠p->H' b=some x):nU cA cM cS H' p m q o s y ws so ss sy where
 ob:=⟨dx,e⟩
 mem:=a.mem.keep λb x eb hb=>k b x eb (by
  rcases hb with rfl|rfl
  ·exact ah a.pd.1
  ·obtain⟨dz,ez⟩:=a.ob;intro z;rw[z,ez]at eb;have:=a.mem.ls;rw[z,ez]at this;cases this)
 old:=a.old.imp λdx e=>k _ _ e (ah a.pd.2.1)
 oV:=a.Em.imp λdx e=>k _ _ e (ah a.pd.2.2.2)
 Em:=a.oV.imp λdx e=>k _ _ e (ah a.pd.2.2.1)
 oy:=a.os
 os:=a.oy
 ys:=ah a.ys
 pd:=⟨a.pd.1,a.pd.2.1,a.pd.2.2.2,a.pd.2.2.1⟩
 md:=⟨a.md.1,a.md.2.2,a.md.2.1⟩
theorem nU.V7(a:nU cA cM cS H p m q o y s ws so sy ss){z:S3}(mem:j9 cM H' m q ws')(e:qt cS H' o z)(k:∀b x,H b=some x->b≠q->b≠o->H' b=some x):nU cA cM cS H' p m q o y s ws' z sy ss:=
 {a with
  ob:=a.ob.imp λdx e=>k _ _ e (λz=>by rw[z,a.mem.ls]at e;cases e) a.pd.2.1
  mem:=mem
  old:=e
  oV:=a.oV.imp λdx e=>k _ _ e (qt.ne ⟨dx,e⟩ a.mem.ls) (ah a.oy)
  Em:=a.Em.imp λdx e=>k _ _ e (qt.ne ⟨dx,e⟩ a.mem.ls) (ah a.os)}
theorem nU.XR(a:nU cA cM cS H p m q o y s ws so sy ss){z:S3}(mem:j9 cM H' m q ws')(e:qt cS H' y z)(k:∀b x,H b=some x->b≠q->b≠y->H' b=some x):nU cA cM cS H' p m q o y s ws' so z ss:=
 {a with
  ob:=a.ob.imp λdx e=>k _ _ e (λz=>by rw[z,a.mem.ls]at e;cases e) a.pd.2.2.1
  mem:=mem
  old:=a.old.imp λdx e=>k _ _ e (qt.ne ⟨dx,e⟩ a.mem.ls) a.oy
  oV:=e
  Em:=a.Em.imp λdx e=>k _ _ e (qt.ne ⟨dx,e⟩ a.mem.ls) (ah a.ys)}
theorem nU.XF(a:nU cA cM cS H p m q o y s ws so sy ss){z:S3}(e:qt cS H' s z)(k:∀b x,H b=some x->b≠s->H' b=some x):nU cA cM cS H' p m q o y s ws so sy z:=
 {a with
  ob:=a.ob.imp λdx e=>k _ _ e a.pd.2.2.2
  mem:=a.mem.keep λb x eb hb=>k b x eb (by
   rcases hb with rfl|rfl
   ·exact a.md.2.2
   ·exact ah (a.Em.ne a.mem.ls))
  old:=a.old.imp λdx e=>k _ _ e a.os
  oV:=a.oV.imp λdx e=>k _ _ e a.ys
  Em:=e}
end
noncomputable def j8 (ws:List Int) (i s:Nat) (g:Int):List Int:=(laid ws i s).set i (2*(4*s+g))
theorem pv{ws:List Int}{i s:Nat}{g:Int}:(j8 ws i s g).length=ws.length:=by rw[j8,aN,Dy]
theorem jZ.j8{ws:List Int}{i s:Nat}{g:Int}(h:jZ ws)(hs:s<=8)(g0:0<=g)(g2:g<=2):jZ (j8 ws i s g):=
 (h.laid hs).set (by rw[oG,if_neg ⋯,if_pos ⋯];rfl)
theorem Jm{ws:List Int}{i s j:Nat}{g:Int}(h:j<i∨i+s<j):(j8 ws i s g).getD j 0=ws.getD j 0:=by
 rw[j8,ae,aW,if_neg ⋯,←ae,Rm h]
theorem Jl{ws:List Int}{i s:Nat}{g:Int}(h:i<ws.length):(j8 ws i s g).getD i 0=2*(4*s+g):=by
 rw[j8,ae,aW,if_pos rfl,if_pos (by rw[Dy];exact h)];rfl
theorem KI{ws:List Int}{i s j:Nat}{g:Int}(h:i<j)(h1:j<=i+s)(h2:j<ws.length):(j8 ws i s g).getD j 0= -1:=by
 rw[j8,ae,aW,if_neg ⋯,laid,aW,if_neg ⋯,uL,if_pos ⋯,ab h2];rfl
theorem IM{ws:List Int}{i s:Nat}{g:Int}(hs:s<=8)(h:i+s<ws.length)(g0:0<=g)(g2:g<=2):lQ (j8 ws i s g) i=some (4*s+g):=by
 rw[oC,Jl ⋯,pv,if_pos ⋯];congr 1;lia
noncomputable def cp (ws ks:List Int) (g:Nat):Nat->List Int
 |0=>ws
 |k+1=>(cp ws ks g k).set (g+k) (ks.getD k 0)
theorem uN{ws ks:List Int}{g:Nat}:∀k,(cp ws ks g k).length=ws.length
 |0=>rfl
 |k+1=>by rw[cp,aN,uN k]
noncomputable def Kj (d:Addr):List (Str×V):=[("written",ξ d)]
section
variable{d d':Addr}{f:Str}
theorem LB:(Kj d).lookup ("written":Str)=some (.ref d):=by simp[Kj,aX]
theorem C_(h:(f==("written":Str))=false):(Kj d).lookup f=none:=by simp[Kj,aX,h]
theorem FJ:(Kj d).lookup ("write":Str)=none:=C_ ∅
theorem QC:(Kj d).lookup ("rub":Str)=none:=C_ ∅
theorem Qz:(Kj d).lookup ("has":Str)=none:=C_ ∅
theorem wX:(Kj d).lookup ("places":Str)=none:=C_ ∅
theorem MC:(Kj d).lookup ("clear":Str)=none:=C_ ∅
theorem SU:kB "written" (.ref d) []=Kj d:=rfl
theorem QB:kB "written" (.ref d') (Kj d)=Kj d':=by simp[kB,Kj]
theorem QA:(Kj d).length=1:=rfl
end
noncomputable def Ey (ks:List Int):List (Key×V):=ks.map λk=>(aS k,V.bl true)
theorem QE{ks:List Int}:(Ey ks).length=ks.length:=aa ..
theorem GA{k:Int}:∀{ks:List Int},nD (Ey ks) (aS k)=if k∈ks then some (.bl true) else none
 | []=>rfl
 |x::r=>by
  by_cases e:x=k
  ·subst e;rw[if_pos ax];exact vX rfl
  ·have e':¬((aS x:Key)=aS k):=λz=>e (dO z);show nD ((aS x,V.bl true)::Ey r) (aS k)=_;rw[vW e',GA];by_cases m:k∈r
   ·rw[if_pos m,if_pos (ao _ m)]
   ·rw[if_neg m,if_neg (by simp;exact⟨λz=>e z.symm,m⟩)]
theorem QF{k:Int}{ks:List Int}:putK (Ey ks) (aS k) (.bl true)=Ey (if k∈ks then ks else ks++[k]):=by
 have ha:((Ey ks).any λkv=>decide (kv.1=(aS k:Key)))=decide (k∈ks):=by
  induction ks with
  |nil=>rfl
  |cons x r ih=>
   show(decide ((aS x:Key)=aS k) ||(Ey r).any _)=_;rw[ih];by_cases e:x=k
   ·subst e;simp
   ·have e':¬((aS x:Key)=aS k):=λz=>e (dO z);simp[e'];intro z;exact absurd z.symm e
 unfold putK;rw[ha];by_cases m:k∈ks
 ·rw[if_pos (by simpa using m),if_pos m];unfold Ey;rw[bj];refine bt λx _=> ?_;show(if (aS x:Key)=aS k then(aS x,V.bl true) else(aS x,V.bl true))=_
  split<;>rfl
 ·rw[if_neg (by simpa using m),if_neg m];unfold Ey;rw[aB];rfl
theorem NV{k:Int}{ks:List Int}:AU (Ey ks) (aS k)=Ey (ks.filter λx=>decide (x≠k)):=by
 unfold AU Ey;rw[du];congr 1;refine eJ λx _=> ?_;show decide ((aS x:Key)≠aS k)=decide (x≠k);by_cases e:x=k
 ·subst e;simp
 ·simp[e,show¬((aS x:Key)=aS k) from λz=>e (dO z)]
structure qf(c:Addr)(H:Hp)(p d:Addr)(ks:List Int):Prop where
 ob:∃dx,H p=some (.ins c dx (Kj d))
 dc:H d=some (.dK (Ey ks))
noncomputable def MS (ks:List Int) (k:Int):List Int:=if k∈ks then ks else ks++[k]
noncomputable def RX (ks:List Int) (k:Int):List Int:=ks.filter λx=>decide (x≠k)
section
variable{c p d:Addr}{H H':Hp}{ks ks':List Int}
theorem qf.ne(m:qf c H p d ks):p≠d:=by
 obtain⟨⟨dx,e⟩,l⟩:=m;intro z;subst z;rw[e]at l;cases l
theorem qf.keep(m:qf c H p d ks)(h:∀b o,H b=some o->b=p∨b=d->H' b=some o):qf c H' p d ks:=
 ⟨m.ob.imp λdx e=>h _ _ e (.inl rfl),h _ _ m.dc (.inr rfl)⟩
theorem qf.same(m:qf c H p d ks)(s:jo H H'):qf c H' p d ks:=m.keep λb o e _=>s b o e
theorem qf.put(m:qf c H p d ks):qf c (upd H d (.dK (Ey ks'))) p d ks':=by
 refine⟨?_,i8⟩;obtain⟨dx,e⟩:=m.ob;exact⟨dx,by rw[i7 m.ne];exact e⟩
end
noncomputable def Su (q:Addr):List (Str×V):=[("words",ξ q)]
section
variable{q:Addr}{f:Str}
theorem Oy:(Su q).lookup ("words":Str)=some (.ref q):=by simp[Su,aX]
theorem Ku(h:(f==("words":Str))=false):(Su q).lookup f=none:=by simp[Su,aX,h]
theorem LU:(Su q).lookup ("put":Str)=none:=Ku ∅
theorem LV:(Su q).lookup ("row":Str)=none:=Ku ∅
theorem Oz:(Su q).lookup ("want_hand":Str)=none:=Ku ∅
end
structure wj(c:Addr)(H:Hp)(p q:Addr)(ws:List Int):Prop where
 ob:∃dx,H p=some (.ins c dx (Su q))
 ls:H q=some (.lst (ws.map ι))
section
variable{c p q:Addr}{H H':Hp}{ws:List Int}
theorem wj.ne(m:wj c H p q ws):p≠q:=by
 obtain⟨⟨dx,e⟩,l⟩:=m;intro z;subst z;rw[e]at l;cases l
theorem wj.keep(m:wj c H p q ws)(h:∀b o,H b=some o->b=p∨b=q->H' b=some o):wj c H' p q ws:=
 ⟨m.ob.imp λdx e=>h _ _ e (.inl rfl),h _ _ m.ls (.inr rfl)⟩
theorem wj.put(m:wj c H p q ws)(i:Nat)(x:Int):wj c (upd H q (.lst ((ws.set i x).map ι))) p q (ws.set i x):=by
 refine⟨?_,i8⟩;obtain⟨dx,e⟩:=m.ob;exact⟨dx,by rw[i7 m.ne];exact e⟩
end
noncomputable def J_ (q:Addr):List (Str×V):=[("told",ξ q)]
section
variable{q:Addr}{f:Str}
theorem Ka:(J_ q).lookup ("told":Str)=some (.ref q):=by simp[J_,aX]
theorem B7(h:(f==("told":Str))=false):(J_ q).lookup f=none:=by simp[J_,aX,h]
theorem Qg:(J_ q).lookup ("name":Str)=none:=B7 ∅
theorem Qd:(J_ q).lookup ("at":Str)=none:=B7 ∅
theorem Qf:(J_ q).lookup ("move":Str)=none:=B7 ∅
theorem Qe:(J_ q).lookup ("gone":Str)=none:=B7 ∅
theorem Gk:(J_ q).lookup ("names":Str)=none:=B7 ∅
theorem Kb:(J_ q).lookup ("want_standing":Str)=none:=B7 ∅
theorem UT:kB "told" (.ref q) []=J_ q:=rfl
end
noncomputable def tv:Option Int->V
 |some i=> .int i
 |none=> .non
theorem B5{os:List (Option Int)}:(os.map tv).length=os.length:=aa ..
theorem Qa{os:List (Option Int)}{i:Nat}{x:Option Int}:(os.map tv).set i (tv x)=(os.set i x).map tv:=by rw[ei]
structure su(c:Addr)(H:Hp)(p q:Addr)(os:List (Option Int)):Prop where
 ob:∃dx,H p=some (.ins c dx (J_ q))
 ls:H q=some (.lst (os.map tv))
section
variable{c p q:Addr}{H H':Hp}{os os':List (Option Int)}
theorem su.ne(m:su c H p q os):p≠q:=by
 obtain⟨⟨dx,e⟩,l⟩:=m;intro z;subst z;rw[e]at l;cases l
theorem su.keep(m:su c H p q os)(h:∀b o,H b=some o->b=p∨b=q->H' b=some o):su c H' p q os:=
 ⟨m.ob.imp λdx e=>h _ _ e (.inl rfl),h _ _ m.ls (.inr rfl)⟩
theorem su.put(m:su c H p q os):su c (upd H q (.lst (os'.map tv))) p q os':=by
 refine⟨?_,i8⟩;obtain⟨dx,e⟩:=m.ob;exact⟨dx,by rw[i7 m.ne];exact e⟩
end
noncomputable def Kg:Nat->List (Option Int)->List (Int×Int)
 |_,[]=>[]
 |k,some p::r=>((k:Int),p)::Kg (k+1) r
 |k,none::r=>Kg (k+1) r
inductive uB {α:Type} (f:α->List V) (H:Hp):List V->List α->Prop
 |nil:uB f H [] []
 |cons {a:Addr} {as:List V} {x:α} {xs:List α}:H a=some (.tup (f x))->uB f H as xs->uB f H (.ref a::as) (x::xs)
section
variable{α:Type}{f:α->List V}{H H':Hp}{as bs:List V}{xs:List α}{a:Addr}{x:α}
theorem uB.same(s:jo H H')(h:uB f H as xs):uB f H' as xs:=by
 induction h with
 |nil=>exact .nil
 |cons e _ ih=>exact .cons (s _ _ e) ih
theorem uB.len(h:uB f H as xs):as.length=xs.length:=by
 induction h with
 |nil=>rfl
 |cons _ _ ih=>rw[aF,aF,ih]
theorem uB.snoc(h:uB f H as xs)(ha:H a=some (.tup (f x))):uB f H (as++[.ref a]) (xs++[x]):=by
 induction h with
 |nil=>exact .cons ha .nil
 |cons e _ ih=>exact .cons e ih
theorem uB.eq(hf:∀x a b,H a=some (.tup (f x))->H b=some (.tup (f x))->x_ H 2 (.ref a) (.ref b)=some true)(h:uB f H as xs)(k:uB f H bs xs):wW (cZ (x_ H 2) as bs)=some true:=by
 induction h generalizing bs with
 |nil=>cases k;rfl
 |cons e _ ih=>
  cases k with
  |cons e' k'=>
   simp only[List.zipWith_cons_cons,hf _ _ _ e e',wW,ih k'];rfl
theorem uB.at_(h:uB f H as xs):∀{i:Nat} {v:V},as[i]? =some v->∃a x,v= .ref a/\xs[i]? =some x/\H a=some (.tup (f x)):=by
 induction h with
 |nil=>intro i v e;cases e
 |cons ha _ ih=>
  intro i v e
  cases i with
  |zero=>cases e;exact⟨_,_,rfl,rfl,ha⟩
  |succ i=>exact ih e
end
abbrev Qs:=uB λx:Int×Int=>[.int x.1,.int x.2]
abbrev Qu:=uB λx:Int×Int×Int=>[.int x.1,.int x.2.1,.int x.2.2]
theorem Yg{H:Hp}(x:Int×Int)(a b:Addr)(e:H a=some (.tup [.int x.1,.int x.2]))(e':H b=some (.tup [.int x.1,.int x.2])):x_ H 2 (.ref a) (.ref b)=some true:=by
 simp only[x_,e,e',aF,dJ];rw[if_pos trivial];simp[wW,nY,NC]
theorem Yh{H:Hp}(x:Int×Int×Int)(a b:Addr)(e:H a=some (.tup [.int x.1,.int x.2.1,.int x.2.2]))(e':H b=some (.tup [.int x.1,.int x.2.1,.int x.2.2])):x_ H 2 (.ref a) (.ref b)=some true:=by
 simp only[x_,e,e',aF,dJ];rw[if_pos trivial];simp[wW,nY,NC]
theorem si{o:Option Int}:∀{os:List (Option Int)} {k:Nat},Kg k (os++[o])=Kg k os++(match o with|some p=>[(((k+os.length:Nat):Int),p)]|none=>[])
 | [],k=>by cases o<;>rfl
 |some p::r,k=>by
  rw[cz];simp only[Kg,si,aF,cz];rw[show k+1+r.length=k+(r.length+1) by lia]
 |none::r,k=>by
  rw[cz];simp only[Kg,si,aF];rw[show k+1+r.length=k+(r.length+1) by lia]
theorem Xq:¬(("waiting":Str)="spoken"):=∅
noncomputable def Kf (d q:Addr):List (Str×V):=[("waiting",ξ d),("spoken",ξ q)]
section
variable{d q:Addr}{f:Str}
theorem A2:(Kf d q).lookup ("waiting":Str)=some (.ref d):=by simp[Kf,aX]
theorem OR:(Kf d q).lookup ("spoken":Str)=some (.ref q):=by
 simp[Kf,aX,show(("spoken":Str)=="waiting")=false by decide+kernel]
theorem Bv(h1:(f==("waiting":Str))=false)(h2:(f==("spoken":Str))=false):(Kf d q).lookup f=none:=by simp[Kf,aX,h1,h2]
theorem OP:(Kf d q).lookup ("give":Str)=none:=Bv ∅ ∅
theorem Cc:(Kf d q).lookup ("pending":Str)=none:=Bv ∅ ∅
theorem OQ:(Kf d q).lookup ("move":Str)=none:=Bv ∅ ∅
theorem Rp:(Kf d q).lookup ("say":Str)=none:=Bv ∅ ∅
theorem OS:(Kf d q).lookup ("said":Str)=none:=Bv ∅ ∅
theorem Jn:(Kf d q).lookup ("want_pending":Str)=none:=Bv ∅ ∅
theorem TL:kB "spoken" (.ref q) (kB "waiting" (.ref d) [])=Kf d q:=by simp[kB,Kf,Xq]
end
structure We where
 t:Int
 a:Addr
 p:Int
 n:Int
noncomputable def We.x (e:We):Int×Int×Int:=(e.t,e.p,e.n)
noncomputable def wU (es:List We):List (Key×V):=es.map λe=>(aS e.t,ξ e.a)
theorem Iz{es:List We}:(wU es).length=es.length:=aa ..
theorem Kc:∀{es:List We},Dp (wU es)=some (es.map We.t)
 | []=>rfl
 |e::r=>by show(Dp (wU r)).map _=_;rw[Kc];rfl
theorem IA{k:Int}:∀{es:List We},nD (wU es) (aS k)=(es.find? λe=>decide (e.t=k)).map λe=>ξ e.a
 | []=>rfl
 |e::r=>by
  by_cases h:e.t=k
  ·show nD ((aS e.t,ξ e.a)::wU r) (aS k)=_;rw[vX (by rw[h]),bU,decide_eq_true h];rfl
  ·show nD ((aS e.t,ξ e.a)::wU r) (aS k)=_;rw[vW (λz=>h (dO z)),IA,bU,decide_eq_false h]
noncomputable def j_:Nat->List (Option (Int×Int))->List (Int×Int×Int)
 |_,[]=>[]
 |k,some x::r=>((k:Int),x.1,x.2)::j_ (k+1) r
 |k,none::r=>j_ (k+1) r
theorem uj:∀{ws:List (Option (Int×Int))} {k:Nat},∀x∈j_ k ws,(k:Int)<=x.1
 | [],_,x,h=>by cases h
 |some y::r,k,x,h=>by
  rcases List.mem_cons.mp h with rfl|h
  ·exact b7 _
  ·have:=uj x h;lia
 |none::r,k,x,h=>by have:=uj (ws:=r) x h;lia
theorem Iv:∀{ws:List (Option (Int×Int))} {k:Nat},((j_ k ws).map (·.1)).Pairwise (·<=·)
 | [],_=> .nil
 |some y::r,k=>by
  refine List.pairwise_cons.mpr ⟨λz hz=> ?_,Iv⟩;obtain⟨x,hx,rfl⟩:=List.mem_map.mp hz;have:=uj (ws:=r) x hx;show(k:Int)<=x.1;lia
 |none::r,k=>Iv (ws:=r)
theorem sk{o:Option (Int×Int)}:∀{ws:List (Option (Int×Int))} {k:Nat},j_ k (ws++[o])=j_ k ws++(match o with|some x=>[(((k+ws.length:Nat):Int),x.1,x.2)]|none=>[])
 | [],k=>by cases o<;>rfl
 |some p::r,k=>by
  rw[cz];simp only[j_,sk,aF,cz];rw[show k+1+r.length=k+(r.length+1) by lia]
 |none::r,k=>by
  rw[cz];simp only[j_,sk,aF];rw[show k+1+r.length=k+(r.length+1) by lia]
theorem B3:∀{ws:List (Option (Int×Int))} {k j:Nat},(j_ k ws).find? (λx=>decide (x.1=((k+j:Nat):Int)))=(ws.getD j none).map λy=>(((k+j:Nat):Int),y.1,y.2)
 | [],k,j=>by cases j<;>rfl
 |some y::r,k,0=>by simp[j_]
 |none::r,k,0=>by
  show(j_ (k+1) r).find? _=none;rw[List.find?_eq_none];intro x hx;have:=uj x hx;simp;lia
 |some y::r,k,j+1=>by
  simp only[j_,bU];rw[decide_eq_false ⋯];have:=B3 (ws:=r) (k:=k+1) (j:=j);rw[show k+1+j=k+(j+1) by lia]at this;exact this
 |none::r,k,j+1=>by
  have:=B3 (ws:=r) (k:=k+1) (j:=j);rw[show k+1+j=k+(j+1) by lia]at this;exact this
theorem B4:∀{ws:List (Option (Int×Int))} {k:Nat} {i:Int},i<k∨(k:Int)+ws.length<=i->(j_ k ws).find? (λx=>decide (x.1=i))=none
 | [],k,i,_=>rfl
 |some y::r,k,i,h=>by
  simp only[j_,bU];rw[aF]at h;rw[decide_eq_false ⋯];exact B4 ⋯
 |none::r,k,i,h=>by
  rw[aF]at h;exact B4 (ws:=r) (k:=k+1) ⋯
theorem Eu:∀{ws:List (Option (Int×Int))} {k j:Nat} {y y':Int×Int},ws.getD j none=some y->j_ k (ws.set j (some y'))=(j_ k ws).map λx=>if x.1=((k+j:Nat):Int) then(((k+j:Nat):Int),y'.1,y'.2) else x
 | [],k,j,y,y',h=>by cases j<;>cases h
 |some z::r,k,0,y,y',h=>by
  show((k:Int),y'.1,y'.2)::j_ (k+1) r=_;simp only[j_,aE,Nat.add_zero,if_pos];congr 1;have e:(j_ (k+1) r).map (λx=>if x.1=(k:Int) then((k:Int),y'.1,y'.2) else x)=(j_ (k+1) r).map id:=bt λx hx=>by
   have:=uj x hx;rw[if_neg ⋯];rfl
  rw[e,fA]
 |none::r,k,0,y,y',h=>by cases h
 |some z::r,k,j+1,y,y',h=>by
  have:=Eu (ws:=r) (k:=k+1) (j:=j) (y':=y') h;rw[show k+1+j=k+(j+1) by lia]at this;show((k:Int),z.1,z.2)::j_ (k+1) (r.set j (some y'))=_;simp only[j_,aE];rw[if_neg ⋯,this]
 |none::r,k,j+1,y,y',h=>by
  have:=Eu (ws:=r) (k:=k+1) (j:=j) (y':=y') h;rw[show k+1+j=k+(j+1) by lia]at this;exact this
theorem Er:∀{ws:List (Option (Int×Int))} {k j:Nat} {y:Int×Int},ws.getD j none=some y->j_ k (ws.set j none)=(j_ k ws).filter λx=>decide (x.1≠((k+j:Nat):Int))
 | [],k,j,y,h=>by cases j<;>cases h
 |some z::r,k,0,y,h=>by
  show j_ (k+1) r=_;simp only[j_,dS,Nat.add_zero];rw[if_neg (by simp),List.filter_eq_self.mpr];intro x hx;have:=uj x hx;simp;lia
 |none::r,k,0,y,h=>by cases h
 |some z::r,k,j+1,y,h=>by
  have:=Er (ws:=r) (k:=k+1) (j:=j) h;rw[show k+1+j=k+(j+1) by lia]at this;show((k:Int),z.1,z.2)::j_ (k+1) (r.set j none)=_;simp only[j_,dS];rw[if_pos (by simp;lia),this]
 |none::r,k,j+1,y,h=>by
  have:=Er (ws:=r) (k:=k+1) (j:=j) h;rw[show k+1+j=k+(j+1) by lia]at this;exact this
theorem CY:∀{ws:List (Option (Int×Int))} {k:Nat},((j_ k ws).map (·.1)).Pairwise (·<·)
 | [],_=> .nil
 |some y::r,k=>by
  refine List.pairwise_cons.mpr ⟨λz hz=> ?_,CY⟩;obtain⟨x,hx,rfl⟩:=List.mem_map.mp hz;have:=uj (ws:=r) x hx;show(k:Int)<x.1;omega
 |none::r,k=>CY (ws:=r)
theorem FT{x:Int×Int×Int}:∀{l:List (Int×Int×Int)},(l.map (·.1)).Pairwise (·<·)->x∈l->l.find? (λz=>decide (z.1=x.1))=some x
 |y::r,h,hx=>by
  rcases List.mem_cons.mp hx with rfl|hx'
  ·rw[bU,decide_eq_true rfl]
  ·rw[aE,dM]at h;have:=h.1 x.1 (bu hx');rw[bU,decide_eq_false ⋯];exact FT h.2 hx'
theorem Nv{ws:List (Option (Int×Int))}{es:List We}(h:es.map We.x=j_ 0 ws){e:We}(he:e∈es):(es.map We.x).find? (λx=>decide (x.1=e.t))=some e.x:=by
 refine FT (x:=e.x) ?_ (bu he);rw[h];exact CY
noncomputable def pd (ws:List (Option (Int×Int))):V->Option (Int×Int)
 | .int i=>if 0<=i then ws.getD i.toNat none else none
 |_=>none
theorem Mh{ws:List (Option (Int×Int))}{i:Int}:(j_ 0 ws).find? (λx=>decide (x.1=i))=(pd ws (.int i)).map λy=>(i,y.1,y.2):=by
 unfold pd;dsimp only;by_cases h:0<=i
 ·rw[if_pos h];have:=B3 (ws:=ws) (k:=0) (j:=i.toNat);rw[show((0+i.toNat:Nat):Int)=i by lia]at this;exact this
 ·rw[if_neg h];exact B4 (.inl ⋯)
theorem GH{ws:List (Option (Int×Int))}{es:List We}{i:Int}(h:es.map We.x=j_ 0 ws):(es.find? λe=>decide (e.t=i)).map (λe=>(e.p,e.n))=pd ws (.int i):=by
 have e:=congrArg (λl=>l.find? λx=>decide (x.1=i)) h;rw[Mh,List.find?_map]at e;have e2:=congrArg (Option.map λx:Int×Int×Int=>x.2) e;rw[iQ,iQ]at e2;have e3:(es.find? ((λx=>decide (x.1=i))∘We.x))=es.find? λe=>decide (e.t=i):=rfl;rw[e3]at e2;refine Eq.trans ?_ (e2.trans ?_)
 ·rfl
 ·cases pd ws (.int i)<;>rfl
theorem My{k:Int}:∀{es:List We},((wU es).any λkv=>decide (kv.1=(aS k:Key)))=es.any λe=>decide (e.t=k)
 | []=>rfl
 |e::r=>by
  show(decide ((aS e.t:Key)=aS k) ||(wU r).any _)=(decide (e.t=k) ||r.any _);rw[My];by_cases z:e.t=k
  ·rw[z];simp
  ·simp[z,show¬((aS e.t:Key)=aS k) from λy=>z (dO y)]
noncomputable def Cw (es:List We) (x:We):List We:=if (es.any λe=>decide (e.t=x.t))=true then es.map λe=>if e.t=x.t then x else e else es++[x]
theorem Mz{es:List We}{x:We}:putK (wU es) (aS x.t) (.ref x.a)=wU (Cw es x):=by
 unfold putK Cw;rw[My]
 split
 ·unfold wU;rw[bj,bj];refine bt λe _=> ?_;show(if (aS e.t:Key)=aS x.t then(aS e.t,ξ x.a) else(aS e.t,ξ e.a))=((aS (if e.t=x.t then x else e).t:Key),ξ (if e.t=x.t then x else e).a);by_cases z:e.t=x.t
  ·rw[if_pos z,if_pos (by rw[z]),z]
  ·rw[if_neg z,if_neg (λy=>z (dO y))]
 ·unfold wU;rw[aB];rfl
theorem Qh{k:Int}{es:List We}:AU (wU es) (aS k)=wU (es.filter λe=>decide (e.t≠k)):=by
 unfold AU wU;rw[du];congr 1;refine eJ λe _=> ?_;show decide ((aS e.t:Key)≠aS k)=decide (e.t≠k);by_cases z:e.t=k
 ·rw[z];simp
 ·simp[z,show¬((aS e.t:Key)=aS k) from λy=>z (dO y)]
structure kP(c:Addr)(H:Hp)(p d q:Addr)(ws:List (Option (Int×Int)))(sp:List Int)(es:List We):Prop where
 ob:∃dx,H p=some (.ins c dx (Kf d q))
 dc:H d=some (.dK (wU es))
 sq:H q=some (.lst (sp.map ι))
 xs:es.map We.x=j_ 0 ws
 tp:∀e∈es,H e.a=some (.tup [.int e.p,.int e.n])
 ln:es.length+sp.length=ws.length
def Out(d q:Addr)(H H':Hp):Prop:=∀y o,y≠d->y≠q->H y=some o->H' y=some o
section
variable{c p d q:Addr}{H H':Hp}{ws ws':List (Option (Int×Int))}{sp sp':List Int}{es es':List We}
theorem kP.pd(m:kP c H p d q ws sp es):p≠d:=by
 obtain⟨dx,e⟩:=m.ob;intro z;subst z;have:=m.dc;rw[e]at this;cases this
theorem kP.pq(m:kP c H p d q ws sp es):p≠q:=by
 obtain⟨dx,e⟩:=m.ob;intro z;subst z;have:=m.sq;rw[e]at this;cases this
theorem kP.dq(m:kP c H p d q ws sp es):d≠q:=by
 intro z;subst z;have:=m.sq;rw[m.dc]at this;cases this
theorem kP.ta(m:kP c H p d q ws sp es){e:We}(h:e∈es):e.a≠d/\e.a≠q:=by
 have t:=m.tp e h;exact⟨(λz=>by rw[z,m.dc]at t;cases t),(λz=>by rw[z,m.sq]at t;cases t)⟩
theorem kP.same(m:kP c H p d q ws sp es)(s:jo H H'):kP c H' p d q ws sp es:=
 ⟨m.ob.imp λdx e=>s _ _ e,s _ _ m.dc,s _ _ m.sq,m.xs,λe h=>s _ _ (m.tp e h),m.ln⟩
theorem Q8(m:kP c H p d q ws sp es):(es.map We.t).Pairwise (·<=·):=by
 have:es.map We.t=(es.map We.x).map (·.1):=by rw[bj];rfl
 rw[this,m.xs];exact Iv
theorem kP.sorted(m:kP c H p d q ws sp es):kC (es.map We.t)=es.map We.t:=(AY (List.Perm.refl _) (Q8 m)).symm
theorem kP.find(m:kP c H p d q ws sp es){i:Int}{y:Int×Int}(h:Internal.K13.pd ws (.int i)=some y):∃e∈es,e.t=i/\e.p=y.1/\e.n=y.2/\nD (wU es) (aS i)=some (.ref e.a):=by
 have f:=GH (i:=i) m.xs;rw[h]at f;obtain⟨e,he,hy⟩:=Option.map_eq_some_iff.mp f;refine⟨e,List.mem_of_find?_eq_some he,by simpa using List.find?_some he,congrArg (·.1) hy,congrArg (·.2) hy,?_⟩;rw[IA,he];rfl
theorem kP.Xh(m:kP c H p d q ws sp es){i:Int}(h:Internal.K13.pd ws (.int i)=none):nD (wU es) (aS i)=none:=by
 have f:=GH (i:=i) m.xs;rw[h]at f;rw[IA,Option.map_eq_none_iff.mp f];rfl
theorem kP.has(m:kP c H p d q ws sp es){i:Int}:(nD (wU es) (aS i)).isSome=(Internal.K13.pd ws (.int i)).isSome:=by
 cases h:Internal.K13.pd ws (.int i) with
 |none=>rw[m.Xh h];rfl
 |some y=>obtain⟨e,_,_,_,_,h⟩:=m.find h;rw[h];rfl
end
theorem Sw{ws:List (Option (Int×Int))}{i:Int}{y:Int×Int}(h:pd ws (.int i)=some y):0<=i/\i<ws.length/\ws.getD i.toNat none=some y:=by
 unfold pd at h;dsimp only at h;by_cases z:0<=i
 ·rw[if_pos z]at h;refine⟨z,?_,h⟩;by_cases w:i<ws.length
  ·exact w
  ·rw[ae,bz (by omega)]at h;cases h
 ·rw[if_neg z]at h;cases h
theorem uh:∀{ws:List (Option (Int×Int))} {k j:Nat} {y:Int×Int},ws.getD j none=some y->(j_ k (ws.set j none)).length+1=(j_ k ws).length
 | [],k,j,y,h=>by cases j<;>cases h
 |some z::r,k,0,y,h=>by show(j_ (k+1) r).length+1=_;simp only[j_,aF]
 |none::r,k,0,y,h=>by cases h
 |some z::r,k,j+1,y,h=>by
  show(((k:Int),z.1,z.2)::j_ (k+1) (r.set j none)).length+1=_;simp only[j_,aF];rw[uh (ws:=r) (k:=k+1) (j:=j) h]
 |none::r,k,j+1,y,h=>uh (ws:=r) (k:=k+1) (j:=j) h
theorem Ud{ws:List (Option (Int×Int))}:pd ws (.int ws.length)=none:=by
 unfold pd;dsimp only;rw[if_pos ⋯,ae,bz ⋯];rfl
section
variable{c p d q:Addr}{H H':Hp}{ws ws':List (Option (Int×Int))}{sp sp':List Int}{es es':List We}{b:Addr}{x y:Int×Int}{i:Int}
theorem kP.V6(m:kP c H p d q ws sp es)(h:Internal.K13.pd ws (.int i)=none):(es.any λe=>decide (e.t=i))=false:=by
 have f:=GH (i:=i) m.xs;rw[h]at f;have f:=List.find?_eq_none.mp (Option.map_eq_none_iff.mp f);rw[ib];exact f
theorem kP.UU(m:kP c H p d q ws sp es)(h:Internal.K13.pd ws (.int i)=some y):(es.any λe=>decide (e.t=i))=true:=by
 obtain⟨e,he,ht,_⟩:=m.find h;rw[List.any_eq_true];exact⟨e,he,by simpa using ht⟩
theorem kP.lay(m:kP c H p d q ws sp es)(hb:H b=none)(x':es'.map We.x=j_ 0 ws')(l':es'.length+sp.length=ws'.length)(h:∀e∈es',e∈es∨e.a=b/\e.p=x.1/\e.n=x.2):
  kP c (upd (upd H b (.tup [.int x.1,.int x.2])) d (.dK (wU es'))) p d q ws' sp es'/\Out d q H (upd (upd H b (.tup [.int x.1,.int x.2])) d (.dK (wU es'))):=by
 have o:Out d q H (upd (upd H b (.tup [.int x.1,.int x.2])) d (.dK (wU es'))):=λz o h1 h2 e=>by rw[i7 h1,i7 (i4 e hb)];exact e
 have nb:b≠d:=ah (i4 m.dc hb);refine⟨⟨?_,i8,?_,x',λe he=> ?_,l'⟩,o⟩
 ·obtain⟨dx,e⟩:=m.ob;exact⟨dx,o _ _ m.pd m.pq e⟩
 ·rw[i7 (ah m.dq),i7 (i4 m.sq hb)];exact m.sq
 ·rcases h e he with h|⟨h1,h2,h3⟩
  ·exact o _ _ (m.ta h).1 (m.ta h).2 (m.tp e h)
  ·rw[h1,h2,h3,i7 nb,i8]
theorem kP.give(m:kP c H p d q ws sp es)(hb:H b=none):
  kP c (upd (upd H b (.tup [.int x.1,.int x.2])) d (.dK (wU (Cw es ⟨ws.length,b,x.1,x.2⟩)))) p d q (ws++[some x]) sp (Cw es ⟨ws.length,b,x.1,x.2⟩)/\Out d q H (upd (upd H b (.tup [.int x.1,.int x.2])) d (.dK (wU (Cw es ⟨ws.length,b,x.1,x.2⟩)))):=by
 have es':Cw es ⟨ws.length,b,x.1,x.2⟩=es++[⟨ws.length,b,x.1,x.2⟩]:=by
  unfold Cw;rw[if_neg (by rw[m.V6 Ud];intro z;cases z)]
 rw[es'];refine m.lay hb ?_ ?_ λe he=> ?_
 ·rw[aB,m.xs,sk,cP];rfl
 ·have:=m.ln;rw[aj,aj,dA,dA];lia
 ·rcases List.mem_append.mp he with h|h
  ·exact .inl h
  ·rw[List.mem_singleton.mp h];exact .inr ⟨rfl,rfl,rfl⟩
theorem kP.move(m:kP c H p d q ws sp es)(hb:H b=none)(hp:Internal.K13.pd ws (.int i)=some y):
  kP c (upd (upd H b (.tup [.int x.1,.int x.2])) d (.dK (wU (Cw es ⟨i,b,x.1,x.2⟩)))) p d q (ws.set i.toNat (some x)) sp (Cw es ⟨i,b,x.1,x.2⟩)/\Out d q H (upd (upd H b (.tup [.int x.1,.int x.2])) d (.dK (wU (Cw es ⟨i,b,x.1,x.2⟩)))):=by
 obtain⟨h0,h1,h2⟩:=Sw hp;have es':Cw es ⟨i,b,x.1,x.2⟩=es.map λe=>if e.t=i then⟨i,b,x.1,x.2⟩ else e:=by
  unfold Cw;rw[if_pos (m.UU hp)]
 rw[es'];refine m.lay hb ?_ ?_ λe he=> ?_
 ·rw[Eu h2,←m.xs,bj,bj];refine bt λe _=> ?_;show We.x (if e.t=i then⟨i,b,x.1,x.2⟩ else e)=if e.t=((0+i.toNat:Nat):Int) then(((0+i.toNat:Nat):Int),x.1,x.2) else We.x e
  rw[show((0+i.toNat:Nat):Int)=i by lia];by_cases z:e.t=i
  ·rw[if_pos z,if_pos z];rfl
  ·rw[if_neg z,if_neg z]
 ·rw[aa,aN];exact m.ln
 ·obtain⟨e',h,rfl⟩:=List.mem_map.mp he;by_cases z:e'.t=i
  ·rw[if_pos z];exact .inr ⟨rfl,rfl,rfl⟩
  ·rw[if_neg z];exact .inl h
theorem kP.say(m:kP c H p d q ws sp es)(hp:Internal.K13.pd ws (.int i)=some y):
  kP c (upd (upd H q (.lst (sp.map ι++[.int y.2]))) d (.dK (wU (es.filter λe=>decide (e.t≠i))))) p d q (ws.set i.toNat none) (sp++[y.2]) (es.filter λe=>decide (e.t≠i))/\Out d q H (upd (upd H q (.lst (sp.map ι++[.int y.2]))) d (.dK (wU (es.filter λe=>decide (e.t≠i))))):=by
 obtain⟨h0,h1,h2⟩:=Sw hp;have o:Out d q H (upd (upd H q (.lst (sp.map ι++[.int y.2]))) d (.dK (wU (es.filter λe=>decide (e.t≠i))))):=λz o h1 h2 e=>by rw[i7 h1,i7 h2];exact e
 have x':(es.filter λe=>decide (e.t≠i)).map We.x=j_ 0 (ws.set i.toNat none):=by
  rw[Er h2,←m.xs,du];congr 1;refine eJ λe _=> ?_;show decide (e.t≠i)=decide (e.t≠((0+i.toNat:Nat):Int));rw[show((0+i.toNat:Nat):Int)=i by lia]
 refine⟨⟨?_,i8,?_,x',λe he=> ?_,?_⟩,o⟩
 ·obtain⟨dx,e⟩:=m.ob;exact⟨dx,o _ _ m.pd m.pq e⟩
 ·rw[i7 (ah m.dq),i8,aB];rfl
 ·have h:=(List.mem_filter.mp he).1;exact o _ _ (m.ta h).1 (m.ta h).2 (m.tp e h)
 ·have l1:=congrArg dN x';have l2:=congrArg dN m.xs;have l3:=uh (k:=0) h2;have l4:=m.ln;rw[aa]at l1 l2;rw[aj,dA,aN];lia
end
theorem Ro{d:Addr}:(kB "waiting" (ξ d) []).length<1000:=by simp[kB]
theorem TR:¬(("hands":Str)="book"):=∅
theorem V1:¬(("hands":Str)="weaks"):=∅
theorem Xo:¬(("hands":Str)="lasts"):=∅
theorem V0:¬(("book":Str)="weaks"):=∅
theorem Xl:¬(("book":Str)="lasts"):=∅
theorem Xp:¬(("weaks":Str)="lasts"):=∅
noncomputable def Bc (h b w l:Addr):List (Str×V):=[("hands",ξ h),("book",ξ b),("weaks",ξ w),("lasts",ξ l)]
section
variable{h b w l:Addr}{f:Str}
theorem Hy:(Bc h b w l).lookup ("hands":Str)=some (.ref h):=by simp[Bc,aX]
theorem DZ:(Bc h b w l).lookup ("book":Str)=some (.ref b):=by simp[Bc,aX,show(("book":Str)=="hands")=false by decide+kernel]
theorem BL:(Bc h b w l).lookup ("weaks":Str)=some (.ref w):=by simp[Bc,aX,show(("weaks":Str)=="hands")=false by decide+kernel,show(("weaks":Str)=="book")=false by decide+kernel]
theorem BK:(Bc h b w l).lookup ("lasts":Str)=some (.ref l):=by simp[Bc,aX,show(("lasts":Str)=="hands")=false by decide+kernel,show(("lasts":Str)=="book")=false by decide+kernel,show(("lasts":Str)=="weaks")=false by decide+kernel]
theorem RW:kB "lasts" (.ref l) (kB "weaks" (.ref w) (kB "book" (.ref b) (kB "hands" (.ref h) [])))=Bc h b w l:=by simp[kB,Bc,TR,V1,Xo,V0,Xl,Xp]
end
structure WS(cR cH cB:Addr)(H:Hp)(r h q b d:Addr)(ws ks:List Int):Prop where
 ob:∃dx w l,H r=some (.ins cR dx (Bc h b w l))
 hd:wj cH H h q ws
 bk:qf cB H b d ks
section
variable{cR cH cB r h q b d:Addr}{H H':Hp}{ws ks:List Int}
end
structure WA where
 w:Addr
 wq:Addr
 l:Addr
 ld:Addr
 lq:Addr
structure WV(cR cW cL:Addr)(H:Hp)(r h b:Addr)(W:WA)(os:List (Option Int))(ts:List (Option (Int×Int)))(sd:List Int):Prop where
 ob:∃dx,H r=some (.ins cR dx (Bc h b W.w W.l))
 wk:su cW H W.w W.wq os
 ls:∃es,kP cL H W.l W.ld W.lq ts sd es
 ne:W.wq≠W.lq
section
variable{cR cW cL r h b:Addr}{H H':Hp}{W:WA}{os:List (Option Int)}{ts:List (Option (Int×Int))}{sd:List Int}
end
theorem AX{w:Int}(h:mX w=true)(k:(kd (.int w)).isSome=true):kd (.int w)=some (aI "place")/\w/2<=9999/\0<=w/2/\wo (.int w)= .int (w/2):=by
 simp only[mX,decide_eq_true_eq]at h;rw[oG,if_neg ⋯,if_neg ⋯]at k⊢;by_cases c:w%2=1/\1<=w/\w<=19999
 ·rw[if_pos c];exact⟨rfl,⋯,⋯,by show(if w= -1 then V.non else ι (w/2))=_;rw[if_neg ⋯]⟩
 ·rw[if_neg c]at k;cases k
theorem OZ{w:Int}(h:mX w=false)(k:(kd (.int w)).isSome=true):∃x,kd (.int w)=some x/\x≠aI "place":=by
 simp only[mX,decide_eq_false_iff_not]at h;rw[oG]at k⊢;by_cases c:w= -1
 ·rw[if_pos c];exact⟨_,rfl,∅⟩
 rw[if_neg c]at k⊢;by_cases c2:w%2=0/\ -2000000000000<=w/\w<=2000000000000
 ·rw[if_pos c2];exact⟨_,rfl,∅⟩
 rw[if_neg c2]at k⊢;rw[if_neg ⋯]at k;cases k
theorem Km{ws ks:List Int}{g j:Nat}:∀k,(j<g∨g+k<=j)->(cp ws ks g k).getD j 0=ws.getD j 0
 |0,_=>rfl
 |k+1,h=>by
  rw[cp,ae,aW,if_neg ⋯,←ae];exact Km k ⋯
theorem Od{ws ks:List Int}{g j:Nat}:∀k,g<=j->j<g+k->j<ws.length->(cp ws ks g k).getD j 0=ks.getD (j-g) 0
 |0,h1,h2,_=>by lia
 |k+1,h1,h2,h3=>by
  rw[cp,ae,aW];by_cases c:g+k=j
  ·rw[if_pos c,if_pos (by rw[uN];lia),←c,show g+k-g=k by clear c;lia];rfl
  ·rw[if_neg c,←ae];exact Od k h1 ⋯ h3
theorem Sn{ws ks:List Int}{g:Nat}(h:jZ ws)(h2:∀x∈ks,(kd (.int x)).isSome=true):∀k,jZ (cp ws ks g k)
 |0=>h
 |k+1=>by
  refine(Sn h h2 k).set ?_;by_cases c:k<ks.length
  ·rw[ae,ab c];exact h2 _ (bc c)
  ·rw[ae,bz ⋯];decide
noncomputable def AI (ws:List Int) (i t:Nat) (k n g:Int):List Int:=((cp ws ((ws.drop i).take k.toNat) t k.toNat).set t (2*(4*(n/4)+g))).set i (2*t+1)
theorem GS{ws:List Int}{i j:Nat}{w:Int}(h:i≠j):(ws.set i w).getD j 0=ws.getD j 0:=by
 rw[ae,aW,if_neg h,←ae]
theorem GR{ws:List Int}{i:Nat}{w:Int}(h:i<ws.length):(ws.set i w).getD i 0=w:=by
 rw[ae,aW,if_pos rfl,if_pos h];rfl
noncomputable def mE (ws:List Int) (a:Int):Int:=ws.getD a.toNat 0
inductive Th where
 |no
 |nu (n:Int)
 |ce (k:Nat)
noncomputable def wd (p:Nat->Option Int):Th->Int
 | .no=> -1
 | .nu n=>2*n
 | .ce k=>2*(p k).getD 0+1
structure Own where
 P:List (Option Int)
 G:List Int
 S:List (List Th)
 D:List Th
noncomputable def Own.p (x:Own) (k:Nat):Option Int:=x.P.getD k none
noncomputable def Own.g (x:Own) (k:Nat):Int:=x.G.getD k 0
noncomputable def Own.s (x:Own) (k:Nat):List Th:=x.S.getD k []
noncomputable def Own.z (x:Own) (k:Nat):Int:=(x.s k).length+1
noncomputable def Own.t (x:Own) (k j:Nat):Th:=(x.s k).getD j .no
structure Mem where
 ws:List Int
 so:S3
 sy:S3
 ss:S3
 hw:List Int
 ks:List Int
 os:List (Option Int)
 ts:List (Option (Int×Int))
 sd:List Int
def oW(z:Nat->Int):Int->List (Nat×Int)->Int->Prop
 |a,[],t=>a=t
 |a,x::r,t=>x.2=a/\oW z (a+z x.1) r t
noncomputable def Io (z:Nat->Int) (l:List (Nat×Int)):Int:=(l.map λx=>z x.1).sum
section
variable{z:Nat->Int}{l l':List (Nat×Int)}{a t:Int}
theorem pS(h:oW z a l t):t=a+Io z l:=by
 induction l generalizing a with
 |nil=>have:a=t:=h;simp[Io,this]
 |cons x r ih=>have:=ih h.2;simp only[Io,aE,bK]at this⊢;lia
theorem pT(hz:∀k,1<=z k)(h:oW z a l t){k:Nat}{q:Int}(m:(k,q)∈l):a<=q/\q+z k<=t:=by
 induction l generalizing a with
 |nil=>cases m
 |cons x r ih=>
  have e:=pS h.2;have pos:0<=Io z r:=by
   clear ih h m e
   induction r with
   |nil=>simp[Io]
   |cons y r ih=>have:=hz y.1;simp only[Io,aE,bK]at ih⊢;lia
  rcases List.mem_cons.mp m with rfl|m
  ·obtain⟨h1,h2⟩:=h;dsimp only at h1 e;lia
  ·have:=ih h.2 m;have:=hz x.1;clear e ih;lia
theorem oH(hz:∀k,1<=z k)(h:oW z a l t){k k':Nat}{q q' i:Int}(m:(k,q)∈l)(m':(k',q')∈l)(h1:q<=i)(h2:i<q+z k)(h3:q'<=i)(h4:i<q'+z k'):k=k'/\q=q':=by
 induction l generalizing a with
 |nil=>cases m
 |cons x r ih=>
  have h0:=h.1;rcases List.mem_cons.mp m with e|m1
  ·rcases List.mem_cons.mp m' with e'|m2
   ·rw[←e]at e';cases e';exact⟨rfl,rfl⟩
   ·have:=pT hz h.2 m2;rw[←e]at this h0;dsimp only at this h0;lia
  ·rcases List.mem_cons.mp m' with e'|m2
   ·have:=pT hz h.2 m1;rw[←e']at this h0;dsimp only at this h0;lia
   ·exact ih h.2 m1 m2
theorem Dz{b:Int}(h:oW z a l b)(h':oW z b l' t):oW z a (l++l') t:=by
 induction l generalizing a with
 |nil=>have:a=b:=h;subst this;exact h'
 |cons x r ih=>exact⟨h.1,ih h.2⟩
theorem wb{k:Nat}(h:oW z a l t):oW z a (l++[(k,t)]) (t+z k):=Dz h ⟨rfl,rfl⟩
theorem FZ{z':Nat->Int}(e:∀x∈l,z' x.1=z x.1)(h:oW z a l t):oW z' a l t:=by
 induction l generalizing a with
 |nil=>exact h
 |cons x r ih=>refine⟨h.1,?_⟩;rw[e x (ax ..)];exact ih (λy hy=>e y (ao _ hy)) h.2
theorem Bu(h:oW z a l t):l.map bN=BE a (l.map λx=>z x.1):=by
 induction l generalizing a with
 |nil=>rfl
 |cons x r ih=>simp only[aE,BE];rw[h.1,ih h.2]
end
theorem Ln{α:Type}{f:α->Int}(hf:∀x,0<=f x):∀m:List α,0<=(m.map f).sum
 | []=>by simp
 |y::r=>by have:=hf y;have:=Ln hf r;rw[aE,bK];lia
theorem PN{α:Type} [DecidableEq α]{f:α->Int}{x:α}:∀{m:List α},x∈m->(m.map f).sum=f x+((m.erase x).map f).sum
 | [],h=>nomatch h
 |y::r,h=>by
  by_cases e:y=x
  ·subst e;rw[List.erase_cons_head,aE,bK]
  ·rw[List.erase_cons_tail (by simpa using e),aE,aE,bK,bK,PN ((List.mem_cons.mp h).resolve_left λz=>e z.symm)];lia
theorem Im{α:Type} [DecidableEq α]{f:α->Int}(hf:∀x,0<=f x):∀{l m:List α},l.Nodup->(∀x∈l,x∈m)->(l.map f).sum<=(m.map f).sum
 | [],m,_,_=>Ln hf m
 |x::l,m,nd,h=>by
  obtain⟨n1,n2⟩:=List.nodup_cons.mp nd;have:=Im hf n2 (m:=m.erase x) λy hy=>(List.mem_erase_of_ne (λe:y=x=>n1 (e▸hy))).mpr (h y (ao _ hy));rw[PN (h x (ax ..)),aE,bK];lia
theorem len_sub{α:Type} [DecidableEq α]{l m:List α}(nd:l.Nodup)(h:∀x∈l,x∈m):l.length<=m.length:=by
 have:=Im (f:=λ_:α=>(1:Int)) (λ_=>by decide) nd h;have e:∀l:List α,(l.map λ_=>(1:Int)).sum=l.length:=λl=>by induction l with|nil=>rfl|cons x r ih=>rw[aE,bK,ih,aF];lia
 rw[e,e]at this;lia
noncomputable def lk:List (Nat×Int)->Nat->Option Int
 | [],_=>none
 |x::r,k=>if x.1=k then some x.2 else lk r k
theorem q_:∀{l:List (Nat×Int)} {k:Nat} {q:Int},lk l k=some q->(k,q)∈l
 | [],_,_,h=>nomatch h
 |x::r,k,q,h=>by
  unfold lk at h;by_cases e:x.1=k
  ·rw[if_pos e]at h;cases h;rw[←e];exact ax ..
  ·rw[if_neg e]at h;exact ao _ (q_ h)
theorem pL:∀{l:List (Nat×Int)} {k:Nat},k∉l.map au->lk l k=none
 | [],_,_=>rfl
 |x::r,k,h=>by
  rw[aE,aP]at h;unfold lk;rw[if_neg λe=>h (.inl e.symm)];exact pL λm=>h (.inr m)
theorem OU:∀{l:List (Nat×Int)} {k:Nat} {q:Int},(l.map au).Nodup->(k,q)∈l->lk l k=some q
 | [],_,_,_,m=>nomatch m
 |x::r,k,q,nd,m=>by
  obtain⟨n1,n2⟩:=List.nodup_cons.mp nd;unfold lk;rcases List.mem_cons.mp m with rfl|m
  ·exact if_pos rfl
  ·rw[if_neg λe:x.1=k=>n1 (by rw[e];exact bu (f:=au) m)];exact OU n2 m
theorem my{l:List (Nat×Int)}{k:Nat}(h:k∈l.map au):∃q,lk l k=some q:=by
 cases e:lk l k with
 |some q=>exact⟨q,rfl⟩
 |none=>
  exfalso
  induction l with
  |nil=>cases h
  |cons x r ih=>
   unfold lk at e;by_cases z:x.1=k
   ·rw[if_pos z]at e;cases e
   ·rw[if_neg z]at e;rw[aE,aP]at h;exact ih (h.resolve_left λy=>z y.symm) e
noncomputable def Cp (c n:Int):Th:=if c%4=0 then .nu (c/4%2000000000001-1000000000000) else if c%4=1∨n=0 then .no else .ce (c/4%n).toNat
noncomputable def cf (ns:List Int) (k j:Nat):Int:=cat ns (14+(5*(k:Int)+j)%22)+3*k
theorem Ls{c n:Int}{i:Nat}(h:Cp c n= .ce i):c%4≠0/\c%4≠1/\n≠0/\i=(c/4%n).toNat:=by
 unfold Cp at h;by_cases z:c%4=0
 ·rw[if_pos z]at h;cases h
 ·rw[if_neg z]at h;by_cases y:c%4=1∨n=0
  ·rw[if_pos y]at h;cases h
  ·rw[if_neg y]at h;rw[not_or]at y;cases h;exact⟨z,y.1,y.2,rfl⟩
theorem UM{c d:Int}{n i:Nat}(h1:Cp c n= .ce i)(h2:Cp (c+3*d) n= .ce i)(d0:0<d)(dn:d<n):False:=by
 obtain⟨a1,a2,a3,a4⟩:=Ls h1;obtain⟨b1,b2,b3,b4⟩:=Ls h2;have p1:=cX (c/4) a3;have p2:=cX ((c+3*d)/4) a3;have e:(c+3*d)/4%(n:Int)=c/4%(n:Int):=by lia
 have e1:=gq (c/4) n;have e2:=gq ((c+3*d)/4) n;have e3:(c+3*d)/4-c/4=n*((c+3*d)/4/n-c/4/n):=by rw[Int.mul_sub];lia
 generalize (c+3*d)/4/n-c/4/n=m at e3;by_cases m0:m<=0
 ·by_cases m1:m=0
  ·subst m1;lia
  ·have:=fj (show m<= -1 by lia) (show(0:Int)<=n by lia);lia
 ·have:=fj (show 1<=m by lia) (show(0:Int)<=n by lia);lia
def Fl(m:Nat)(x:Own):Prop:=∃(ns:List Int) (n:Nat) (B:List (Nat×Nat)),n<=10/\B.length<=m/\∀k j,(k,j)∉B->x.t k j= .no∨(k<n/\x.t k j=Cp (cf ns k j) n)
theorem Fl.mono{m m':Nat}{x:Own}(h:Fl m x)(l:m<=m'):Fl m' x:=by
 obtain⟨ns,n,B,h1,h2,h3⟩:=h;exact⟨ns,n,B,h1,aA h2 l,h3⟩
theorem Fl.of{m:Nat}{x x':Own}(h:Fl m x)(e:∀k j,x'.t k j=x.t k j∨x'.t k j= .no):Fl m x':=by
 obtain⟨ns,n,B,h1,h2,h3⟩:=h;refine⟨ns,n,B,h1,h2,λk j z=> ?_⟩;rcases e k j with e|e
 ·rw[e];exact h3 k j z
 ·exact .inl e
def Gd(x:Own):Th->Prop
 | .no=>True
 | .nu n=> -1000000000000<=n/\n<=1000000000000
 | .ce k=>k<x.G.length/\(x.p k).isSome=true
structure XW(M:Mem):Prop where
 l2:M.ws.length<=200
 ob:M.so.b=0
 o0:0<=M.so.t
 ot:M.so.t<=M.so.e
 hv:(M.sy.b=M.so.e/\M.ss.b=M.sy.e/\M.ss.e=M.ws.length)∨(M.ss.b=M.so.e/\M.sy.b=M.ss.e/\M.sy.e=M.ws.length)
 yw:M.sy.e-M.sy.b=M.ss.e-M.ss.b
 y0:M.sy.b<=M.sy.t
 yt:M.sy.t<=M.sy.e
 st:M.ss.t=M.ss.b
 rm:M.sy.t-M.sy.b<=M.so.e-M.so.t
 Rt:M.so.e<=73
def U5(ws:List Int)(a g:Int)(f:Nat->Int)(n:Nat):Prop:=mE ws a=2*(4*n+g)/\∀j:Nat,j<n->mE ws (a+1+j)=f j
structure In(x:Own)(M:Mem)(O Y:List (Nat×Int)):Prop where
 lp:x.P.length=x.G.length
 ls:x.S.length=x.G.length
 Bz:x.G.length<=20
 ag:∀k,k<x.G.length->0<=x.g k/\x.g k<=2
 s8:∀k,(x.s k).length<=8
 fr:XW M
 wo:jZ M.ws
 oe:∀k a,(k,a)∈O↔k<x.G.length/\x.g k=2/\x.p k=some a
 ye:∀k a,(k,a)∈Y↔k<x.G.length/\x.g k<2/\x.p k=some a
 od:∀k,k<x.G.length->x.g k=2->(x.p k).isSome=true
 lo:oW x.z 0 O M.so.t
 ly:oW x.z M.sy.b Y M.sy.t
 ce:∀k a,(k,a)∈O∨(k,a)∈Y->U5 M.ws a (x.g k) (λj=>wd x.p (x.t k j)) (x.s k).length
 gs:∀k a,(k,a)∈O∨(k,a)∈Y->∀t∈x.s k,Gd x t
 gd:∀t∈x.D,Gd x t
 hd:M.hw=x.D.map (wd x.p)
 d4:1<=x.D.length/\x.D.length<=4
 b1:∀q∈M.ks,∃k a j i,(k,a)∈O/\j<(x.s k).length/\q=a+1+(j:Nat)/\x.t k j= .ce i/\x.g i<2
 b2:∀k a j i,(k,a)∈O->j<(x.s k).length->x.t k j= .ce i->x.g i<2->a+1+(j:Nat)∈M.ks
 kn:M.ks.Nodup
 sep:Fl 10 x
structure CS where
 ws:List Int
 ot:Int
 st:Int
 cs:List Int
noncomputable def pp (x:Own) (F:List (Nat×Int)) (k:Nat):Option Int:=(lk F k).or (x.p k)
def GW(x:Own)(F:List (Nat×Int))(t:Th):Prop:=∀i,t= .ce i->x.g i<2->i∈F.map au
def Vb(x:Own)(F:List (Nat×Int))(Dn:List Int)(ws:List Int)(p:Int)(t:Th):Prop:=(mE ws p=wd x.p t/\p∉Dn)∨(mE ws p=wd (pp x F) t/\GW x F t)
def At(x:Own)(O F:List (Nat×Int))(k:Nat)(a g:Int):Prop:=((k,a)∈O/\g=2)∨((k,a)∈F/\g=x.g k+1)
structure qT(x:Own)(M:Mem)(O Y F:List (Nat×Int))(Dn:List Int)(c:CS):Prop where
 len:c.ws.length=M.ws.length
 wo:jZ c.ws
 cs:c.cs=F.map bN
 fy:∀k,k∈F.map au->∃a,(k,a)∈Y
 fn:(F.map au).Nodup
 lo:oW x.z M.so.t (F.filter λe=>decide (x.g e.1=1)) c.ot
 ls:oW x.z M.ss.b (F.filter λe=>decide (x.g e.1=0)) c.st
 yl:∀k a,(k,a)∈Y->k∉F.map au->U5 c.ws a (x.g k) (λj=>wd x.p (x.t k j)) (x.s k).length
 se:∀k a q,(k,a)∈Y->(k,q)∈F->mE c.ws a=2*q+1
 ce:∀k a g,At x O F k a g->mE c.ws a=2*(4*(x.s k).length+g)/\∀j:Nat,j<(x.s k).length->Vb x F Dn c.ws (a+1+j) (x.t k j)
 dn:∀p∈Dn,∃k a g j,At x O F k a g/\j<(x.s k).length/\p=a+1+(j:Nat)
noncomputable def Iw (x:Own) (F:List Nat):Th->List Nat
 | .ce i=>if x.g i<2/\i∉F then F++[i] else F
 |_=>F
noncomputable def oV (s:S3) (w:Int):Bool:=mX w&&decide (s.b<=w/2/\w/2<=s.t-1)
noncomputable def ki (s:S3) (c:CS) (w:Int):CS:=if oV s w=true then(if mX (mE c.ws (w/2))=true then c else match lQ c.ws (w/2).toNat with
  |some n=>if n%4=0 then⟨AI c.ws (w/2).toNat c.st.toNat (n/4+1) n 1,c.ot,c.st+(n/4+1),c.cs++[c.st]⟩ else⟨AI c.ws (w/2).toNat c.ot.toNat (n/4+1) n 2,c.ot+(n/4+1),c.st,c.cs++[c.ot]⟩
  |none=>c) else c
noncomputable def mZ (s:S3) (c:CS) (w:Int):Int:=if oV s w=true then mE (ki s c w).ws (w/2) else w
structure Qr(M:Mem)(c:CS)(w:Int):Prop where
 kw:(kd (.int w)).isSome=true
 o0:0<=c.ot
 s0:0<=c.st
 yg:oV M.sy w=true->0<=w/2/\w/2<c.ws.length/\(mX (mE c.ws (w/2))=false->∃n,lQ c.ws (w/2).toNat=some n/\(n%4=0->n/4+1<=M.ss.e-c.st/\(w/2<c.st∨c.st+(n/4+1)<=w/2))/\(n%4≠0->n/4+1<=M.so.e-c.ot/\(w/2<c.ot∨c.ot+(n/4+1)<=w/2)))
theorem uu{ws:List Int}{i j w:Int}(h0:0<=i)(h1:0<=j)(h:i≠j):mE (ws.set i.toNat w) j=mE ws j:=GS ⋯
theorem ur{ws:List Int}{i w:Int}(h:i<ws.length)(h0:0<=i):mE (ws.set i.toNat w) i=w:=GR ⋯
theorem GG{ws:List Int}{i t:Nat}{k n g:Int}:(AI ws i t k n g).length=ws.length:=by unfold AI;rw[aN,aN,uN]
theorem Q3{ws:List Int}{i t n g:Int}{m:Nat}(hn:n/4=m)(hi:0<=i)(ht:0<=t)(hl:t+m<ws.length)(hil:i+m<ws.length){p:Int}(hp:0<=p):
  mE (AI ws i.toNat t.toNat (n/4+1) n g) p=if p=i then 2*t+1 else if p=t then 2*(4*m+g) else if t<p/\p<=t+m then mE ws (i+(p-t)) else mE ws p:=by
 unfold AI;by_cases c1:p=i
 ·subst c1;rw[if_pos rfl,ur (by rw[aN,uN];lia) hi];lia
 rw[if_neg c1,uu hi hp (ah c1)];by_cases c2:p=t
 ·subst c2;rw[if_pos rfl,ur (by rw[uN];lia) hp,hn]
 rw[if_neg c2,uu ht hp (ah c2)];unfold mE;by_cases c3:t<p/\p<=t+m
 ·rw[if_pos c3,Od _ ⋯ (by omega) (by omega),ae,List.getElem?_take,if_pos ⋯,gZ,←ae];congr 1;clear c2 c1 hn;lia
 ·rw[if_neg c3,Km _ ⋯]
theorem Ko{ws:List Int}{i t:Nat}{k n g:Int}(h:jZ ws)(n0:0<=n)(n1:n<=34)(g0:0<=g)(g2:g<=2)(t9:t<=9999):jZ (AI ws i t k n g):=by
 unfold AI;refine((Sn h (λw hw=>h w (List.mem_of_mem_drop (List.mem_of_mem_take hw))) _).set ?_).set ?_
 ·rw[oG,if_neg ⋯,if_pos ⋯];rfl
 ·rw[oG,if_neg ⋯,if_neg (by omega),if_pos ⋯];rfl
section
variable{x:Own}{M:Mem}{O Y F:List (Nat×Int)}{Dn:List Int}{c:CS}
theorem Own.z1(x:Own)(k:Nat):1<=x.z k:=by unfold Own.z;lia
theorem OT{k i:Nat}{q:Int}:lk (F++[(k,q)]) i=(lk F i).or (if k=i then some q else none):=by
 induction F with
 |nil=>show(if k=i then some q else none)=_;rfl
 |cons y r ih=>
  show(if y.1=i then some y.2 else lk (r++[(k,q)]) i)=(if y.1=i then some y.2 else lk r i).or _;by_cases e:y.1=i
  ·rw[if_pos e,if_pos e];rfl
  ·rw[if_neg e,if_neg e];exact ih
theorem DW{k:Nat}(h:k∉F.map au):pp x F k=x.p k:=by unfold pp;rw[pL h];rfl
theorem Mm{k:Nat}{q:Int}(nd:(F.map au).Nodup)(h:(k,q)∈F):pp x F k=some q:=by unfold pp;rw[OU nd h];rfl
theorem Uq{k:Nat}{q:Int}(hk:k∉F.map au){t:Th}(yk:x.g k<2)(h:GW x F t):wd (pp x (F++[(k,q)])) t=wd (pp x F) t:=by
 cases t with
 |no=>rfl
 |nu n=>rfl
 |ce i=>
  by_cases e:i=k
  ·subst e;exact absurd (h i rfl yk) hk
  ·show 2*(pp x (F++[(k,q)]) i).getD 0+1=2*(pp x F i).getD 0+1;unfold pp;rw[OT,if_neg (ah e),gv]
theorem GW.mono{F':List (Nat×Int)}{t:Th}(h:GW x F t)(k:∀e∈F,e∈F'):GW x F' t:=λi e y=>by
 obtain⟨z,hz,ez⟩:=List.mem_map.mp (h i e y);exact List.mem_map.mpr ⟨z,k z hz,ez⟩
theorem In.yg(I:In x M O Y){k:Nat}{a:Int}(h:(k,a)∈Y):x.g k=0∨x.g k=1:=by
 obtain⟨h1,h2,_⟩:=(I.ye k a).mp h;have:=I.ag k h1;lia
theorem In.Qi(I:In x M O Y){k:Nat}{a:Int}(h:(k,a)∈Y):M.sy.b<=a/\a+x.z k<=M.sy.t:=pT x.z1 I.ly h
theorem In.O4(I:In x M O Y){k:Nat}{a:Int}(h:(k,a)∈O):0<=a/\a+x.z k<=M.so.t:=pT x.z1 I.lo h
theorem qT.fg(h:qT x M O Y F Dn c)(I:In x M O Y){k:Nat}{q:Int}(m:(k,q)∈F):x.g k=0∨x.g k=1:=by
 obtain⟨a,ha⟩:=h.fy k (bu (f:=au) m);exact I.yg ha
theorem Nu(h:∀e∈F,x.g e.1=0∨x.g e.1=1):Io x.z (F.filter λe=>decide (x.g e.1=1))+Io x.z (F.filter λe=>decide (x.g e.1=0))=Io x.z F:=by
 induction F with
 |nil=>rfl
 |cons y r ih=>
  have:=ih λe he=>h e (ao _ he);unfold Io at this⊢;rcases h y (ax ..) with e|e
  ·rw[bG (by simp[e]),bH (by simp[e])];simp only[aE,bK];lia
  ·rw[bH (by simp[e]),bG (by simp[e])];simp only[aE,bK];lia
theorem qT.rm(h:qT x M O Y F Dn c)(I:In x M O Y){l:List Nat}(nd:(F.map au++l).Nodup)(hl:∀k∈l,∃a,(k,a)∈Y):c.ot-M.so.t+(c.st-M.ss.b)+(l.map x.z).sum<=M.sy.t-M.sy.b:=by
 have e1:=pS h.lo;have e2:=pS h.ls;have e3:=pS I.ly;have e4:=Nu (x:=x) (F:=F) λe he=>h.fg I (k:=e.1) (q:=e.2) he;have e5:=Im (f:=x.z) (λk=>by have:=x.z1 k;lia) nd (m:=Y.map au) λk hk=>by
  rcases List.mem_append.mp hk with hk|hk
  ·obtain⟨a,ha⟩:=h.fy k hk;exact bu (f:=au) ha
  ·obtain⟨a,ha⟩:=hl k hk;exact bu (f:=au) ha
 rw[aB,fS,bj,bj]at e5;have e6:(F.map (x.z∘au)).sum=Io x.z F:=rfl;have e7:(Y.map (x.z∘au)).sum=Io x.z Y:=rfl;lia
theorem qT.Lu(h:qT x M O Y F Dn c)(I:In x M O Y):M.so.t<=c.ot/\c.ot<=M.so.e/\M.ss.b<=c.st/\c.st<=M.ss.e:=by
 have e:=h.rm I (l:=[]) (by rw[aM];exact h.fn) (λ_ z=>nomatch z);have e1:=pS h.lo;have e2:=pS h.ls;have n:∀l:List (Nat×Int),0<=Io x.z l:=λl=>Ln (f:=λe:Nat×Int=>x.z e.1) (λe=>by have:=x.z1 e.1;lia) l;have n1:=n (F.filter λe=>decide (x.g e.1=1));have n2:=n (F.filter λe=>decide (x.g e.1=0));have f:=I.fr;have:=f.rm;have:=f.yw;have:=f.yt;simp only[bZ,fM]at e;lia
theorem qT.VP(h:qT x M O Y F Dn c){k:Nat}{q:Int}(m:(k,q)∈F):(x.g k=1->M.so.t<=q/\q+x.z k<=c.ot)/\(x.g k=0->M.ss.b<=q/\q+x.z k<=c.st):=
 ⟨λe=>pT x.z1 h.lo (List.mem_filter.mpr ⟨m,by simpa using e⟩),λe=>pT x.z1 h.ls (List.mem_filter.mpr ⟨m,by simpa using e⟩)⟩
theorem qT.arg(h:qT x M O Y F Dn c)(I:In x M O Y){k:Nat}{a g:Int}(m:At x O F k a g):0<=a/\((a+x.z k<=c.ot)∨(M.ss.b<=a/\a+x.z k<=c.st))/\a+x.z k<=M.ws.length/\(a+x.z k<=M.sy.b∨M.sy.t<=a):=by
 have t:=h.Lu I;have f:=I.fr;have:=f.hv;have:=f.yw;have:=f.y0;have:=f.yt;have:=f.o0;have:=f.ot;rcases m with ⟨m,_⟩|⟨m,_⟩
 ·have:=I.O4 m;omega
 ·have r:=h.VP m;rcases h.fg I m with e|e
  ·have:=r.2 e;clear e r;omega
  ·have:=r.1 e;lia
theorem qT.UY(h:qT x M O Y F Dn c)(I:In x M O Y){k k':Nat}{a a' g g' i:Int}(m:At x O F k a g)(m':At x O F k' a' g')(h1:a<=i)(h2:i<a+x.z k)(h3:a'<=i)(h4:i<a'+x.z k'):k=k'/\a=a':=by
 have t:=h.Lu I;have f:=I.fr;have:=f.hv;have:=f.yw;have:=f.y0;have:=f.yt;have L:=Dz I.lo h.lo;have mo:∀{k:Nat} {a g:Int},At x O F k a g->((k,a)∈O++F.filter (λe=>decide (x.g e.1=1))/\a+x.z k<=c.ot)∨((k,a)∈F.filter (λe=>decide (x.g e.1=0))/\M.ss.b<=a):=λ{k a g} m=>by
  rcases m with ⟨m,_⟩|⟨m,_⟩
  ·have:=I.O4 m;exact .inl ⟨aQ _ m,⋯⟩
  ·rcases h.fg I m with e|e
   ·exact .inr ⟨List.mem_filter.mpr ⟨m,by simpa using e⟩,((h.VP m).2 e).1⟩
   ·exact .inl ⟨aH _ (List.mem_filter.mpr ⟨m,by simpa using e⟩),((h.VP m).1 e).2⟩
 rcases mo m with ⟨n,b⟩|⟨n,b⟩
 ·rcases mo m' with ⟨n',b'⟩|⟨n',b'⟩
  ·exact oH x.z1 L n n' h1 h2 h3 h4
  ·lia
 ·rcases mo m' with ⟨n',b'⟩|⟨n',b'⟩
  ·lia
  ·exact oH x.z1 h.ls n n' h1 h2 h3 h4
end
section
variable{x:Own}{M:Mem}{O Y F:List (Nat×Int)}{Dn:List Int}{c:CS}
theorem Vb.new{k:Nat}{q p:Int}{ws ws':List Int}{t:Th}(h:Vb x F Dn ws p t)(hk:k∉F.map au)(yk:x.g k<2)(e:mE ws' p=mE ws p):Vb x (F++[(k,q)]) Dn ws' p t:=by
 rcases h with ⟨h1,h2⟩|⟨h1,h2⟩
 ·exact .inl ⟨e.trans h1,h2⟩
 ·exact .inr ⟨by rw[Uq hk yk h2];exact e.trans h1,h2.mono λy hy=>aQ _ hy⟩
theorem At.app{k:Nat}{a g:Int}{l:List (Nat×Int)}(h:At x O F k a g):At x O (F++l) k a g:=h.imp id λ⟨m,e⟩=>⟨aQ _ m,e⟩
theorem qT.copy(h:qT x M O Y F Dn c)(I:In x M O Y){i:Nat}{a t:Int}(hy:(i,a)∈Y)(hi:i∉F.map au)(ht:(x.g i=0/\t=c.st)∨(x.g i=1/\t=c.ot)):
  qT x M O Y (F++[(i,t)]) Dn ⟨AI c.ws a.toNat t.toNat ((4*(x.s i).length+x.g i)/4+1) (4*(x.s i).length+x.g i) (x.g i+1),if x.g i=0 then c.ot else c.ot+x.z i,if x.g i=0 then c.st+x.z i else c.st,c.cs++[t]⟩/\0<=t/\t+x.z i<=M.ws.length/\(t+x.z i<=a∨a+x.z i<=t):=by
 have tp:=h.Lu I;have f:=I.fr;have hv:=f.hv;have yw:=f.yw;have y0:=f.y0;have yt:=f.yt;have o0:=f.o0;have l2:=f.l2;have s8:=I.s8 i;have yr:=I.Qi hy;have gy:=I.yg hy;have rm:=h.rm I (l:=[i]) (List.nodup_append.mpr ⟨h.fn,List.nodup_cons.mpr ⟨aG,bB⟩,λu hu v hv e=>by rw[az]at hv;subst hv;exact hi (e▸hu)⟩) λk hk=>by rw[az]at hk;subst hk;exact⟨a,hy⟩
 simp only[aE,bZ,bK,fM]at rm;have frm:=f.rm;have ez:x.z i=(x.s i).length+1:=rfl;have tb:0<=t/\t+x.z i<=M.ws.length/\(t+x.z i<=a∨a+x.z i<=t)/\(t+x.z i<=M.sy.b∨M.sy.t<=t):=by clear ez gy s8 l2;omega
 obtain⟨t0,tl,ta,ty⟩:=tb;have hn:(4*((x.s i).length:Int)+x.g i)/4=(x.s i).length:=by lia
 have cw:∀{p:Int},0<=p->mE (AI c.ws a.toNat t.toNat ((4*(x.s i).length+x.g i)/4+1) (4*(x.s i).length+x.g i) (x.g i+1)) p=_:=λ{p} hp=>Q3 (ws:=c.ws) (i:=a) (t:=t) (g:=x.g i+1) (m:=(x.s i).length) hn (by clear ez gy s8 l2 y0 yw;omega) t0 (by rw[h.len];lia) (by rw[h.len];clear rm gy s8 yw;omega) hp;have away:∀{p:Int},0<=p->p≠a->(p<t∨t+x.z i<=p)->mE (AI c.ws a.toNat t.toNat ((4*(x.s i).length+x.g i)/4+1) (4*(x.s i).length+x.g i) (x.g i+1)) p=mE c.ws p:=λ{p} hp n d=>by
  rw[cw hp,if_neg n,if_neg ⋯,if_neg ⋯]
 have atA:∀{k:Nat} {b g:Int},At x O F k b g->∀{p:Int},b<=p->p<b+x.z k->mE (AI c.ws a.toNat t.toNat ((4*(x.s i).length+x.g i)/4+1) (4*(x.s i).length+x.g i) (x.g i+1)) p=mE c.ws p:=λ{k b g} m {p} p1 p2=>by
  have:=h.arg I m;exact away ⋯ (by clear s8 yw tp;omega) (by clear hn ty ta tl gy s8 yw;omega)
 have yA:∀{k:Nat} {b:Int},(k,b)∈Y->k≠i->∀{p:Int},b<=p->p<b+x.z k->mE (AI c.ws a.toNat t.toNat ((4*(x.s i).length+x.g i)/4+1) (4*(x.s i).length+x.g i) (x.g i+1)) p=mE c.ws p:=λ{k b} m n {p} p1 p2=>by
  have r:=I.Qi m;exact away (by clear n cw tl ez yw;lia) (λe=>n (oH x.z1 I.ly m hy p1 p2 (i:=p) ⋯ ⋯).1) (by clear t0 ez yw;lia)
 have kz:∀k,((x.s k).length:Int)<x.z k:=λk=>by unfold Own.z;lia
 have i2:x.g i<2:=by lia
 refine⟨⟨?_,?_,?_,?_,?_,?_,?_,?_,?_,?_,?_⟩,t0,tl,ta⟩
 ·show(AI c.ws _ _ _ _ _).length=_;rw[GG];exact h.len
 ·exact Ko h.wo (by clear hn;lia) ⋯ (by clear hn;lia) ⋯ ⋯
 ·show c.cs++[t]=_;rw[h.cs,aB];rfl
 ·intro k hk;rw[aB,cG]at hk;rcases hk with hk|hk
  ·exact h.fy k hk
  ·rw[aE,bZ,az]at hk;subst hk;exact⟨a,hy⟩
 ·rw[aB];exact List.nodup_append.mpr ⟨h.fn,List.nodup_cons.mpr ⟨aG,bB⟩,λu hu v hv e=>by rw[aE,bZ,az]at hv;subst hv;exact hi (e▸hu)⟩
 ·show oW x.z M.so.t ((F++[(i,t)]).filter _) (if x.g i=0 then c.ot else c.ot+x.z i);rw[dk];rcases ht with ⟨e,rfl⟩|⟨e,rfl⟩
  ·rw[if_pos e,bG (by simp[e]),dv,aM];exact h.lo
  ·rw[if_neg ⋯,bH (by simp[e]),dv];exact wb h.lo
 ·show oW x.z M.ss.b ((F++[(i,t)]).filter _) (if x.g i=0 then c.st+x.z i else c.st);rw[dk];rcases ht with ⟨e,rfl⟩|⟨e,rfl⟩
  ·rw[if_pos e,bH (by simp[e]),dv];exact wb h.ls
  ·rw[if_neg ⋯,bG (by simp[e]),dv,aM];exact h.ls
 ·intro k b hb nk;rw[aB,cG,aE,bZ,az,not_or]at nk;obtain⟨e1,e2⟩:=h.yl k b hb nk.1;have:=kz k;exact⟨(yA hb nk.2 (b7 _) ⋯).trans e1,λj hj=>(yA hb nk.2 ⋯ ⋯).trans (e2 j hj)⟩
 ·intro k b q hb hq;rcases List.mem_append.mp hq with hq|hq
  ·have n:k≠i:=λe=>hi (by rw[←e];exact bu (f:=au) hq);have:=kz k;exact(yA hb n (b7 _) ⋯).trans (h.se k b q hb hq)
  ·rw[az]at hq
   cases hq
   have e1:=((I.ye i b).mp hb).2.2;rw[((I.ye i a).mp hy).2.2]at e1
   cases e1
   show mE (AI _ _ _ _ _ _) a=_;rw[cw (by clear cw ez gy s8 l2 y0 yw;omega),if_pos rfl]
 ·intro k b g m;have old:∀{k:Nat} {b g:Int},At x O F k b g->mE (AI c.ws a.toNat t.toNat ((4*(x.s i).length+x.g i)/4+1) (4*(x.s i).length+x.g i) (x.g i+1)) b=2*(4*(x.s k).length+g)/\∀j:Nat,j<(x.s k).length->Vb x (F++[(i,t)]) Dn (AI c.ws a.toNat t.toNat ((4*(x.s i).length+x.g i)/4+1) (4*(x.s i).length+x.g i) (x.g i+1)) (b+1+j) (x.t k j):=λ{k b g} m=>by
   obtain⟨e1,e2⟩:=h.ce k b g m;have:=kz k;exact⟨(atA m (b7 _) ⋯).trans e1,λj hj=>(e2 j hj).new hi i2 (atA m ⋯ ⋯)⟩
  rcases m with m|⟨m,e⟩
  ·exact old (.inl m)
  ·rcases List.mem_append.mp m with m|m
   ·exact old (.inr ⟨m,e⟩)
   ·rw[az]at m
    cases m
    subst e;refine⟨?_,λj hj=> .inl ⟨?_,λz=> ?_⟩⟩
    ·show mE (AI _ _ _ _ _ _) t=_;rw[cw t0,if_neg (by clear ty yw;lia),if_pos rfl]
    ·show mE (AI _ _ _ _ _ _) (t+1+j)=_;rw[cw ⋯,if_neg (by clear hn ty t0 yr;lia),if_neg ⋯,if_pos ⋯,show a+(t+1+(j:Int)-t)=a+1+j by lia];exact(h.yl i a hy hi).2 j hj
    ·obtain⟨k,b,g,j',m,hj',e⟩:=h.dn _ z;have:=h.arg I m;have:=kz k;clear hn ty ta tl t0 gy y0 yw;omega
 ·intro p hp;obtain⟨k,b,g,j,m,hj,e⟩:=h.dn p hp;exact⟨k,b,g,j,m.app,hj,e⟩
theorem sE{q:Int}(h:0<=q):mX (2*q+1)=true:=by simp only[mX,decide_eq_true_eq];lia
theorem GY{q:Int}:mX (2*q)=false:=by simp only[mX,decide_eq_false_iff_not];lia
theorem L6(I:In x M O Y){t:Th}(g:Gd x t)(P:Nat->Option Int)(h:∀k,t= .ce k->0<=(P k).getD 0/\(P k).getD 0<=9999):(kd (.int (wd P t))).isSome=true:=by
 cases t with
 |no=>show(kd (.int (-1))).isSome=true;decide
 |nu n=>obtain⟨g1,g2⟩:=g;show(kd (.int (2*n))).isSome=true;rw[oG,if_neg ⋯,if_pos ⋯];rfl
 |ce k=>have:=h k rfl;show(kd (.int (2*_+1))).isSome=true;rw[oG,if_neg ⋯,if_neg (by omega),if_pos ⋯];rfl
theorem In.cell(I:In x M O Y){k:Nat}(g:Gd x (.ce k)):∃a,x.p k=some a/\((x.g k=2/\(k,a)∈O)∨(x.g k<2/\(k,a)∈Y)):=by
 obtain⟨g1,g2⟩:=g;obtain⟨a,e⟩:=Option.isSome_iff_exists.mp g2;have:=I.ag k g1;by_cases z:x.g k=2
 ·exact⟨a,e,.inl ⟨z,(I.oe k a).mpr ⟨g1,z,e⟩⟩⟩
 ·exact⟨a,e,.inr ⟨⋯,(I.ye k a).mpr ⟨g1,⋯,e⟩⟩⟩
theorem qW{s:S3}{w:Int}(h:mX w=true->w/2<s.b∨s.t<=w/2):oV s w=false:=by
 unfold oV
 cases e:mX w with
 |false=>rfl
 |true=>have:=h e;simp only[eR,decide_eq_false_iff_not];lia
theorem qT.sj(h:qT x M O Y F Dn c){w:Int}(hy:oV M.sy w=false):ki M.sy c w=c/\mZ M.sy c w=w:=by
 unfold mZ ki;rw[hy];exact⟨rfl,rfl⟩
theorem qT.meet(h:qT x M O Y F Dn c)(I:In x M O Y){t:Th}(g:Gd x t){w:Int}(hw:w=wd x.p t∨(w=wd (pp x F) t/\GW x F t)):
  Qr M c w/\(kd (.int (mZ M.sy c w))).isSome=true/\∃l,qT x M O Y (F++l) Dn (ki M.sy c w)/\(F++l).map au=Iw x (F.map au) t/\mZ M.sy c w=wd (pp x (F++l)) t/\GW x (F++l) t:=by
 have tp:=h.Lu I;have f:=I.fr;have hv:=f.hv;have yw:=f.yw;have y0:=f.y0;have yt:=f.yt;have o0:=f.o0;have l2:=f.l2;have hO:0<=c.ot:=by lia
 have hS:0<=c.st:=by lia
 have plain:∀{w:Int},(kd (.int w)).isSome=true->oV M.sy w=false->w=wd (pp x F) t->GW x F t->Iw x (F.map au) t=F.map au->Qr M c w/\(kd (.int (mZ M.sy c w))).isSome=true/\∃l,qT x M O Y (F++l) Dn (ki M.sy c w)/\(F++l).map au=Iw x (F.map au) t/\mZ M.sy c w=wd (pp x (F++l)) t/\GW x (F++l) t:=λ{w} k y e i v=>by
  obtain⟨s1,s2⟩:=h.sj y;refine⟨⟨k,hO,hS,λz=>by rw[y]at z;cases z⟩,by rw[s2];exact k,[],?_⟩;rw[aM,s1,s2,v];exact⟨h,rfl,e,i⟩
 cases t with
 |no=>
  have e:w= -1:=by rcases hw with e|⟨e,_⟩<;>exact e
  subst e;exact plain (by decide) (qW λz=>absurd z (by decide)) rfl (λi z=>nomatch z) rfl
 |nu n=>
  have e:w=2*n:=by rcases hw with e|⟨e,_⟩<;>exact e
  subst e;exact plain (L6 I g x.p (λk z=>nomatch z)) (qW (by rw[GY];intro z;cases z)) rfl (λi z=>nomatch z) rfl
 |ce i=>
  obtain⟨a,ea,⟨gi,m⟩|⟨gi,m⟩⟩:=I.cell g
  ·
   have ni:i∉F.map au:=λz=>by obtain⟨b,hb⟩:=h.fy i z;have:=((I.ye i b).mp hb).2.1;lia
   have r:=I.O4 m;have z1:=x.z1 i;have e:w=2*a+1:=by
    rcases hw with e|⟨e,_⟩
    ·rw[e];show 2*(x.p i).getD 0+1=_;rw[ea];rfl
    ·rw[e];show 2*(pp x F i).getD 0+1=_;rw[DW ni,ea];rfl
   subst e;refine plain (by rw[oG,if_neg ⋯,if_neg ⋯,if_pos ⋯];rfl) (qW λ_=>by rw[show(2*a+1)/2=a by lia];clear gi hS l2 yt y0 yw;omega) ?_ (λj z y=>by cases z;lia) ?_
   ·show _=2*(pp x F i).getD 0+1;rw[DW ni,ea];rfl
   ·show(if x.g i<2/\_ then _ else _)=_;rw[if_neg ⋯]
  ·have r:=I.Qi m;have z1:=x.z1 i;by_cases hi:i∈F.map au
   ·
    obtain⟨q,hq⟩:=my hi;have mq:=q_ hq;have ep:pp x F i=some q:=Mm h.fn mq;have rq:=h.arg I (k:=i) (a:=q) (g:=x.g i+1) (.inr ⟨mq,rfl⟩);have vs:Iw x (F.map au) (.ce i)=F.map au:=by show(if _/\i∉_ then _ else _)=_;rw[if_neg λz=>z.2 hi]
    have inf:GW x F (.ce i):=λj z _=>by cases z;exact hi
    have ew:wd (pp x F) (.ce i)=2*q+1:=by show 2*(pp x F i).getD 0+1=_;rw[ep];rfl
    have kq:(kd (.int (2*q+1))).isSome=true:=by rw[oG,if_neg (by omega),if_neg ⋯,if_pos ⋯];rfl
    by_cases e0:w=2*q+1
    ·subst e0;exact plain kq (qW λ_=>by rw[show(2*q+1)/2=q by lia];clear hw ew r gi l2 yw tp;omega) ew.symm inf vs
    ·have e:w=2*a+1:=by
      rcases hw with e|⟨e,_⟩
      ·rw[e];show 2*(x.p i).getD 0+1=_;rw[ea];rfl
      ·exact absurd (e.trans ew) e0
     subst e;have e2:(2*a+1)/2=a:=by lia
     have hyg:oV M.sy (2*a+1)=true:=by unfold oV;rw[sE (by clear hw ew rq gi y0 yw;lia),e2];simp only[eR,decide_eq_true_eq];clear y0 yw;lia
     have es:=h.se i a q m mq;have ip:mX (mE c.ws a)=true:=by rw[es];exact sE ⋯
     have mc:ki M.sy c (2*a+1)=c:=by unfold ki;rw[hyg,if_pos rfl,e2,if_pos ip]
     have mw:mZ M.sy c (2*a+1)=2*q+1:=by unfold mZ;rw[hyg,if_pos rfl,mc,e2];exact es
     refine⟨⟨by rw[oG,if_neg (by clear e0 hw ew rq gi y0 yw;lia),if_neg ⋯,if_pos (by clear mw es e2 e0 hw ew rq gi o0 yw;lia)];rfl,hO,hS,λ_=>⟨by clear hw ew rq z1 l2 o0 yw;lia,by rw[h.len];clear rq gi l2 yw;lia,λz=>by rw[e2,ip]at z;cases z⟩⟩,by rw[mw];exact kq,[],?_⟩;rw[aM,mc,mw,vs];exact⟨h,rfl,ew.symm,inf⟩
   ·
    have e:w=2*a+1:=by
     rcases hw with e|⟨_,e⟩
     ·rw[e];show 2*(x.p i).getD 0+1=_;rw[ea];rfl
     ·exact absurd (e i rfl gi) hi
    subst e;have e2:(2*a+1)/2=a:=by lia
    have hyg:oV M.sy (2*a+1)=true:=by unfold oV;rw[sE (by clear hw gi y0 yw;lia),e2];simp only[eR,decide_eq_true_eq];clear yw;lia
    obtain⟨hc,_⟩:=h.yl i a m hi;have gy:=I.yg m;have s8:=I.s8 i;have ez:x.z i=(x.s i).length+1:=rfl;have ip:mX (mE c.ws a)=false:=by rw[hc];exact GY
    have cn:lQ c.ws a.toNat=some (4*(x.s i).length+x.g i):=by
     rw[oC,show c.ws.getD a.toNat 0=mE c.ws a from rfl,hc,h.len,if_pos (by clear hc e2 hw hS o0 yw;omega)];congr 1;clear ez;lia
    have vs:Iw x (F.map au) (.ce i)=F.map au++[i]:=by show(if _/\i∉_ then _ else _)=_;rw[if_pos ⟨gi,hi⟩]
    have n4:(4*((x.s i).length:Int)+x.g i)%4=x.g i:=by clear ez gi tp;lia
    have n5:(4*((x.s i).length:Int)+x.g i)/4+1=x.z i:=by lia
    have fin:∀{t:Int} {C:CS},ki M.sy c (2*a+1)=C->C=⟨AI c.ws a.toNat t.toNat ((4*(x.s i).length+x.g i)/4+1) (4*(x.s i).length+x.g i) (x.g i+1),if x.g i=0 then c.ot else c.ot+x.z i,if x.g i=0 then c.st+x.z i else c.st,c.cs++[t]⟩->((x.g i=0/\t=c.st)∨(x.g i=1/\t=c.ot))->
      Qr M c (2*a+1)/\(kd (.int (mZ M.sy c (2*a+1)))).isSome=true/\∃l,qT x M O Y (F++l) Dn (ki M.sy c (2*a+1))/\(F++l).map au=Iw x (F.map au) (.ce i)/\mZ M.sy c (2*a+1)=wd (pp x (F++l)) (.ce i)/\GW x (F++l) (.ce i):=λ{t C} mc eC ht=>by
     subst eC;obtain⟨md,t0,tl,ta⟩:=h.copy I m hi ht;have mw:mZ M.sy c (2*a+1)=2*t+1:=by
      unfold mZ;rw[hyg,if_pos rfl,mc,e2];exact md.se i a t m (aH _ (List.mem_singleton.mpr rfl))
     have rm:=h.rm I (l:=[i]) (List.nodup_append.mpr ⟨h.fn,List.nodup_cons.mpr ⟨aG,bB⟩,λu hu v hv e=>by rw[az]at hv;subst hv;exact hi (e▸hu)⟩) λk hk=>by rw[az]at hk;subst hk;exact⟨a,m⟩
     simp only[aE,bZ,bK,fM]at rm;have frm:=f.rm;refine⟨⟨by rw[oG,if_neg (by clear rm z1 gi y0 yw;lia),if_neg ⋯,if_pos (by clear rm tl hw gi hS yw;lia)];rfl,hO,hS,λ_=>⟨by clear rm z1 gi l2 yw;lia,by rw[h.len];clear rm tl hw gi l2 yw;lia,λ_=>⟨_,by rw[e2];exact cn,λz=> ?_,λz=> ?_⟩⟩⟩,?_,[(i,t)],?_,?_,?_,?_⟩
     ·rw[n5,e2];clear t0 mc z1;lia
     ·rw[n5,e2];clear gy z1 y0 yw;lia
     ·rw[mw,oG,if_neg ⋯,if_neg ⋯,if_pos ⋯];rfl
     ·rw[mc];exact md
     ·rw[vs,aB];rfl
     ·rw[mw];show _=2*(pp x (F++[(i,t)]) i).getD 0+1;rw[Mm md.fn (aH _ (List.mem_singleton.mpr rfl))];rfl
     ·intro j z _;cases z;rw[aB];exact aH _ (List.mem_singleton.mpr rfl)
    have mc0:ki M.sy c (2*a+1)=if (4*((x.s i).length:Int)+x.g i)%4=0 then⟨AI c.ws a.toNat c.st.toNat ((4*(x.s i).length+x.g i)/4+1) (4*(x.s i).length+x.g i) 1,c.ot,c.st+((4*(x.s i).length+x.g i)/4+1),c.cs++[c.st]⟩ else⟨AI c.ws a.toNat c.ot.toNat ((4*(x.s i).length+x.g i)/4+1) (4*(x.s i).length+x.g i) 2,c.ot+((4*(x.s i).length+x.g i)/4+1),c.st,c.cs++[c.ot]⟩:=by
     unfold ki;rw[hyg,if_pos rfl,e2,if_neg (by rw[ip];intro z;cases z),cn]
    rcases gy with e|e
    ·refine fin (t:=c.st) (mc0.trans (if_pos ⋯)) ?_ (.inl ⟨e,rfl⟩);rw[if_pos e,if_pos e,n5,e];rfl
    ·refine fin (t:=c.ot) (mc0.trans (if_neg ⋯)) ?_ (.inr ⟨e,rfl⟩);rw[if_neg ⋯,if_neg ⋯,n5,e];rfl
theorem Own.tm{k j:Nat}(h:j<(x.s k).length):x.t k j∈x.s k:=by
 unfold Own.t;rw[ae,ab h];exact bc h
theorem qT.gd(h:qT x M O Y F Dn c)(I:In x M O Y){k:Nat}{a g:Int}(m:At x O F k a g){j:Nat}(hj:j<(x.s k).length):Gd x (x.t k j):=by
 rcases m with ⟨m,_⟩|⟨m,_⟩
 ·exact I.gs k a (.inl m) _ (x.tm hj)
 ·obtain⟨b,hb⟩:=h.fy k (bu (f:=au) m);exact I.gs k b (.inr hb) _ (x.tm hj)
theorem qT.slot(h:qT x M O Y F Dn c)(I:In x M O Y){k:Nat}{a g:Int}(m:At x O F k a g){j:Nat}(hj:j<(x.s k).length){w W:Int}(hw:mE c.ws (a+1+j)=w)(hW:mZ M.sy c w=W):
  Qr M c w/\(kd (.int W)).isSome=true/\0<=a+1+j/\a+1+j<M.ws.length/\∃l,qT x M O Y (F++l) ((a+1+j)::Dn) {ki M.sy c w with ws:=(ki M.sy c w).ws.set (a+1+(j:Int)).toNat W}/\(F++l).map au=Iw x (F.map au) (x.t k j):=by
 have ar:=h.arg I m;have ez:x.z k=(x.s k).length+1:=rfl;obtain⟨m1,m2,l,md,e1,e2,e3⟩:=h.meet I (h.gd I m hj) (w:=w) (by rcases (h.ce k a g m).2 j hj with z|z;exact .inl (hw▸z.1);exact .inr ⟨hw▸z.1,z.2⟩);rw[hW]at m2 e2;refine⟨m1,m2,⋯,by omega,l,?_,e1⟩;have ml:At x O (F++l) k a g:=m.app;have kz:∀k,((x.s k).length:Int)<x.z k:=λk=>by unfold Own.z;lia
 have ne:∀{p:Int},0<=p->p≠a+1+j->mE ((ki M.sy c w).ws.set (a+1+(j:Int)).toNat W) p=mE (ki M.sy c w).ws p:=λ{p} p0 n=>uu ⋯ p0 (ah n);refine⟨?_,md.wo.set m2,md.cs,md.fy,md.fn,md.lo,md.ls,λk' b hb nk=> ?_,λk' b q hb hq=> ?_,λk' b g' m'=> ?_,λp hp=> ?_⟩
 ·show((ki M.sy c w).ws.set _ W).length=_;rw[aN];exact md.len
 ·obtain⟨c1,c2⟩:=md.yl k' b hb nk;have r:=I.Qi hb;have:=kz k';have f:=I.fr;have:=f.hv;have:=f.ot;have:=f.o0;have:=f.yw;have:=f.y0;have:=f.yt;exact⟨(ne (by clear ez ar;lia) ⋯).trans c1,λi hi=>(ne (by clear ar;lia) ⋯).trans (c2 i hi)⟩
 ·have r:=I.Qi hb;have:=kz k';have f:=I.fr;have:=f.hv;have:=f.ot;have:=f.o0;have:=f.yw;have:=f.y0;have:=f.yt;exact(ne (by clear ez ar;lia) ⋯).trans (md.se k' b q hb hq)
 ·obtain⟨c1,c2⟩:=md.ce k' b g' m';have r:=md.arg I m';have:=kz k';refine⟨(ne ⋯ λe=> ?_).trans c1,λi hi=> ?_⟩
  ·have d:=md.UY I m' ml (i:=b) (b7 _) ⋯ ⋯ ⋯;lia
  ·by_cases e:b+1+(i:Int)=a+1+j
   ·have d:=md.UY I m' ml (i:=b+1+i) (by clear e;lia) (by clear e;lia) ⋯ ⋯;obtain⟨rfl,rfl⟩:=d;have:i=j:=by lia
    subst this;refine .inr ⟨?_,e3⟩;show mE ((ki M.sy c w).ws.set _ W) _=_;rw[ur (by rw[md.len];lia) ⋯];exact e2
   ·have ew:=ne (p:=b+1+i) ⋯ e;rcases c2 i hi with ⟨z1,z2⟩|⟨z1,z2⟩
    ·exact .inl ⟨ew.trans z1,λz=>(List.mem_cons.mp z).elim e z2⟩
    ·exact .inr ⟨ew.trans z1,z2⟩
 ·rcases List.mem_cons.mp hp with rfl|hp
  ·exact⟨k,a,g,j,ml,hj,rfl⟩
  ·exact md.dn p hp
end
theorem Lm{α:Type}{f:α->Int}:∀{l m:List α},(l.map f).Pairwise (·<·)->(m.map f).Pairwise (·<·)->(∀y,y∈l↔y∈m)->l=m
 | [],m,_,_,h=>by cases m with|nil=>rfl|cons y r=>exact absurd ((h y).mpr (ax ..)) aG
 |x::l,[],_,_,h=>absurd ((h x).mp (ax ..)) aG
 |x::l,y::m,hl,hm,h=>by
  rw[aE,dM]at hl hm;have lo:∀z∈l,f x<f z:=λz hz=>hl.1 _ (bu hz);have mo:∀z∈m,f y<f z:=λz hz=>hm.1 _ (bu hz);have e:x=y:=by
   rcases List.mem_cons.mp ((h x).mp (ax ..)) with e|e
   ·exact e
   ·rcases List.mem_cons.mp ((h y).mpr (ax ..)) with e'|e'
    ·exact e'.symm
    ·have:=mo x e;have:=lo y e';lia
  subst e;rw[Lm hl.2 hm.2 λz=>⟨λhz=> ?_,λhz=> ?_⟩]
  ·rcases List.mem_cons.mp ((h z).mp (ao _ hz)) with e|e
   ·subst e;have:=lo z hz;lia
   ·exact e
  ·rcases List.mem_cons.mp ((h z).mpr (ao _ hz)) with e|e
   ·subst e;have:=mo z hz;lia
   ·exact e
theorem uU:∀{l:List Int},l.Pairwise (·<=·)->l.Nodup->l.Pairwise (·<·)
 | [],_,_=> .nil
 |x::l,h,nd=>by
  rw[dM]at h;obtain⟨n1,n2⟩:=List.nodup_cons.mp nd;exact List.pairwise_cons.mpr ⟨λy hy=>by have:=h.1 y hy;have:x≠y:=λe=>n1 (e▸hy);lia,uU h.2 n2⟩
noncomputable def pJ (x:Own) (F:List Nat) (ts:List Th):List Nat:=ts.foldl (Iw x) F
noncomputable def GZ (x:Own):Th->Bool
 | .ce i=>decide (x.g i<2)
 |_=>false
theorem Lx{x:Own}:∀{ts:List Th} {F:List Nat},pJ x F (ts.filter (GZ x))=pJ x F ts
 | [],_=>rfl
 |t::r,F=>by
  cases e:GZ x t with
  |true=>rw[bH e];exact Lx (ts:=r) (F:=Iw x F t)
  |false=>
   rw[bG (by rw[e];intro z;cases z)]
   have:Iw x F t=F:=by
    cases t with
    |no=>rfl
    |nu n=>rfl
    |ce i=>have:=of_decide_eq_false e;show(if _/\_ then _ else _)=_;rw[if_neg λz=>this z.1]
   show _=pJ x (Iw x F t) r;rw[this];exact Lx
noncomputable def ML (x:Own):Nat->List Nat->Nat->List Nat
 |0,F,_=>F
 |n+1,F,t=>if t<F.length then ML x n (pJ x F (x.s (F.getD t 0))) (t+1) else F
noncomputable def U0 (x:Own) (O:List (Nat×Int)):List Th:=x.D++O.flatMap λe=>x.s e.1
noncomputable def ord (x:Own) (O:List (Nat×Int)):List Nat:=ML x 21 (pJ x [] (U0 x O)) 0
section
variable{x:Own}{M:Mem}{O Y F:List (Nat×Int)}{Dn:List Int}{c:CS}
noncomputable def qQ (x:Own) (e:Nat×Int):List Int:=(bh (x.s e.1).length).map λj:Nat=>e.2+1+j
noncomputable def Sf (x:Own):List (Nat×Int)->Int->Th
 | [],_=> .no
 |e::r,p=>if e.2<p/\p<e.2+x.z e.1 then x.t e.1 (p-e.2-1).toNat else Sf x r p
theorem Iu{a b:Int}(h:oW x.z a O b){k:Nat}{q:Int}(m:(k,q)∈O){j:Nat}(hj:j<(x.s k).length):Sf x O (q+1+j)=x.t k j:=by
 induction O generalizing a with
 |nil=>cases m
 |cons e r ih=>
  have ez:x.z k=(x.s k).length+1:=rfl;unfold Sf;by_cases z:e.2<q+1+j/\q+1+j<e.2+x.z e.1
  ·rw[if_pos z];obtain⟨rfl,rfl⟩:=oH x.z1 h (k:=e.1) (q:=e.2) (ax ..) m (i:=q+1+j) ⋯ (by omega) ⋯ ⋯;congr 1;lia
  ·rw[if_neg z];rcases List.mem_cons.mp m with e'|m
   ·subst e';exact absurd (show q<q+1+(j:Int)/\q+1+(j:Int)<q+x.z k by omega) z
   ·exact ih h.2 m
theorem VZ(k:Nat):(bh (x.s k).length).map (λj=>x.t k j)=x.s k:=by
 refine List.ext_getElem (by simp) λi h1 h2=> ?_;rw[de,List.getElem_range];unfold Own.t;rw[ae,ab h2];rfl
theorem PJ{a b:Int}(h:oW x.z a O b):∀{R:List (Nat×Int)},(∀e∈R,e∈O)->(R.flatMap (qQ x)).map (Sf x O)=R.flatMap λe=>x.s e.1
 | [],_=>rfl
 |e::r,s=>by
  rw[dB,dB,aB,PJ h λy hy=>s y (ao _ hy)];congr 1;unfold qQ;rw[bj];refine(bt λj hj=> ?_).trans (VZ e.1);exact Iu h (k:=e.1) (q:=e.2) (s e (ax ..)) (List.mem_range.mp hj)
theorem R7{a b:Int}(h:oW x.z a O b):(O.flatMap (qQ x)).Pairwise (·<·)/\∀p∈O.flatMap (qQ x),a<=p:=by
 induction O generalizing a with
 |nil=>exact⟨.nil,λ_ z=>nomatch z⟩
 |cons e r ih=>
  obtain⟨i1,i2⟩:=ih h.2;have h1:=h.1;have z1:x.z e.1=(x.s e.1).length+1:=rfl;have mm:∀p∈qQ x e,a<p/\p<a+x.z e.1:=λp hp=>by
   obtain⟨j,hj,rfl⟩:=List.mem_map.mp hp;have:=List.mem_range.mp hj;omega
  rw[dB];refine⟨List.pairwise_append.mpr ⟨?_,i1,λp hp q hq=> ?_⟩,λp hp=> ?_⟩
  ·unfold qQ;rw[List.pairwise_map];exact ia (λ{i j} (z:i<j)=>by lia) List.pairwise_lt_range
  ·have:=mm p hp;have:=i2 q hq;clear mm z1;lia
  ·rcases List.mem_append.mp hp with hp|hp
   ·have:=mm p hp;lia
   ·have:=i2 p hp;lia
theorem sO{e:Nat×Int}{p:Int}:p∈qQ x e↔∃j,j<(x.s e.1).length/\p=e.2+1+(j:Nat):=by
 unfold qQ;rw[g_];exact⟨λ⟨j,h,e⟩=>⟨j,List.mem_range.mp h,e.symm⟩,λ⟨j,h,e⟩=>⟨j,List.mem_range.mpr h,e.symm⟩⟩
theorem In.bk(I:In x M O Y):kC M.ks=(O.flatMap (qQ x)).filter λp=>GZ x (Sf x O p):=by
 have s2:=(R7 I.lo).1;have nd:(kC M.ks).Nodup:=(mM M.ks).nodup_iff.mpr I.kn;refine Lm (f:=id) (by rw[fA];exact uU (sF _) nd) (by rw[fA];exact s2.filter _) λp=> ?_;rw[(mM M.ks).mem_iff,iI,iz];constructor
 ·intro hp;obtain⟨k,a,j,i,m,hj,rfl,et,gi⟩:=I.b1 p hp;refine⟨⟨(k,a),m,sO.mpr ⟨j,hj,rfl⟩⟩,?_⟩;rw[Iu I.lo m hj,et];exact decide_eq_true gi
 ·rintro⟨⟨e,m,hp⟩,y⟩;obtain⟨j,hj,rfl⟩:=sO.mp hp;rw[Iu I.lo (k:=e.1) (q:=e.2) m hj]at y
  cases et:x.t e.1 j with
  |no=>rw[et]at y;cases y
  |nu n=>rw[et]at y;cases y
  |ce i=>rw[et]at y;exact I.b2 e.1 e.2 j i m hj et (of_decide_eq_true y)
theorem In.start(I:In x M O Y):pJ x (pJ x [] x.D) ((kC M.ks).map (Sf x O))=pJ x [] (U0 x O):=by
 rw[I.bk,show(λp=>GZ x (Sf x O p))=GZ x∘Sf x O from rfl,←du,Lx,PJ I.lo λe h=>h];unfold U0 pJ;rw[ic]
theorem L_{z:Nat->Int}(hz:∀k,1<=z k):∀{l:List (Nat×Int)} {a b:Int},oW z a l b->(∀k q q',(k,q)∈l->(k,q')∈l->q=q')->(l.map au).Nodup
 | [],_,_,_,_=>bB
 |e::r,a,b,h,f=>by
  refine List.nodup_cons.mpr ⟨λm=> ?_,L_ hz h.2 λk q q' m m'=>f k q q' (ao _ m) (ao _ m')⟩;obtain⟨y,hy,ey⟩:=List.mem_map.mp m;have r:=pT hz h.2 (k:=y.1) (q:=y.2) hy;have:=f e.1 e.2 y.2 (ax ..) (by rw[←ey];exact ao _ hy);have:=hz e.1;have:=h.1;lia
theorem In.Ya(I:In x M O Y):(O.map au).Nodup:=L_ x.z1 I.lo λk q q' m m'=>by
 have e:=((I.oe k q).mp m).2.2;rw[((I.oe k q').mp m').2.2]at e
 cases e;rfl
theorem UD{α:Type} [DecidableEq α]{l m:List α}(nd:l.Nodup)(h:∀y∈l,y∈m)(g:m.length<=l.length):∀y∈m,y∈l:=λy hy=>by
 by_cases z:y∈l
 ·exact z
 ·have:=len_sub (l:=y::l) (m:=m) (List.nodup_cons.mpr ⟨z,nd⟩) λu hu=>by
   rcases List.mem_cons.mp hu with rfl|hu
   ·exact hy
   ·exact h u hu
  rw[aF]at this;lia
theorem DL{α β:Type}{f:α->β}:∀{l:List α},l.Nodup->(∀a∈l,∀b∈l,f a=f b->a=b)->(l.map f).Nodup
 | [],_,_=>bB
 |a::r,nd,h=>by
  obtain⟨n1,n2⟩:=List.nodup_cons.mp nd;refine List.nodup_cons.mpr ⟨λm=> ?_,DL n2 λa ha b hb=>h a (ao _ ha) b (ao _ hb)⟩;obtain⟨b,hb,e⟩:=List.mem_map.mp m;exact n1 (h a (ax ..) b (ao _ hb) e.symm▸hb)
theorem CU(s8:∀k,(x.s k).length<=8):∀R:List (Nat×Int),((R.flatMap (qQ x)).length:Int)+R.length=Io x.z R/\(R.flatMap (qQ x)).length<=8*R.length/\((R.flatMap (qQ x)).length=8*R.length->∀e∈R,(x.s e.1).length=8)
 | []=>⟨rfl,aq _,λ_ _ z=>nomatch z⟩
 |e::r=>by
  obtain⟨h1,h2,h3⟩:=CU s8 r;have l:(qQ x e).length=(x.s e.1).length:=by unfold qQ;rw[aa,bI]
  have:=s8 e.1;have ez:x.z e.1=(x.s e.1).length+1:=rfl;have es:Io x.z (e::r)=x.z e.1+Io x.z r:=by unfold Io;rw[aE,bK]
  rw[dB,aj,l,aF,es];refine⟨⋯,⋯,λz y hy=> ?_⟩;rcases List.mem_cons.mp hy with rfl|hy
  ·lia
  ·exact h3 ⋯ y hy
theorem In.Rj(I:In x M O Y):M.ks.length<64:=by
 refine Nat.lt_of_not_le λbig=> ?_;have f:=I.fr;have f1:=f.rm;have f2:=f.Rt;have sub:∀p∈M.ks,p∈O.flatMap (qQ x):=λp hp=>by
  obtain⟨k,a,j,i,m,hj,rfl,_⟩:=I.b1 p hp;exact List.mem_flatMap.mpr ⟨_,m,sO.mpr ⟨j,hj,rfl⟩⟩
 have n1:=len_sub I.kn sub;obtain⟨h1,h2,h3⟩:=CU I.s8 O;have e1:=pS I.lo;have e2:=pS I.ly;have yl:∀l:List (Nat×Int),(l.length:Int)<=Io x.z l:=λl=>by
  induction l with
  |nil=>exact b7 _
  |cons y r ih=>have:=x.z1 y.1;unfold Io at ih⊢;rw[aE,bK,aF];lia
 have y1:=yl Y;have oV:∀{k j i:Nat} {a:Int},(k,a)∈O->j<(x.s k).length->x.t k j= .ce i->x.g i<2->∃b,(i,b)∈Y:=λ{k j i a} m hj et gi=>by
  have g:=I.gs k a (.inl m) _ (x.tm hj);rw[et]at g;obtain⟨b,_,⟨z,_⟩|⟨_,z⟩⟩:=I.cell g
  ·lia
  ·exact⟨b,z⟩
 obtain⟨p0,hp0⟩:=fk (show 0<M.ks.length by lia);obtain⟨k0,a0,j0,i0,m0,hj0,_,et0,gi0⟩:=I.b1 p0 hp0;obtain⟨b0,hb0⟩:=oV m0 hj0 et0 gi0;have y0:=fZ hb0;have o8:O.length=8:=by lia
 have y1:Y.length=1:=by lia
 have only:∀{i:Nat} {b:Int},(i,b)∈Y->i=i0:=λ{i b} m=>by
  obtain⟨y,rfl⟩:=List.length_eq_one_iff.mp y1;rw[az]at m hb0;rw[←hb0]at m;cases m;rfl
 have all:=UD I.kn sub (by clear e1;lia);have each:∀{k:Nat} {a:Int},(k,a)∈O->∀{j:Nat},j<8->x.t k j= .ce i0:=λ{k a} m {j} hj=>by
  have l8:=h3 (by clear e1;lia) _ m;dsimp only at l8;obtain⟨k',a',j',i',m',hj',e,et,gi⟩:=I.b1 _ (all (a+1+j) (List.mem_flatMap.mpr ⟨_,m,sO.mpr ⟨j,by dsimp only;lia,rfl⟩⟩));obtain⟨rfl,rfl⟩:=oH x.z1 I.lo m m' (i:=a+1+j) ⋯ (by unfold Own.z;lia) ⋯ (by unfold Own.z;lia);have:j=j':=by lia
  subst this;obtain⟨b,hb⟩:=oV m' hj' et gi;rw[et,only hb]
 obtain⟨ns,n,B,_,bl,hB⟩:=I.sep;have hk:∀e∈(O.map au).flatMap (λk=>(bh 8).map λj=>(k,j)),e.2<8/\x.t e.1 e.2= .ce i0:=λe m=>by
  obtain⟨k,m1,m2⟩:=List.mem_flatMap.mp m;obtain⟨y,hy,rfl⟩:=List.mem_map.mp m1;obtain⟨j,hj,rfl⟩:=List.mem_map.mp m2;have hj:=List.mem_range.mp hj;exact⟨hj,each (a:=y.2) hy hj⟩
 have nd:((O.map au).flatMap (λk=>(bh 8).map λj=>(k,j))).Nodup:=List.pairwise_flatMap.mpr ⟨λk _=>DL iA λa _ b _ e=>(iV e).2,ia (λ{k k'} z e he e' he' q=>by
  obtain⟨_,_,rfl⟩:=List.mem_map.mp he;obtain⟨_,_,rfl⟩:=List.mem_map.mp he';exact z (iV q).1) I.Ya⟩
 have ln:∀l:List Nat,(l.flatMap (λk=>(bh 8).map λj=>(k,j))).length=8*l.length:=λl=>by
  induction l with
  |nil=>rfl
  |cons y r ih=>rw[dB,aj,ih,aa,bI,aF];lia
 have l1:=ln (O.map au);generalize (O.map au).flatMap (λk=>(bh 8).map λj=>(k,j))=L at*;have n2:=len_sub nd (m:=L.filter (λe=>decide (e∉B))++B) λe he=>by
  by_cases z:e∈B
  ·exact aH _ z
  ·exact aQ _ (List.mem_filter.mpr ⟨he,decide_eq_true z⟩)
 have g:∀e∈L.filter (λe=>decide (e∉B)),e.2<8/\e.1<n/\Cp (cf ns e.1 e.2) n= .ce i0:=λe he=>by
  obtain⟨h1,h2⟩:=List.mem_filter.mp he;obtain⟨q1,q2⟩:=hk e h1;rcases hB e.1 e.2 (of_decide_eq_true h2) with z|⟨z1,z2⟩
  ·rw[z]at q2;cases q2
  ·exact⟨q1,z1,by rw[←z2];exact q2⟩
 have st:∀{a b:Nat×Nat},Cp (cf ns a.1 a.2) n= .ce i0->Cp (cf ns b.1 b.2) n= .ce i0->(5*a.1+a.2)%22=(5*b.1+b.2)%22->b.1<n->a.1<b.1->False:=λ{a b} ha hb e hn lt=>by
  refine UM (c:=cf ns a.1 a.2) (d:=b.1-a.1) ha ?_ ⋯ ⋯;rw[show cf ns a.1 a.2+3*((b.1:Int)-a.1)=cf ns b.1 b.2 by unfold cf;rw[show(5*(b.1:Int)+b.2)%22=(5*(a.1:Int)+a.2)%22 by lia];lia];exact hb
 have nd2:=DL (f:=λe:Nat×Nat=>(5*e.1+e.2)%22) (eX (λe=>decide (e∉B)) nd) λa ha b hb e=>by
  obtain⟨a8,an,ea⟩:=g a ha;obtain⟨b8,bn,eb⟩:=g b hb;have e:(5*a.1+a.2)%22=(5*b.1+b.2)%22:=e;rcases eK a.1 b.1 with l|l|l
  ·exact(st ea eb e bn l).elim
  ·exact Prod.ext l ⋯
  ·exact(st eb ea e.symm an l).elim
 have:=len_sub nd2 (m:=bh 22) λu hu=>by
  obtain⟨k,m,rfl⟩:=List.mem_map.mp hu;exact List.mem_range.mpr (Nat.mod_lt _ (by decide))
 rw[aa,bI]at this;rw[aj]at n2;rw[aa]at l1;lia
structure Nx(x:Own)(F:List (Nat×Int))(x':Own):Prop where
 S:x'.S=x.S
 D:x'.D=x.D
 P:x'.P.length=x.P.length
 G:x'.G.length=x.G.length
 p:∀k,k<x.G.length->x'.p k=if x.g k=2 then x.p k else lk F k
 g:∀k,k<x.G.length->x'.g k=if k∈F.map au then x.g k+1 else x.g k
structure SG(x:Own)(M:Mem)(F:List (Nat×Int))(Dn:List Int):Prop where
 f:∀k q,(k,q)∈F->∀j:Nat,j<(x.s k).length->q+1+j∈Dn
 b:∀p∈M.ks,p∈Dn
 d:∀t∈x.D,GW x F t
noncomputable def Dm (s:S3) (ws:List Int) (a:Int):Option Int:=if s.b<=a/\a<=s.t-1 then(if mX (mE ws a)=true then some (mE ws a/2) else none) else some a
structure NJ(s:S3)(ws:List Int)(a:Int):Prop where
 a0:0<=a
 a1:a<ws.length
 a9:∀g,Dm s ws a=some g->0<=g/\g<=9999
 ok:s.b<=a->a<=s.t-1->mX (mE ws a)=true∨(lQ ws a.toNat).isSome=true
noncomputable def ND (s:S3) (ws:List Int) (o:Option Int):Option Int:=o.bind (Dm s ws)
noncomputable def GK (s:S3) (ws:List Int) (o:Option (Int×Int)):Option (Int×Int):=o.bind λy=>(Dm s ws y.1).map λg=>(g,y.2)
noncomputable def Be (s:S3) (ws:List Int) (l:List (Int×Int×Int)):List Int:=l.filterMap λx=>if (Dm s ws x.2.1).isSome=true then none else some x.2.2
noncomputable def TZ (x:Own) (M:Mem) (F:List (Nat×Int)) (c:CS) (ks:List Int):Mem:=⟨c.ws,⟨M.so.b,M.so.e,c.ot⟩,⟨M.ss.b,M.ss.e,c.st⟩,⟨M.sy.b,M.sy.e,M.sy.b⟩,x.D.map (wd (pp x F)),ks,M.os.map (ND M.sy c.ws),M.ts.map (GK M.sy c.ws),M.sd++Be M.sy c.ws (j_ 0 M.ts)⟩
theorem qT.tr(h:qT x M O Y F Dn c)(I:In x M O Y)(d:SG x M F Dn){k:Nat}{a g:Int}(m:At x O F k a g){j:Nat}(hj:j<(x.s k).length):mE c.ws (a+1+j)=wd (pp x F) (x.t k j)/\GW x F (x.t k j):=by
 rcases (h.ce k a g m).2 j hj with ⟨z1,z2⟩|z
 ·have gt:=h.gd I m hj;have nin:∀i,x.t k j= .ce i->¬x.g i<2:=λi e y=>by
   rcases m with ⟨m,_⟩|⟨m,_⟩
   ·exact z2 (d.b _ (I.b2 k a j i m hj e y))
   ·exact z2 (d.f k a m j hj)
  refine⟨z1.trans ?_,λi e y=>absurd y (nin i e)⟩
  cases e:x.t k j with
  |no=>rfl
  |nu n=>rfl
  |ce i=>
   have:=nin i e;show 2*(x.p i).getD 0+1=2*(pp x F i).getD 0+1;rw[DW λz=>by obtain⟨b,hb⟩:=h.fy i z;exact this ((I.ye i b).mp hb).2.1]
 ·exact z
theorem In.next(I:In x M O Y)(h:qT x M O Y F Dn c)(d:SG x M F Dn){x':Own}(n:Nx x F x'){ks:List Int}(kn:ks.Nodup)
  (hk:∀p,p∈ks↔(p∈M.ks∨∃e∈F,x.g e.1=1/\p∈qQ x e)/\oV ⟨M.ss.b,M.ss.e,c.st⟩ (mE c.ws p)=true):
  In x' (TZ x M F c ks) (O++F.filter λe=>decide (x.g e.1=1)) (F.filter λe=>decide (x.g e.1=0)):=by
 have f:=I.fr;have tp:=h.Lu I;have rm:=h.rm I (l:=[]) (by rw[aM];exact h.fn) (λ_ z=>nomatch z);simp only[bZ,fM]at rm;have f1:=f.rm;have f2:=f.hv;have f3:=f.yw;have f4:=f.y0;have f5:=f.yt;have f6:=f.l2;have f7:=f.o0;have f8:=f.ot;have es:∀k,x'.s k=x.s k:=λk=>by unfold Own.s;rw[n.S]
 have et:∀k j,x'.t k j=x.t k j:=λk j=>by unfold Own.t;rw[es]
 have ez:x'.z=x.z:=by funext k;unfold Own.z;rw[es]
 have mF:∀{k:Nat} {q:Int},(k,q)∈F->k<x.G.length/\(x.g k=0∨x.g k=1)/\k∈F.map au:=λ{k q} m=>by
  have mk:=bu (f:=au) m;obtain⟨a,ha⟩:=h.fy k mk;exact⟨((I.ye k a).mp ha).1,I.yg ha,mk⟩
 have pF:∀{k:Nat} {q:Int},(k,q)∈F->x'.p k=some q:=λ{k q} m=>by
  obtain⟨m1,m2,m3⟩:=mF m;rw[n.p k m1,if_neg ⋯];exact OU h.fn m
 have gF:∀{k:Nat} {q:Int},(k,q)∈F->x'.g k=x.g k+1:=λ{k q} m=>by
  obtain⟨m1,m2,m3⟩:=mF m;rw[n.g k m1,if_pos m3]
 have nF:∀{k:Nat},x.g k=2->k∉F.map au:=λ{k} e z=>by
  obtain⟨b,hb⟩:=h.fy k z;have:=((I.ye k b).mp hb).2.1;lia
 have gO:∀{k:Nat},k<x.G.length->x.g k=2->x'.g k=2/\x'.p k=x.p k:=λ{k} l e=>by
  rw[n.g k l,n.p k l,if_neg (nF e),if_pos e];exact⟨e,rfl⟩
 have th:∀{t:Th},Gd x t->GW x F t->wd (pp x F) t=wd x'.p t/\Gd x' t:=λ{t} g i=>by
  cases t with
  |no=>exact⟨rfl,bY⟩
  |nu n=>exact⟨rfl,g⟩
  |ce k=>
   obtain⟨a,ea,⟨gi,m⟩|⟨gi,m⟩⟩:=I.cell g
   ·have o:=gO g.1 gi;refine⟨?_,by rw[n.G];exact g.1,by rw[o.2];exact g.2⟩;show 2*(pp x F k).getD 0+1=2*(x'.p k).getD 0+1;rw[DW (nF gi),o.2]
   ·obtain⟨q,hq⟩:=my (i k rfl gi);have mq:=q_ hq;refine⟨?_,by rw[n.G];exact g.1,by rw[pF mq];rfl⟩;show 2*(pp x F k).getD 0+1=2*(x'.p k).getD 0+1;rw[Mm h.fn mq,pF mq]
 have cel:∀{k:Nat} {a g:Int},At x O F k a g->x'.g k=g->U5 c.ws a (x'.g k) (λj=>wd x'.p (x'.t k j)) (x'.s k).length:=λ{k a g} m eg=>by
  refine⟨?_,λj hj=> ?_⟩
  ·rw[eg,es];exact(h.ce k a g m).1
  ·rw[es]at hj;obtain⟨z1,z2⟩:=h.tr I d m hj;show _=wd x'.p (x'.t k j);rw[et];exact z1.trans (th (h.gd I m hj) z2).1
 have atO:∀{k:Nat} {a:Int},(k,a)∈O++F.filter (λe=>decide (x.g e.1=1))->∃g,At x O F k a g/\x'.g k=g/\g=2/\k<x.G.length/\x'.p k=some a:=λ{k a} m=>by
  rcases List.mem_append.mp m with m|m
  ·obtain⟨o1,o2,o3⟩:=(I.oe k a).mp m;have:=gO o1 o2;exact⟨2,.inl ⟨m,rfl⟩,this.1,rfl,o1,by rw[this.2];exact o3⟩
  ·obtain⟨m,e⟩:=List.mem_filter.mp m;have e:x.g k=1:=by simpa using e
   exact⟨x.g k+1,.inr ⟨m,rfl⟩,gF m,⋯,(mF m).1,pF m⟩
 have atY:∀{k:Nat} {a:Int},(k,a)∈F.filter (λe=>decide (x.g e.1=0))->∃g,At x O F k a g/\x'.g k=g/\g=1/\k<x.G.length/\x'.p k=some a:=λ{k a} m=>by
  obtain⟨m,e⟩:=List.mem_filter.mp m;have e:x.g k=0:=by simpa using e
  exact⟨x.g k+1,.inr ⟨m,rfl⟩,gF m,⋯,(mF m).1,pF m⟩
 have yw:∀{t:Th},Gd x t->GW x F t->(oV ⟨M.ss.b,M.ss.e,c.st⟩ (wd (pp x F) t)=true↔∃i q,t= .ce i/\(i,q)∈F/\x.g i=0):=λ{t} g i=>by
  cases t with
  |no=>exact⟨(λz=>by rw[show wd (pp x F) Th.no= -1 from rfl,qW (λz=>absurd z (by decide))]at z;cases z),λ⟨_,_,z,_⟩=>nomatch z⟩
  |nu n=>exact⟨(λz=>by rw[show wd (pp x F) (Th.nu n)=2*n from rfl,qW (by rw[GY];intro z;cases z)]at z;cases z),λ⟨_,_,z,_⟩=>nomatch z⟩
  |ce k=>
   obtain⟨a,ea,⟨gi,m⟩|⟨gi,m⟩⟩:=I.cell g
   ·have r:=I.O4 m;have:=x.z1 k;refine⟨λz=> ?_,λ⟨i,q,e,m',e0⟩=>by cases e;lia⟩;rw[show wd (pp x F) (Th.ce k)=2*a+1 by show 2*(pp x F k).getD 0+1=_;rw[DW (nF gi),ea];rfl,qW λ_=>by show(2*a+1)/2<M.ss.b∨_;lia]at z
    cases z
   ·obtain⟨q,hq⟩:=my (i k rfl gi);have mq:=q_ hq;have r:=h.VP mq;have:=x.z1 k;have e:wd (pp x F) (Th.ce k)=2*q+1:=by show 2*(pp x F k).getD 0+1=_;rw[Mm h.fn mq];rfl
    have e2:(2*q+1)/2=q:=by lia
    rw[e];rcases (mF mq).2.1 with e0|e0
    ·have r:=r.2 e0;refine⟨λ_=>⟨k,q,rfl,mq,e0⟩,λ_=> ?_⟩;unfold oV;rw[sE ⋯,e2];simp only[eR,decide_eq_true_eq];lia
    ·have r:=r.1 e0;refine⟨λz=> ?_,λ⟨i,q,e,m',e1⟩=>by cases e;lia⟩;rw[qW λ_=>by rw[e2];show q<M.ss.b∨_;lia]at z
     cases z
 refine⟨by rw[n.P,n.G];exact I.lp,by rw[n.S,n.G];exact I.ls,by rw[n.G];exact I.Bz,λk hk=> ?_,λk=>by rw[es];exact I.s8 k,?_,h.wo,λk a=> ?_,λk a=> ?_,λk hk e=> ?_,?_,?_,λk a m=> ?_,λk a m t ht=> ?_,λt ht=> ?_,?_,by rw[n.D];exact I.d4,λp hp=> ?_,λk a j i m hj e gi=> ?_,kn,I.sep.of λk j=> .inl (et k j)⟩
 ·rw[n.G]at hk;have:=I.ag k hk;rw[n.g k hk];by_cases z:k∈F.map au
  ·rw[if_pos z];obtain⟨a,ha⟩:=h.fy k z;have:=I.yg ha;lia
  ·rw[if_neg z];exact this
 ·refine⟨?_,f.ob,?_,?_,?_,?_,?_,?_,rfl,?_,f.Rt⟩
  ·show c.ws.length<=200;rw[h.len];exact f6
  ·show 0<=c.ot;lia
  ·show c.ot<=M.so.e;lia
  ·show(M.ss.b=M.so.e/\M.sy.b=M.ss.e/\M.sy.e=c.ws.length)∨(M.sy.b=M.so.e/\M.ss.b=M.sy.e/\M.ss.e=c.ws.length);rw[h.len];lia
  ·show M.ss.e-M.ss.b=M.sy.e-M.sy.b;lia
  ·show M.ss.b<=c.st;lia
  ·show c.st<=M.ss.e;lia
  ·show c.st-M.ss.b<=M.so.e-c.ot;lia
 ·rw[n.G];refine⟨λm=> ?_,λ⟨h1,h2,h3⟩=> ?_⟩
  ·obtain⟨g,m1,m2,m3,m4,m5⟩:=atO m;exact⟨m4,⋯,m5⟩
  ·have:=I.ag k h1;rw[n.g k h1]at h2;by_cases z:k∈F.map au
   ·rw[if_pos z]at h2;obtain⟨q,hq⟩:=my z;have mq:=q_ hq;rw[pF mq]at h3;cases h3
    exact aH _ (List.mem_filter.mpr ⟨mq,decide_eq_true (show x.g k=1 by lia)⟩)
   ·rw[if_neg z]at h2;rw[n.p k h1,if_pos h2]at h3;exact aQ _ ((I.oe k a).mpr ⟨h1,h2,h3⟩)
 ·rw[n.G];refine⟨λm=> ?_,λ⟨h1,h2,h3⟩=> ?_⟩
  ·obtain⟨g,m1,m2,m3,m4,m5⟩:=atY m;exact⟨m4,⋯,m5⟩
  ·have ag:=I.ag k h1;rw[n.g k h1]at h2;by_cases z:k∈F.map au
   ·rw[if_pos z]at h2;obtain⟨q,hq⟩:=my z;have mq:=q_ hq;rw[pF mq]at h3;cases h3
    exact List.mem_filter.mpr ⟨mq,decide_eq_true (show x.g k=0 by lia)⟩
   ·rw[if_neg z]at h2;rw[n.p k h1,if_neg ⋯,pL z]at h3
    cases h3
 ·rw[n.G]at hk;rw[n.g k hk]at e;by_cases z:k∈F.map au
  ·obtain⟨q,hq⟩:=my z;rw[pF (q_ hq)];rfl
  ·rw[if_neg z]at e;rw[n.p k hk,if_pos e];exact I.od k hk e
 ·rw[ez];exact Dz I.lo h.lo
 ·rw[ez];exact h.ls
 ·rcases m with m|m
  ·obtain⟨g,m1,m2,_⟩:=atO m;exact cel m1 m2
  ·obtain⟨g,m1,m2,_⟩:=atY m;exact cel m1 m2
 ·have at':∃g,At x O F k a g:=by
   rcases m with m|m
   ·obtain⟨g,m1,_⟩:=atO m;exact⟨g,m1⟩
   ·obtain⟨g,m1,_⟩:=atY m;exact⟨g,m1⟩
  obtain⟨g,m⟩:=at';rw[es]at ht;obtain⟨j,hj,e⟩:=List.mem_iff_getElem.mp ht;have e':x.t k j=t:=by unfold Own.t;rw[ae,ab hj];exact e
  have z:=h.tr I d m hj;rw[←e'];exact(th (h.gd I m hj) z.2).2
 ·rw[n.D]at ht;exact(th (I.gd t ht) (d.d t ht)).2
 ·show x.D.map (wd (pp x F))=x'.D.map (wd x'.p);rw[n.D];exact bt λt ht=>(th (I.gd t ht) (d.d t ht)).1
 ·obtain⟨h1,h2⟩:=(hk p).mp hp;have at':∃k a g j,At x O F k a g/\(k,a)∈O++F.filter (λe=>decide (x.g e.1=1))/\j<(x.s k).length/\p=a+1+(j:Nat):=by
   rcases h1 with h1|⟨e,m,e1,h1⟩
   ·obtain⟨k,a,j,i,m,hj,rfl,_⟩:=I.b1 p h1;exact⟨k,a,2,j,.inl ⟨m,rfl⟩,aQ _ m,hj,rfl⟩
   ·obtain⟨j,hj,rfl⟩:=sO.mp h1;exact⟨e.1,e.2,_,j,.inr ⟨m,rfl⟩,aH _ (List.mem_filter.mpr ⟨m,decide_eq_true e1⟩),hj,rfl⟩
  obtain⟨k,a,g,j,m,m',hj,rfl⟩:=at';obtain⟨z1,z2⟩:=h.tr I d m hj;rw[z1]at h2;obtain⟨i,q,e,mi,e0⟩:=(yw (h.gd I m hj) z2).mp h2;exact⟨k,a,j,i,m',by rw[es];exact hj,rfl,by rw[et];exact e,by rw[gF mi];lia⟩
 ·rw[es]at hj;rw[et]at e;obtain⟨g,m1,m2,m3,m4,m5⟩:=atO m;obtain⟨z1,z2⟩:=h.tr I d m1 hj;have gd:=h.gd I m1 hj;have gk:i<x.G.length:=by rw[e]at gd;exact gd.1
  have gi':x.g i<2:=by
   rw[n.g i gk]at gi;by_cases z:i∈F.map au
   ·rw[if_pos z]at gi;lia
   ·rw[if_neg z]at gi;exact gi
  have mi:=z2 i e gi';obtain⟨q,hq⟩:=my mi;have mq:=q_ hq;rw[gF mq]at gi;refine(hk _).mpr ⟨?_,?_⟩
  ·rcases List.mem_append.mp m with m|m
   ·exact .inl (I.b2 k a j i m hj e gi')
   ·obtain⟨m,e1⟩:=List.mem_filter.mp m;exact .inr ⟨(k,a),m,of_decide_eq_true e1,sO.mpr ⟨j,hj,rfl⟩⟩
  ·rw[z1];have:=(mF mq).2.1;exact(yw gd z2).mpr ⟨i,q,e,mq,⋯⟩
theorem Rq{l:List (Nat×Int)}{i:Nat}:lk (F++l) i=(lk F i).or (lk l i):=by
 induction F with
 |nil=>rfl
 |cons y r ih=>
  show(if y.1=i then some y.2 else lk (r++l) i)=(if y.1=i then some y.2 else lk r i).or _;by_cases e:y.1=i
  ·rw[if_pos e,if_pos e];rfl
  ·rw[if_neg e,if_neg e];exact ih
theorem qT.app{l:List (Nat×Int)}(h:qT x M O Y (F++l) Dn c)(I:In x M O Y){t:Th}(i:GW x F t):wd (pp x (F++l)) t=wd (pp x F) t/\GW x (F++l) t:=by
 refine⟨?_,i.mono λe he=>aQ _ he⟩
 cases t with
 |no=>rfl
 |nu n=>rfl
 |ce k=>
  show 2*(pp x (F++l) k).getD 0+1=2*(pp x F k).getD 0+1;unfold pp;rw[Rq]
  cases e:lk F k with
  |some q=>rfl
  |none=>
   rw[pL (l:=l) λz=> ?_];rfl;have m:k∈(F++l).map au:=by rw[aB];exact aH _ z
   obtain⟨a,ha⟩:=h.fy k m;obtain⟨q,hq⟩:=my (i k rfl ((I.ye k a).mp ha).2.1);rw[e]at hq;cases hq
theorem In.mid(I:In x M O Y):qT x M O Y [] [] ⟨M.ws,M.so.t,M.ss.b,[]⟩ where
 len:=rfl
 wo:=I.wo
 cs:=rfl
 fy:=λ_ z=>nomatch z
 fn:=bB
 lo:=rfl
 ls:=rfl
 yl:=λk a m _=>I.ce k a (.inr m)
 se:=λ_ _ _ _ z=>nomatch z
 ce:=λk a g m=>by
  rcases m with ⟨m,rfl⟩|⟨m,_⟩
  ·obtain⟨c1,c2⟩:=I.ce k a (.inl m);rw[((I.oe k a).mp m).2.1]at c1;exact⟨c1,λj hj=> .inl ⟨c2 j hj,aG⟩⟩
  ·cases m
 dn:=λ_ z=>nomatch z
theorem qT.LR(h:qT x M O Y F Dn c)(I:In x M O Y):F.length<=20:=by
 have:=len_sub h.fn (m:=bh 20) λk hk=>by
  obtain⟨a,ha⟩:=h.fy k hk;have:=((I.ye k a).mp ha).1;have:=I.Bz;exact List.mem_range.mpr ⋯
 rw[aa,bI]at this;exact this
theorem LI{n t:Nat}{F:List Nat}(h:F.length<=t):ML x n F t=F:=by
 cases n with
 |zero=>rfl
 |succ n=>show(if t<F.length then _ else F)=F;rw[if_neg ⋯]
theorem Oc{n t:Nat}{F:List Nat}(h:t<F.length):ML x (n+1) F t=ML x n (pJ x F (x.s (F.getD t 0))) (t+1):=if_pos h
structure Cq(x:Own)(F:List (Nat×Int))(hw:List Int):Prop where
 e:hw=x.D.map (wd (pp x F))
 i:∀t∈x.D,GW x F t
theorem Cq.app{l:List (Nat×Int)}{hw:List Int}(w:Cq x F hw)(h:qT x M O Y (F++l) Dn c)(I:In x M O Y):Cq x (F++l) hw:=
 ⟨by rw[w.e];exact bt λt ht=>(h.app I (w.i t ht)).1.symm,λt ht=>(h.app I (w.i t ht)).2⟩
theorem wg{F:List Nat}{ts:List Th}{t:Th}:pJ x F (ts++[t])=Iw x (pJ x F ts) t:=by unfold pJ;rw[ic];rfl
theorem qT.go(h:qT x M O Y F Dn c)(I:In x M O Y){k:Nat}{a:Int}(hk:k<x.G.length)(e:x.p k=some a):NJ M.sy c.ws a/\Dm M.sy c.ws a=if x.g k=2 then some a else lk F k:=by
 have f:=I.fr;have:=f.hv;have:=f.ot;have:=f.o0;have:=f.yw;have:=f.y0;have:=f.yt;have:=f.l2;have ln:=h.len;have g2:=I.ag k hk;by_cases z:x.g k=2
 ·have m:=(I.oe k a).mpr ⟨hk,z,e⟩;have r:=I.O4 m;have:=x.z1 k;have n:¬(M.sy.b<=a/\a<=M.sy.t-1):=by lia
  have eg:Dm M.sy c.ws a=some a:=if_neg n;rw[if_pos z];exact⟨⟨r.1,⋯,λg y=>by rw[eg]at y;cases y;lia,λy1 y2=>absurd ⟨y1,y2⟩ n⟩,eg⟩
 ·have m:=(I.ye k a).mpr ⟨hk,⋯,e⟩;have r:=I.Qi m;have:=x.z1 k;have s8:=I.s8 k;have ez:x.z k=(x.s k).length+1:=rfl;have y:M.sy.b<=a/\a<=M.sy.t-1:=by lia
  rw[if_neg z];by_cases kF:k∈F.map au
  ·obtain⟨q,eq⟩:=my kF;have mq:=q_ eq;have w:=h.se k a q m mq;have ar:=h.arg I (k:=k) (a:=q) (g:=x.g k+1) (.inr ⟨mq,rfl⟩);have ip:mX (mE c.ws a)=true:=by rw[w];exact sE ar.1
   have eg:Dm M.sy c.ws a=some q:=by unfold Dm;rw[if_pos y,if_pos ip,w];congr 1;lia
   exact⟨⟨⋯,⋯,λg u=>by rw[eg]at u;cases u;lia,λ_ _=> .inl ip⟩,eg.trans eq.symm⟩
  ·have w:=(h.yl k a m kF).1;have ip:mX (mE c.ws a)=false:=by rw[w];exact decide_eq_false ⋯
   have eg:Dm M.sy c.ws a=none:=by unfold Dm;rw[if_pos y,ip];rfl
   refine⟨⟨⋯,⋯,(λg u=>by rw[eg]at u;cases u),λ_ _=> .inr ?_⟩,by rw[eg,pL kF]⟩
   rw[oC,show c.ws.getD a.toNat 0=mE c.ws a from rfl,w,if_pos ⋯];rfl
end
noncomputable def tg:HO->Str
 | .ins _ _ (f::_)=>f.1
 | .lst _=>"l"
 | .dK _=>"d"
 | .tup _=>"t"
 | .Co _=>"b"
 | .GL _ _=>"f"
 |_=>""
theorem jA{H:Hp}{a b:Addr}{o u:HO}(h:H a=some o)(k:H b=some u)(n:(tg o==tg u)=false:=by kernel_rfl):a≠b:=λe=>by rw[e,k]at h;cases h;rw[beq_self_eq_true]at n;cases n
theorem BB{H:Hp}{a b:Addr}{o u:HO}{x:Str}(h:H a=some o)(k:H b=some u)(n:(tg o==x)=false)(e:(tg u==x)=true:=by kernel_rfl):a≠b:=λz=>by rw[z,k]at h;cases h;rw[e]at n;cases n
theorem nU.Yd{cA cM cS:Addr}{H H':Hp}{p m q o y s:Addr}{ws ws':List Int}{so sy ss:S3}(a:nU cA cM cS H p m q o y s ws so sy ss){z:S3}(mem:j9 cM H' m q ws')(e:qt cS H' s z)(k:∀b x,H b=some x->b≠q->b≠s->H' b=some x):nU cA cM cS H' p m q o y s ws' so sy z:=
 {a with
  ob:=a.ob.imp λdx e=>k _ _ e (λz=>by rw[z,a.mem.ls]at e;cases e) a.pd.2.2.2
  mem:=mem
  old:=a.old.imp λdx e=>k _ _ e (qt.ne ⟨dx,e⟩ a.mem.ls) a.os
  oV:=a.oV.imp λdx e=>k _ _ e (qt.ne ⟨dx,e⟩ a.mem.ls) a.ys
  Em:=e}
theorem nU.wr{cA cM cS:Addr}{H H':Hp}{p m q o y s:Addr}{ws ws':List Int}{so sy ss:S3}(a:nU cA cM cS H p m q o y s ws so sy ss)(mem:j9 cM H' m q ws')(k:∀b x,H b=some x->b≠q->H' b=some x):nU cA cM cS H' p m q o y s ws' so sy ss:=
 a.Yd mem (a.Em.imp λdx e=>k _ _ e (qt.ne ⟨dx,e⟩ a.mem.ls)) λb x e n _=>k b x e n
structure Ax where
 p:Addr
 m:Addr
 q:Addr
 o:Addr
 y:Addr
 s:Addr
 r:Addr
 h:Addr
 g:Addr
 b:Addr
 d:Addr
 w:Addr
 v:Addr
 l:Addr
 e:Addr
 u:Addr
 t:Addr
noncomputable def mx (x:Ax):List Addr:=[x.q,x.g,x.v,x.u,x.d,x.e]
theorem nU.kg{cA cM cS:Addr}{H H':Hp}{p m q o y s:Addr}{ws:List Int}{so sy ss:S3}(a:nU cA cM cS H p m q o y s ws so sy ss)(f:∀b u,H b=some u->(tg u=="l")=false->(tg u=="d")=false->H' b=some u)(k:H' q=H q):nU cA cM cS H' p m q o y s ws so sy ss:=
 {a with
  ob:=a.ob.imp λd e=>f _ _ e (by kernel_rfl) (by kernel_rfl)
  mem:=⟨a.mem.ob.imp λd e=>f _ _ e (by kernel_rfl) (by kernel_rfl),k.trans a.mem.ls⟩
  old:=a.old.imp λd e=>f _ _ e (by kernel_rfl) (by kernel_rfl)
  oV:=a.oV.imp λd e=>f _ _ e (by kernel_rfl) (by kernel_rfl)
  Em:=a.Em.imp λd e=>f _ _ e (by kernel_rfl) (by kernel_rfl)}
theorem kP.kg{c p d q:Addr}{H H':Hp}{ws:List (Option (Int×Int))}{sp:List Int}{es:List We}(m:kP c H p d q ws sp es)(f:∀b u,H b=some u->(tg u=="waiting")=true∨(tg u=="t")=true->H' b=some u)(k:H' d=H d)(l:H' q=H q):kP c H' p d q ws sp es:=
 ⟨m.ob.imp λ_ e=>f _ _ e (.inl (by kernel_rfl)),k.trans m.dc,l.trans m.sq,m.xs,λe h=>f _ _ (m.tp e h) (.inr (by kernel_rfl)),m.ln⟩
theorem J7{H H':Hp}{P:Addr}(h:wV H lm P)(f:∀b u,H b=some u->(tg u=="b")=true∨(tg u=="f")=true->H' b=some u):wV H' lm P:=by
 obtain⟨ps,e,_⟩:=id h;exact h.to ((f _ _ e (.inl (by kernel_rfl))).trans e.symm) λb o e=>f _ _ e (.inr (by kernel_rfl))
structure Wh(cA cM cS cR cH cB cW cL:Addr)(H:Hp)(x:Ax)(M:Mem):Prop where
 ar:nU cA cM cS H x.p x.m x.q x.o x.y x.s M.ws M.so M.sy M.ss
 ro:∃dx,H x.r=some (.ins cR dx (Bc x.h x.b x.w x.l))
 hd:wj cH H x.h x.g M.hw
 bk:qf cB H x.b x.d M.ks
 wk:su cW H x.w x.v M.os
 la:∃es,kP cL H x.l x.e x.u M.ts M.sd es
 tb:wV H lm x.t
 nd:(mx x).Nodup
noncomputable def Hq:HO->Bool
 | .lst _=>true
 | .dK _=>true
 | .tup _=>true
 | .GL _ _=>true
 |_=>false
def Kx(L:List Addr)(H H':Hp):Prop:=∀b u,H b=some u->Hq u=true->b∉L->H' b=some u
theorem Kx.refl{L:List Addr}(H:Hp):Kx L H H:=λ_ _ h _ _=>h
theorem Kx.trans{L:List Addr}{H H1 H2:Hp}(a:Kx L H H1)(b:Kx L H1 H2):Kx L H H2:=λc u h k n=>b c u (a c u h k n) k n
theorem Kx.mono{L L':List Addr}{H H':Hp}(a:Kx L H H')(h:∀b∈L,b∈L'):Kx L' H H':=λc u e k n=>a c u e k λz=>n (h c z)
theorem vO{L:List Addr}{H H':Hp}(s:jo H H'):Kx L H H':=λb u h _ _=>s b u h
def qU(L:List Addr)(H H':Hp)(L':List Addr):Prop:=Kx L H H'/\∀b∈L',b∈L∨∀u,H b=some u->Hq u=false
section
variable{L L' L'':List Addr}{H H' H'':Hp}
theorem qU.keep(h:qU L H H' L'){b:Addr}{u:HO}(e:H b=some u)(i:Hq u=true)(n:b∉L):H' b=some u/\b∉L':=⟨h.1 b u e i n,λz=>(h.2 b z).elim n λq=>by rw[q u e]at i;cases i⟩
theorem qU.trans(a:qU L H H' L')(b:qU L' H' H'' L''):qU L H H'' L'':=by
 refine⟨λc u e i n=>b.1 c u (a.keep e i n).1 i (a.keep e i n).2,λc hc=> ?_⟩;rcases b.2 c hc with z|z
 ·exact a.2 c z
 ·by_cases n:c∈L
  ·exact .inl n
  ·refine .inr λu e=> ?_
   cases i:Hq u with
   |false=>rfl
   |true=>have:=z u (a.1 c u e i n);rw[this]at i;cases i
theorem qU.of(f:Kx L H H'):qU L H H' L:=⟨f,λ_ z=> .inl z⟩
theorem qU.same(s:jo H H'):qU L H H' L:= .of (vO s)
end
noncomputable def cM (M:Mem) (c:CS):Mem:={M with ws:=c.ws,so:=⟨M.so.b,M.so.e,c.ot⟩,ss:=⟨M.ss.b,M.ss.e,c.st⟩}
noncomputable def WI (M:Mem) (c:CS) (hw:List Int):Mem:={M with ws:=c.ws,so:=⟨M.so.b,M.so.e,c.ot⟩,ss:=⟨M.ss.b,M.ss.e,c.st⟩,hw:=hw}
theorem DK{x:Ax}(h:(mx x).Nodup):(x.q≠x.g/\x.q≠x.v/\x.q≠x.u)/\(x.g≠x.v/\x.g≠x.u)/\x.v≠x.u/\x.d≠x.e:=by
 simp only[mx,cY,aP,not_or,aG]at h;exact⟨⟨h.1.1,h.1.2.1,h.1.2.2.1⟩,⟨h.2.1.1,h.2.1.2.1⟩,h.2.2.1.1,h.2.2.2.2.1.1⟩
theorem Xk{x:Ax}{d:Addr}(h:(mx x).Nodup)(n:d∉mx x):(mx {x with d:=d}).Nodup:=by
 simp only[mx,cY,aP,not_or,aG]at h n⊢;exact⟨⟨h.1.1,h.1.2.1,h.1.2.2.1,ah n.1,h.1.2.2.2.2⟩,⟨h.2.1.1,h.2.1.2.1,ah n.2.1,h.2.1.2.2.2⟩,⟨h.2.2.1.1,ah n.2.2.1,h.2.2.1.2.2⟩,⟨ah n.2.2.2.1,h.2.2.2.1.2⟩,⟨n.2.2.2.2.2.1,h.2.2.2.2.1.2⟩,h.2.2.2.2.2⟩
theorem OY{x:Ax}{l:Addr}(h:l∉mx x):(l≠x.q/\l≠x.g/\l≠x.v)/\l≠x.u/\l≠x.d/\l≠x.e:=by
 simp only[mx,aP,not_or,aG]at h;exact⟨⟨h.1,h.2.1,h.2.2.1⟩,h.2.2.2.1,h.2.2.2.2.1,h.2.2.2.2.2.1⟩
section
variable{cA cM' cS cR cH cB cW cL:Addr}{H H':Hp}{x:Ax}{M:Mem}
theorem Wh.Yi(w:Wh cA cM' cS cR cH cB cW cL H x M)(f:∀b u,H b=some u->(tg u=="l")=false->(tg u=="d")=false->H' b=some u)(k:∀b∈mx x,H' b=H b):Wh cA cM' cS cR cH cB cW cL H' x M where
 ar:=w.ar.kg f (k _ (by simp[mx]))
 ro:=w.ro.imp λ_ e=>f _ _ e (by kernel_rfl) (by kernel_rfl)
 hd:=⟨w.hd.ob.imp λ_ e=>f _ _ e (by kernel_rfl) (by kernel_rfl),(k _ (by simp[mx])).trans w.hd.ls⟩
 bk:=⟨w.bk.ob.imp λ_ e=>f _ _ e (by kernel_rfl) (by kernel_rfl),(k _ (by simp[mx])).trans w.bk.dc⟩
 wk:=⟨w.wk.ob.imp λ_ e=>f _ _ e (by kernel_rfl) (by kernel_rfl),(k _ (by simp[mx])).trans w.wk.ls⟩
 la:=w.la.imp λ_ l=>l.kg (λb u e h=>f _ _ e (h.elim (λh=>by rw[eq_of_beq h];kernel_rfl) λh=>by rw[eq_of_beq h];kernel_rfl) (h.elim (λh=>by rw[eq_of_beq h];kernel_rfl) λh=>by rw[eq_of_beq h];kernel_rfl)) (k _ (by simp[mx])) (k _ (by simp[mx]))
 tb:=J7 w.tb λb u e h=>f _ _ e (h.elim (λh=>by rw[eq_of_beq h];kernel_rfl) λh=>by rw[eq_of_beq h];kernel_rfl) (h.elim (λh=>by rw[eq_of_beq h];kernel_rfl) λh=>by rw[eq_of_beq h];kernel_rfl)
 nd:=w.nd
theorem Wh.Mu(w:Wh cA cM' cS cR cH cB cW cL H x M):∀b∈mx x,∃u,H b=some u/\Hq u=true/\(∀xs,u≠ .tup xs)/\∀o v,u≠ .GL o v:=λb hb=>by
 obtain⟨es,l⟩:=w.la;simp only[mx,aP,aG,or_false]at hb;rcases hb with rfl|rfl|rfl|rfl|rfl|rfl
 ·exact⟨_,w.ar.mem.ls,rfl,(λ_ z=>nomatch z),λ_ _ z=>nomatch z⟩
 ·exact⟨_,w.hd.ls,rfl,(λ_ z=>nomatch z),λ_ _ z=>nomatch z⟩
 ·exact⟨_,w.wk.ls,rfl,(λ_ z=>nomatch z),λ_ _ z=>nomatch z⟩
 ·exact⟨_,l.sq,rfl,(λ_ z=>nomatch z),λ_ _ z=>nomatch z⟩
 ·exact⟨_,w.bk.dc,rfl,(λ_ z=>nomatch z),λ_ _ z=>nomatch z⟩
 ·exact⟨_,l.dc,rfl,(λ_ z=>nomatch z),λ_ _ z=>nomatch z⟩
theorem Wh.Yj(w:Wh cA cM' cS cR cH cB cW cL H x M){b:Addr}{xs:List V}(e:H b=some (.tup xs)):b∉mx x:=λz=>by
 obtain⟨u,q,_,n,_⟩:=w.Mu b z;rw[e]at q;cases q;exact n _ rfl
theorem Wh.new(w:Wh cA cM' cS cR cH cB cW cL H x M){l:Addr}(h:H l=none):l∉mx x:=λz=>by
 obtain⟨u,e,_⟩:=w.Mu l z;rw[h]at e;cases e
theorem Wh.fr(w:Wh cA cM' cS cR cH cB cW cL H x M)(f:∀b u,H b=some u->b∈mx x∨(tg u=="l")=false/\(tg u=="d")=false->H' b=some u):Wh cA cM' cS cR cH cB cW cL H' x M:=
 w.Yi (λb u e h1 h2=>f b u e (.inr ⟨h1,h2⟩)) λb hb=>by
  obtain⟨u,e,_⟩:=w.Mu b hb;rw[e];exact f b u e (.inl hb)
theorem Wh.same(w:Wh cA cM' cS cR cH cB cW cL H x M)(s:jo H H'):Wh cA cM' cS cR cH cB cW cL H' x M:=w.fr λb u e _=>s b u e
theorem Wh.Gu(w:Wh cA cM' cS cR cH cB cW cL H x M){y s:Addr}{ws:List Int}{so sy ss:S3}(a:nU cA cM' cS H' x.p x.m x.q x.o y s ws so sy ss)
  (f:∀b u,H b=some u->b≠x.q->(tg u=="begin")=false->(tg u=="memory")=false->H' b=some u):Wh cA cM' cS cR cH cB cW cL H' {x with y:=y,s:=s} {M with ws:=ws,so:=so,sy:=sy,ss:=ss}:=by
 have q:=w.ar.mem.ls;have n:=DK w.nd;exact
 {ar:=a
  ro:=w.ro.imp λ_ e=>f _ _ e (jA e q) (by kernel_rfl) (by kernel_rfl)
  hd:=⟨w.hd.ob.imp λ_ e=>f _ _ e (jA e q) (by kernel_rfl) (by kernel_rfl),f _ _ w.hd.ls (ah n.1.1) (by kernel_rfl) (by kernel_rfl)⟩
  bk:=⟨w.bk.ob.imp λ_ e=>f _ _ e (jA e q) (by kernel_rfl) (by kernel_rfl),f _ _ w.bk.dc (jA w.bk.dc q) (by kernel_rfl) (by kernel_rfl)⟩
  wk:=⟨w.wk.ob.imp λ_ e=>f _ _ e (jA e q) (by kernel_rfl) (by kernel_rfl),f _ _ w.wk.ls (ah n.1.2.1) (by kernel_rfl) (by kernel_rfl)⟩
  la:=w.la.imp λ_ l=>⟨l.ob.imp λ_ e=>f _ _ e (jA e q) (by kernel_rfl) (by kernel_rfl),f _ _ l.dc (jA l.dc q) (by kernel_rfl) (by kernel_rfl),f _ _ l.sq (ah n.1.2.2) (by kernel_rfl) (by kernel_rfl),l.xs,λe h=>f _ _ (l.tp e h) (jA (l.tp e h) q) (by kernel_rfl) (by kernel_rfl),l.ln⟩
  tb:=J7 w.tb λb u e h=>f _ _ e (jA e q (by rcases h with h|h<;>(rw[eq_of_beq h];kernel_rfl))) (by rcases h with h|h<;>(rw[eq_of_beq h];kernel_rfl)) (by rcases h with h|h<;>(rw[eq_of_beq h];kernel_rfl))
  nd:=w.nd}
theorem Wh.hand(w:Wh cA cM' cS cR cH cB cW cL H x M){hw:List Int}(a:wj cH H' x.h x.g hw)(f:∀b u,H b=some u->b≠x.g->H' b=some u):Wh cA cM' cS cR cH cB cW cL H' x {M with hw:=hw}:=by
 have q:=w.hd.ls;have n:=DK w.nd;exact
 {ar:=w.ar.kg (λb u e h _=>f b u e (jA e q h)) (by rw[w.ar.mem.ls];exact f _ _ w.ar.mem.ls n.1.1)
  ro:=w.ro.imp λ_ e=>f _ _ e (jA e q)
  hd:=a
  bk:=⟨w.bk.ob.imp λ_ e=>f _ _ e (jA e q),f _ _ w.bk.dc (jA w.bk.dc q)⟩
  wk:=⟨w.wk.ob.imp λ_ e=>f _ _ e (jA e q),f _ _ w.wk.ls (ah n.2.1.1)⟩
  la:=w.la.imp λ_ l=>⟨l.ob.imp λ_ e=>f _ _ e (jA e q),f _ _ l.dc (jA l.dc q),f _ _ l.sq (ah n.2.1.2),l.xs,λe h=>f _ _ (l.tp e h) (jA (l.tp e h) q),l.ln⟩
  tb:=J7 w.tb λb u e h=>f _ _ e (jA e q (by rcases h with h|h<;>(rw[eq_of_beq h];kernel_rfl)))
  nd:=w.nd}
theorem Wh.book(w:Wh cA cM' cS cR cH cB cW cL H x M){d:Addr}{ks:List Int}(a:qf cB H' x.b d ks)(nd:(mx {x with d:=d}).Nodup)(f:∀b u,H b=some u->b≠x.b->b≠x.d->H' b=some u):Wh cA cM' cS cR cH cB cW cL H' {x with d:=d} {M with ks:=ks}:=by
 obtain⟨db,eb⟩:=w.bk.ob;have g:∀{b u},H b=some u->(tg u=="written")=false->(tg u=="d")=false->H' b=some u:=λ{b u} e n1 n2=>f _ _ e (jA e eb n1) (jA e w.bk.dc n2);exact
 {ar:={w.ar with
   ob:=w.ar.ob.imp λ_ e=>g e (by kernel_rfl) (by kernel_rfl)
   mem:=⟨w.ar.mem.ob.imp λ_ e=>g e (by kernel_rfl) (by kernel_rfl),g w.ar.mem.ls (by kernel_rfl) (by kernel_rfl)⟩
   old:=w.ar.old.imp λ_ e=>g e (by kernel_rfl) (by kernel_rfl)
   oV:=w.ar.oV.imp λ_ e=>g e (by kernel_rfl) (by kernel_rfl)
   Em:=w.ar.Em.imp λ_ e=>g e (by kernel_rfl) (by kernel_rfl)}
  ro:=w.ro.imp λ_ e=>g e (by kernel_rfl) (by kernel_rfl)
  hd:=⟨w.hd.ob.imp λ_ e=>g e (by kernel_rfl) (by kernel_rfl),g w.hd.ls (by kernel_rfl) (by kernel_rfl)⟩
  bk:=a
  wk:=⟨w.wk.ob.imp λ_ e=>g e (by kernel_rfl) (by kernel_rfl),g w.wk.ls (by kernel_rfl) (by kernel_rfl)⟩
  la:=w.la.imp λ_ l=>⟨l.ob.imp λ_ e=>g e (by kernel_rfl) (by kernel_rfl),f _ _ l.dc (jA l.dc eb) (ah (DK w.nd).2.2.2),g l.sq (by kernel_rfl) (by kernel_rfl),l.xs,λe h=>g (l.tp e h) (by kernel_rfl) (by kernel_rfl),l.ln⟩
  tb:=J7 w.tb λb u e h=>g e (by rcases h with h|h<;>(rw[eq_of_beq h];kernel_rfl)) (by rcases h with h|h<;>(rw[eq_of_beq h];kernel_rfl))
  nd:=nd}
theorem Wh.tick(w:Wh cA cM' cS cR cH cB cW cL H x M){os:List (Option Int)}{ts:List (Option (Int×Int))}{sd:List Int}{es:List We}(a:su cW H' x.w x.v os)(l:kP cL H' x.l x.e x.u ts sd es)(f:∀b u,H b=some u->b≠x.v->b≠x.e->b≠x.u->H' b=some u):Wh cA cM' cS cR cH cB cW cL H' x {M with os:=os,ts:=ts,sd:=sd}:=by
 obtain⟨es0,l0⟩:=w.la;have g:∀{b u},H b=some u->(tg u=="l")=false->(tg u=="d")=false->H' b=some u:=λ{b u} e n1 n2=>f _ _ e (jA e w.wk.ls n1) (jA e l0.dc n2) (jA e l0.sq n1);have n:=DK w.nd;exact
 {ar:=w.ar.kg (λb u e h1 h2=>g e h1 h2) (by rw[w.ar.mem.ls];exact f _ _ w.ar.mem.ls n.1.2.1 (jA w.ar.mem.ls l0.dc) n.1.2.2)
  ro:=w.ro.imp λ_ e=>g e (by kernel_rfl) (by kernel_rfl)
  hd:=⟨w.hd.ob.imp λ_ e=>g e (by kernel_rfl) (by kernel_rfl),f _ _ w.hd.ls n.2.1.1 (jA w.hd.ls l0.dc) n.2.1.2⟩
  bk:=⟨w.bk.ob.imp λ_ e=>g e (by kernel_rfl) (by kernel_rfl),f _ _ w.bk.dc (jA w.bk.dc w.wk.ls) n.2.2.2 (jA w.bk.dc l0.sq)⟩
  wk:=a
  la:=⟨es,l⟩
  tb:=J7 w.tb λb u e h=>g e (by rcases h with h|h<;>(rw[eq_of_beq h];kernel_rfl)) (by rcases h with h|h<;>(rw[eq_of_beq h];kernel_rfl))
  nd:=w.nd}
theorem Wh.Co(w:Wh cA cM' cS cR cH cB cW cL H x M)(tb:wV H' lm x.t)(f:∀b u,H b=some u->(tg u=="b")=false->(tg u=="f")=false->H' b=some u):Wh cA cM' cS cR cH cB cW cL H' x M where
 ar:={w.ar with
   ob:=w.ar.ob.imp λ_ e=>f _ _ e (by kernel_rfl) (by kernel_rfl)
   mem:=⟨w.ar.mem.ob.imp λ_ e=>f _ _ e (by kernel_rfl) (by kernel_rfl),f _ _ w.ar.mem.ls (by kernel_rfl) (by kernel_rfl)⟩
   old:=w.ar.old.imp λ_ e=>f _ _ e (by kernel_rfl) (by kernel_rfl)
   oV:=w.ar.oV.imp λ_ e=>f _ _ e (by kernel_rfl) (by kernel_rfl)
   Em:=w.ar.Em.imp λ_ e=>f _ _ e (by kernel_rfl) (by kernel_rfl)}
 ro:=w.ro.imp λ_ e=>f _ _ e (by kernel_rfl) (by kernel_rfl)
 hd:=⟨w.hd.ob.imp λ_ e=>f _ _ e (by kernel_rfl) (by kernel_rfl),f _ _ w.hd.ls (by kernel_rfl) (by kernel_rfl)⟩
 bk:=⟨w.bk.ob.imp λ_ e=>f _ _ e (by kernel_rfl) (by kernel_rfl),f _ _ w.bk.dc (by kernel_rfl) (by kernel_rfl)⟩
 wk:=⟨w.wk.ob.imp λ_ e=>f _ _ e (by kernel_rfl) (by kernel_rfl),f _ _ w.wk.ls (by kernel_rfl) (by kernel_rfl)⟩
 la:=w.la.imp λ_ l=>l.kg (λb u e h=>f _ _ e (by rcases h with h|h<;>(rw[eq_of_beq h];kernel_rfl)) (by rcases h with h|h<;>(rw[eq_of_beq h];kernel_rfl))) ((f _ _ l.dc (by kernel_rfl) (by kernel_rfl)).trans l.dc.symm) ((f _ _ l.sq (by kernel_rfl) (by kernel_rfl)).trans l.sq.symm)
 tb:=tb
 nd:=w.nd
theorem Wh.drop(w:Wh cA cM' cS cR cH cB cW cL H x M){c:Addr}{oz:Obj}{u:Value}(e:H c=some (Internal.AJ oz))(dz:oz.data= .cell (some u)):Wh cA cM' cS cR cH cB cW cL (nX H c) x M:=by
 refine w.Co ?_ λb u eb _ nf=>by rw[lR (λz=>by rw[z,e]at eb;cases eb;have nf:(("f":Str)=="f")=false:=nf;rw[beq_self_eq_true]at nf;cases nf)];exact eb
 obtain⟨ps,h1,h2,h3⟩:=w.tb;refine⟨ps,by rw[lR (λz=>by rw[z,e]at h1;cases h1)];exact h1,h2,λcv z=> ?_⟩;obtain⟨c',e1,oc,vs,t,q1,q2,q3⟩:=h3 cv z;exact⟨c',e1,oc,vs,t,by rw[lR (λz=>by rw[z,e]at q1;cases q1;rw[dz]at q2;cases q2)];exact q1,q2,q3⟩
theorem Wh.row(w:Wh cA cM' cS cR cH cB cW cL H x M){l:Addr}{xs ys:List V}(e:H l=some (.lst xs))(n:l∉mx x):Wh cA cM' cS cR cH cB cW cL (upd H l (.lst ys)) x M:=
 w.fr λb u eb h=>by
  rw[i7];exact eb;rintro rfl;rcases h with h|h
  ·exact n h
  ·rw[e]at eb;cases eb;have:=h.1;rw[show tg (.lst xs)="l" from rfl,beq_self_eq_true]at this;cases this
end
section
variable{x:Own}{M:Mem}{O Y:List (Nat×Int)}
theorem In.pl(I:In x M O Y){k:Nat}{a:Int}(m:(k,a)∈O∨(k,a)∈Y):k<x.G.length/\x.p k=some a/\0<=a/\a+x.z k<=M.ws.length:=by
 have f:=I.fr;have:=f.hv;have:=f.ot;have:=f.o0;have:=f.yw;have:=f.y0;have:=f.yt;rcases m with m|m
 ·obtain⟨h1,_,h3⟩:=(I.oe k a).mp m;have:=I.O4 m;exact⟨h1,h3,⋯,⋯⟩
 ·obtain⟨h1,_,h3⟩:=(I.ye k a).mp m;have:=I.Qi m;exact⟨h1,h3,⋯,⋯⟩
theorem In.at(I:In x M O Y){k:Nat}{a:Int}(hk:k<x.G.length)(e:x.p k=some a):(k,a)∈O∨(k,a)∈Y:=by
 have:=I.ag k hk;by_cases z:x.g k=2
 ·exact .inl ((I.oe k a).mpr ⟨hk,z,e⟩)
 ·exact .inr ((I.ye k a).mpr ⟨hk,⋯,e⟩)
theorem In.pb(I:In x M O Y){t:Th}(g:Gd x t):∀k,t= .ce k->0<=(x.p k).getD 0/\(x.p k).getD 0<=9999:=λk e=>by
 subst e;obtain⟨a,e⟩:=Option.isSome_iff_exists.mp g.2;have:=I.pl (I.at g.1 e);have:=I.fr.l2;have:=x.z1 k;rw[e];show 0<=a/\a<=9999;lia
theorem qw{α:Type}{l:List α}{v d:α}{k:Nat}:(l++[v]).getD k d=if k<l.length then l.getD k d else if k=l.length then v else d:=by
 rw[ae];by_cases z:k<l.length
 ·rw[if_pos z,bJ z,←ae]
 ·rw[if_neg z,bD ⋯];by_cases y:k=l.length
  ·rw[if_pos y,y,e_];rfl
  ·rw[if_neg y,bz (by show 1<=k-l.length;lia)];rfl
noncomputable def Own.lay (x:Own) (a g:Int) (n:Nat):Own:=⟨x.P++[some a],x.G++[g],x.S++[ak n .no],x.D⟩
theorem In.lay(I:In x M O Y){a g:Int}{n:Nat}(n8:n<=8)(hl:x.G.length<20)(g0:0<=g)(g2:g<=2)(a0:0<=a)(al:a+n<M.ws.length){so sy:S3}(fr:XW {M with ws:=j8 M.ws a.toNat n g,so:=so,sy:=sy}){O' Y':List (Nat×Int)}
  (hO:(g=2/\O'=O++[(x.G.length,a)]/\Y'=Y)∨(g<2/\O'=O/\Y'=Y++[(x.G.length,a)])) (lo:oW (x.lay a g n).z 0 O' so.t) (ly:oW (x.lay a g n).z sy.b Y' sy.t)
  (away:∀k b,(k,b)∈O∨(k,b)∈Y->b+x.z k<=a∨a+n<b):In (x.lay a g n) {M with ws:=j8 M.ws a.toNat n g,so:=so,sy:=sy} O' Y':=by
 have ep:∀k,(x.lay a g n).p k=if k<x.G.length then x.p k else if k=x.G.length then some a else none:=λk=>by show(x.P++[some a]).getD k none=_;rw[qw,I.lp];rfl
 have eg:∀k,(x.lay a g n).g k=if k<x.G.length then x.g k else if k=x.G.length then g else 0:=λk=>by show(x.G++[g]).getD k 0=_;rw[qw];rfl
 have es:∀k,(x.lay a g n).s k=if k<x.G.length then x.s k else if k=x.G.length then ak n .no else []:=λk=>by show(x.S++[ak n Th.no]).getD k []=_;rw[qw,I.ls];rfl
 have el:(x.lay a g n).G.length=x.G.length+1:=by show(x.G++[g]).length=_;rw[aj];rfl
 have et:∀k j,k<x.G.length->(x.lay a g n).t k j=x.t k j:=λk j h=>by unfold Own.t;rw[es,if_pos h]
 have tn:∀j,(x.lay a g n).t x.G.length j= .no:=λj=>by
  unfold Own.t;rw[es,if_neg ⋯,if_pos rfl,ae,b_];by_cases z:j<n
  ·rw[if_pos z];rfl
  ·rw[if_neg z];rfl
 have to:∀k j,x.G.length<k->(x.lay a g n).t k j= .no:=λk j h=>by unfold Own.t;rw[es,if_neg ⋯,if_neg ⋯];rfl
 have th:∀{t:Th},Gd x t->Gd (x.lay a g n) t/\wd (x.lay a g n).p t=wd x.p t:=λ{t} h=>by
  cases t with
  |no=>exact⟨bY,rfl⟩
  |nu n=>exact⟨h,rfl⟩
  |ce k=>exact⟨⟨by rw[el];have:=h.1;lia,by rw[ep,if_pos h.1];exact h.2⟩,by show 2*((x.lay a g n).p k).getD 0+1=2*(x.p k).getD 0+1;rw[ep,if_pos h.1]⟩
 have old:∀{k:Nat} {b:Int},(k,b)∈O∨(k,b)∈Y->U5 (j8 M.ws a.toNat n g) b ((x.lay a g n).g k) (λj=>wd (x.lay a g n).p ((x.lay a g n).t k j)) ((x.lay a g n).s k).length:=λ{k b} m=>by
  obtain⟨p1,p2,p3,p4⟩:=I.pl m;have aw:=away k b m;obtain⟨c1,c2⟩:=I.ce k b m;have ez:x.z k=(x.s k).length+1:=rfl;refine⟨?_,λj hj=> ?_⟩
  ·rw[eg,if_pos p1,es,if_pos p1];show(j8 M.ws a.toNat n g).getD b.toNat 0=_;rw[Jm (by omega)];exact c1
  ·rw[es,if_pos p1]at hj;show mE (j8 M.ws a.toNat n g) (b+1+j)=wd (x.lay a g n).p ((x.lay a g n).t k j);rw[et k j p1,(th (I.gs k b m _ (x.tm hj))).2];show(j8 M.ws a.toNat n g).getD (b+1+(j:Int)).toNat 0=_;rw[Jm ⋯];exact c2 j hj
 have new:U5 (j8 M.ws a.toNat n g) a ((x.lay a g n).g x.G.length) (λj=>wd (x.lay a g n).p ((x.lay a g n).t x.G.length j)) ((x.lay a g n).s x.G.length).length:=by
  rw[eg,if_neg (bw _),if_pos rfl,es,if_neg (bw _),if_pos rfl,ba];refine⟨Jl (by omega),λj hj=> ?_⟩;show mE (j8 M.ws a.toNat n g) (a+1+j)=wd (x.lay a g n).p ((x.lay a g n).t x.G.length j);rw[tn];exact KI (by omega) (by omega) ⋯
 have mO:∀{k:Nat} {b:Int},(k,b)∈O'∨(k,b)∈Y'->((k,b)∈O∨(k,b)∈Y)∨(k=x.G.length/\b=a):=λ{k b} m=>by
  rcases hO with ⟨_,rfl,rfl⟩|⟨_,rfl,rfl⟩
  ·rcases m with m|m
   ·rcases List.mem_append.mp m with m|m
    ·exact .inl (.inl m)
    ·cases List.mem_singleton.mp m;exact .inr ⟨rfl,rfl⟩
   ·exact .inl (.inr m)
  ·rcases m with m|m
   ·exact .inl (.inl m)
   ·rcases List.mem_append.mp m with m|m
    ·exact .inl (.inr m)
    ·cases List.mem_singleton.mp m;exact .inr ⟨rfl,rfl⟩
 have oO:∀{e:Nat×Int},e∈O->e∈O':=λ{e} m=>by
  rcases hO with ⟨_,rfl,_⟩|⟨_,rfl,_⟩
  ·exact aQ _ m
  ·exact m
 have iff':∀(L L':List (Nat×Int)) (c:Int->Prop),(∀k b,(k,b)∈L↔k<x.G.length/\c (x.g k)/\x.p k=some b)->((c g/\L'=L++[(x.G.length,a)])∨(¬c g/\L'=L))->∀k b,(k,b)∈L'↔k<(x.lay a g n).G.length/\c ((x.lay a g n).g k)/\(x.lay a g n).p k=some b:=λL L' c h hc k b=>by
  rw[el,eg,ep];by_cases z:k<x.G.length
  ·rw[if_pos z,if_pos z];have:(k,b)∈L'↔(k,b)∈L:=by
    rcases hc with ⟨_,rfl⟩|⟨_,rfl⟩
    ·rw[cG,az];exact⟨λy=>y.resolve_right (λe=>by cases e;lia),.inl⟩
    ·exact Iff.rfl
   rw[this,h k b];exact⟨λy=>⟨⋯,y.2⟩,λy=>⟨z,y.2⟩⟩
  ·rw[if_neg z,if_neg z];have nL:(k,b)∉L:=λm=>z ((h k b).mp m).1;by_cases y:k=x.G.length
   ·rw[if_pos y,if_pos y];rcases hc with ⟨c1,rfl⟩|⟨c1,rfl⟩
    ·rw[cG,az];exact⟨λm=>by rcases m with m|m;exact absurd m nL;cases m;exact⟨⋯,c1,rfl⟩,λm=> .inr (by rw[y];have:=m.2.2;cases this;rfl)⟩
    ·exact⟨λm=>absurd m nL,λm=>absurd m.2.1 c1⟩
   ·refine⟨λm=> ?_,λm=>by lia⟩;rcases hc with ⟨_,rfl⟩|⟨_,rfl⟩
    ·rcases List.mem_append.mp m with m|m
     ·exact absurd m nL
     ·cases List.mem_singleton.mp m;exact absurd rfl y
    ·exact absurd m nL
 refine⟨?_,?_,by rw[el];lia,λk hk=> ?_,λk=> ?_,fr,I.wo.j8 n8 g0 g2,?_,?_,λk hk e=> ?_,lo,ly,λk b m=> ?_,λk b m t ht=> ?_,λt ht=>(th (I.gd t ht)).1,?_,I.d4,λq hq=> ?_,λk b j i m hj e gi=> ?_,I.kn,I.sep.of λk j=> ?_⟩
 ·rw[el];show(x.P++[some a]).length=_;rw[aj,I.lp];rfl
 ·rw[el];show(x.S++[_]).length=_;rw[aj,I.ls];rfl
 ·rw[el]at hk;rw[eg];by_cases z:k<x.G.length
  ·rw[if_pos z];exact I.ag k z
  ·rw[if_neg z,if_pos ⋯];exact⟨g0,g2⟩
 ·rw[es];by_cases z:k<x.G.length
  ·rw[if_pos z];exact I.s8 k
  ·rw[if_neg z];by_cases y:k=x.G.length
   ·rw[if_pos y,ba];exact n8
   ·rw[if_neg y];exact bR _
 ·refine iff' O O' (λv=>v=2) I.oe ?_;rcases hO with ⟨h1,h2,_⟩|⟨h1,h2,_⟩
  ·exact .inl ⟨h1,h2⟩
  ·exact .inr ⟨⋯,h2⟩
 ·refine iff' Y Y' (λv=>v<2) I.ye ?_;rcases hO with ⟨h1,_,h2⟩|⟨h1,_,h2⟩
  ·exact .inr ⟨⋯,h2⟩
  ·exact .inl ⟨h1,h2⟩
 ·rw[el]at hk;rw[eg]at e;rw[ep];by_cases z:k<x.G.length
  ·rw[if_pos z]at e⊢;exact I.od k z e
  ·rw[if_neg z,if_pos ⋯];rfl
 ·rcases mO m with m|⟨rfl,rfl⟩
  ·exact old m
  ·exact new
 ·rcases mO m with m|⟨rfl,rfl⟩
  ·rw[es,if_pos (I.pl m).1]at ht;exact(th (I.gs k b m t ht)).1
  ·rw[es,if_neg (bw _),if_pos rfl]at ht;rw[d_ ht];exact bY
 ·show M.hw=x.D.map _;rw[I.hd];exact bt λt ht=>(th (I.gd t ht)).2.symm
 ·obtain⟨k,b,j,i,m,hj,e,e2,gi⟩:=I.b1 q hq;have p:=I.pl (.inl m);have gi':=I.gs k b (.inl m) _ (x.tm hj);rw[e2]at gi';exact⟨k,b,j,i,oO m,by rw[es,if_pos p.1];exact hj,e,by rw[et k j p.1];exact e2,by rw[eg,if_pos gi'.1];exact gi⟩
 ·have m':(k,b)∈O:=by
   rcases hO with ⟨_,rfl,_⟩|⟨_,rfl,_⟩
   ·rcases List.mem_append.mp m with m|m
    ·exact m
    ·cases List.mem_singleton.mp m
     rw[tn]at e;cases e
   ·exact m
  have p:=I.pl (.inl m');rw[es,if_pos p.1]at hj;rw[et k j p.1]at e;have gi':=I.gs k b (.inl m') _ (x.tm hj);rw[e]at gi';rw[eg,if_pos gi'.1]at gi;exact I.b2 k b j i m' hj e gi
 ·rcases eK k x.G.length with l|l|l
  ·exact .inl (et k j l)
  ·rw[l];exact .inr (tn j)
  ·exact .inr (to k j l)
theorem In.held(I:In x M O Y){h:Nat}{t:Th}(g:Gd x t):In {x with D:=x.D.set h t} {M with hw:=M.hw.set h (wd x.p t)} O Y:=
 {I with
  fr:=⟨I.fr.l2,I.fr.ob,I.fr.o0,I.fr.ot,I.fr.hv,I.fr.yw,I.fr.y0,I.fr.yt,I.fr.st,I.fr.rm,I.fr.Rt⟩
  gs:=λk a m t ht=>by have:=I.gs k a m t ht;cases t with|no=>exact this|nu n=>exact this|ce k=>exact this
  gd:=λu hu=>by
   have:Gd x u:=by rcases dZ hu with z|rfl;exact I.gd u z;exact g
   cases u with|no=>exact this|nu n=>exact this|ce k=>exact this
  hd:=by show M.hw.set h (wd x.p t)=(x.D.set h t).map (wd x.p);rw[I.hd,ei]
  d4:=by show 1<=(x.D.set h t).length/\(x.D.set h t).length<=4;rw[aN];exact I.d4}
theorem In.UY(I:In x M O Y){k k':Nat}{a a' i:Int}(m:(k,a)∈O∨(k,a)∈Y)(m':(k',a')∈O∨(k',a')∈Y)(h1:a<=i)(h2:i<a+x.z k)(h3:a'<=i)(h4:i<a'+x.z k'):k=k'/\a=a':=by
 have f:=I.fr;have:=f.hv;have:=f.ot;have:=f.o0;have:=f.yw;have:=f.y0;have:=f.yt;rcases m with m|m
 ·rcases m' with m'|m'
  ·exact oH x.z1 I.lo m m' h1 h2 h3 h4
  ·have:=I.O4 m;have:=I.Qi m';lia
 ·rcases m' with m'|m'
  ·have:=I.O4 m';have:=I.Qi m;lia
  ·exact oH x.z1 I.ly m m' h1 h2 h3 h4
noncomputable def Own.put (x:Own) (k j:Nat) (t:Th):Own:={x with S:=x.S.set k ((x.s k).set j t)}
theorem Own.Mn{k j k':Nat}{t:Th}(h:k<x.S.length):(x.put k j t).s k'=if k'=k then(x.s k).set j t else x.s k':=by
 show(x.S.set k _).getD k' []=_;rw[ae,aW];by_cases z:k=k'
 ·subst z;rw[if_pos rfl,if_pos h,if_pos rfl];rfl
 ·rw[if_neg z,if_neg (ah z),←ae];rfl
theorem Own.Pu{k j k' j':Nat}{t:Th}(h:k<x.S.length)(hj:j<(x.s k).length):(x.put k j t).t k' j'=if k'=k/\j'=j then t else x.t k' j':=by
 unfold Own.t;rw[Own.Mn h];by_cases z:k'=k
 ·subst z;rw[if_pos rfl,ae,aW];by_cases y:j=j'
  ·subst y;rw[if_pos rfl,if_pos hj,if_pos ⟨rfl,rfl⟩];rfl
  ·rw[if_neg y,if_neg λe=>y e.2.symm,←ae]
 ·rw[if_neg z,if_neg λe=>z e.1]
theorem In.put(I:In x M O Y){k j:Nat}{a:Int}{t:Th}(m:(k,a)∈O∨(k,a)∈Y)(hj:j<(x.s k).length)(g:Gd x t)(sep:Fl 10 (x.put k j t)){ks:List Int}(kn:ks.Nodup)
  (hks:∀q,q∈ks↔(q∈M.ks/\q≠a+1+(j:Int))∨(q=a+1+(j:Int)/\x.g k=2/\GZ x t=true)):In (x.put k j t) {M with ws:=M.ws.set (a+1+(j:Int)).toNat (wd x.p t),ks:=ks} O Y:=by
 have hS:k<x.S.length:=by rw[I.ls];exact(I.pl m).1
 have pm:=I.pl m;have es:=λk'=>Own.Mn (x:=x) (j:=j) (k':=k') (t:=t) hS;have et:=λk' j'=>Own.Pu (x:=x) (k':=k') (j':=j') (t:=t) hS hj;have sl:∀k',((x.put k j t).s k').length=(x.s k').length:=λk'=>by
  rw[es];by_cases z:k'=k
  ·subst z;rw[if_pos rfl,aN]
  ·rw[if_neg z]
 have ez:(x.put k j t).z=x.z:=by funext k';unfold Own.z;rw[sl]
 have zk:∀k',x.z k'=(x.s k').length+1:=λ_=>rfl;have th:∀{u:Th},Gd x u->Gd (x.put k j t) u:=λ{u} h=>by cases u with|no=>exact h|nu n=>exact h|ce k=>exact h
 have wne:∀{p:Int},0<=p->p≠a+1+j->mE (M.ws.set (a+1+(j:Int)).toNat (wd x.p t)) p=mE M.ws p:=λ{p} h n=>uu ⋯ h (ah n);refine⟨I.lp,?_,I.Bz,I.ag,λk'=>by rw[sl];exact I.s8 k',⟨?_,I.fr.ob,I.fr.o0,I.fr.ot,?_,I.fr.yw,I.fr.y0,I.fr.yt,I.fr.st,I.fr.rm,I.fr.Rt⟩,I.wo.set (L6 I g x.p (I.pb g)),I.oe,I.ye,I.od,by rw[ez];exact I.lo,by rw[ez];exact I.ly,λk' b m'=> ?_,λk' b m' u hu=> ?_,λu hu=>th (I.gd u hu),I.hd,I.d4,λq hq=> ?_,λk' b j' i m' hj' e gi=> ?_,kn,sep⟩
 ·show(x.S.set k _).length=_;rw[aN];exact I.ls
 ·show(M.ws.set _ _).length<=200;rw[aN];exact I.fr.l2
 ·show(M.sy.b=M.so.e/\M.ss.b=M.sy.e/\M.ss.e=((M.ws.set _ _).length:Int))∨(M.ss.b=M.so.e/\M.sy.b=M.ss.e/\M.sy.e=((M.ws.set _ _).length:Int));rw[aN];exact I.fr.hv
 ·obtain⟨c1,c2⟩:=I.ce k' b m';have p':=I.pl m';have z':=zk k';have z'':=zk k;refine⟨?_,λj' hj'=> ?_⟩
  ·rw[sl];refine(wne p'.2.2.1 λe=> ?_).trans c1;have d:=I.UY m' m (i:=b) (b7 _) ⋯ ⋯ ⋯;lia
  ·rw[sl]at hj';show mE (M.ws.set _ _) (b+1+j')=wd x.p ((x.put k j t).t k' j');rw[et];by_cases e:b+1+(j':Int)=a+1+j
   ·have d:=I.UY m' m (i:=b+1+j') ⋯ ⋯ ⋯ ⋯;obtain⟨rfl,rfl⟩:=d;have:j'=j:=by lia
    subst this;rw[if_pos ⟨rfl,rfl⟩,ur ⋯ ⋯]
   ·rw[wne ⋯ e,if_neg λy=>e ?_]
    ·exact c2 j' hj'
    ·obtain⟨rfl,rfl⟩:=y;have:=pm.2.1;rw[p'.2.1]at this
     cases this;rfl
 ·rw[es]at hu;by_cases z:k'=k
  ·subst z;rw[if_pos rfl]at hu;rcases dZ hu with y|rfl
   ·exact th (I.gs k' b m' u y)
   ·exact th g
  ·rw[if_neg z]at hu;exact th (I.gs k' b m' u hu)
 ·rcases (hks q).mp hq with ⟨h1,h2⟩|⟨h1,h2,h3⟩
  ·obtain⟨k',b,j',i,m',hj',e,e2,gi⟩:=I.b1 q h1;refine⟨k',b,j',i,m',by rw[sl];exact hj',e,?_,gi⟩;rw[et,if_neg λy=> ?_];exact e2;obtain⟨rfl,rfl⟩:=y;have:=pm.2.1;rw[(I.pl (.inl m')).2.1]at this
   cases this
   exact h2 e
  ·cases t with
   |no=>cases h3
   |nu n=>cases h3
   |ce i=>
    have mO:(k,a)∈O:=(I.oe k a).mpr ⟨pm.1,h2,pm.2.1⟩;exact⟨k,a,j,i,mO,by rw[sl];exact hj,h1,by rw[et,if_pos ⟨rfl,rfl⟩],of_decide_eq_true h3⟩
 ·rw[sl]at hj';rw[et]at e;have p':=I.pl (.inl m');have z':=zk k';have z'':=zk k;by_cases y:k'=k/\j'=j
  ·rw[if_pos y]at e;obtain⟨rfl,rfl⟩:=y;have ea:=pm.2.1;rw[p'.2.1]at ea
   cases ea
   subst e;exact(hks _).mpr (.inr ⟨rfl,((I.oe _ _).mp m').2.1,decide_eq_true gi⟩)
  ·rw[if_neg y]at e;refine(hks _).mpr (.inl ⟨I.b2 k' b j' i m' hj' e gi,λe2=>y ?_⟩);have d:=I.UY (.inl m') m (i:=b+1+j') ⋯ ⋯ ⋯ ⋯;exact⟨d.1,⋯⟩
theorem In.new{o y n:Int}(o0:0<=o)(y0:0<=y)(ol:o<=73)(yl:y<=20)(yo:y<=o)(n1:1<=n)(n4:n<=4):In ⟨[],[],[],ak n.toNat .no⟩ ⟨ak (o+2*y).toNat (-1),⟨0,o,0⟩,⟨o,o+y,o⟩,⟨o+y,o+2*y,o+y⟩,ak n.toNat (-1),[],[],[],[]⟩ [] [] where
 lp:=rfl
 ls:=rfl
 Bz:=bR _
 ag:=λk h=>absurd h (cq _)
 s8:=λk=>bR _
 fr:=⟨by show(ak _ _).length<=200;rw[ba];lia,rfl,b7 _,o0,.inl ⟨rfl,rfl,by show o+2*y=((ak _ _).length:Int);rw[ba];lia⟩,by show o+y-o=o+2*y-(o+y);lia,b7 _,by show o<=o+y;lia,rfl,by show o-o<=o-0;lia,ol⟩
 wo:=λw hw=>by rw[d_ hw];decide
 oe:=λk a=>⟨(λz=>by cases z),λz=>absurd z.1 (cq _)⟩
 ye:=λk a=>⟨(λz=>by cases z),λz=>absurd z.1 (cq _)⟩
 od:=λk h=>absurd h (cq _)
 lo:=rfl
 ly:=rfl
 ce:=λk a m=>by rcases m with m|m<;>cases m
 gs:=λk a m=>by rcases m with m|m<;>cases m
 gd:=λt ht=>by rw[d_ ht];exact bY
 hd:=by rw[fD];rfl
 d4:=by rw[ba];lia
 b1:=λq h=>nomatch h
 b2:=λk a j i m=>nomatch m
 kn:=bB
 sep:=⟨[],0,[],by decide,by decide,λk j _=> .inl rfl⟩
end
theorem Own.TK{x:Own}{a g:Int}{n:Nat}(h:∀k j,x.t k j= .no)(k j:Nat):(x.lay a g n).t k j= .no:=by
 show((x.S++[ak n Th.no]).getD k []).getD j .no= .no;rw[qw];by_cases z:k<x.S.length
 ·rw[if_pos z];exact h k j
 ·rw[if_neg z];by_cases y:k=x.S.length
  ·rw[if_pos y,ae,b_];by_cases w:j<n
   ·rw[if_pos w];rfl
   ·rw[if_neg w];rfl
  ·rw[if_neg y];rfl
theorem Own.TJ{x:Own}{a g:Int}{n:Nat}(lp:x.P.length=x.G.length)(h:∀k,k<x.G.length->(x.p k).isSome=true)(k:Nat)(hk:k<(x.lay a g n).G.length):((x.lay a g n).p k).isSome=true:=by
 have hk:k<(x.G++[g]).length:=hk;rw[aj]at hk;have hk:k<x.G.length+1:=hk;show((x.P++[some a]).getD k none).isSome=true;rw[qw,lp];by_cases z:k<x.G.length
 ·rw[if_pos z];exact h k z
 ·rw[if_neg z,if_pos ⋯];rfl
theorem Own.lay_z{x:Own}{a g:Int}{n k:Nat}(ls:x.S.length=x.G.length):(k<x.G.length->(x.lay a g n).z k=x.z k)/\(x.lay a g n).z x.G.length=n+1:=by
 have e:∀k,(x.lay a g n).z k=(((x.S++[ak n Th.no]).getD k []).length:Int)+1:=λ_=>rfl;refine⟨λh=> ?_,?_⟩
 ·rw[e,qw,if_pos ⋯];rfl
 ·rw[e,qw,if_neg ⋯,if_pos ls.symm,ba]
theorem In.L8{x:Own}{M:Mem}{O Y:List (Nat×Int)}(I:In x M O Y){a g:Int}{n:Nat}:oW (x.lay a g n).z 0 O M.so.t/\oW (x.lay a g n).z M.sy.b Y M.sy.t:=
 ⟨FZ (λe he=>(Own.lay_z I.ls).1 ((I.oe e.1 e.2).mp he).1) I.lo,FZ (λe he=>(Own.lay_z I.ls).1 ((I.ye e.1 e.2).mp he).1) I.ly⟩
structure Ow where
 d:Addr
 lp:Addr
 la:Addr
 ls:Addr
 lh:Addr
 rs:List Addr
 more:List (Key×V)
noncomputable def wt (p r:Addr) (u:Ow):List (Key×V):=(.inr "areas",.ref p)::(.inr "roots",.ref r)::(.inr "places",.ref u.lp)::(.inr "ages",.ref u.la)::(.inr "slots",.ref u.ls)::(.inr "hands",.ref u.lh)::u.more
section
variable{p r:Addr}{u:Ow}
theorem Jw:nD (wt p r u) (dg (aI "areas"))=some (.ref p):=by kernel_rfl
theorem Cj:nD (wt p r u) (dg (aI "roots"))=some (.ref r):=by kernel_rfl
theorem kZ:nD (wt p r u) (dg (aI "places"))=some (.ref u.lp):=by kernel_rfl
theorem nh:nD (wt p r u) (dg (aI "ages"))=some (.ref u.la):=by kernel_rfl
theorem uA:nD (wt p r u) (dg (aI "slots"))=some (.ref u.ls):=by kernel_rfl
theorem Jx:nD (wt p r u) (dg (aI "hands"))=some (.ref u.lh):=by kernel_rfl
end
def Ki(H:Hp):Th->V->Prop
 | .no,v=>v= .non
 | .nu n,v=>∃a,v= .ref a/\H a=some (.tup [.str (aI "number"),.int n])
 | .ce k,v=>∃a,v= .ref a/\H a=some (.tup [.str (aI "cell"),.int k])
structure wz(H:Hp)(ts:List Th)(vs:List V):Prop where
 l:vs.length=ts.length
 g:∀(j:Nat) (t:Th) (v:V),ts[j]? =some t->vs[j]? =some v->Ki H t v
noncomputable def Ow.as (u:Ow):List Addr:=u.lp::u.la::u.ls::u.lh::u.rs
structure j3(H:Hp)(x:Ax)(u:Ow)(w:Own):Prop where
 dc:H u.d=some (.dK (wt x.p x.r u))
 pl:H u.lp=some (.lst (w.P.map tv))
 ag:H u.la=some (.lst (w.G.map ι))
 sl:H u.ls=some (.lst (u.rs.map ξ))
 rl:u.rs.length=w.S.length
 sr:∀(k:Nat) (a:Addr),u.rs[k]? =some a->∃vs,H a=some (.lst vs)/\wz H (w.s k) vs
 hd:∃vs,H u.lh=some (.lst vs)/\wz H w.D vs
 nd:u.as.Nodup
 nm:∀a∈u.d::u.as,a∉mx x
theorem j3.ne{H:Hp}{x:Ax}{u:Ow}{w:Own}(o:j3 H x u w)(a:Addr)(h:a∈u.as):a≠x.q/\a≠x.g/\a≠x.v:=(OY (o.nm a (ao _ h))).1
theorem j3.ll{H:Hp}{x:Ax}{u:Ow}{w:Own}(h:j3 H x u w){a:Addr}(ha:a∈u.as):∃ys,H a=some (.lst ys):=by
 rcases List.mem_cons.mp ha with rfl|ha
 ·exact⟨_,h.pl⟩
 rcases List.mem_cons.mp ha with rfl|ha
 ·exact⟨_,h.ag⟩
 rcases List.mem_cons.mp ha with rfl|ha
 ·exact⟨_,h.sl⟩
 rcases List.mem_cons.mp ha with rfl|ha
 ·obtain⟨vs,e,_⟩:=h.hd;exact⟨_,e⟩
 ·obtain⟨i,hi,rfl⟩:=List.mem_iff_getElem.mp ha;obtain⟨vs,e,_⟩:=h.sr i _ (ab hi);exact⟨_,e⟩
theorem Wv{xs:List V}(h:(tg (.lst xs)=="l")=false):False:=by rw[show tg (.lst xs)="l" from rfl,beq_self_eq_true]at h;cases h
theorem j3.off{H:Hp}{x:Ax}{u:Ow}{w:Own}(o:j3 H x u w){a b:Addr}{v:HO}(ha:a∈u.as)(e:H b=some v)(z:b∈mx x∨(tg v=="l")=false/\(tg v=="d")=false):b≠a:=λy=>by
 subst y;rcases z with z|z
 ·exact o.nm b (ao _ ha) z
 ·obtain⟨ys,q⟩:=o.ll ha;rw[q]at e;cases e;exact Wv z.1
theorem Ki.kx{H H':Hp}{L:List Addr}{t:Th}{v:V}(h:Ki H t v)(k:Kx L H H')(hT:∀a∈L,∀xs,H a≠some (.tup xs)):Ki H' t v:=by
 cases t with
 |no=>exact h
 |nu n=>obtain⟨a,e,z⟩:=h;exact⟨a,e,k _ _ z rfl λy=>hT a y _ z⟩
 |ce n=>obtain⟨a,e,z⟩:=h;exact⟨a,e,k _ _ z rfl λy=>hT a y _ z⟩
theorem wz.kx{H H':Hp}{L:List Addr}{t:List Th}{v:List V}(h:wz H t v)(k:Kx L H H')(hT:∀a∈L,∀xs,H a≠some (.tup xs)):wz H' t v:=⟨h.l,λj t v e1 e2=>(h.g j t v e1 e2).kx k hT⟩
theorem j3.kx{H H':Hp}{x:Ax}{u:Ow}{w:Own}{L:List Addr}(h:j3 H x u w)(k:Kx L H H')(hL:∀a∈u.d::u.as,a∉L)(hT:∀a∈L,∀xs,H a≠some (.tup xs)):j3 H' x u w:=by
 have m:∀a∈u.as,a∉L:=λa ha=>hL a (ao _ ha);refine{h with dc:=k _ _ h.dc rfl (hL _ (ax ..)),pl:=k _ _ h.pl rfl (m _ (by simp[Ow.as])),ag:=k _ _ h.ag rfl (m _ (by simp[Ow.as])),sl:=k _ _ h.sl rfl (m _ (by simp[Ow.as])),sr:=λi a e=> ?_,hd:= ?_}
 ·obtain⟨vs,e1,e2⟩:=h.sr i a e;exact⟨vs,k _ _ e1 rfl (m _ (by have:=aJ e;simp[Ow.as,this])),e2.kx k hT⟩
 ·obtain⟨vs,e1,e2⟩:=h.hd;exact⟨vs,k _ _ e1 rfl (m _ (by simp[Ow.as])),e2.kx k hT⟩
theorem j3.same{H H':Hp}{x:Ax}{u:Ow}{w:Own}(h:j3 H x u w)(s:jo H H'):j3 H' x u w:=h.kx (L:=[]) (vO s) (λ_ _ z=>nomatch z) λ_ z=>nomatch z
section
variable{cA cM cS cR cH cB cW cL:Addr}{H H':Hp}{x:Ax}{M:Mem}{u:Ow}{w:Own}
theorem j3.go(h:j3 H x u w)(o:Wh cA cM cS cR cH cB cW cL H x M)(k:Kx (mx x) H H'):j3 H' x u w:=
 h.kx k h.nm λa z xs e=>by
  obtain⟨v,q,_,n,_⟩:=o.Mu a z;rw[e]at q;cases q;exact n _ rfl
end
theorem Ow.U2{u:Ow}(h:u.as.Nodup):u.lp≠u.la/\u.ls≠u.lp/\u.ls≠u.la/\u.lh≠u.lp/\u.lh≠u.la/\u.lh≠u.ls/\(∀a∈u.rs,a≠u.lp/\a≠u.la/\a≠u.ls/\a≠u.lh)/\u.rs.Nodup:=by
 unfold Ow.as at h;simp only[cY,aP,not_or]at h;obtain⟨⟨h1,h2,h3,h4⟩,⟨h5,h6,h7⟩,⟨h8,h9⟩,h10,h11⟩:=h;exact⟨h1,ah h2,ah h5,ah h3,ah h6,ah h8,λa ha=>⟨λe=>h4 (e▸ha),λe=>h7 (e▸ha),λe=>h9 (e▸ha),λe=>h10 (e▸ha)⟩,h11⟩
section
variable{cA cM cS cR cH cB cW cL:Addr}{H H':Hp}{x:Ax}{M:Mem}{u:Ow}{w:Own}
theorem j3.XO(o:j3 H x u w){P:List (Option Int)}{G:List Int}(f:∀b v,H b=some v->b≠u.lp->b≠u.la->H' b=some v)(e1:H' u.lp=some (.lst (P.map tv)))(e2:H' u.la=some (.lst (G.map ι))):j3 H' x u ⟨P,G,w.S,w.D⟩:=by
 have n:=Ow.U2 o.nd;have tp:∀{ts:List Th} {vs:List V},wz H ts vs->wz H' ts vs:=λ{ts vs} h=>h.kx (L:=[u.lp,u.la]) (λb v e _ z=>by rw[aP,not_or,az]at z;exact f b v e z.1 z.2) λa ha xs e=>by
  rcases List.mem_cons.mp ha with rfl|ha
  ·rw[o.pl]at e;cases e
  ·rw[List.mem_singleton.mp ha,o.ag]at e;cases e
 refine⟨f _ _ o.dc (jA o.dc o.pl) (jA o.dc o.ag),e1,e2,f _ _ o.sl n.2.1 n.2.2.1,o.rl,λk a e=> ?_,?_,o.nd,o.nm⟩
 ·obtain⟨vs,z1,z2⟩:=o.sr k a e;have m:=n.2.2.2.2.2.2.1 a (aJ e);exact⟨vs,f _ _ z1 m.1 m.2.1,tp z2⟩
 ·obtain⟨vs,z1,z2⟩:=o.hd;exact⟨vs,f _ _ z1 n.2.2.2.1 n.2.2.2.2.1,tp z2⟩
theorem Wh.Wd(h:Wh cA cM cS cR cH cB cW cL H x M)(o:j3 H x u w)(f:∀b v,H b=some v->b≠u.lp->b≠u.la->H' b=some v):Wh cA cM cS cR cH cB cW cL H' x M:=
 h.fr λb v e z=>f b v e (o.off (by simp[Ow.as]) e z) (o.off (by simp[Ow.as]) e z)
theorem Wh.Xv(h:Wh cA cM cS cR cH cB cW cL H x M)(o:j3 H x u w)(f:∀b v,H b=some v->b≠u.lp->b≠u.la->b≠u.ls->H' b=some v):Wh cA cM cS cR cH cB cW cL H' x M:=
 h.fr λb v e z=>f b v e (o.off (by simp[Ow.as]) e z) (o.off (by simp[Ow.as]) e z) (o.off (by simp[Ow.as]) e z)
theorem j3.lay(o:j3 H x u w){a g:Int}{n:Nat}{nr:Addr}(hr:H nr=none)(wv:nr∉mx x)(f:∀b v,H b=some v->Hq v=true->b≠x.q->b≠u.lp->b≠u.la->b≠u.ls->H' b=some v)(wq:∃ys,H x.q=some (.lst ys))(e1:H' u.lp=some (.lst ((w.P++[some a]).map tv)))(e2:H' u.la=some (.lst ((w.G++[g]).map ι)))(e3:H' u.ls=some (.lst ((u.rs++[nr]).map ξ)))(e4:H' nr=some (.lst (ak n .non)))(ls:w.S.length=w.G.length):j3 H' x {u with rs:=u.rs++[nr]} (w.lay a g n):=by
 have n3:=Ow.U2 o.nd;have nq:∀b∈u.as,b≠x.q:=λb hb=>(o.ne b hb).1;obtain⟨ys,eq⟩:=wq;have tp:∀{ts:List Th} {vs:List V},wz H ts vs->wz H' ts vs:=λ{ts vs} h=>h.kx (L:=[x.q,u.lp,u.la,u.ls]) (λb v e k z=>by simp only[aP,aG,or_false,not_or]at z;exact f b v e k z.1 z.2.1 z.2.2.1 z.2.2.2) λa ha xs e=>by
  simp only[aP,aG,or_false]at ha;rcases ha with rfl|rfl|rfl|rfl
  ·rw[eq]at e;cases e
  ·rw[o.pl]at e;cases e
  ·rw[o.ag]at e;cases e
  ·rw[o.sl]at e;cases e
 have nn:∀b∈u.as,b≠nr:=λb hb=>by
  obtain⟨v,e⟩:=o.ll hb;exact i4 e hr
 refine⟨f _ _ o.dc rfl (jA o.dc eq) (jA o.dc o.pl) (jA o.dc o.ag) (jA o.dc o.sl),e1,e2,e3,?_,λk b e=> ?_,?_,?_,λb hb=> ?_⟩
 ·show(u.rs++[nr]).length=(w.S++[_]).length;rw[aj,aj,o.rl];rfl
 ·show∃vs,H' b=some (.lst vs)/\wz H' ((w.S++[ak n Th.no]).getD k []) vs;have e:(u.rs++[nr])[k]? =some b:=e;rw[qw];by_cases z:k<u.rs.length
  ·rw[bJ z]at e;rw[if_pos (by rw[←o.rl];exact z)];obtain⟨vs,z1,z2⟩:=o.sr k b e;have m:=n3.2.2.2.2.2.2.1 b (aJ e);exact⟨vs,f _ _ z1 rfl (nq b (by simp[Ow.as,aJ e])) m.1 m.2.1 m.2.2.1,tp z2⟩
  ·rw[bD ⋯]at e;have hk:k-u.rs.length=0:=by
    refine Nat.eq_zero_of_not_pos λy=> ?_;rw[bz (by show 1<=_;lia)]at e;cases e
   rw[hk]at e
   cases e
   rw[if_neg (by rw[←o.rl];exact z),if_pos (by rw[←o.rl];lia)];refine⟨_,e4,by rw[ba,ba],λj t v h1 h2=> ?_⟩;rw[b_]at h1 h2;by_cases y:j<n
   ·rw[if_pos y]at h1 h2;cases h1;cases h2;rfl
   ·rw[if_neg y]at h1;cases h1
 ·obtain⟨vs,z1,z2⟩:=o.hd;exact⟨vs,f _ _ z1 rfl (nq _ (by simp[Ow.as])) n3.2.2.2.1 n3.2.2.2.2.1 n3.2.2.2.2.2.1,tp z2⟩
 ·show(u.lp::u.la::u.ls::u.lh::(u.rs++[nr])).Nodup;have:u.lp::u.la::u.ls::u.lh::(u.rs++[nr])=u.as++[nr]:=rfl;rw[this];exact List.nodup_append.mpr ⟨o.nd,List.nodup_cons.mpr ⟨aG,bB⟩,λa ha b hb e=>by rw[az]at hb;subst hb;exact nn a ha e⟩
 ·have hb:b∈(u.d::u.as)++[nr]:=hb;rcases List.mem_append.mp hb with hb|hb
  ·exact o.nm b hb
  ·rw[List.mem_singleton.mp hb];exact wv
end
theorem Mw{H:Hp}{a:Addr}{o:HO}:Kx [a] H (upd H a o):=λb v e _ n=>by rw[i7 λz=>n (by rw[z];exact List.mem_singleton.mpr rfl)];exact e
theorem wz.upd{H:Hp}{a:Addr}{xs ys:List V}{ts:List Th}{vs:List V}(h:wz H ts vs)(e:H a=some (.lst xs)):wz (upd H a (.lst ys)) ts vs:=h.kx Mw λb hb zs z=>by rw[List.mem_singleton.mp hb,e]at z;cases z
theorem Ki.upd{H:Hp}{a:Addr}{xs ys:List V}{t:Th}{v:V}(h:Ki H t v)(e:H a=some (.lst xs)):Ki (upd H a (.lst ys)) t v:=h.kx Mw λb hb zs z=>by rw[List.mem_singleton.mp hb,e]at z;cases z
theorem wz.set{H:Hp}{ts:List Th}{vs:List V}{j:Nat}{t:Th}{v:V}(h:wz H ts vs)(k:Ki H t v):wz H (ts.set j t) (vs.set j v):=by
 refine⟨by rw[aN,aN,h.l],λi t' v' e1 e2=> ?_⟩;rw[aW]at e1 e2;by_cases z:j=i
 ·rw[if_pos z]at e1 e2;by_cases y:j<ts.length
  ·rw[if_pos y]at e1;rw[if_pos (by rw[h.l];exact y)]at e2
   cases e1;cases e2;exact k
  ·rw[if_neg y]at e1;cases e1
 ·rw[if_neg z]at e1 e2;exact h.g i t' v' e1 e2
section
variable{cA cM cS cR cH cB cW cL:Addr}{H H':Hp}{x:Ax}{M:Mem}{u:Ow}{w:Own}
theorem j3.Xf(o:j3 H x u w){vh:List V}(eh:H u.lh=some (.lst vh))(th:wz H w.D vh){j:Nat}{t:Th}{v:V}(k:Ki H t v):j3 (upd H u.lh (.lst (vh.set j v))) x u {w with D:=w.D.set j t}:=by
 have n:=Ow.U2 o.nd;have f:∀{b v'},H b=some v'->b≠u.lh->upd H u.lh (.lst (vh.set j v)) b=some v':=λ{b v'} e z=>qp e z;refine⟨f o.dc (jA o.dc eh),f o.pl (ah n.2.2.2.1),f o.ag (ah n.2.2.2.2.1),f o.sl (ah n.2.2.2.2.2.1),o.rl,λi a e=> ?_,⟨_,i8,(th.set k).upd eh⟩,o.nd,o.nm⟩;obtain⟨vs,z1,z2⟩:=o.sr i a e;exact⟨vs,f z1 (n.2.2.2.2.2.2.1 a (aJ e)).2.2.2,z2.upd eh⟩
theorem j3.sset(o:j3 H x u w){k j:Nat}{ra:Addr}{rv:List V}(r1:u.rs[k]? =some ra)(r3:H ra=some (.lst rv))(r4:wz H (w.s k) rv){t:Th}{v:V}(kv:Ki H t v):j3 (upd H ra (.lst (rv.set j v))) x u (w.put k j t):=by
 have n:=Ow.U2 o.nd;have mr:=n.2.2.2.2.2.2.1 ra (aJ r1);have hk:k<w.S.length:=by have:=(List.getElem?_eq_some_iff.mp r1).1;rw[o.rl]at this;exact this
 have f:∀{b v'},H b=some v'->b≠ra->upd H ra (.lst (rv.set j v)) b=some v':=λ{b v'} e z=>qp e z;refine⟨f o.dc (jA o.dc r3),f o.pl (ah mr.1),f o.ag (ah mr.2.1),f o.sl (ah mr.2.2.1),by show _=(w.S.set _ _).length;rw[aN];exact o.rl,λi a e=> ?_,?_,o.nd,o.nm⟩
 ·rw[Own.Mn hk];by_cases z:i=k
  ·subst z;rw[r1]at e;cases e
   rw[if_pos rfl];exact⟨_,i8,(r4.set kv).upd r3⟩
  ·rw[if_neg z];obtain⟨vs,z1,z2⟩:=o.sr i a e;refine⟨vs,f z1 λy=>z ?_,z2.upd r3⟩;obtain⟨hi,e⟩:=List.getElem?_eq_some_iff.mp e;obtain⟨hk',e'⟩:=List.getElem?_eq_some_iff.mp r1;rcases eK i k with l|l|l
   ·exact absurd (e.trans (y.trans e'.symm)) (List.pairwise_iff_getElem.mp n.2.2.2.2.2.2.2 i k hi hk' l)
   ·exact l
   ·exact absurd (e'.trans (y.symm.trans e.symm)) (List.pairwise_iff_getElem.mp n.2.2.2.2.2.2.2 k i hk' hi l)
 ·obtain⟨vs,z1,z2⟩:=o.hd;exact⟨vs,f z1 (ah mr.2.2.2),z2.upd r3⟩
end
noncomputable def NG (H:Hp) (y:Addr):Int×Int:=match H y with
 |some (.tup [.int a,.int b])=>(a,b)
 |_=>(0,0)
structure NM(H:Hp)(as:List Addr)(L:List (Int×Int)):Prop where
 e:as.map (NG H)=L
 t:∀y∈as,H y=some (.tup [.int (NG H y).1,.int (NG H y).2])
theorem KU{H:Hp}{y:Addr}{a b:Int}(h:H y=some (.tup [.int a,.int b])):NG H y=(a,b):=by unfold NG;rw[h]
theorem NM.same{H H':Hp}{as:List Addr}{L:List (Int×Int)}(h:NM H as L)(s:jo H H'):NM H' as L:=by
 have g:∀y∈as,NG H' y=NG H y:=λy hy=>KU (s _ _ (h.t y hy));exact⟨by rw[←h.e];exact bt g,λy hy=>by rw[g y hy];exact s _ _ (h.t y hy)⟩
theorem NM.snoc{H:Hp}{as:List Addr}{L:List (Int×Int)}{y:Addr}{a b:Int}(h:NM H as L)(e:H y=some (.tup [.int a,.int b])):NM H (as++[y]) (L++[(a,b)]):=by
 refine⟨by rw[aB,h.e,aE,bZ,KU e],λz hz=> ?_⟩;rcases List.mem_append.mp hz with hz|hz
 ·exact h.t z hz
 ·rw[List.mem_singleton.mp hz,KU e];exact e
noncomputable def olds (x:Own) (n:Nat):List (Int×Int):=((bh n).filter λk=>decide (x.g k=2)).map λk:Nat=>((x.p k).getD 0,(k:Int))
theorem F8{x:Own}{n:Nat}:olds x (n+1)=if x.g n=2 then olds x n++[((x.p n).getD 0,(n:Int))] else olds x n:=by
 unfold olds;rw[iJ,dk,aB];by_cases z:x.g n=2
 ·rw[if_pos z,bH (by simpa using z)];rfl
 ·rw[if_neg z,bG (by simpa using z),dv,bZ,aM]
theorem O1{x:Own}{n:Nat}:(olds x n).length<=n:=by
 unfold olds;rw[aa];exact aA (cV ..) (by rw[bI];exact aq _)
section
variable{x:Own}{M:Mem}{O Y:List (Nat×Int)}
noncomputable def U3 (e:Nat×Int):Int×Int:=(e.2,(e.1:Int))
theorem In.DC(I:In x M O Y){y:Int×Int}:y∈olds x x.G.length↔y∈O.map U3:=by
 unfold olds;rw[g_,g_];constructor
 ·rintro⟨k,hk,rfl⟩;obtain⟨h1,h2⟩:=List.mem_filter.mp hk;have h1:=List.mem_range.mp h1;have h2:=of_decide_eq_true h2;obtain⟨a,ea⟩:=Option.isSome_iff_exists.mp (I.od k h1 h2);exact⟨(k,a),(I.oe k a).mpr ⟨h1,h2,ea⟩,by rw[ea];rfl⟩
 ·rintro⟨e,he,rfl⟩;obtain⟨h1,h2,h3⟩:=(I.oe e.1 e.2).mp he;exact⟨e.1,List.mem_filter.mpr ⟨List.mem_range.mpr h1,decide_eq_true h2⟩,by rw[h3];rfl⟩
theorem L9{z:Nat->Int}(hz:∀k,1<=z k):∀{l:List (Nat×Int)} {a b:Int},oW z a l b->(l.map bN).Pairwise (·<·)
 | [],_,_,_=> .nil
 |e::r,a,b,h=>by
  rw[aE,dM];refine⟨λp hp=> ?_,L9 hz h.2⟩;obtain⟨f,hf,rfl⟩:=List.mem_map.mp hp;have:=pT hz h.2 (k:=f.1) (q:=f.2) hf;have:=hz e.1;have:=h.1;lia
theorem KP{n:Nat}:(olds x n).Nodup:=DL (eX _ iA) λa _ b _ e=>by have:=congrArg bN e;dsimp only at this;lia
theorem In.Mg(I:In x M O Y):((olds x x.G.length).map au).Nodup:=DL KP λa ha b hb e=>by
 obtain⟨f,hf,rfl⟩:=List.mem_map.mp (I.DC.mp ha);obtain⟨f',hf',rfl⟩:=List.mem_map.mp (I.DC.mp hb);have e:f.2=f'.2:=e;have:=x.z1 f.1;have:=x.z1 f'.1;have d:=oH x.z1 I.lo (k:=f.1) (q:=f.2) (k':=f'.1) (q':=f'.2) hf hf' (i:=f.2) ⋯ ⋯ ⋯ ⋯;show(f.2,(f.1:Int))=(f'.2,(f'.1:Int));rw[d.1,d.2]
theorem In.O3(I:In x M O Y){zs:List (Int×Int)}(pm:zs.Perm (olds x x.G.length))(so:(zs.map au).Pairwise (·<=·)):zs=O.map U3:=by
 refine Lm (f:=au) (uU so ((pm.map au).nodup_iff.mpr I.Mg)) ?_ λy=>by rw[pm.mem_iff,I.DC]
 rw[bj];exact L9 x.z1 I.lo
def Gf(x:Own)(F:List Nat):Prop:=F.Nodup/\∀k∈F,k<x.G.length/\(x.p k).isSome=true
theorem Gf.Iw{F:List Nat}{t:Th}(h:Gf x F)(g:Gd x t):Gf x (Iw x F t):=by
 cases t with
 |no=>exact h
 |nu n=>exact h
 |ce i=>
  show Gf x (if _ then _ else _);by_cases z:x.g i<2/\i∉F
  ·rw[if_pos z];refine⟨List.nodup_append.mpr ⟨h.1,List.nodup_cons.mpr ⟨aG,bB⟩,λu hu v hv e=>by rw[az]at hv;subst hv;exact z.2 (e▸hu)⟩,λk hk=> ?_⟩;rcases List.mem_append.mp hk with hk|hk
   ·exact h.2 k hk
   ·rw[List.mem_singleton.mp hk];exact g
  ·rw[if_neg z];exact h
theorem Gf.len{F:List Nat}(h:Gf x F)(Bz:x.G.length<=20):F.length<=20:=by
 have:=len_sub h.1 (m:=bh 20) λk hk=>List.mem_range.mpr (by have:=(h.2 k hk).1;lia);rw[bI]at this;exact this
end
theorem Own.Ng{x:Own}{k:Nat}{a:Int}(h:x.p k=some a):x.P[k]? =some (some a):=by
 unfold Own.p at h;rw[ae]at h
 cases e:x.P[k]? with
 |none=>rw[e]at h;cases h
 |some o=>rw[e]at h;exact congrArg some h
theorem Own.Bs{x:Own}{k:Nat}(h:k<x.G.length):(x.G.map ι)[k]? =↥(x.g k):=by
 rw[ai,ab h];unfold Own.g;rw[ae,ab h];rfl
theorem NM.perm{H:Hp}{as zs:List Addr}{L:List (Int×Int)}(h:NM H as L)(pm:zs.Perm as):NM H zs (zs.map (NG H)):=⟨rfl,λy hy=>h.t y (pm.mem_iff.mp hy)⟩
theorem wz.app{H:Hp}{ts us:List Th}{vs ws:List V}(h:wz H ts vs)(k:wz H us ws):wz H (ts++us) (vs++ws):=by
 refine⟨by rw[aj,aj,h.l,k.l],λj t v e1 e2=> ?_⟩;by_cases z:j<ts.length
 ·rw[bJ z]at e1;rw[bJ (by rw[h.l];exact z)]at e2;exact h.g j t v e1 e2
 ·rw[bD ⋯]at e1;rw[bD (by rw[h.l];lia),h.l]at e2;exact k.g _ t v e1 e2
theorem wz.same{H H':Hp}{ts:List Th}{vs:List V}(h:wz H ts vs)(s:jo H H'):wz H' ts vs:=h.kx (L:=[]) (vO s) λ_ z=>nomatch z
theorem j3.Lk{H:Hp}{x:Ax}{u:Ow}{w:Own}(o:j3 H x u w){k:Nat}(hk:k<w.S.length):∃a vs,u.rs[k]? =some a/\(u.rs.map ξ)[k]? =⇑a/\H a=some (.lst vs)/\wz H (w.s k) vs:=by
 have hk':k<u.rs.length:=by rw[o.rl];exact hk
 obtain⟨vs,e1,e2⟩:=o.sr k _ (ab hk');exact⟨u.rs[k],vs,ab hk',by rw[ai,ab hk'];rfl,e1,e2⟩
noncomputable def nV (F:List Nat):List V:=F.map λk:Nat=>ι k
theorem Rr{F:List Nat}:nV F=(F.map λk:Nat=>(k:Int)).map ι:=by unfold nV;rw[bj];rfl
theorem OI{F:List Nat}{k:Nat}:Ra (ι k) (nV F)=decide (k∈F):=by
 rw[Rr,OH];refine decide_eq_decide.mpr ⟨λh=> ?_,λh=>List.mem_map.mpr ⟨k,h,rfl⟩⟩;obtain⟨y,hy,e⟩:=List.mem_map.mp h;rw[←show y=k by lia];exact hy
theorem LS{F:List Nat}:(nV F).all nY=true:=List.all_eq_true.mpr λx hx=>by obtain⟨_,_,rfl⟩:=List.mem_map.mp hx;rfl
theorem Tq{x:Own}(s8:∀k,(x.s k).length<=8)(R:List (Nat×Int)):(R.flatMap λe=>x.s e.1).length<=8*R.length:=by
 induction R with
 |nil=>exact aq _
 |cons e r ih=>have:=s8 e.1;rw[dB,aj,aF];lia
theorem In.Xt{x:Own}{M:Mem}{O Y:List (Nat×Int)}(I:In x M O Y):O.length<=20:=by
 have:=len_sub I.Ya (m:=bh 20) λk hk=>by
  obtain⟨e,he,rfl⟩:=List.mem_map.mp hk;have:=((I.oe e.1 e.2).mp he).1;have:=I.Bz;exact List.mem_range.mpr ⋯
 rw[aa,bI]at this;exact this
theorem Gf.pJ{x:Own}{F:List Nat}:∀{ts:List Th},Gf x F->(∀t∈ts,Gd x t)->Gf x (pJ x F ts)
 | [],h,_=>h
 |t::r,h,g=>Gf.pJ (F:=Internal.K13.Iw x F t) (ts:=r) (h.Iw (g t (ax ..))) λu hu=>g u (ao _ hu)
theorem In.WN{x:Own}{M:Mem}{O Y:List (Nat×Int)}(I:In x M O Y){t:Th}(g:Gd x t):(∀n,t= .nu n-> -1000000000000<=n/\n<=1000000000000)/\∀k,t= .ce k->∃a,x.P[k]? =some (some a)/\0<=a/\a<=9999:=by
 refine⟨λn e=>by subst e;exact g,λk e=> ?_⟩;have p:=I.pb g k e;subst e;obtain⟨a,ea⟩:=Option.isSome_iff_exists.mp g.2;rw[ea]at p;exact⟨a,Own.Ng ea,p⟩
noncomputable def pg (x:Own) (a:Int):V->Bool
 | .int k=>decide (x.g k.toNat=a)
 |_=>false
theorem CN{x:Own}{a:Int}{F:List (Nat×Int)}:(nV (F.map au)).filter (pg x a)=nV ((F.filter λe=>decide (x.g e.1=a)).map au):=by
 unfold nV;rw[bj,du,bj];rfl
theorem sM{x:Own}{a:Int}{k:Nat}:∀{F:List (Nat×Int)},lk (F.filter λe=>decide (x.g e.1=a)) k=if x.g k=a then lk F k else none
 | []=>by rw[dv];show none=if _ then none else none;by_cases z:x.g k=a<;>simp[z]
 |e::r=>by
  by_cases z:x.g e.1=a
  ·rw[bH (by simpa using z)];show(if e.1=k then some e.2 else lk _ k)=if _ then(if e.1=k then some e.2 else lk r k) else none
   by_cases y:e.1=k
   ·rw[if_pos y,if_pos y,←y,if_pos z]
   ·rw[if_neg y,if_neg y];exact sM
  ·rw[bG (by simpa using z)];show lk _ k=if _ then(if e.1=k then some e.2 else lk r k) else none
   by_cases y:e.1=k
   ·rw[sM,←y,if_neg z,if_neg z]
   ·rw[if_neg y];exact sM
theorem Ma{l:List (Nat×Int)}{i:Nat}(h:i<l.length){k:Nat}:lk (l.take (i+1)) k=(lk (l.take i) k).or (if l[i].1=k then some l[i].2 else none):=by
 rw[bx,ab h];exact OT (k:=l[i].1) (q:=l[i].2)
noncomputable def X_ (x:Own) (F:List (Nat×Int)):Own:=⟨(bh x.G.length).map λk=>if x.g k=2 then x.p k else lk F k,(bh x.G.length).map λk=>if k∈F.map au then x.g k+1 else x.g k,x.S,x.D⟩
theorem T1{x:Own}{F:List (Nat×Int)}(h:x.P.length=x.G.length):Nx x F (X_ x F) where
 S:=rfl
 D:=rfl
 P:=by show((bh _).map _).length=_;rw[aa,bI,h]
 G:=by show((bh _).map _).length=_;rw[aa,bI]
 p:=λk hk=>by show((bh _).map _).getD k none=_;rw[ae,ai,fq hk];rfl
 g:=λk hk=>by show((bh _).map _).getD k 0=_;rw[ae,ai,fq hk];rfl
theorem Xe{α:Type}{l:List α}{i k:Nat}{v d:α}(h:i<l.length):(l.set i v).getD k d=if i=k then v else l.getD k d:=by
 rw[ae,aW];by_cases z:i=k
 ·rw[if_pos z,if_pos z,if_pos h];rfl
 ·rw[if_neg z,if_neg z,←ae]
theorem Gf.ML{x:Own}{M:Mem}{O Y:List (Nat×Int)}(I:In x M O Y):∀{n t:Nat} {F:List Nat},Gf x F->Gf x (ML x n F t)
 |0,_,_,h=>h
 |n+1,t,F,h=>by
  show Gf x (if _ then _ else _);by_cases z:t<F.length
  ·rw[if_pos z];refine Gf.ML I (h.pJ λu hu=> ?_);have gk:=h.2 (F.getD t 0) (by rw[ae,ab z];exact bc z);obtain⟨a,ea⟩:=Option.isSome_iff_exists.mp gk.2;exact I.gs _ a (I.at gk.1 ea) u hu
  ·rw[if_neg z];exact h
theorem In.gf{x:Own}{M:Mem}{O Y:List (Nat×Int)}(I:In x M O Y):Gf x (ord x O):=Gf.ML I (Gf.pJ ⟨bB,λ_ z=>nomatch z⟩ λt ht=>by
 rcases List.mem_append.mp ht with ht|ht
 ·exact I.gd t ht
 ·obtain⟨e,he,ht⟩:=List.mem_flatMap.mp ht;exact I.gs e.1 e.2 (.inl he) t ht)
theorem VJ{H:Hp}{a b:Int}:wW (cZ (x_ H 2) [ι a,ι b] [ι a,ι b])=some true:=by
 have:=rZ (H:=H) (d:=1) (l:=[a,b]) (r:=[a,b]) rfl;rw[decide_eq_true rfl]at this;exact this
theorem F0{x:Own}:∀{F:List (Nat×Int)},(∀e∈F,x.g e.1=0∨x.g e.1=1)->(F.filter λe=>decide (x.g e.1=0)).length+(F.filter λe=>decide (x.g e.1=1)).length=F.length
 | [],_=>rfl
 |e::r,h=>by
  have ih:=F0 (F:=r) λf hf=>h f (ao _ hf);rcases h e (ax ..) with z|z
  ·rw[bH (by simp[z]),bG (by simp[z]),aF,aF];lia
  ·rw[bG (by simp[z]),bH (by simp[z]),aF,aF];lia
theorem LW{ks:List Int}{p i:Int}:i∈MS ks p↔i∈ks∨i=p:=by
 unfold MS;by_cases z:p∈ks
 ·rw[if_pos z];exact⟨.inl,λh=>h.elim id λe=>e▸z⟩
 ·rw[if_neg z,cG,az]
theorem OG{ks:List Int}{p:Int}(h:ks.Nodup):(MS ks p).Nodup:=by
 unfold MS;by_cases z:p∈ks
 ·rw[if_pos z];exact h
 ·rw[if_neg z];exact List.nodup_append.mpr ⟨h,List.nodup_cons.mpr ⟨aG,bB⟩,λu hu v hv e=>by rw[az]at hv;subst hv;exact z (e▸hu)⟩
theorem Q_{ks:List Int}{p:Int}:(MS ks p).length<=ks.length+1:=by
 unfold MS;by_cases z:p∈ks
 ·rw[if_pos z];lia
 ·rw[if_neg z,aj];exact aq _
structure FG(K:af)(mg:Str->Option Value)(x:Str)(st:Stmt)(f:Addr)(d:FuncData)(ps:List Str):Prop where
 fn:EB K x x st f d
 b:Binds K d ps []
 g:mg x=some (.ref f)
structure FM(K:af)(C:Addr)(x q:Str)(st:Stmt)(f:Addr)(d:FuncData)(ps:List Str):Prop where
 fn:EB K x q st f d
 b:Binds K d ps []
 m:Meth K C x f
noncomputable def EG (K:af) (mg:Str->Option Value) (x:Str) (st:Stmt) (ps:List Str):Prop:=∃f d,FG K mg x st f d ps
noncomputable def EM (K:af) (C:Addr) (x q:Str) (st:Stmt) (ps:List Str):Prop:=∃f d,FM K C x q st f d ps
noncomputable def CG (P:Program) (w:World) (K:af) (mg:Str->Option Value) (base:Heap) (ca:Bool) (k:Nat) (x:Str) (ps:List Str) (sp:Sp):Prop:=∃st f d,FG K mg x st f d ps/\mS P w K mg base (uv P w) ca k f d ps sp
noncomputable def CM (P:Program) (w:World) (K:af) (mg:Str->Option Value) (base:Heap) (ca:Bool) (k:Nat) (C:Addr) (x:Str) (ps:List Str) (sp:Sp):Prop:=∃q st f d,FM K C x q st f d ps/\mS P w K mg base (uv P w) ca k f d ps sp
section
variable{P:Program}{w:World}{K:af}{mg:Str->Option Value}{base:Heap}{x q:Str}{st:Stmt}{C:Addr}{N ps:List Str}{ca:Bool}{j k:Nat}{sp:Sp}
theorem CG.mono(D:CG P w K mg base ca j x ps sp)(h:j<=k:=by decide):CG P w K mg base ca k x ps sp:=let ⟨s,f,d,F,o⟩:=D;⟨s,f,d,F,o.mono h⟩
theorem CM.mono(D:CM P w K mg base ca j C x ps sp)(h:j<=k:=by decide):CM P w K mg base ca k C x ps sp:=let ⟨q,s,f,d,F,o⟩:=D;⟨q,s,f,d,F,o.mono h⟩
theorem EG.me(F:EG K mg x st ps)(S:jg N ps (i9 st))(len:∀vs H Q E,sp vs H Q E->vs.length=ps.length)(hbody:∀(f:Addr) (cdv:Value) (A:Around) (outer:List Env) (s:Shared) (H:Hp) (vs:List V) (Q:VK) (E:XK),lM ca k (A.deeper (gQ x (i9 st) s.heap.objs.size f cdv))->Exc (So ca P w K mg base N x (i9 st) f cdv A outer s H E) (λ_=>E)->sp vs H Q E->∃t,IE (So ca P w K mg base N x (i9 st) f cdv A outer s H E) (mW st) t/\t {nx:=λ_ H'=>Q .non H',rt:=Q} (start N vs) H):CG P w K mg base ca (k+1) x ps sp:=let ⟨f,d,F⟩:=F;⟨st,f,d,F,F.fn.NF S len (hbody f)⟩
theorem EM.me(F:EM K C x q st ps)(S:jg N ps (i9 st))(len:∀vs H Q E,sp vs H Q E->vs.length=ps.length)(hbody:∀(f:Addr) (cdv:Value) (A:Around) (outer:List Env) (s:Shared) (H:Hp) (vs:List V) (Q:VK) (E:XK),lM ca k (A.deeper (gQ q (i9 st) s.heap.objs.size f cdv))->Exc (So ca P w K mg base N q (i9 st) f cdv A outer s H E) (λ_=>E)->sp vs H Q E->∃t,IE (So ca P w K mg base N q (i9 st) f cdv A outer s H E) (mW st) t/\t {nx:=λ_ H'=>Q .non H',rt:=Q} (start N vs) H):CM P w K mg base ca (k+1) C x ps sp:=let ⟨f,d,F⟩:=F;⟨q,st,f,d,F,F.fn.NF S len (hbody f)⟩
end
section
variable{X:Cx}
theorem i5(D:CG X.prog X.w X.K X.mg X.base ca k x ps sp)(hr:lM ca k X.A)(hg:Gl X x)(hx:Exc X E)(ha:JA X (e::es) t)(hdb:(x==("__debug__":Str))=false:=by decide)(h:(e::es).all notStar=true:=by rfl):JE X (.Call (.Name x p) (e::es) [] pos) (AH sp E t):=let ⟨_,_,_,D,F⟩:=D;⟨Jy F hr hg D.g D.fn.kp D.b hx ha.run hdb h⟩
theorem jw{pl:Sem Bool}(he:JE X o ta)(c:Ex X.K C)(D:CM X.prog X.w X.K X.mg X.base ca k C m ps sp)(hr:lM ca k X.A)(hx:Exc X E)(ha:JA X (e::es) t)(hns:(e::es).all notStar=true:=by rfl)(ht:eval (.Call (.Attribute o m apos) (e::es) [] pos) X.env=(do
   let ov←eval o X.env
   standAt apos.atName
   let (f,first)←holding [ov] (getMethod ov m pl)
   callWith pos f first (backTo pos (starEach (e::es) X.env)) (backToKw pos (keywordEach [] X.env))):=by rfl):JE X (.Call (.Attribute o m apos) (e::es) [] pos) (Bp C m sp E ta t):=let ⟨_,_,_,_,D,F⟩:=D;⟨S9 he.run c D.m F hr D.b hx ha.run hns ht⟩
theorem j4{pl:Sem Bool}(he:JE X o ta)(c:Ex X.K C)(D:CM X.prog X.w X.K X.mg X.base ca k C m ps sp)(hr:lM ca k X.A)(hx:Exc X E)(ht:eval (.Call (.Attribute o m apos) [] [] pos) X.env=(do
   let ov←eval o X.env
   standAt apos.atName
   let (f,first)←holding [ov] (getMethod ov m pl)
   callWith pos f first (backTo pos (starEach [] X.env)) (backToKw pos (keywordEach [] X.env))):=by rfl):JE X (.Call (.Attribute o m apos) [] [] pos) (Bp C m sp E ta Ip):=let ⟨_,_,_,_,D,F⟩:=D;⟨QZ he.run c D.m F hr D.b hx ht⟩
end
set_option genInjectivity false in
structure Ad where
 lW:Addr
 nJ:FuncData
 mG:Addr
 oq:FuncData
 lU:Addr
 nH:FuncData
 mH:Addr
 ou:FuncData
 lz:Addr
 mR:FuncData
 lT:Addr
 nG:FuncData
 lS:Addr
 nE:FuncData
 lV:Addr
 nI:FuncData
 kR:Addr
 mh:FuncData
 kW:Addr
 kL:FuncData
 IY:Addr
 LK:FuncData
 lI:Addr
 jx:Addr
 jm:Addr
 jq:Addr
 jD:Addr
 jP:Addr
 jW:Addr
 jF:Addr
 jH:Addr
 jR:Addr
structure Txt(K:af)(mg:Str->Option Value)(A:Ad):Prop where
 An:EG K mg "is_whole" Az ["thing"]
 EJ:EB K "__init__" "Space.__init__" tR A.lW A.nJ
 sx:Binds K A.nJ ["self","begin","end"] []
 sY:EM K A.jq "room" "Space.room" tS ["self"]
 s9:EM K A.jq "used" "Space.used" tU ["self"]
 rA:EM K A.jq "empty" "Space.empty" rN ["self"]
 sS:EM K A.jD "flip" "Areas.flip" tH ["self"]
 GI:EB K "__init__" "Book.__init__" vx A.mG A.oq
 II:Binds K A.oq ["self"] []
 rh:EM K A.jP "places" "Book.places" rH ["self"]
 sT:EM K A.jP "clear" "Book.clear" tJ ["self"]
 va:EM K A.jW "row" "Hands.row" vz ["self"]
 EH:EB K "__init__" "Lasts.__init__" tN A.lU A.nH
 Gy:Binds K A.nH ["self"] []
 qc:EM K A.jF "pending" "Lasts.pending" n9 ["self"]
 sX:EM K A.jF "said" "Lasts.said" tP ["self"]
 GJ:EB K "__init__" "Weak.__init__" vD A.mH A.ou
 IJ:Binds K A.ou ["self"] []
 s_:EM K A.jH "names" "Weak.names" qm ["self"]
 BG:EG K mg "_law_at" BN ["_law_script","_law_k"]
 tw:EG K mg "_law_whole" tY ["_law_found"]
 tu:EG K mg "_law_thing" tX ["_law_cell","_law_many"]
 tj:EG K mg "_law_order" qo ["_law_own"]
 vt:EG K mg "is_within" vM ["thing","least","most"]
 sZ:EM K A.jq "take" "Space.take" tT ["self","many"]
 nj:EM K A.jF "want_pending" "Lasts.want_pending" nA ["self","ticket"]
 vq:EG K mg "is_number" vL ["thing"]
 Am:EG K mg "is_place" Ay ["thing"]
 tG:EG K mg "want_slots" uc ["slots"]
 BI:EG K mg "is_head" BP ["number"]
 KZ:EG K mg "fits" K6 ["memory","at","slots"]
 Dk:EB K "__init__" "Memory.__init__" rK A.lz A.mR
 ED:Binds K A.mR ["self","size"] []
 nQ:EM K A.jm "want_place" "Memory.want_place" nR ["self","at"]
 mT:EM K A.jm "want_stretch" "Memory.want_stretch" mU ["self","begin","many"]
 vc:EM K A.jq "has" "Space.has" vB ["self","at"]
 EF:EB K "__init__" "Hands.__init__" tL A.lT A.nG
 Gx:Binds K A.nG ["self","many"] []
 oM:EM K A.jW "want_hand" "Hands.want_hand" oP ["self","hand"]
 vb:EM K A.jF "say" "Lasts.say" vA ["self","ticket"]
 BF:EM K A.jH "at" "Weak.at" BM ["self","name"]
 rG:EG K mg "want_number" rS ["thing"]
 tF:EG K mg "want_place" ub ["thing"]
 K0:EG K mg "kind" K7 ["word"]
 rn:EM K A.jm "read" "Memory.read" rL ["self","at"]
 rj:EM K A.jm "copy" "Memory.copy" rJ ["self","start","goal","many"]
 nz:EM K A.jH "want_standing" "Weak.want_standing" nB ["self","name"]
 rE:EG K mg "number_word" rQ ["n"]
 tD:EG K mg "place_word" t_ ["at"]
 Hx:EG K mg "worth" HD ["word"]
 qJ:EM K A.jm "write" "Memory.write" qK ["self","at","word"]
 EE:EB K "__init__" "Areas.__init__" tI A.lS A.nE
 Gw:Binds K A.nE ["self","old_words","young_words"] []
 sU:EM K A.jP "write" "Book.write" tK ["self","place"]
 Ag:EM K A.jP "has" "Book.has" Ar ["self","place"]
 u_:EM K A.jW "put" "Hands.put" vy ["self","hand","word"]
 sV:EM K A.jF "give" "Lasts.give" tM ["self","at","number"]
 sW:EM K A.jF "move" "Lasts.move" tO ["self","ticket","at"]
 vf:EM K A.jH "name" "Weak.name" vF ["self","at"]
 ve:EM K A.jH "move" "Weak.move" vE ["self","name","at"]
 vd:EM K A.jH "gone" "Weak.gone" vC ["self","name"]
 EI:EB K "__init__" "Roots.__init__" tQ A.lV A.nI
 Gz:Binds K A.nI ["self","many"] []
 vp:EG K mg "head_word" vK ["slots","age"]
 rC:EG K mg "head_number" rO ["memory","at"]
 rD:EG K mg "is_of_young" rP ["areas","word"]
 Ah:EM K A.jP "rub" "Book.rub" As ["self","place"]
 vo:EG K mg "_law_word" vJ ["_law_thing_here","_law_places"]
 Pw:EG K mg "lay" PC ["memory","at","slots"]
 Ao:EG K mg "slots_of" AA ["memory","at"]
 DX:EG K mg "age_of" D0 ["memory","at"]
 K3:EG K mg "send" K9 ["memory","at","goal"]
 BJ:EG K mg "sent_to" BQ ["memory","at"]
 Ai:EG K mg "_law_put" Au ["_law_own","_law_k","_law_slot","_law_thing_here"]
 vj:EG K mg "_law_held" vH ["_law_own","_law_hand","_law_thing_here"]
 Aq:EG K mg "words_of" AB ["memory","at"]
 KY:EG K mg "aged" K5 ["memory","at","age"]
 rF:EG K mg "slot_places" rR ["memory","at"]
 Hw:EG K mg "moved" HC ["memory","word"]
 BH:EG K mg "goal_of" BO ["areas","at"]
 rB:EG K mg "_law_stands" pM ["_law_own"]
 DY:EG K mg "copied" D1 ["memory","at","space","age"]
 tE:EG K mg "renew_book" ua ["areas","book","grown"]
 rp:EM K A.jq "cells" "Space.cells" rM ["self","memory"]
 pw:EM K A.jD "lay_into" "Areas.lay_into" pB ["self","space","slots","age"]
 tB:EG K mg "copy_young" tZ ["areas","at"]
 oK:EM K A.jD "lay_young" "Areas.lay_young" oN ["self","slots"]
 qb:EM K A.jD "lay_old" "Areas.lay_old" qd ["self","slots"]
 vn:EG K mg "_law_went" pX ["_law_own","_law_order_here","_law_stood"]
 K2:EG K mg "meet" K8 ["areas","word","copies"]
 vk:EG K mg "_law_laid" vI ["_law_own","_law_cell"]
 vg:EG K mg "_law_book" vG ["_law_own"]
 Aj:EG K mg "_law_say" Av ["_law_own"]
 vv:EG K mg "meet_slot" vN ["areas","place","copies"]
 Cs:EB K "follow" "Roots.follow" qL A.kR A.mh
 C2:Binds K A.mh ["self","goal_of"] []
 DA:Meth K A.jR "follow" A.kR
 tf:EG K mg "_law_built" tW ["_law_script"]
 vm:EG K mg "_law_told" pW ["_law_own"]
 Ak:EG K mg "copy_met" Aw ["areas","roots"]
 r6:EB K "collect_young" "collect_young" lL A.kW A.kL
 Cr:Binds K A.kL ["areas","roots"] []
 pj:A.kL.code= .ref A.lI
 o_:df K A.lI A.jx=true
 pZ:mg "collect_young"=some (.ref A.kW)
 pz:EG K mg "_law_collected" mC ["_law_own"]
 vi:EG K mg "_law_deed" q0 ["_law_own","_law_cell"]
 Tr:EB K "law" "law" Ge A.IY A.LK
 Dl:mg "Memory"=some (.ref A.jm)
 jN:Ex K A.jm
 By:Mk K A.jm A.lz
 mB:kU K A.jm "size"
 kX:kU K A.jm "words"
 AW:mg "Space"=some (.ref A.jq)
 j5:Ex K A.jq
 uV:Mk K A.jq A.lW
 kI:kU K A.jq "begin"
 qk:kU K A.jq "end"
 lu:kU K A.jq "top"
 GN:mg "Areas"=some (.ref A.jD)
 jC:Ex K A.jD
 DG:Mk K A.jD A.lS
 jz:kU K A.jD "memory"
 kQ:kU K A.jD "old"
 jL:kU K A.jD "young"
 kE:kU K A.jD "spare"
 Kr:mg "Book"=some (.ref A.jP)
 mV:Ex K A.jP
 G_:Mk K A.jP A.mG
 kM:kU K A.jP "written"
 GO:mg "Hands"=some (.ref A.jW)
 oE:Ex K A.jW
 DH:Mk K A.jW A.lT
 mz:kU K A.jW "words"
 GP:mg "Lasts"=some (.ref A.jF)
 kA:Ex K A.jF
 DI:Mk K A.jF A.lU
 jO:kU K A.jF "waiting"
 lJ:kU K A.jF "spoken"
 Ks:mg "Weak"=some (.ref A.jH)
 mK:Ex K A.jH
 Ha:Mk K A.jH A.mH
 l9:kU K A.jH "told"
 GQ:mg "Roots"=some (.ref A.jR)
 jX:Ex K A.jR
 DJ:Mk K A.jR A.lV
 lF:kU K A.jR "hands"
 lB:kU K A.jR "book"
 kH:kU K A.jR "weaks"
 kG:kU K A.jR "lasts"
 pI:Gv mg "NOTHING" (.int (-1))
 pQ:Gv mg "MOST_NUMBER" (.int (1000000000000))
 uo:Gv mg "MOST_PLACE" (.int (9999))
 qq:Gv mg "MOST_SLOTS" (.int (8))
 pG:Gv mg "MOST_AGE" (.int (2))
 uq:Gv mg "MOST_WORDS" (.int (4000))
 oU:Gv mg "LEAST_OLD_WORDS" (.int (4))
 pH:Gv mg "MOST_OLD_WORDS" (.int (2000))
 nS:Gv mg "LEAST_YOUNG_WORDS" (.int (2))
 oj:Gv mg "MOST_YOUNG_WORDS" (.int (500))
 uk:Gv mg "MOST_HANDS" (.int (6))
 sJ:cF K (.type "int") (.type "int")=some true
 qV:cF K (.type "int") (.type "bool")=some false
 qF:cF K (.type "tuple") (.type "tuple")=some true
 Hc:mg "bool"=none
 m9:mg "enumerate"=none
 Jq:mg "int"=none
 mN:mg "isinstance"=none
 kj:mg "len"=none
 BA:mg "list"=none
 mP:mg "range"=none
 sf:mg "sorted"=none
 Hd:mg "tuple"=none
 Md:mg "zip"=none
section
variable{P:Program}{w:World}{K:af}{mg:Str->Option Value}{base:Heap}{A:Ad}
def oB:Sp:=λvs H Q _=>∃i,vs=[.int i]/\Q (.bl true) H
theorem JM:jg ["thing"] ["thing"] (i9 Az):=fsc
theorem pV{ca:Bool}(T:Txt K mg A):CG P w K mg base ca 1 "is_whole" ["thing"] oB:=by
 specialize T.An.me JM
 ·obtain⟨i,rfl,q⟩:=h;refine⟨_,kY.run (i3 (jf (qB (ji qz (by rfl) T.mN ζi (iW (iZ 0) (iW (A0 T.Jq ζn) iX))) (qC (Jg (ji qz (by rfl) T.mN ζi (iW (iZ 0) (iW (A0 T.Hc PyProof.Rows.Boot.«bool») iX)))))))),?_⟩;simp?[U4,NL,T.sJ,T.qV];exact q
def pO(A:Ad):Sp:=λvs H Q _=>∃p dx b e,vs=[.ref p,.int b,.int e]/\H p=some (.ins A.jq dx [])/\Q .non (upd H p (.ins A.jq dx (qP b e b)))
theorem E9:jg ["self","begin","end"] ["self","begin","end"] (i9 tR):=fsc
theorem rb{ca:Bool}(T:Txt K mg A):mS P w K mg base (uv P w) ca 1 A.lW A.nJ ["self","begin","end"] (pO A):=by
 refine T.EJ.NF E9 (λvs H Q E h=> ?_) (λcdv A' outer s H vs Q E hr hx h=> ?_)
 ·obtain⟨_,_,_,_,rfl,_⟩:=h;rfl
 ·obtain⟨p,dx,b,e,rfl,hp,q⟩:=h;refine⟨_,kY.run (iY (j6 (iZ 0) (iZ 1) rfl)
   (iY (j6 (iZ 0) (iZ 2) rfl)
   (i3 (j6 (iZ 0) (iZ 1) rfl)))),?_⟩
  simp?[hp,T.j5,T.kI,T.qk,T.lu,kB,Mx];exact q
def Fw(A:Ad):Sp:=λvs H Q _=>∃p dx b e t,vs=[.ref p]/\H p=some (.ins A.jq dx (qP b e t))/\Q (.int (e-t)) H
theorem E_:jg ["self"] ["self"] (i9 tS):=fsc
theorem rd{ca:Bool}(T:Txt K mg A):CM P w K mg base ca 1 A.jq "room" ["self"] (Fw A):=by
 specialize T.sY.me E_
 ·obtain⟨p,dx,b,e,t,rfl,hp,q⟩:=h;refine⟨_,kY.run (i3 (jf (ja lX (jd (iZ 0) rfl) (jd (iZ 0) rfl)))),?_⟩;simp?[hp,T.j5,T.qk,T.lu,Wr,JR];exact q
def Fy(A:Ad):Sp:=λvs H Q _=>∃p dx b e t,vs=[.ref p]/\H p=some (.ins A.jq dx (qP b e t))/\Q (.int (t-b)) H
theorem Fb:jg ["self"] ["self"] (i9 tU):=fsc
theorem wI{ca:Bool}(T:Txt K mg A):CM P w K mg base ca 1 A.jq "used" ["self"] (Fy A):=by
 specialize T.s9.me Fb
 ·obtain⟨p,dx,b,e,t,rfl,hp,q⟩:=h;refine⟨_,kY.run (i3 (jf (ja lX (jd (iZ 0) rfl) (jd (iZ 0) rfl)))),?_⟩;simp?[hp,T.j5,T.kI,T.lu,Gg,JR];exact q
def Eg(A:Ad):Sp:=λvs H Q _=>∃p dx b e t,vs=[.ref p]/\H p=some (.ins A.jq dx (qP b e t))/\Q .non (upd H p (.ins A.jq dx (qP b e b)))
theorem D5:jg ["self"] ["self"] (i9 rN):=fsc
theorem DQ{ca:Bool}(T:Txt K mg A):CM P w K mg base ca 1 A.jq "empty" ["self"] (Eg A):=by
 specialize T.rA.me D5
 ·obtain⟨p,dx,b,e,t,rfl,hp,q⟩:=h;refine⟨_,kY.run (i3 (j6 (iZ 0) (jd (iZ 0) rfl) rfl)),?_⟩;simp?[hp,T.j5,T.kI,T.lu,Gg,Ms,Mr];exact q
def Fm(A:Ad):Sp:=λvs H Q _=>∃p dx m o y s,vs=[.ref p]/\H p=some (.ins A.jD dx (uK m o y s))/\Q .non (upd H p (.ins A.jD dx (uK m o s y)))
theorem wN:jg ["self","young"] ["self"] (i9 tH):=fsc
theorem EL{ca:Bool}(T:Txt K mg A):CM P w K mg base ca 1 A.jD "flip" ["self"] (Fm A):=by
 specialize T.sS.me wN
 ·obtain⟨p,dx,m,o,y,s',rfl,hp,q⟩:=h;refine⟨_,kY.run (iY (jr (i:=1) wN.nd rfl lo (jd (iZ 0) rfl))
   (iY (j6 (iZ 0) (jd (iZ 0) rfl) rfl)
   (i3 (j6 (iZ 0) (iZ 1) rfl)))),?_⟩
  simp?[hp,T.jC,T.jL,T.kE,ux,FI,NS,NR,Qv,Mx];exact q
def Bh(A:Ad):Sp:=λvs H Q _=>∃p dx,vs=[.ref p]/\H p=some (.ins A.jP dx [])/\∀d H',H d=none->qf A.jP H' p d []->(∀y o,y≠p->H y=some o->H' y=some o)->Q .non H'
theorem HE:jg ["self"] ["self"] (i9 vx):=fsc
theorem Hf{ca:Bool}(T:Txt K mg A):mS P w K mg base (uv P w) ca 1 A.mG A.oq ["self"] (Bh A):=by
 refine T.GI.NF HE (λvs H Q E h=> ?_) (λcdv A' outer s H vs Q E hr hx h=> ?_)
 ·obtain⟨_,_,rfl,_⟩:=h;rfl
 ·obtain⟨p,dx,rfl,hp,h⟩:=h;refine⟨_,kY.run (i3 (j6 (iZ 0) Aa rfl)),?_⟩;simp?[];intro d hd;have npd:=i4 hp hd;have e:upd H d (.dK []) p=some (.ins A.jP dx []):=qp hp npd;simp?[e,T.mV,T.kM,SU];exact h d _ hd ⟨⟨dx,i8⟩,by rw[i7 (ah npd),i8];rfl⟩ λy o hy e=>by rw[i7 hy,i7 (i4 e hd)];exact e
theorem IK:∀{ks:List Int},Dp (Ey ks)=some ks
 | []=>rfl
 |k::r=>by show(Dp (Ey r)).map _=_;rw[IK];rfl
def Eb(A:Ad):Sp:=λvs H Q _=>∃p d ks,vs=[.ref p]/\qf A.jP H p d ks/\ks.length<64/\∀l,H l=none->Q (.ref l) (upd H l (.lst ((kC ks).map ι)))
theorem D2:jg ["self"] ["self"] (i9 rH):=fsc
theorem qG(T:Txt K mg A):CM P w K mg base true 1 A.jP "places" ["self"] (Eb A):=by
 specialize T.rh.me D2
 ·obtain⟨p,d,ks,rfl,h⟩:=h;obtain⟨h,m,hl⟩:=UX h;refine⟨_,kY.run (i3 (jf (ji (B_ (by rfl)) (by rfl) T.sf ζs (iW (jd (iZ 0) rfl) iX)))),?_⟩;obtain⟨dx,e⟩:=m.ob;simp?[e,T.mV,T.kM,LB,m.dc,IK];exact⟨hl,h⟩
def Fo(A:Ad):Sp:=λvs H Q _=>∃p d ks,vs=[.ref p]/\qf A.jP H p d ks/\∀d' H',H d'=none->qf A.jP H' p d' []->(∀b o,H b=some o->b≠p->H' b=some o)->Q .non H'
theorem E2:jg ["self"] ["self"] (i9 tJ):=fsc
theorem EO{ca:Bool}(T:Txt K mg A):CM P w K mg base ca 1 A.jP "clear" ["self"] (Fo A):=by
 specialize T.sT.me E2
 ·obtain⟨p,d,ks,rfl,m,h⟩:=h;refine⟨_,kY.run (i3 (j6 (iZ 0) Aa rfl)),?_⟩;simp?[];intro d' hd';obtain⟨dx,e⟩:=(m.same (jo.upd (o:= .dK []) hd')).ob;simp?[e,T.mV,T.kM,QB,QA];obtain⟨dy,ey⟩:=m.ob;refine h d' _ hd' ⟨⟨dx,i8⟩,?_⟩ λb o eb nb=> ?_
  ·rw[i7 (ah (i4 ey hd')),i8];rfl
  ·rw[i7 nb];exact jo.upd hd' _ _ eb
def HY(A:Ad):Sp:=λvs H Q _=>∃p q ws,vs=[.ref p]/\wj A.jW H p q ws/\∀l,H l=none->Q (.ref l) (upd H l (.lst (ws.map ι)))
theorem HG:jg ["self"] ["self"] (i9 vz):=fsc
theorem A5{ca:Bool}(T:Txt K mg A):CM P w K mg base ca 1 A.jW "row" ["self"] (HY A):=by
 specialize T.va.me HG
 ·obtain⟨p,q,ws,rfl,m,h⟩:=h;refine⟨_,kY.run (i3 (jf (qj Ds (by rfl) T.BA ζt (iW (jd (iZ 0) rfl) iX)))),?_⟩;obtain⟨dx,e⟩:=m.ob;simp?[e,T.oE,T.mz,Oy,m.ls];exact h
def wR(A:Ad):Sp:=λvs H Q _=>∃p dx,vs=[.ref p]/\H p=some (.ins A.jF dx [])/\∀d q H',H d=none->H q=none->(∀y o,y≠p->H y=some o->H' y=some o)->kP A.jF H' p d q [] [] []->Q .non H'
theorem E5:jg ["self"] ["self"] (i9 tN):=fsc
theorem ET{ca:Bool}(T:Txt K mg A):mS P w K mg base (uv P w) ca 1 A.lU A.nH ["self"] (wR A):=by
 refine T.EH.NF E5 (λvs H Q E h=> ?_) (λcdv A' outer s H vs Q E hr hx h=> ?_)
 ·obtain⟨_,_,rfl,_⟩:=h;rfl
 ·obtain⟨p,dx,rfl,hp,h⟩:=h;refine⟨_,kY.run (iY (j6 (iZ 0) Aa rfl)
   (i3 (j6 (iZ 0) (kh iX) rfl))),?_⟩
  simp?[];intro d hd;have npd:=i4 hp hd;have e:upd H d (.dK []) p=some (.ins A.jF dx []):=qp hp npd;simp?[e,T.kA,T.jO];intro q hq;have nqp:q≠p:=λz=>by rw[z,i8]at hq;cases hq
  have nqd:q≠d:=λz=>by rw[z,i7 (ah npd),i8]at hq;cases hq
  have hq0:H q=none:=by rw[i7 nqp,i7 nqd]at hq;exact hq
  rw[i7 (ah nqp),i8];simp?[T.kA,T.lJ,TL];refine⟨Ro,h d q _ hd hq0 (λy o hy e=> ?_) ⟨⟨dx,i8⟩,?_,?_,rfl,(λe he=>by cases he),rfl⟩⟩
  ·rw[i7 hy,i7 (i4 e hq0),i7 hy,i7 (i4 e hd)];exact e
  ·rw[i7 (ah npd),i7 (ah nqd),i7 (ah npd),i8];rfl
  ·rw[i7 nqp,i8];rfl
theorem Sg{es:List We}{ws:List (Option (Int×Int))}(h:es.map We.x=j_ 0 ws){n:Nat}{v:V}(hv:((es.map We.t).map ι)[n]? =some v):∃e∈es,v= .int e.t/\pd ws (.int e.t)=some (e.p,e.n)/\(j_ 0 ws).take (n+1)=(j_ 0 ws).take n++[e.x]:=by
 rw[ai,ai]at hv;obtain⟨t,ht,rfl⟩:=Option.map_eq_some_iff.mp hv;obtain⟨e,he,rfl⟩:=Option.map_eq_some_iff.mp ht;refine⟨e,aJ he,rfl,?_,?_⟩
 ·have f:=Mh (ws:=ws) (i:=e.t);have g:(j_ 0 ws).find? (λx=>decide (x.1=e.t))=some e.x:=by
   rw[←h];exact Nv h (aJ he)
  rw[g]at f
  cases hp:pd ws (.int e.t) with
  |none=>rw[hp]at f;cases f
  |some y=>rw[hp]at f;have:=congrArg (λo=>o.map (·.2)) f;exact congrArg some (by have:=this.symm;simp[We.x]at this;exact Prod.ext this.1 this.2)
 ·rw[←h,bx,ai,he];rfl
def BZ(A:Ad):Sp:=λvs H Q _=>∃p d q ws sp es,vs=[.ref p]/\kP A.jF H p d q ws sp es/\ws.length<64/\∀l as H',jo H H'->H l=none->H' l=some (.lst as)->Qu H' as (j_ 0 ws)->Q (.ref l) H'
theorem BS:jg ["self"] ["self"] (i9 n9):=fsc
theorem sg(T:Txt K mg A):CM P w K mg base true 1 A.jF "pending" ["self"] (BZ A):=by
 specialize T.qc.me BS
 ·obtain⟨p,d,q,ws,sp,es,rfl,m,hl,h⟩:=h;refine⟨_,kY.run (i3 (jf (wa (fsc:=i9 n9) (N2:=["self"]) (js:=[0]) ⟨rfl,rfl,∅,∅,∅,∅,∅,∅,∅⟩ rfl rfl (by rfl) (ka (ji (B_ (by rfl)) (by rfl) T.sf ζs (iW (jd (iZ 0) rfl) iX))) (λ_ _ _ _=>Dv) (λ_ _ _ _=>(ja OL (lY (iW (iZ 0) iX)) (jb (Je (K:=K) rfl (iZ 1) rfl) (iZ 0))))))),?_⟩;obtain⟨dx,e⟩:=m.ob;have ll:=m.ln;simp?[e,T.kA,T.jO,A2,m.dc,Kc,m.sorted,aa];refine⟨⋯,λl0 hl0=> ?_⟩;have s0:jo H (upd H l0 (.lst ((es.map We.t).map ι))):=jo.upd hl0;have d0:upd H l0 (.lst ((es.map We.t).map ι)) l0=some (.lst ((es.map We.t).map ι)):=i8;generalize upd H l0 (.lst ((es.map We.t).map ι))=H1 at*;refine⟨⟨_,kO.of d0⟩,B8 (xs:=(es.map We.t).map ι) (λn ys H'=>jo H1 H'/\Qu H' ys ((j_ 0 ws).take n)/\ys.length<=n) ⟨jo.refl _,.nil,aq _⟩ (λn ys H' hP=>kO.of (hP.1 _ _ d0)) (by rw[aa,aa];exact aA (show es.length<=64 by lia) (by decide)) (λn ys H' hP=>hP.2.2) (λn x ys H' hx' hP K1 hK=> ?_) λys H' hP l hl'=> ?_⟩
  ·obtain⟨s1,hp,hy⟩:=hP;obtain⟨r,hr,rfl,hpd,tk⟩:=Sg m.xs hx';have m1:=m.same (s0.trans s1);have e1:=(s0.trans s1) _ _ e;obtain⟨r',hr',t1,t2,t3,t4⟩:=m1.find hpd;have tr:=m1.tp r' hr';simp?[LC,bq];intro p1 h1;have s2:jo H' (upd H' p1 (.tup [.int r.t])):=jo.upd h1;have d2:upd H' p1 (.tup [.int r.t]) p1=some (.tup [.int r.t]):=i8;generalize upd H' p1 (.tup [.int r.t])=H2 at*;have e2:=s2 _ _ e1;have dc2:=s2 _ _ m1.dc;have tr2:=s2 _ _ tr;simp?[e2,T.kA,T.jO,A2,dc2,t4,d2,tr2];refine⟨iu _ _,iu _ _,λp2 h2=>hK _ _ ⟨(s1.trans s2).trans (jo.upd h2),?_,by rw[aj];exact cb hy⟩⟩;rw[tk];refine((hp.same s2).same (jo.upd h2)).snoc ?_;rw[i8,t2,t3];rfl
  ·rw[aa,aa,show es.length=(j_ 0 ws).length by rw[←m.xs,aa],bo]at hP;exact h l ys _ ((s0.trans hP.1).trans (jo.upd hl')) ((s0.trans hP.1).free hl') i8 (hP.2.1.same (jo.upd hl'))
def Fu(A:Ad):Sp:=λvs H Q _=>∃p d q ws sp es,vs=[.ref p]/\kP A.jF H p d q ws sp es/\∀l,H l=none->Q (.ref l) (upd H l (.lst (sp.map ι)))
theorem E7:jg ["self"] ["self"] (i9 tP):=fsc
theorem EV{ca:Bool}(T:Txt K mg A):CM P w K mg base ca 1 A.jF "said" ["self"] (Fu A):=by
 specialize T.sX.me E7
 ·obtain⟨p,d,q,ws,sp,es,rfl,m,h⟩:=h;refine⟨_,kY.run (i3 (jf (qj Ds (by rfl) T.BA ζt (iW (jd (iZ 0) rfl) iX)))),?_⟩;obtain⟨dx,e⟩:=m.ob;simp?[e,T.kA,T.lJ,OR,m.sq];exact h
def Bi(A:Ad):Sp:=λvs H Q _=>∃p dx,vs=[.ref p]/\H p=some (.ins A.jH dx [])/\∀d,H d=none->Q .non (upd (upd H d (.lst [])) p (.ins A.jH dx (J_ d)))
theorem HL:jg ["self"] ["self"] (i9 vD):=fsc
theorem Hi{ca:Bool}(T:Txt K mg A):mS P w K mg base (uv P w) ca 1 A.mH A.ou ["self"] (Bi A):=by
 refine T.GJ.NF HL (λvs H Q E h=> ?_) (λcdv A' outer s H vs Q E hr hx h=> ?_)
 ·obtain⟨_,_,rfl,_⟩:=h;rfl
 ·obtain⟨p,dx,rfl,hp,q⟩:=h;refine⟨_,kY.run (i3 (j6 (iZ 0) (kh iX) rfl)),?_⟩;simp?[];intro d hd;have e:upd H d (.lst []) p=some (.ins A.jH dx []):=by rw[i7 (i4 hp hd)];exact hp
  simp?[e,T.mK,T.l9,UT];exact q d hd
def Fz(A:Ad):Sp:=λvs H Q _=>∃p q os,vs=[.ref p]/\su A.jH H p q os/\os.length<=1000/\∀l as H',jo H H'->H l=none->H' l=some (.lst as)->Qs H' as (Kg 0 os)->Q (.ref l) H'
theorem Fc:jg ["self"] ["self"] (i9 qm):=fsc
theorem wJ(T:Txt K mg A):CM P w K mg base true 1 A.jH "names" ["self"] (Fz A):=by
 specialize T.s_.me Fc
 ·obtain⟨p,q,os,rfl,m,hl,h⟩:=h;refine⟨_,kY.run (i3 (jf (KC (fsc:=i9 qm) (N2:=[]) (js:=[]) ⟨rfl,rfl,∅,∅,∅,∅,∅,∅,∅⟩ rfl rfl (by rfl) (r_ rfl T.m9 (iW (jd (iZ 0) rfl) iX)) (λ_ _ _ _=>(l_ (je pe (iZ 1) j7 (jy _)))) (λ_ _ _ _=>(lY (iW (iZ 0) (iW (iZ 1) iX))))))),?_⟩;obtain⟨dx,e⟩:=m.ob;simp?[e,T.mK,T.l9,Ka];refine⟨⟨_,kO.of m.ls⟩,sC (λi ys H'=>jo H H'/\Qs H' ys (Kg 0 (os.take i))/\ys.length<=i) ⟨jo.refl _,.nil,aq _⟩ (λi ys H' hP=>kO.of (hP.1 _ _ m.ls)) (by rw[B5];exact aA hl (by decide)) (λi ys H' hP=>hP.2.2) (λi x ys H' hx' hP p1 hp1 K1 hK=> ?_) λys H' hP l hl'=> ?_⟩
  ·obtain⟨s1,hp,hy⟩:=hP;rw[ai]at hx';obtain⟨o,ho,rfl⟩:=Option.map_eq_some_iff.mp hx';have tk:os.take (i+1)=os.take i++[o]:=by rw[bx,ho];rfl
   have hi:=(List.getElem?_eq_some_iff.mp ho).1;have hlt:(os.take i).length=i:=by rw[bE];lia
   cases o with
   |none=>
    simp?[tv];refine hK _ _ ⟨s1.trans (jo.upd hp1),?_,⋯⟩;rw[tk,si,aM];exact hp.same (jo.upd hp1)
   |some y=>
    simp?[tv];intro p2 hp2;refine hK _ _ ⟨(s1.trans (jo.upd hp1)).trans (jo.upd hp2),?_,by rw[aj];exact cb hy⟩;rw[tk,si,hlt];exact(hp.same ((jo.upd hp1).trans (jo.upd hp2))).snoc (by rw[i8,cP])
  ·rw[B5,bo]at hP;exact h l ys _ (hP.1.trans (jo.upd hl')) (hP.1.free hl') i8 (hP.2.1.same (jo.upd hl'))
def Lh(K:af):Sp:=λvs H Q _=>∃a ns k,vs=[.ref a,.int k]/\kO K H a (ns.map ι)/\0<=k/\Q (.int (cat ns k)) H
theorem La:jg ["_law_script","_law_k"] ["_law_script","_law_k"] (i9 BN):=fsc
theorem qI{ca:Bool}(T:Txt K mg A):CG P w K mg base ca 1 "_law_at" ["_law_script","_law_k"] (Lh K):=by
 specialize T.BG.me La
 ·obtain⟨a,ns,k,rfl,h⟩:=h;obtain⟨q,hS,h0⟩:=UX h;refine⟨_,kY.run (iY (ju (je p_ (iZ 1) (ji ON (by rfl) T.kj ζl (iW (iZ 0) iX)) (jy _)) (i3 (jf (jv Rh (iZ 0) (iZ 1)))) jh)
   (i3 (jf i6))),?_⟩
  simp?[QN,LG];refine⟨_,hS,?_⟩
  split<;>rename_i h
  ·refine⟨_,hS,?_⟩;rw[NU h0 h];exact q
  ·rw[Q0 h0 h]at q;exact q
def FE:Sp:=λvs H Q _=>∃i,vs=[.int i]/\Q (.bl true) H
theorem Fe:jg ["_law_found"] ["_law_found"] (i9 tY):=fsc
theorem wL{ca:Bool}(T:Txt K mg A):CG P w K mg base ca 1 "_law_whole" ["_law_found"] FE:=by
 specialize T.tw.me Fe
 ·obtain⟨i,rfl,q⟩:=h;refine⟨_,kY.run (i3 (jf (qB (ji qz (by rfl) T.mN ζi (iW (iZ 0) (iW (A0 T.Jq ζn) iX))) (qC (Jg (ji qz (by rfl) T.mN ζi (iW (iZ 0) (iW (A0 T.Hc PyProof.Rows.Boot.«bool») iX)))))))),?_⟩;simp?[U4,NL,T.sJ,T.qV];exact q
def FD:Sp:=λvs H Q _=>Y2 λc n=>C3 (vs=[.int c,.int n]) (0<=n) (∀v H',jo H H'->Ki H' (Cp c n) v->Q v H')
theorem Fd:jg ["_law_cell","_law_many"] ["_law_cell","_law_many"] (i9 tX):=fsc
theorem wK(T:Txt K mg A):CG P w K mg base true 1 "_law_thing" ["_law_cell","_law_many"] FD:=by
 specialize T.tu.me Fd
 ·obtain⟨c,n,rfl,n0,q⟩:=h;refine⟨_,kY.run (iY (ju (je lj (ja jU (iZ 0) i6) i6 (jy _)) (i3 (jf (lY (iW i_ (iW (ja lX (ja jU (ja lE (iZ 0) i6) (ja jM (ja vZ i6 (ja LZ i6 i6)) i6)) (ja LZ i6 i6)) iX))))) jh)
   (iY (ju (k_ (nO (je lj (ja jU (iZ 0) i6) i6 (jy _)) (mY (je lj (iZ 1) i6 (jy _))))) (i3 (jf j7)) jh)
   (i3 (jf (lY (iW i_ (iW (ja jU (ja lE (iZ 0) i6) (iZ 1)) iX))))))),?_⟩
  by_cases c0:c%4=0
  ·simp?[QU,SF,or_true,Nat.reduceMul,Int.reduceLE,Int.reduceToNat,Int.reduceMul,c0];refine⟨by decide,by decide,λa ha=>q _ _ (jo.upd ha) ?_⟩;unfold Cp;rw[if_pos c0];exact⟨a,rfl,i8⟩
  ·by_cases c1:c%4=1∨n=0
   ·have e:Cp c n= .no:=by unfold Cp;rw[if_neg c0,if_pos c1]
    rw[e]at q;simp?[c0];by_cases z:c%4=1
    ·rw[if_pos z];exact q _ _ (jo.refl _) rfl
    ·rw[if_neg z,if_pos (c1.resolve_left z)];exact q _ _ (jo.refl _) rfl
   ·have e:Cp c n= .ce (c/4%n).toNat:=by unfold Cp;rw[if_neg c0,if_neg c1]
    rw[e]at q;simp?[c0];rw[not_or]at c1;have p:=cX (c/4) c1.2;rw[if_neg c1.1,if_neg c1.2];exact⟨⋯,λa ha=>q _ _ (jo.upd ha) ⟨a,rfl,by rw[i8,cJ p]⟩⟩
def FC:Sp:=λvs H Q _=>Y6 λ(x:Ax) (u:Ow) (ow:Own) (M:Mem) (O Y:List (Nat×Int))=>C4 (vs=[.ref u.d]) (j3 H x u ow) (In ow M O Y) (∀l H',jo H H'->H' l=some (.lst ((ord ow O).map λk:Nat=>ι k))->H l=none->Q (.ref l) H')
theorem km:jg ["_law_own","_law_starts","_law_old","_law_at_here","_law_k","_law_found","_law_turn","_law_thing_here"] ["_law_own"] (i9 qo):=fsc
theorem EY(T:Txt K mg A):CG P w K mg base true 1 "_law_order" ["_law_own"] FC:=by
 specialize T.tj.me km
 ·obtain⟨x,u,ow,M,O,Y,rfl,o,I,q⟩:=h;refine⟨_,kY.run (iY (jr (i:=1) km.nd rfl lo (qj Ds (by rfl) T.BA ζt (iW (jb (iZ 0) i_) iX)))
   (iY (jr (i:=2) km.nd rfl lo (ji Jf (by rfl) T.sf ζs (iW (wa (fsc:=i9 qo) (N2:=["_law_own"]) (js:=[0]) ⟨rfl,rfl,∅,∅,∅,∅,∅,∅,∅⟩ rfl rfl (by rfl) (kS rfl T.mP (iW (ji jJ (by rfl) T.kj ζl (iW (jb (iZ 0) i_) iX)) iX)) (λ_ _ _ _=>(l_ (je lj (jv jE (jb (iZ 1) i_) (iZ 0)) i6 (jy _)))) (λ_ _ _ _=>(lY (iW (jv jE (jb (iZ 1) i_) (iZ 0)) (iW (iZ 0) iX))))) iX)))
   (iY (jY hx.own rfl (ka (iZ 2)) (qD (n:=2) (by rfl) (ky (jG (i:=3) km.nd rfl lo) (ky (jG (i:=4) km.nd rfl lo) pf)))
    (i3 (jr (i:=1) km.nd rfl lo (ja Rc (iZ 1) (jv jE (jb (iZ 0) i_) (iZ 4))))))
   (iY (jr (i:=5) km.nd rfl lo (kh iX))
   (iY (jr (i:=6) km.nd rfl lo i6)
   (iY (Ab hx.own (je G1 (iZ 6) (ji jJ (by rfl) T.kj ζl (iW (iZ 5) iX)) (jy _))
    (iY (jY hx.own rfl (ka (iZ 1)) (jG (i:=7) km.nd rfl lo)
    (i3 (ju (k_ (mv (je pe (iZ 7) j7 (jy _)) (mv (je lj (jv jE (iZ 7) i6) i_ (jy _)) (mv (je p_ (jv jE (jb (iZ 0) i_) (jv jE (iZ 7) i6)) i6 (jy _)) (ox (je Dt (jv jE (iZ 7) i6) (iZ 5) (by with_unfolding_all rfl))))))) (i3 (jc (nP aZ a_ kr (iZ 5) (iW (jv jE (iZ 7) i6) iX)))) jh)))
   (iY (ju (je p_ (iZ 6) (ji jJ (by rfl) T.kj ζl (iW (iZ 5) iX)) (jy _)) (i3 (jr (i:=1) km.nd rfl lo (jv jE (jb (iZ 0) i_) (jv jE (iZ 5) (iZ 6))))) jh)
   (i3 (jr (i:=6) km.nd rfl lo (ja jM (iZ 6) i6))))))
   (i3 (jf (iZ 5))))))))),?_⟩
  show pE _ _ _ [⇑u.d,none,none,none,none,none,none,none] H;obtain⟨vh,eh,th⟩:=o.hd;exists ∃l,C3 (σ'=[⇑u.d,⇑l,none,none,none,none,none,none]) (H l=none) (H'=upd H l (.lst vh))
  ·simp?[o.dc,Jx,eh];exact λl hl=>hR _ _ ⟨l,rfl,hl,rfl⟩
  ext _ _ ⟨l,rfl,hl,rfl⟩;have s1:jo H (upd H l (.lst vh)):=jo.upd hl;have e1:upd H l (.lst vh) l=some (.lst vh):=i8;generalize upd H l (.lst vh)=H1 at*;have o1:=o.same s1;have Bz:=I.Bz;exists Y2 λl2 as=>C4 (σ'=[⇑u.d,⇑l,⇑l2,none,none,none,none,none]) (jo H1 H') (H' l2=some (.lst (as.map ξ))) (NM H' as (O.map U3))
  ·simp?[Dc,o1.dc,nh,o1.ag];refine⟨by rw[aa];lia,by rw[aa];lia,AS (λi ys H'=>jo H1 H'/\ys.length<=i/\∃as:List Addr,ys=as.map ξ/\NM H' as (olds ow i)) ⟨jo.refl _,aq _,[],rfl,rfl,λ_ z=>nomatch z⟩ (by rw[aa,aU];exact aA Bz (by decide)) (λi ys H' h=>h.2.1) (λi ys H2 hi ⟨s2,l2,as,ey,pr⟩ K1 hK=> ?_) λys H2 ⟨s2,l2,as,ey,pr⟩ l3 hl3=> ?_⟩
   ·rw[aa,aU]at hi;have o2:=o1.same s2;have ag:qh (ow.G.map ι) (0+(i:Int))=some (.int (ow.g i)):=by rw[bg];exact jI (by rw[ai,ab hi];unfold Own.g;rw[ae,ab hi];rfl)
    simp?[o2.dc,nh,kZ,o2.ag,o2.pl,ag,bq];by_cases z:ow.g i=2
    ·rw[if_pos z];obtain⟨a,ea⟩:=Option.isSome_iff_exists.mp (I.od i hi z);have at2:qh (ow.P.map tv) (0+(i:Int))=some (.int a):=by rw[bg];exact jI (by rw[ai,Own.Ng ea];rfl)
     rw[at2];intro p hp;refine hK _ _ ⟨s2.trans (jo.upd hp),by rw[aj];exact cb l2,as++[p],by rw[ey,aB];rfl,?_⟩;rw[F8,if_pos z,ea];exact(pr.same (jo.upd hp)).snoc (by rw[i8,bg];rfl)
    ·rw[if_neg z];exact hK _ _ ⟨s2,⋯,as,ey,by rw[F8,if_neg z];exact pr⟩
   ·rw[aa,aU]at pr;have s3:jo H2 (upd H2 l3 (.lst ys)):=jo.upd hl3;have pr3:=pr.same s3;have al:as.length<=20:=by have:=congrArg dN pr.e;rw[aa]at this;rw[this];exact aA O1 Bz
    have e3:upd H2 l3 (.lst ys) l3=some (.lst (as.map ξ)):=by rw[i8,ey]
    generalize upd H2 l3 (.lst ys)=H3 at*;refine⟨l3,rfl,as,e3,⋯,NG H3,pr3.t,?_,λzs l4 hl4 pm so=> ?_⟩
    ·have:=I.Mg;rw[←pr3.e,bj]at this;exact this
    ·have p4:=pr3.perm pm;have ez:=I.O3 (zs:=zs.map (NG H3)) (by rw[←pr3.e];exact pm.map _) (by rw[bj];exact so);rw[ez]at p4;exact hR _ _ ⟨l4,zs,rfl,(s2.trans s3).trans (jo.upd hl4),i8,p4.same (jo.upd hl4)⟩
  ext _ H2 ⟨l2,as,rfl,s2,e2,pr2⟩;have al:as.length=O.length:=by have:=congrArg dN pr2.e;rw[aa,aa]at this;exact this
  exists Y4 λv3 v4 l5 vs=>C4 (σ'=[⇑u.d,⇑l5,⇑l2,v3,v4,none,none,none]) (jo H H') (H' l5=some (.lst vs)) (wz H' (U0 ow O) vs)
  ·simp?[];refine⟨⟨_,kO.of e2⟩,ke.uT (xs:=as.map ξ) (λi σ H'=>Y4 λv3 v4 l5 vs=>C4 (σ=[⇑u.d,⇑l5,⇑l2,v3,v4,none,none,none]) (jo H2 H') (H' l5=some (.lst vs)) (wz H' (ow.D++(O.take i).flatMap λe=>ow.s e.1) vs))
    ⟨_,_,l,vh,rfl,jo.refl _,s2 _ _ e1,by rw[fv,iw,aM];exact(th.same s1).same s2⟩ (λi σ H' _ hz=>by obtain⟨_,_,_,_,_,s,_⟩:=hz;exact kO.of (s _ _ e2)) ?_ ?_⟩
   ·rintro i v σ H3 hv ⟨v3,v4,l5,vs,rfl,s3,e3,t3⟩ R2 hR2;rw[ai]at hv;obtain⟨y,hy,rfl⟩:=Option.map_eq_some_iff.mp hv;have hi:i<O.length:=by have:=(List.getElem?_eq_some_iff.mp hy).1;lia
    have ey:NG H2 y=U3 O[i]:=by
     have:(as.map (NG H2))[i]? =(O.map U3)[i]? :=by rw[pr2.e]
     rw[ai,hy,ai,ab hi]at this;exact aY this
    have ty:=pr2.t y (aJ hy);rw[ey]at ty;have ty3:=s3 _ _ ty;have o3:=o1.same (s2.trans s3);have mO:O[i]∈O:=bc hi;obtain⟨k1,_,_⟩:=(I.oe O[i].1 O[i].2).mp mO;obtain⟨ra,rv,r1,r2,r3,r4⟩:=o3.Lk (k:=O[i].1) (by rw[I.ls];exact k1);refine⟨y,_,rfl,.inl (.inl ty3),rfl,?_⟩;simp?[QI,U3,e3,o3.dc,uA,o3.sl,jI r2,r3];have b1:=Tq I.s8 (O.take i);have b2:(O.take i).length<=20:=by rw[bE];have:=I.Xt;lia
    have b3:=I.s8 O[i].1;have b4:=I.d4;have b5:=t3.l;have b6:=r4.l;rw[aj]at b5;refine⟨aA (show _<=4000 by lia) (by decide),λp hp=>hR2 _ _ ⟨_,_,p,vs++rv,rfl,s3.trans (jo.upd hp),i8,?_⟩⟩;rw[show O.take (i+1)=O.take i++[O[i]] by rw[bx,ab hi];rfl,gN,fX,←cj];exact(t3.app r4).same (jo.upd hp)
   ·rintro σ H3 ⟨v3,v4,l5,vs,rfl,s3,e3,t3⟩;rw[aa,al,bo]at t3;exact hR _ _ ⟨v3,v4,l5,vs,rfl,s1.trans (s2.trans s3),e3,t3⟩
  ext _ H3 ⟨v3,v4,l5,vs,rfl,s3,e3,t3⟩;exists ∃lf,C3 (σ'=[⇑u.d,⇑l5,⇑l2,v3,v4,⇑lf,none,none]) (H3 lf=none) (H'=upd H3 lf (.lst []))
  ·simp?[];exact λlf hlf=>hR _ _ ⟨lf,rfl,hlf,rfl⟩
  ext _ _ ⟨lf,rfl,hlf,rfl⟩;have hlf0:H lf=none:=s3.free hlf;exists σ'=[⇑u.d,⇑l5,⇑l2,v3,v4,⇑lf,↥0,none]/\upd H3 lf (.lst [])=H'
  ·simp?[];exact hR _ _ ⟨rfl,rfl⟩
  ext _ _ ⟨rfl,rfl⟩;have s4:jo H3 (upd H3 lf (.lst [])):=jo.upd hlf;have e4:upd H3 lf (.lst []) lf=some (.lst (nV [])):=i8;generalize upd H3 lf (.lst [])=H4 at*;have nf:l5≠lf:=i4 e3 hlf;exists Y3 λs5 v7 n=>C3 (σ'=[⇑u.d,s5,⇑l2,v3,v4,⇑lf,↥n,v7]) (jo H H') (H' lf=some (.lst (nV (ord ow O))))
  ·simp?[];refine⟨λm σ H'=>∃(sl:Addr) (v7:Option V) (n:Nat) (F:List Nat) (ts:List Th) (vs:List V),σ=[⇑u.d,⇑sl,⇑l2,v3,v4,⇑lf,↥n,v7]/\m=22-n/\jo H H'/\H' lf=some (.lst (nV F))/\sl≠lf/\H' sl=some (.lst vs)/\wz H' ts vs/\Gf ow F/\(∀t∈ts,Gd ow t)/\(n<=F.length->ord ow O=ML ow (21-n) (pJ ow F ts) n)/\(F.length<n->F=ord ow O),
    ⟨_,l5,none,0,[],U0 ow O,vs,rfl,rfl,s3.trans s4,e4,nf,s4 _ _ e3,t3.same s4,⟨bB,λ_ z=>nomatch z⟩,λt ht=> ?_,λ_=>rfl,λz=>absurd z (cq _)⟩,?_⟩
   ·rcases List.mem_append.mp ht with ht|ht
    ·exact I.gd t ht
    ·obtain⟨e,he,ht⟩:=List.mem_flatMap.mp ht;exact I.gs e.1 e.2 (.inl he) t ht
   rintro m σ H5 ⟨sl,v7,n,F,ts,vs,rfl,rfl,s5,f5,n5,e5,t5,g5,d5,c5,c6⟩;simp?[f5];have fl:=g5.len Bz;have nl:(nV F).length=F.length:=by unfold nV;rw[aa]
   rw[nl];by_cases z:n<=F.length
   ·rw[if_pos ⋯];refine⟨λσ' H'=>∃(sl:Addr) (v7:Option V) (F:List Nat) (ts:List Th) (vs:List V),σ'=[⇑u.d,⇑sl,⇑l2,v3,v4,⇑lf,↥((n+1:Nat):Int),v7]/\jo H H'/\H' lf=some (.lst (nV F))/\sl≠lf/\H' sl=some (.lst vs)/\wz H' ts vs/\Gf ow F/\(∀t∈ts,Gd ow t)/\(n+1<=F.length->ord ow O=ML ow (21-(n+1)) (pJ ow F ts) (n+1))/\(F.length<n+1->F=ord ow O),
     λσ' H' z=>by obtain⟨sl,v7,F,ts,vs,h1,h2,h3,h4,h5⟩:=z;exact⟨22-(n+1),by omega,sl,v7,n+1,h1,rfl,h2,F,h3,h4,ts,vs,h5⟩,⟨_,kO.of e5⟩,?_⟩
    refine ke.uT (xs:=vs) (λi σ H'=>Y2 λv7 F'=>C5 (σ=[⇑u.d,⇑sl,⇑l2,v3,v4,⇑lf,↥n,v7]) ((∀b v,H5 b=some v->b≠lf->H' b=some v)) (H' lf=some (.lst (nV F'))) (F'=pJ ow F (ts.take i)) (Gf ow F'))
     ⟨_,F,rfl,λ_ _ h _=>h,f5,rfl,g5⟩ (λi σ H' _ hz=>by obtain⟨_,_,_,k,_⟩:=hz;exact kO.of (k _ _ e5 n5)) ?_ ?_
    ·rintro i v σ H6 hv ⟨v7,F6,rfl,k6,f6,eF,g6⟩ R2 hR2;have hi:i<ts.length:=by have:=(List.getElem?_eq_some_iff.mp hv).1;rw[t5.l]at this;exact this
     have et:ts[i]? =some ts[i]:=ab hi;have tV:=t5.g i _ _ et hv;have gd:=d5 _ (bc hi);have l6:=g6.len Bz;have nl6:(nV F6).length=F6.length:=by unfold nV;rw[aa]
     have o6:j3 H6 x u ow:=o.kx (L:=[]) (λb v e _ _=>k6 b v (s5 _ _ e) (i4 e hlf0)) (λ_ _ z=>nomatch z) λ_ z=>nomatch z;have fin:∀{H7:Hp} {F7:List Nat},F7=Iw ow F6 ts[i]->(∀b v,H6 b=some v->b≠lf->H7 b=some v)->H7 lf=some (.lst (nV F7))->R2 [⇑u.d,⇑sl,⇑l2,v3,v4,⇑lf,↥n,some v] H7:=λ{H7 F7} e7 k7 f7=>by
      refine hR2 _ _ ⟨_,F7,rfl,λb v e n=>k7 b v (k6 b v e n) n,f7,?_,by rw[e7];exact g6.Iw gd⟩;rw[e7,eF,bx,et];exact wg.symm
     generalize hti:ts[i]=t at*
     cases t with
     |no=>
      cases tV
      simp?[];exact fin rfl (λ_ _ h _=>h) f6
     |nu j=>
      obtain⟨a,rfl,ea⟩:=tV;have ea6:=k6 _ _ ea (jA ea f5);simp?[ea6];exact fin rfl (λ_ _ h _=>h) f6
     |ce k=>
      obtain⟨a,rfl,ea⟩:=tV;have ea6:=k6 _ _ ea (jA ea f5);simp?[ea6,o6.dc,nh,o6.ag,jI (Own.Bs gd.1),f6,OI];by_cases z1:ow.g k<2
      ·rw[if_pos z1];refine⟨rfl,LS,?_⟩;by_cases z2:k∈F6
       ·rw[if_neg λy=>y z2];exact fin (by show _=if _ then _ else _;rw[if_neg λy=>y.2 z2]) (λ_ _ h _=>h) f6
       ·rw[if_pos z2];refine⟨aT (by rw[nl6];exact l6) (by decide),fin (F7:=F6++[k]) (by show _=if _ then _ else _;rw[if_pos ⟨z1,z2⟩]) (λb v e n=>qp e n) ?_⟩;rw[i8];unfold nV;rw[aB];rfl
      ·rw[if_neg z1];exact fin (by show _=if _ then _ else _;rw[if_neg λy=>z1 y.1]) (λ_ _ h _=>h) f6
    ·rintro σ H6 ⟨v7,F6,rfl,k6,f6,eF,g6⟩;rw[t5.l,bo]at eF;have o6:j3 H6 x u ow:=o.kx (L:=[]) (λb v e _ _=>k6 b v (s5 _ _ e) (i4 e hlf0)) (λ_ _ z=>nomatch z) λ_ z=>nomatch z;have l6:=g6.len Bz;have nl6:(nV F6).length=F6.length:=by unfold nV;rw[aa]
     have c7:=c5 z;rw[←eF]at c7;have ss6:jo H H6:=λb v e=>k6 b v (s5 _ _ e) (i4 e hlf0);by_cases y:n<F6.length
     ·have ef:(nV F6)[n]? =↥(F6[n]:Nat):=by unfold nV;rw[ai,ab y];rfl
      have gk:=g6.2 F6[n] (bc y);obtain⟨ra,rv,r1,r2,r3,r4⟩:=o6.Lk (k:=F6[n]) (by rw[I.ls];exact gk.1);simp?[f6,o6.dc,uA,o6.sl,jI ef,jI r2,nl6];rw[if_pos ⋯];obtain⟨a,ea⟩:=Option.isSome_iff_exists.mp gk.2;obtain⟨vr,er,_⟩:=o.sr _ _ r1;refine⟨⋯,ss6,F6,rfl,i4 er hlf0,ow.s F6[n],rv,r3,r4,g6,λt ht=>I.gs _ a (I.at gk.1 ea) t ht,λ_=> ?_,λy'=>by lia⟩;rw[c7,show 21-n=(21-(n+1))+1 by lia,Oc y,ae,ab y];rfl
     ·simp?[f6,nl6];rw[if_neg ⋯];refine⟨⋯,ss6,F6,rfl,n5,ts,vs,k6 _ _ e5 n5,t5.kx (L:=[lf]) (λb v e _ n=>k6 b v e (by simpa using n)) (λa ha xs e=>by rw[List.mem_singleton.mp ha,f5]at e;cases e),g6,d5,λy'=>by lia,λ_=> ?_⟩
      rw[c7,LI ⋯]
   ·rw[if_neg ⋯];exact hR _ _ ⟨_,v7,n,rfl,s5,by rw[←c6 ⋯];exact f5⟩
  ext _ H5 ⟨s5,v7,n,rfl,s5',e5⟩;simp?[];exact q lf H5 s5' e5 hlf0
def jQ:Sp:=λvs H Q _=>∃i a b,vs=[.int i,.int a,.int b]/\Q (.bl (wi (.int i) a b)) H
theorem HU:jg ["thing","least","most"] ["thing","least","most"] (i9 vM):=fsc
theorem jV{ca:Bool}(T:Txt K mg A):CG P w K mg base ca 2 "is_within" ["thing","least","most"] jQ:=by
 specialize T.vt.me HU
 ·obtain⟨i,a,b,rfl,q⟩:=h;refine⟨_,kY.run (i3 (jf (qB (i5 (pV T).mono hr rfl hx (iW (iZ 0) iX)) (qC (KA G1 G1 (iZ 1) (iZ 0) (iZ 2)))))),?_⟩;simp?[Lp,oB,wi]at q⊢;by_cases h:a<=i<;>simpa [h] using q
def Fx(A:Ad):Sp:=λvs H Q _=>∃p dx b e t n,vs=[.ref p,.int n]/\H p=some (.ins A.jq dx (qP b e t))/\1<=n/\n<=e-t/\Q (.int t) (upd H p (.ins A.jq dx (qP b e (t+n))))
theorem wQ:jg ["self","many","at"] ["self","many"] (i9 tT):=fsc
theorem wH(T:Txt K mg A):CM P w K mg base true 2 A.jq "take" ["self","many"] (Fx A):=by
 specialize T.sZ.me wQ
 ·obtain⟨p,dx,b,e,t,n,rfl,h⟩:=h;obtain⟨q,hp,n1,n2⟩:=Ke h;refine⟨_,kY.run (iY (ju (k_ (nO (jS (jB (i5 (pV T).mono hr rfl hx (iW (iZ 1) iX)) (λ_=>rfl))) (mY (je p_ (iZ 1) i6 (jy _))))) (i3 jK) jh)
   (iY (ju (je Dr (iZ 1) (j4 (iZ 0) T.j5 (rd T).mono hr hx) (jy _)) (i3 jK) jh)
   (iY (jr (i:=2) wQ.nd rfl lo (jd (iZ 0) rfl))
   (iY (j6 (iZ 0) (ja jM (iZ 2) (iZ 1)) rfl)
   (i3 (jf (iZ 2))))))),?_⟩
  simp?[oB,show¬n<1 by lia,hp,vR];refine⟨p,dx,b,e,t,rfl,hp,?_⟩;simp?[show¬e-t<n by lia,hp,T.j5,T.lu,JR,Ms,Mr];exact q
def uF(A:Ad):Sp:=λvs H Q _=>∃p d q ws sp es i y,vs=[.ref p,.int i]/\kP A.jF H p d q ws sp es/\pd ws (.int i)=some y/\Q .non H
theorem uD:jg ["self","ticket"] ["self","ticket"] (i9 nA):=fsc
theorem oX(T:Txt K mg A):CM P w K mg base true 2 A.jF "want_pending" ["self","ticket"] (uF A):=by
 specialize T.nj.me uD
 ·obtain⟨p,d,q,ws,sp,es,i,y,rfl,h⟩:=h;obtain⟨h,m,hp⟩:=UX h;refine⟨_,kY.run (i3 (ju (k_ (nO (jS (jB (i5 (pV T).mono hr rfl hx (iW (iZ 1) iX)) (λ_=>rfl))) (mY (je (Kw (wC hr)) (iZ 1) (jd (iZ 0) rfl) (by with_unfolding_all rfl))))) (i3 jK) jh)),?_⟩;obtain⟨dx,e⟩:=m.ob;simp?[CI,oB,e,T.kA,T.jO,A2,m.dc,m.has,hp,hU];exact h
def ug:Sp:=λvs H Q _=>∃i,vs=[.int i]/\Q (.bl (wi (.int i) (-1000000000000) 1000000000000)) H
theorem HS:jg ["thing"] ["thing"] (i9 vL):=fsc
theorem A9{ca:Bool}(T:Txt K mg A):CG P w K mg base ca 3 "is_number" ["thing"] ug:=by
 specialize T.vq.me HS
 ·obtain⟨i,rfl,q⟩:=h;refine⟨_,kY.run (i3 (jf (i5 (jV T).mono hr rfl hx (iW (iZ 0) (iW (G8 G4 (kT T.pQ)) (iW (kT T.pQ) iX)))))),?_⟩;simp?[jQ];exact q
def vT:Sp:=λvs H Q _=>∃i,vs=[.int i]/\Q (.bl (wi (.int i) 0 9999)) H
theorem JL:jg ["thing"] ["thing"] (i9 Ay):=fsc
theorem Cg{ca:Bool}(T:Txt K mg A):CG P w K mg base ca 3 "is_place" ["thing"] vT:=by
 specialize T.Am.me JL
 ·obtain⟨i,rfl,q⟩:=h;refine⟨_,kY.run (i3 (jf (i5 (jV T).mono hr rfl hx (iW (iZ 0) (iW i6 (iW (kT T.uo) iX)))))),?_⟩;simp?[jQ];exact q
def rW:Sp:=λvs H Q _=>∃i,vs=[.int i]/\wi (.int i) 0 8=true/\Q .non H
theorem Fi:jg ["slots"] ["slots"] (i9 uc):=fsc
theorem wM(T:Txt K mg A):CG P w K mg base true 3 "want_slots" ["slots"] rW:=by
 specialize T.tG.me Fi
 ·obtain⟨i,rfl,w,q⟩:=h;refine⟨_,kY.run (i3 (ju (jS (jB (i5 (jV T).mono hr rfl hx (iW (iZ 0) (iW i6 (iW (kT T.qq) iX)))) (λ_=>rfl))) (i3 jK) jh)),?_⟩;simp?[jQ,w];exact q
def Li:Sp:=λvs H Q _=>∃n,vs=[.int n]/\0<=n/\n<=34/\n%4<=2/\Q (.bl true) H
theorem Lc:jg ["number"] ["number"] (i9 BP):=fsc
theorem KO(T:Txt K mg A):CG P w K mg base true 3 "is_head" ["number"] Li:=by
 specialize T.BI.me Lc
 ·obtain⟨n,rfl,h⟩:=h;obtain⟨q,n0,n1,n2⟩:=Ke h;refine⟨_,kY.run (i3 (jf (qB (i5 (jV T).mono hr rfl hx (iW (ja lE (iZ 0) i6) (iW i6 (iW (kT T.qq) iX)))) (qC (nM G1 (ja jU (iZ 0) i6) (kT T.pG) (jy _)))))),?_⟩;simp?[jQ,AK (show 0<=n/4 by lia) (show n/4<=8 by lia),n2];exact q
def R9(A:Ad):Sp:=λvs H Q _=>∃p q ws i k,vs=[.ref p,.int i,.int k]/\j9 A.jm H p q ws/\0<=i/\i+k<ws.length/\Q (.bl true) H
theorem R0:jg ["memory","at","slots"] ["memory","at","slots"] (i9 K6):=fsc
theorem Me{ca:Bool}(T:Txt K mg A):CG P w K mg base ca 3 "fits" ["memory","at","slots"] (R9 A):=by
 specialize T.KZ.me R0
 ·obtain⟨p,q,ws,i,k,rfl,h⟩:=h;obtain⟨h,m,i0,i1⟩:=Ke h;refine⟨_,kY.run (i3 (jf (i5 (jV T).mono hr rfl hx (iW (iZ 1) (iW i6 (iW (ja lX (ja lX (jd (iZ 0) rfl) i6) (iZ 2)) iX)))))),?_⟩;obtain⟨dx,e⟩:=m.ob;simp?[jQ,e,T.jN,T.mB,DF,AK i0 (show i<=(ws.length:Int)-1-k by lia)];exact h
def Ed(A:Ad):Sp:=λvs H Q _=>∃p dx n,vs=[.ref p,.int n]/\H p=some (.ins A.jm dx [])/\1<=n/\n<=4000/\∀q H',H q=none->j9 A.jm H' p q (ak n.toNat (-1))->(∀b o,H b=some o->b≠p->H' b=some o)->Q .non H'
theorem D3:jg ["self","size"] ["self","size"] (i9 rK):=fsc
theorem DP(T:Txt K mg A):mS P w K mg base (uv P w) true 3 A.lz A.mR ["self","size"] (Ed A):=by
 refine T.Dk.NF D3 (λvs H Q E h=> ?_) (λcdv A' outer s H vs Q E hr hx h=> ?_)
 ·obtain⟨_,_,_,rfl,_⟩:=h;rfl
 ·obtain⟨p,dx,n,rfl,h⟩:=h;obtain⟨h,e,h0,h1⟩:=Ke h;refine⟨_,kY.run (iY (ju (jS (jB (i5 (jV T).mono hr rfl hx (iW (iZ 1) (iW i6 (iW (kT T.uq) iX)))) (λ_=>rfl))) (i3 jK) jh)
   (iY (j6 (iZ 0) (iZ 1) rfl)
   (i3 (j6 (iZ 0) (ja AZ (kh (iW (kT T.pI) iX)) (iZ 1)) rfl)))),?_⟩
  simp?[jQ,e,T.jN,T.mB,AK h0 h1];intro l hl;obtain⟨nl,hl0⟩:=jT hl;refine⟨by omega,by omega,aA (show [ι (-1)].length*n.toNat<=4000 by simp;omega) (by decide),λl2 hl2=> ?_⟩;obtain⟨nl2,hl2'⟩:=jT hl2;obtain⟨nl2p,hl20⟩:=jT hl2';rw[i7 (ah nl2p),i7 (ah nl),i8];refine⟨T.jN,T.kX,by simp[kB],?_⟩;refine h l2 _ hl20 ⟨⟨dx,?_⟩,?_⟩ λb o eb nb=> ?_
  ·rw[i8,TQ,ba,show(n.toNat:Int)=n from cJ (by omega)]
  ·rw[i7 nl2p,i8,uQ,fD]
  ·rw[i7 nb,i7 (i4 eb hl20),i7 (i4 eb hl0),i7 nb];exact eb
def vS(A:Ad):Sp:=λvs H Q _=>∃p q ws i,vs=[.ref p,.int i]/\j9 A.jm H p q ws/\0<=i/\i<ws.length/\Q .non H
theorem vP:jg ["self","at"] ["self","at"] (i9 nR):=fsc
theorem pU(T:Txt K mg A):CM P w K mg base true 3 A.jm "want_place" ["self","at"] (vS A):=by
 specialize T.nQ.me vP
 ·obtain⟨p,q,ws,i,rfl,h⟩:=h;obtain⟨h,m,i0,i1⟩:=Ke h;refine⟨_,kY.run (i3 (ju (jS (jB (i5 (jV T).mono hr rfl hx (iW (iZ 1) (iW i6 (iW (ja lX (jd (iZ 0) rfl) i6) iX)))) (λ_=>rfl))) (i3 jK) jh)),?_⟩;obtain⟨dx,e⟩:=m.ob;simp?[jQ,e,T.jN,T.mB,DF,AK i0 (dC i1)];exact h
def uf(A:Ad):Sp:=λvs H Q _=>∃p q ws i k,vs=[.ref p,.int i,.int k]/\j9 A.jm H p q ws/\0<=i/\i+k<=ws.length/\Q .non H
theorem ud:jg ["self","begin","many"] ["self","begin","many"] (i9 mU):=fsc
theorem oI(T:Txt K mg A):CM P w K mg base true 3 A.jm "want_stretch" ["self","begin","many"] (uf A):=by
 specialize T.mT.me ud
 ·obtain⟨p,q,ws,i,k,rfl,h⟩:=h;obtain⟨h,m,i0,i1⟩:=Ke h;refine⟨_,kY.run (i3 (ju (jS (jB (i5 (jV T).mono hr rfl hx (iW (iZ 1) (iW i6 (iW (ja lX (jd (iZ 0) rfl) (iZ 2)) iX)))) (λ_=>rfl))) (i3 jK) jh)),?_⟩;obtain⟨dx,e⟩:=m.ob;simp?[jQ,e,T.jN,T.mB,DF,AK i0 (show i<=(ws.length:Int)-k by lia)];exact h
def H9(A:Ad):Sp:=λvs H Q _=>∃p dx b e t i,vs=[.ref p,.int i]/\H p=some (.ins A.jq dx (qP b e t))/\Q (.bl (wi (.int i) b (t-1))) H
theorem HJ:jg ["self","at"] ["self","at"] (i9 vB):=fsc
theorem sP{ca:Bool}(T:Txt K mg A):CM P w K mg base ca 3 A.jq "has" ["self","at"] (H9 A):=by
 specialize T.vc.me HJ
 ·obtain⟨p,dx,b,e,t,i,rfl,hp,q⟩:=h;refine⟨_,kY.run (i3 (jf (i5 (jV T).mono hr rfl hx (iW (iZ 1) (iW (jd (iZ 0) rfl) (iW (ja lX (jd (iZ 0) rfl) i6) iX)))))),?_⟩;simp?[jQ,hp,T.j5,T.kI,T.lu,Gg,JR];exact q
def Fq(A:Ad):Sp:=λvs H Q _=>∃p dx n,vs=[.ref p,.int n]/\H p=some (.ins A.jW dx [])/\1<=n/\n<=6/\∀q H',H q=none->wj A.jW H' p q (ak n.toNat (-1))->(∀b o,H b=some o->b≠p->H' b=some o)->Q .non H'
theorem E4:jg ["self","many"] ["self","many"] (i9 tL):=fsc
theorem ER(T:Txt K mg A):mS P w K mg base (uv P w) true 3 A.lT A.nG ["self","many"] (Fq A):=by
 refine T.EF.NF E4 (λvs H Q E h=> ?_) (λcdv A' outer s H vs Q E hr hx h=> ?_)
 ·obtain⟨_,_,_,rfl,_⟩:=h;rfl
 ·obtain⟨p,dx,n,rfl,h⟩:=h;obtain⟨h,e,h0,h1⟩:=Ke h;refine⟨_,kY.run (iY (ju (jS (jB (i5 (jV T).mono hr rfl hx (iW (iZ 1) (iW i6 (iW (kT T.uk) iX)))) (λ_=>rfl))) (i3 jK) jh)
   (i3 (j6 (iZ 0) (ja AZ (kh (iW (kT T.pI) iX)) (iZ 1)) rfl))),?_⟩
  simp?[jQ,AK h0 h1];intro l hl;refine⟨by omega,by omega,aA (show [ι (-1)].length*n.toNat<=6 by show 1*n.toNat<=6;lia) (by decide),λp1 hp1=> ?_⟩;obtain⟨n1,hq⟩:=jT hp1;have npl:=i4 e hl;have np1:=i4 e hq;rw[i7 np1,i7 npl,e];dsimp only;refine⟨T.oE,T.mz,by decide,h p1 _ hq ⟨⟨dx,i8⟩,?_⟩ λb o eb nb=> ?_⟩
  ·rw[i7 (ah np1),i8,uQ,fD]
  ·rw[i7 nb,i7 (i4 eb hq),i7 (i4 eb hl)];exact eb
def AG(A:Ad):Sp:=λvs H Q _=>∃p q ws i,vs=[.ref p,.int i]/\wj A.jW H p q ws/\0<=i/\i<ws.length/\Q .non H
theorem AE:jg ["self","hand"] ["self","hand"] (i9 oP):=fsc
theorem Ae(T:Txt K mg A):CM P w K mg base true 3 A.jW "want_hand" ["self","hand"] (AG A):=by
 specialize T.oM.me AE
 ·obtain⟨p,q,ws,i,rfl,h⟩:=h;obtain⟨h,m,i0,i1⟩:=Ke h;refine⟨_,kY.run (i3 (ju (jS (jB (i5 (jV T).mono hr rfl hx (iW (iZ 1) (iW i6 (iW (ja lX (ji jJ (by rfl) T.kj ζl (iW (jd (iZ 0) rfl) iX)) i6) iX)))) (λ_=>rfl))) (i3 jK) jh)),?_⟩;obtain⟨dx,e⟩:=m.ob;simp?[jQ,e,T.oE,T.mz,Oy,m.ls,aa,AK i0 (dC i1)];exact h
def HZ(A:Ad):Sp:=λvs H Q _=>∃p d q ws sp es i y,vs=[.ref p,.int i]/\kP A.jF H p d q ws sp es/\ws.length<64/\pd ws (.int i)=some y/\∀H' es',kP A.jF H' p d q (ws.set i.toNat none) (sp++[y.2]) es'->Out d q H H'->Q .non H'
theorem HH:jg ["self","ticket"] ["self","ticket"] (i9 vA):=fsc
theorem Hg(T:Txt K mg A):CM P w K mg base true 3 A.jF "say" ["self","ticket"] (HZ A):=by
 specialize T.vb.me HH
 ·obtain⟨p,d,q,ws,sp,es,i,y,rfl,m,hl,hp,h⟩:=h;refine⟨_,kY.run (iY (jc (jw (iZ 0) T.kA (oX T).mono hr hx (iW (iZ 1) iX)))
   (iY (jc (nP aZ a_ kr (jd (iZ 0) rfl) (iW (jv jE (jb (jd (iZ 0) rfl) (iZ 1)) i6) iX)))
   (i3 (jc (Jd (jd (iZ 0) rfl) (iZ 1) ⟨rfl,rfl,rfl,rfl⟩))))),?_⟩
  obtain⟨dx,e⟩:=m.ob;have ll:=m.ln;obtain⟨r,hr,r1,r2,r3,r4⟩:=m.find hp;have tr:=m.tp r hr;simp?[e,Jn];refine⟨p,d,q,ws,sp,es,i,y,rfl,m,hp,?_⟩;simp?[e,T.kA,T.jO,T.lJ,A2,OR,m.dc,m.sq,r4,tr];have e1:upd H q (.lst (sp.map ι++[.int r.n])) p=some (.ins A.jF dx (Kf d q)):=by rw[i7 m.pq];exact e
  have d1:upd H q (.lst (sp.map ι++[.int r.n])) d=some (.dK (wU es)):=by rw[i7 m.dq];exact m.dc
  refine⟨by rw[aa];exact av (show sp.length<64 by lia) (by decide),?_⟩;simp?[e1,T.kA,T.jO,A2,d1,r4,Qh];rw[r3];exact h _ _ (m.say hp).1 (m.say hp).2
def Lg(A:Ad):Sp:=λvs H Q _=>∃(p q:Addr) (os:List (Option Int)) (k:Nat) (o:Option Int),vs=[.ref p,.int k]/\su A.jH H p q os/\os[k]? =some o/\Q (tv o) H
theorem UO{os:List (Option Int)}{k:Nat}{o:Option Int}(h:os[k]? =some o):qh (os.map tv) k=some (tv o):=jI (by rw[ai,h];rfl)
theorem P_{os:List (Option Int)}{k:Nat}{o:Option Int}(h:os[k]? =some o):EK (os.map tv).length k=some k:=by
 have:=(List.getElem?_eq_some_iff.mp h).1;rw[sG ⋯ (by rw[B5];lia),aU]
theorem K_:jg ["self","name"] ["self","name"] (i9 BM):=fsc
theorem DR(T:Txt K mg A):CM P w K mg base true 3 A.jH "at" ["self","name"] (Lg A):=by
 specialize T.BF.me K_
 ·obtain⟨p,q,os,k,o,rfl,h⟩:=h;obtain⟨h,m,ho⟩:=UX h;refine⟨_,kY.run (iY (ju (jS (jB (i5 (jV T).mono hr rfl hx (iW (iZ 1) (iW i6 (iW (ja lX (ji jJ (by rfl) T.kj ζl (iW (jd (iZ 0) rfl) iX)) i6) iX)))) (λ_=>rfl))) (i3 jK) jh)
   (i3 (jf (jv jE (jd (iZ 0) rfl) (iZ 1))))),?_⟩
  obtain⟨dx,e⟩:=m.ob;have hl:=(List.getElem?_eq_some_iff.mp ho).1;simp?[jQ,e,T.mK,T.l9,Ka,m.ls,B5,AK (show 0<=(k:Int) by lia) (show(k:Int)<=os.length-1 by lia),UO ho];exact h
def qO:Sp:=λvs H Q _=>∃i,vs=[.int i]/\wi (.int i) (-1000000000000) 1000000000000=true/\Q .non H
theorem D9:jg ["thing"] ["thing"] (i9 rS):=fsc
theorem uZ(T:Txt K mg A):CG P w K mg base true 4 "want_number" ["thing"] qO:=by
 specialize T.rG.me D9
 ·obtain⟨i,rfl,w,q⟩:=h;refine⟨_,kY.run (i3 (ju (jS (jB (i5 (A9 T).mono hr rfl hx (iW (iZ 0) iX)) (λ_=>rfl))) (i3 jK) jh)),?_⟩;simp?[ug,w];exact q
def lD:Sp:=λvs H Q _=>∃i,vs=[.int i]/\wi (.int i) 0 9999=true/\Q .non H
theorem Fh:jg ["thing"] ["thing"] (i9 ub):=fsc
theorem ma(T:Txt K mg A):CG P w K mg base true 4 "want_place" ["thing"] lD:=by
 specialize T.tF.me Fh
 ·obtain⟨i,rfl,w,q⟩:=h;refine⟨_,kY.run (i3 (ju (jS (jB (i5 (Cg T).mono hr rfl hx (iW (iZ 0) iX)) (λ_=>rfl))) (i3 jK) jh)),?_⟩;simp?[vT,w];exact q
def R_:Sp:=λvs H Q _=>∃i x,vs=[.int i]/\kd (.int i)=some x/\Q (.str x) H
theorem R1:jg ["word"] ["word"] (i9 K7):=fsc
theorem sR(T:Txt K mg A):CG P w K mg base true 4 "kind" ["word"] R_:=by
 specialize T.K0.me R1
 ·obtain⟨i,x,rfl,e,q⟩:=h;refine⟨_,kY.run (iY (ju (jS (jB (i5 (pV T).mono hr rfl hx (iW (iZ 0) iX)) (λ_=>rfl))) (i3 jK) jh)
   (iY (ju (je lj (iZ 0) (kT T.pI) (jy _)) (i3 (jf i_)) jh)
   (iY (ju (k_ (mv (je lj (ja jU (iZ 0) i6) i6 (jy _)) (ox (jB (i5 (A9 T).mono hr rfl hx (iW (ja lE (iZ 0) i6) iX)) (λ_=>rfl))))) (i3 (jf i_)) jh)
   (iY (ju (k_ (mv (je lj (ja jU (iZ 0) i6) i6 (jy _)) (ox (jB (i5 (Cg T).mono hr rfl hx (iW (ja lE (iZ 0) i6) iX)) (λ_=>rfl))))) (i3 (jf i_)) jh)
   (i3 jK))))),?_⟩
  simp?[oB,ug,vT];rcases Jk e with ⟨rfl,rfl⟩|⟨rfl,c,d,f⟩|⟨rfl,c,d,f⟩
  ·rw[if_pos rfl];exact q
  ·rw[if_neg ⋯,if_pos c,AK ⋯ ⋯];exact q
  ·rw[if_neg ⋯,if_neg ⋯];simp?[c,AK (show 0<=i/2 by lia) (show i/2<=9999 by lia)];exact q
def Ee(A:Ad):Sp:=λvs H Q _=>∃p q ws i,vs=[.ref p,.int i]/\j9 A.jm H p q ws/\0<=i/\i<ws.length/\Q (.int (ws.getD i.toNat 0)) H
theorem D4:jg ["self","at"] ["self","at"] (i9 rL):=fsc
theorem m_(T:Txt K mg A):CM P w K mg base true 4 A.jm "read" ["self","at"] (Ee A):=by
 specialize T.rn.me D4
 ·obtain⟨p,q,ws,i,rfl,h⟩:=h;obtain⟨h,m,i0,i1⟩:=Ke h;refine⟨_,kY.run (iY (jc (jw (iZ 0) T.jN (pU T).mono hr hx (iW (iZ 1) iX)))
   (i3 (jf (jv jE (jd (iZ 0) rfl) (iZ 1))))),?_⟩
  obtain⟨dx,e⟩:=m.ob;simp?[e,OW];refine⟨p,q,ws,i,rfl,m,i0,i1,?_⟩;simp?[e,T.jN,T.kX,wc,m.ls,Qx i0 (dC i1)];exact h
def Ec(A:Ad):Sp:=λvs H Q _=>∃p q ws i j k,vs=[.ref p,.int i,.int j,.int k]/\j9 A.jm H p q ws/\ws.length<=4000/\0<=i/\0<=j/\0<=k/\i+k<=ws.length/\j+k<=ws.length/\∀H',j9 A.jm H' p q (cp ws ((ws.drop i.toNat).take k.toNat) j.toNat k.toNat)->(∀b o,H b=some o->b≠q->H' b=some o)->Q .non H'
theorem qM:jg ["self","start","goal","many","stretch","step"] ["self","start","goal","many"] (i9 rJ):=fsc
theorem DO(T:Txt K mg A):CM P w K mg base true 4 A.jm "copy" ["self","start","goal","many"] (Ec A):=by
 specialize T.rj.me qM
 ·obtain⟨p,q,ws,i,j,k,rfl,h⟩:=h;obtain⟨h,mm,hl,i0,j0,k0,ik,jk⟩:=WY h;refine⟨_,kY.run (iY (ju (k_ (nO (jS (jB (i5 (pV T).mono hr rfl hx (iW (iZ 3) iX)) (λ_=>rfl))) (mY (je p_ (iZ 3) i6 (jy _))))) (i3 jK) jh)
   (iY (jc (jw (iZ 0) T.jN (oI T).mono hr hx (iW (iZ 1) (iW (iZ 3) iX))))
   (iY (jc (jw (iZ 0) T.jN (oI T).mono hr hx (iW (iZ 2) (iW (iZ 3) iX))))
   (iY (jr (i:=4) qM.nd rfl lo (sH OO (jd (iZ 0) rfl) (qy (iZ 1)) (qy (ja jM (iZ 1) (iZ 3)))))
   (i3 (jY hx.own rfl (kS rfl T.mP (iW (iZ 3) iX)) (jG (i:=5) qM.nd rfl lo)
    (i3 (mn (jv jE (iZ 4) (iZ 5)) (mj (jd (iZ 0) rfl) (ja jM (iZ 2) (iZ 5)) nK))))))))),?_⟩
  obtain⟨dx,e⟩:=mm.ob;simp?[oB,e,OX,show¬k<0 by omega];refine⟨p,q,ws,i,k,rfl,mm,i0,ik,?_⟩;simp?[e,OX];refine⟨p,q,ws,j,k,rfl,mm,j0,jk,?_⟩;simp?[e,T.jN,T.kX,wc,mm.ls];intro l hl';refine⟨by omega,by omega,?_⟩;rw[Og i0 (by omega) (by omega)];have hks:((ws.drop i.toNat).take k.toNat).length=k.toNat:=by rw[bE,dU];omega
  generalize hK:(ws.drop i.toNat).take k.toNat=ks at*;refine ke.range (λt σ H'=>∃v5,σ=[some (.ref p),some (.int i),some (.int j),some (.int k),some (.ref l),v5]/\j9 A.jm H' p q (cp ws ks j.toNat t)/\H' l=some (.lst (ks.map ι))/\(∀b o,H b=some o->b≠q->H' b=some o))
   ⟨_,rfl,mm.same (jo.upd hl'),i8,λb o eb _=>jo.upd hl' b o eb⟩ ?_ ?_
  ·rintro t σ H1 ht ⟨v5,rfl,m1,l1,b1⟩;obtain⟨dy,e1⟩:=m1.ob;have nlq:l≠q:=λz=>by rw[z]at hl';rw[mm.ls]at hl';cases hl'
   simp?[e1,l1,m1.ls,T.jN,T.kX,wc,bg,SS (show t<ks.length by lia)];rw[sG ⋯ (by rw[aa,uN];lia),show(j+(t:Int)).toNat=j.toNat+t by lia];dsimp only;rw[D_];refine⟨m1.put (j.toNat+t) (ks.getD t 0),?_,λb o eb nb=> ?_⟩
   ·rw[i7 nlq];exact l1
   ·rw[i7 nb];exact b1 b o eb nb
  ·rintro σ H1 ⟨v5,rfl,m1,l1,b1⟩;exact h _ m1 b1
def uG(A:Ad):Sp:=λvs H Q _=>∃(p q:Addr) (os:List (Option Int)) (k:Nat) (a:Int),vs=[.ref p,.int k]/\su A.jH H p q os/\os[k]? =some (some a)/\Q .non H
theorem uE:jg ["self","name"] ["self","name"] (i9 nB):=fsc
theorem oY(T:Txt K mg A):CM P w K mg base true 4 A.jH "want_standing" ["self","name"] (uG A):=by
 specialize T.nz.me uE
 ·obtain⟨p,q,os,k,a,rfl,h⟩:=h;obtain⟨h,m,ho⟩:=UX h;refine⟨_,kY.run (i3 (ju (je z_ (jw (iZ 0) T.mK (DR T).mono hr hx (iW (iZ 1) iX)) j7 (jy _)) (i3 jK) jh)),?_⟩;obtain⟨dx,e⟩:=m.ob;simp?[e,Qd];refine⟨p,q,os,k,_,rfl,m,ho,?_⟩;simp?[tv];exact h
def vU:Sp:=λvs H Q _=>∃i,vs=[.int i]/\wi (.int i) (-1000000000000) 1000000000000=true/\Q (.int (2*i)) H
theorem D7:jg ["n"] ["n"] (i9 rQ):=fsc
theorem uX(T:Txt K mg A):CG P w K mg base true 5 "number_word" ["n"] vU:=by
 specialize T.rE.me D7
 ·obtain⟨i,rfl,w,q⟩:=h;refine⟨_,kY.run (iY (jc (i5 (uZ T).mono hr rfl hx (iW (iZ 0) iX)))
   (i3 (jf (ja vZ i6 (iZ 0))))),?_⟩
  simp?[qO,w];exact q
def rV:Sp:=λvs H Q _=>∃i,vs=[.int i]/\wi (.int i) 0 9999=true/\Q (.int (2*i+1)) H
theorem Fg:jg ["at"] ["at"] (i9 t_):=fsc
theorem rf(T:Txt K mg A):CG P w K mg base true 5 "place_word" ["at"] rV:=by
 specialize T.tD.me Fg
 ·obtain⟨i,rfl,w,q⟩:=h;refine⟨_,kY.run (iY (jc (i5 (ma T).mono hr rfl hx (iW (iZ 0) iX)))
   (i3 (jf (ja jM (ja vZ i6 (iZ 0)) i6)))),?_⟩
  simp?[lD,w];exact q
def PM:Sp:=λvs H Q _=>∃i x,vs=[.int i]/\kd (.int i)=some x/\i≠ -1/\Q (.int (i/2)) H
theorem PH:jg ["word"] ["word"] (i9 HD):=fsc
theorem sh(T:Txt K mg A):CG P w K mg base true 5 "worth" ["word"] PM:=by
 specialize T.Hx.me PH
 ·obtain⟨i,x,rfl,h⟩:=h;obtain⟨q,e,n⟩:=UX h;refine⟨_,kY.run (iY (ju (je lj (i5 (sR T).mono hr rfl hx (iW (iZ 0) iX)) i_ (jy _)) (i3 (jf j7)) jh)
   (i3 (jf (ja lE (iZ 0) i6)))),?_⟩
  simp?[];refine⟨i,x,rfl,e,?_⟩;simp?[];rcases Jk e with ⟨rfl,z⟩|⟨rfl,c,d,f⟩|⟨rfl,c,d,f⟩
  ·exact(n z).elim
  ·rw[if_neg ∅];exact q
  ·rw[if_neg ∅];exact q
def Cy(A:Ad):Sp:=λvs H Q _=>∃p q ws i x,vs=[.ref p,.int i,.int x]/\j9 A.jm H p q ws/\0<=i/\i<ws.length/\(kd (.int x)).isSome=true/\Q .non (upd H q (.lst ((ws.set i.toNat x).map ι)))
theorem Cv:jg ["self","at","word"] ["self","at","word"] (i9 qK):=fsc
theorem lK(T:Txt K mg A):CM P w K mg base true 5 A.jm "write" ["self","at","word"] (Cy A):=by
 specialize T.qJ.me Cv
 ·obtain⟨p,q,ws,i,x,rfl,h⟩:=h;obtain⟨h,m,i0,i1,k⟩:=Sj h;refine⟨_,kY.run (iY (jc (jw (iZ 0) T.jN (pU T).mono hr hx (iW (iZ 1) iX)))
   (iY (jc (i5 (sR T).mono hr rfl hx (iW (iZ 2) iX)))
   (i3 (mn (iZ 2) (mj (jd (iZ 0) rfl) (iZ 1) nK))))),?_⟩
  obtain⟨dx,e⟩:=m.ob;obtain⟨y,k⟩:=Option.isSome_iff_exists.mp k;simp?[e,OW];refine⟨p,q,ws,i,rfl,m,i0,i1,x,y,rfl,k,?_⟩;simp?[e,T.jN,T.kX,wc,m.ls,LY i0 (dC i1),D_];exact h
def Fn(A:Ad):Sp:=λvs H Q _=>∃p dx i j,vs=[.ref p,.int i,.int j]/\H p=some (.ins A.jD dx [])/\4<=i/\i<=2000/\2<=j/\j<=500/\
 ∀m q o y s H',nU A.jD A.jm A.jq H' p m q o y s (ak (i+2*j).toNat (-1)) ⟨0,i,0⟩ ⟨i,i+j,i⟩ ⟨i+j,i+2*j,i+j⟩->(∀b x,H b=some x->b≠p->H' b=some x)->(H m=none/\H q=none/\H o=none/\H y=none/\H s=none)->Q .non H'
theorem rT:jg ["self","old_words","young_words","middle","size"] ["self","old_words","young_words"] (i9 tI):=fsc
theorem EN(T:Txt K mg A):mS P w K mg base (uv P w) true 5 A.lS A.nE ["self","old_words","young_words"] (Fn A):=by
 refine T.EE.NF rT (λvs H Q E h=> ?_) (λcdv A' outer s H vs Q E hr hx h=> ?_)
 ·obtain⟨_,_,_,_,rfl,_⟩:=h;rfl
 ·obtain⟨p,dx,i,j,rfl,h⟩:=h;obtain⟨h,hp,i0,i1,j0,j1⟩:=WE h;refine⟨_,kY.run (iY (ju (jS (jB (i5 (jV T).mono hr rfl hx (iW (iZ 1) (iW (kT T.oU) (iW (kT T.pH) iX)))) (λ_=>rfl))) (i3 jK) jh)
   (iY (ju (jS (jB (i5 (jV T).mono hr rfl hx (iW (iZ 2) (iW (kT T.nS) (iW (kT T.oj) iX)))) (λ_=>rfl))) (i3 jK) jh)
   (iY (jr (i:=3) rT.nd rfl lo (ja jM (iZ 1) (iZ 2)))
   (iY (jr (i:=4) rT.nd rfl lo (ja jM (iZ 3) (iZ 2)))
   (iY (j6 (iZ 0) (oh T.By (DP T).mono hr rfl T.Dl T.ED hx (iW (iZ 4) iX)) rfl)
   (iY (j6 (iZ 0) (oh T.uV (rb T).mono hr rfl T.AW T.sx hx (iW i6 (iW (iZ 1) iX))) rfl)
   (iY (j6 (iZ 0) (oh T.uV (rb T).mono hr rfl T.AW T.sx hx (iW (iZ 1) (iW (iZ 3) iX))) rfl)
   (i3 (j6 (iZ 0) (oh T.uV (rb T).mono hr rfl T.AW T.sx hx (iW (iZ 3) (iW (iZ 4) iX))) rfl))))))))),?_⟩
  have Hs:∀{G:Hp} {x dx:Addr} {o:HO},G x=none->G dx=none->jo G (upd (upd G dx (HO.own x)) x o):=λ{G x dx o} hx hdx b u eb=>by rw[i7 (i4 eb hx),i7 (i4 eb hdx)];exact eb
  show pE _ _ _ [⇑p,↥i,↥j,none,none] H;exists σ'=[⇑p,↥i,↥j,none,none]/\H=H'
  ·simp?[jQ,AK i0 i1];exact hR _ _ ⟨rfl,rfl⟩
  ext _ _ ⟨rfl,rfl⟩;exists σ'=[⇑p,↥i,↥j,none,none]/\H=H'
  ·simp?[jQ,AK j0 j1];exact hR _ _ ⟨rfl,rfl⟩
  ext _ _ ⟨rfl,rfl⟩;exists σ'=[⇑p,↥i,↥j,↥(i+j),none]/\H=H'
  ·simp?[];exact hR _ _ ⟨rfl,rfl⟩
  ext _ _ ⟨rfl,rfl⟩;exists σ'=[⇑p,↥i,↥j,↥(i+j),↥(i+j+j)]/\H=H'
  ·simp?[];exact hR _ _ ⟨rfl,rfl⟩
  ext _ _ ⟨rfl,rfl⟩;exists ∃m q,H m=none/\H q=none/\j9 A.jm H' m q (ak (i+j+j).toNat (-1))/\H' p=some (.ins A.jD dx (kB "memory" (.ref m) []))/\(∀b o,H b=some o->b≠p->H' b=some o)/\σ'=[⇑p,↥i,↥j,↥(i+j),↥(i+j+j)]
  ·simp?[];intro x d1 hx hd1 _;refine⟨x,d1,_,rfl,i8,by omega,by omega,λq H1 hq m1 f1=> ?_⟩;simp?[];obtain⟨_,hq1⟩:=jT hq;obtain⟨_,hq2⟩:=jT hq1;have npx:=i4 hp hx;have npq:=i4 hp hq2;rw[f1 _ _ (Hs hx hd1 _ _ hp) npx];refine⟨T.jC,T.jz,by decide,hR _ _ ⟨x,q,hx,hq2,m1.keep λb o eb hb=> ?_,i8,λb o eb nb=> ?_,rfl⟩⟩
   ·rw[i7 (by rcases hb with rfl|rfl;exact ah npx;exact ah npq)];exact eb
   ·rw[i7 nb];exact f1 _ _ (Hs hx hd1 _ _ eb) (i4 eb hx)
  ext _ H1 ⟨m,q,hm,hq,m1,e1,f1,rfl⟩;have npm:=i4 hp hm;have npq:=i4 hp hq;exists ∃o,H1 o=none/\qt A.jq H' o ⟨0,i,0⟩/\H' p=some (.ins A.jD dx (kB "old" (.ref o) (kB "memory" (.ref m) [])))/\(∀b o,H1 b=some o->b≠p->H' b=some o)/\σ'=[⇑p,↥i,↥j,↥(i+j),↥(i+j+j)]
  ·simp?[pO];intro x d1 hx hd1 _;have npx:=i4 e1 hx;refine⟨d1,rfl,?_⟩;rw[i7 npx,Hs hx hd1 _ _ e1];refine⟨T.jC,T.kQ,(show(1:Nat)<1000 by decide),hR _ _ ⟨x,hx,⟨d1,?_⟩,i8,λb o eb nb=> ?_,rfl⟩⟩
   ·rw[i7 (ah npx),i8]
   ·rw[i7 nb,i7 (i4 eb hx)];exact Hs hx hd1 _ _ eb
  ext _ H2 ⟨o,ho,so1,e2,f2,rfl⟩;have npo:=i4 e1 ho;exists ∃y,H2 y=none/\qt A.jq H' y ⟨i,i+j,i⟩/\H' p=some (.ins A.jD dx (kB "young" (.ref y) (kB "old" (.ref o) (kB "memory" (.ref m) []))))/\(∀b o,H2 b=some o->b≠p->H' b=some o)/\σ'=[⇑p,↥i,↥j,↥(i+j),↥(i+j+j)]
  ·simp?[pO];intro x d1 hx hd1 _;have npx:=i4 e2 hx;refine⟨d1,rfl,?_⟩;rw[i7 npx,Hs hx hd1 _ _ e2];refine⟨T.jC,T.jL,by simp[kB,TU],hR _ _ ⟨x,hx,⟨d1,?_⟩,i8,λb o eb nb=> ?_,rfl⟩⟩
   ·rw[i7 (ah npx),i8]
   ·rw[i7 nb,i7 (i4 eb hx)];exact Hs hx hd1 _ _ eb
  ext _ H3 ⟨y,hy,sy1,e3,f3,rfl⟩;have npy:=i4 e2 hy;simp?[pO];intro x d1 hx hd1 _;have npx:=i4 e3 hx;refine⟨d1,rfl,?_⟩;rw[i7 npx,Hs hx hd1 _ _ e3];refine⟨T.jC,T.kE,by simp[kB,TU,TV,TX],?_⟩;rw[SQ];have sz:i+j+j=i+2*j:=by lia
  rw[sz]at m1⊢;have f4:∀b u,H3 b=some u->b≠p->upd (upd (upd (upd H3 d1 (HO.own x)) x (HO.ins A.jq d1 [])) x (HO.ins A.jq d1 (qP (i+j) (i+2*j) (i+j)))) p (HO.ins A.jD dx (uK m o y x)) b=some u:=λb u eb nb=>by
   rw[i7 nb,i7 (i4 eb hx)];exact Hs hx hd1 _ _ eb
  have e4:upd (upd (upd (upd H3 d1 (HO.own x)) x (HO.ins A.jq d1 [])) x (HO.ins A.jq d1 (qP (i+j) (i+2*j) (i+j)))) p (HO.ins A.jD dx (uK m o y x)) p=some (HO.ins A.jD dx (uK m o y x)):=i8;have e5:upd (upd (upd (upd H3 d1 (HO.own x)) x (HO.ins A.jq d1 [])) x (HO.ins A.jq d1 (qP (i+j) (i+2*j) (i+j)))) p (HO.ins A.jD dx (uK m o y x)) x=some (HO.ins A.jq d1 (qP (i+j) (i+2*j) (i+j))):=by rw[i7 (ah npx),i8]
  generalize upd (upd (upd (upd H3 d1 (HO.own x)) x (HO.ins A.jq d1 [])) x (HO.ins A.jq d1 (qP (i+j) (i+2*j) (i+j)))) p (HO.ins A.jD dx (uK m o y x))=H4 at*;obtain⟨dm,em⟩:=m1.ob;obtain⟨do1,eo⟩:=so1;obtain⟨dy1,ey⟩:=sy1;have fresh:∀{G:Hp} {z:Addr},(∀b u,H b=some u->b≠p->G b=some u)->G z=none->p≠z->H z=none:=λ{G z} hG hz np=>by
   cases e:H z with
   |none=>rfl
   |some u=>rw[hG _ _ e (ah np)]at hz;cases hz
  have nmo:=i4 em ho;have em2:=f2 _ _ em (ah npm);have nmy:=i4 em2 hy;have em3:=f3 _ _ em2 (ah npm);have nmx:=i4 em3 hx;have noy:=i4 eo hy;have eo3:=f3 _ _ eo (ah npo);have nox:=i4 eo3 hx;have nyx:=i4 ey hx;refine h m q o y x H4 ⟨⟨dx,e4⟩,m1.keep λb u eb hb=> ?_,⟨do1,f4 _ _ eo3 (ah npo)⟩,⟨dy1,f4 _ _ ey (ah npy)⟩,⟨d1,e5⟩,noy,nox,nyx,⟨npm,npo,npy,npx⟩,⟨nmo,nmy,nmx⟩⟩ (λb u eb nb=>f4 _ _ (f3 _ _ (f2 _ _ (f1 _ _ eb nb) nb) nb) nb) ⟨hm,hq,fresh (λb u eb nb=>f1 _ _ eb nb) ho npo,fresh (λb u eb nb=>f2 _ _ (f1 _ _ eb nb) nb) hy npy,fresh (λb u eb nb=>f3 _ _ (f2 _ _ (f1 _ _ eb nb) nb) nb) hx npx⟩;have nb:b≠p:=by rcases hb with rfl|rfl;exact ah npm;exact ah npq
  exact f4 _ _ (f3 _ _ (f2 _ _ eb nb) nb) nb
def Fp(A:Ad):Sp:=λvs H Q _=>∃p d ks i,vs=[.ref p,.int i]/\qf A.jP H p d ks/\ks.length<1000/\0<=i/\i<=9999/\Q .non (upd H d (.dK (Ey (MS ks i))))
theorem E3:jg ["self","place"] ["self","place"] (i9 tK):=fsc
theorem wG(T:Txt K mg A):CM P w K mg base true 5 A.jP "write" ["self","place"] (Fp A):=by
 specialize T.sU.me E3
 ·obtain⟨p,d,ks,i,rfl,h⟩:=h;obtain⟨h,m,hl,i0,i1⟩:=Sj h;refine⟨_,kY.run (iY (jc (i5 (ma T).mono hr rfl hx (iW (iZ 1) iX)))
   (i3 (qx (wC hr) (jd (iZ 0) rfl) (iZ 1) lH rfl))),?_⟩
  obtain⟨dx,e⟩:=m.ob;simp?[lD,AK i0 i1,e,T.mV,T.kM,LB,m.dc,QE,QF];exact⟨av hl (by decide),h⟩
def JV(A:Ad):Sp:=λvs H Q _=>∃p d ks i,vs=[.ref p,.int i]/\qf A.jP H p d ks/\0<=i/\i<=9999/\Q (.bl (decide (i∈ks))) H
theorem QD{ks:List Int}{i:Int}:(nD (Ey ks) (aS i)).isSome=decide (i∈ks):=by
 rw[GA];by_cases z:i∈ks
 ·rw[if_pos z,decide_eq_true z];rfl
 ·rw[if_neg z,decide_eq_false z];rfl
theorem JJ:jg ["self","place"] ["self","place"] (i9 Ar):=fsc
theorem Jt(T:Txt K mg A):CM P w K mg base true 5 A.jP "has" ["self","place"] (JV A):=by
 specialize T.Ag.me JJ
 ·obtain⟨p,d,ks,i,rfl,h⟩:=h;obtain⟨h,m,i0,i1⟩:=Ke h;refine⟨_,kY.run (iY (jc (i5 (ma T).mono hr rfl hx (iW (iZ 1) iX)))
   (i3 (jf (nM (Rf (wC hr)) (iZ 1) (jd (iZ 0) rfl) (by with_unfolding_all rfl))))),?_⟩
  obtain⟨dx,e⟩:=m.ob;simp?[QL,lD,AK i0 i1,e,T.mV,T.kM,LB,m.dc,QD];exact h
def HX(A:Ad):Sp:=λvs H Q _=>∃p q ws i x,vs=[.ref p,.int i,.int x]/\wj A.jW H p q ws/\0<=i/\i<ws.length/\(kd (.int x)).isSome=true/\Q .non (upd H q (.lst ((ws.set i.toNat x).map ι)))
theorem HF:jg ["self","hand","word"] ["self","hand","word"] (i9 vy):=fsc
theorem A4(T:Txt K mg A):CM P w K mg base true 5 A.jW "put" ["self","hand","word"] (HX A):=by
 specialize T.u_.me HF
 ·obtain⟨p,q,ws,i,x,rfl,h⟩:=h;obtain⟨h,m,i0,i1,k⟩:=Sj h;refine⟨_,kY.run (iY (jc (jw (iZ 0) T.oE (Ae T).mono hr hx (iW (iZ 1) iX)))
   (iY (jc (i5 (sR T).mono hr rfl hx (iW (iZ 2) iX)))
   (i3 (mn (iZ 2) (mj (jd (iZ 0) rfl) (iZ 1) nK))))),?_⟩
  obtain⟨dx,e⟩:=m.ob;obtain⟨y,k⟩:=Option.isSome_iff_exists.mp k;simp?[e,Oz];refine⟨p,q,ws,i,rfl,m,i0,i1,x,y,rfl,k,?_⟩;simp?[e,T.oE,T.mz,Oy,m.ls,LY i0 (dC i1),D_];exact h
def Fs(A:Ad):Sp:=λvs H Q _=>∃p d q ws sp es i j,vs=[.ref p,.int i,.int j]/\kP A.jF H p d q ws sp es/\ws.length<64/\0<=i/\i<=9999/\wi (.int j) (-1000000000000) 1000000000000=true/\∀H' es',kP A.jF H' p d q (ws++[some (i,j)]) sp es'->Out d q H H'->Q (.int ws.length) H'
theorem wO:jg ["self","at","number","ticket"] ["self","at","number"] (i9 tM):=fsc
theorem ES(T:Txt K mg A):CM P w K mg base true 5 A.jF "give" ["self","at","number"] (Fs A):=by
 specialize T.sV.me wO
 ·obtain⟨p,d,q,ws,sp,es,i,j,rfl,h⟩:=h;obtain⟨h,m,hl,i0,i1,hj⟩:=WE h;refine⟨_,kY.run (iY (jc (i5 (ma T).mono hr rfl hx (iW (iZ 1) iX)))
   (iY (jc (i5 (uZ T).mono hr rfl hx (iW (iZ 2) iX)))
   (iY (jr (i:=3) wO.nd rfl lo (ja jM (ji OM (by rfl) T.kj ζl (iW (jd (iZ 0) rfl) iX)) (ji jJ (by rfl) T.kj ζl (iW (jd (iZ 0) rfl) iX))))
   (iY (qx (wC hr) (jd (iZ 0) rfl) (iZ 3) (lY (iW (iZ 1) (iW (iZ 2) iX))) rfl)
   (i3 (jf (iZ 3))))))),?_⟩
  obtain⟨dx,e⟩:=m.ob;have ll:=m.ln;have el:(es.length:Int)+sp.length=ws.length:=by lia
  simp?[LF,lD,qO,AK i0 i1,hj,e,T.kA,T.jO,T.lJ,A2,OR,m.dc,m.sq,Iz,aa,el];intro b hb;have s1:jo H (upd H b (.tup [.int i,.int j])):=jo.upd hb;simp?[s1 _ _ e,T.kA,T.jO,A2,s1 _ _ m.dc];have g:=m.give (x:=(i,j)) hb;refine⟨by rw[Iz];exact av (show es.length<64 by omega) (by decide),?_⟩;rw[show putK (wU es) (aS (ws.length:Int)) (ξ b)=_ from Mz (x:=⟨ws.length,b,i,j⟩)];exact h _ _ g.1 g.2
def Ft(A:Ad):Sp:=λvs H Q _=>∃p d q ws sp es i k y,vs=[.ref p,.int i,.int k]/\kP A.jF H p d q ws sp es/\ws.length<64/\pd ws (.int i)=some y/\0<=k/\k<=9999/\∀H' es',kP A.jF H' p d q (ws.set i.toNat (some (k,y.2))) sp es'->Out d q H H'->Q .non H'
theorem E6:jg ["self","ticket","at"] ["self","ticket","at"] (i9 tO):=fsc
theorem EU(T:Txt K mg A):CM P w K mg base true 5 A.jF "move" ["self","ticket","at"] (Ft A):=by
 specialize T.sW.me E6
 ·obtain⟨p,d,q,ws,sp,es,i,k,y,rfl,m,hl,hp,k0,k1,h⟩:=h;refine⟨_,kY.run (iY (jc (jw (iZ 0) T.kA (oX T).mono hr hx (iW (iZ 1) iX)))
   (iY (jc (i5 (ma T).mono hr rfl hx (iW (iZ 2) iX)))
   (i3 (qx (wC hr) (jd (iZ 0) rfl) (iZ 1) (lY (iW (iZ 2) (iW (jv jE (jb (jd (iZ 0) rfl) (iZ 1)) i6) iX))) rfl)))),?_⟩
  obtain⟨dx,e⟩:=m.ob;have ll:=m.ln;obtain⟨r,hr,r1,r2,r3,r4⟩:=m.find hp;have tr:=m.tp r hr;simp?[e,Jn];refine⟨p,d,q,ws,sp,es,i,y,rfl,m,hp,?_⟩;simp?[e,lD,AK k0 k1,T.kA,T.jO,A2,m.dc,r4,tr];intro b hb;have s1:jo H (upd H b (.tup [.int k,.int r.n])):=jo.upd hb;simp?[s1 _ _ e,T.kA,T.jO,A2,s1 _ _ m.dc];have g:=m.move (x:=(k,r.n)) hb hp;refine⟨by rw[Iz];exact av (show es.length<64 by lia) (by decide),?_⟩;rw[show putK (wU es) (aS i) (ξ b)=_ from Mz (x:=⟨i,b,k,r.n⟩)];rw[←r3]at h;exact h _ _ g.1 g.2
def Ib(A:Ad):Sp:=λvs H Q _=>∃p q os i,vs=[.ref p,.int i]/\su A.jH H p q os/\os.length<1000/\0<=i/\i<=9999/\Q (.int os.length) (upd H q (.lst ((os++[some i]).map tv)))
theorem HN:jg ["self","at"] ["self","at"] (i9 vF):=fsc
theorem Hk(T:Txt K mg A):CM P w K mg base true 5 A.jH "name" ["self","at"] (Ib A):=by
 specialize T.vf.me HN
 ·obtain⟨p,q,os,i,rfl,h⟩:=h;obtain⟨h,m,hl,i0,i1⟩:=Sj h;refine⟨_,kY.run (iY (jc (i5 (ma T).mono hr rfl hx (iW (iZ 1) iX)))
   (iY (jc (nP aZ a_ kr (jd (iZ 0) rfl) (iW (iZ 1) iX)))
   (i3 (jf (ja lX (ji jJ (by rfl) T.kj ζl (iW (jd (iZ 0) rfl) iX)) i6))))),?_⟩
  obtain⟨dx,e⟩:=m.ob;have e2:upd H q (.lst (os.map tv++[ι i])) p=some (.ins A.jH dx (J_ q)):=by rw[i7 m.ne];exact e
  simp?[lD,AK i0 i1,e,e2,T.mK,T.l9,Ka,m.ls,B5];refine⟨av hl (by decide),?_⟩;rw[aB]at h;rw[show(((os.map tv++[ι i]).length:Nat):Int)-1=os.length by rw[aj,B5,dA];lia];exact h
def Ia(A:Ad):Sp:=λvs H Q _=>∃(p q:Addr) (os:List (Option Int)) (k:Nat) (a x:Int),vs=[.ref p,.int k,.int x]/\su A.jH H p q os/\os[k]? =some (some a)/\0<=x/\x<=9999/\Q .non (upd H q (.lst ((os.set k (some x)).map tv)))
theorem HM:jg ["self","name","at"] ["self","name","at"] (i9 vE):=fsc
theorem Hj(T:Txt K mg A):CM P w K mg base true 5 A.jH "move" ["self","name","at"] (Ia A):=by
 specialize T.ve.me HM
 ·obtain⟨p,q,os,k,a,x,rfl,m,ho,x0,x1,h⟩:=h;refine⟨_,kY.run (iY (jc (jw (iZ 0) T.mK (oY T).mono hr hx (iW (iZ 1) iX)))
   (iY (jc (i5 (ma T).mono hr rfl hx (iW (iZ 2) iX)))
   (i3 (mn (iZ 2) (mj (jd (iZ 0) rfl) (iZ 1) nK))))),?_⟩
  obtain⟨dx,e⟩:=m.ob;simp?[e,Kb];refine⟨p,q,os,k,_,rfl,m,ho,?_⟩;simp?[lD,AK x0 x1,e,T.mK,T.l9,Ka,m.ls,P_ ho];rw[show ι x=tv (some x) from rfl,Qa];exact h
def H_(A:Ad):Sp:=λvs H Q _=>∃(p q:Addr) (os:List (Option Int)) (k:Nat) (a:Int),vs=[.ref p,.int k]/\su A.jH H p q os/\os[k]? =some (some a)/\Q .non (upd H q (.lst ((os.set k none).map tv)))
theorem HK:jg ["self","name"] ["self","name"] (i9 vC):=fsc
theorem Hh(T:Txt K mg A):CM P w K mg base true 5 A.jH "gone" ["self","name"] (H_ A):=by
 specialize T.vd.me HK
 ·obtain⟨p,q,os,k,a,rfl,m,ho,h⟩:=h;refine⟨_,kY.run (iY (jc (jw (iZ 0) T.mK (oY T).mono hr hx (iW (iZ 1) iX)))
   (i3 (mn j7 (mj (jd (iZ 0) rfl) (iZ 1) nK)))),?_⟩
  obtain⟨dx,e⟩:=m.ob;simp?[e,Kb];refine⟨p,q,os,k,_,rfl,m,ho,?_⟩;simp?[e,T.mK,T.l9,Ka,m.ls,P_ ho];rw[show V.non=tv none from rfl,Qa];exact h
def Fv(A:Ad):Sp:=λvs H Q _=>∃r dx n,vs=[.ref r,.int n]/\H r=some (.ins A.jR dx [])/\1<=n/\n<=6/\
 ∀h q b d W H',H h=none->H q=none->H b=none->H d=none->WS A.jR A.jW A.jP H' r h q b d (ak n.toNat (-1)) []->WV A.jR A.jH A.jF H' r h b W [] [] []->(q≠W.wq/\q≠W.lq/\d≠W.ld)->(H W.wq=none/\H W.lq=none/\H W.ld=none)->(∀y o,H y=some o->y≠r->H' y=some o)->Q .non H'
theorem E8:jg ["self","many"] ["self","many"] (i9 tQ):=fsc
theorem EW(T:Txt K mg A):mS P w K mg base (uv P w) true 5 A.lV A.nI ["self","many"] (Fv A):=by
 refine T.EI.NF E8 (λvs H Q E h=> ?_) (λcdv A' outer s H vs Q E hr hx h=> ?_)
 ·obtain⟨_,_,_,rfl,_⟩:=h;rfl
 ·obtain⟨r,dx,n,rfl,h⟩:=h;obtain⟨k,e,n0,n1⟩:=Ke h;refine⟨_,kY.run (iY (j6 (iZ 0) (oh T.DH (ER T).mono hr rfl T.GO T.Gx hx (iW (iZ 1) iX)) rfl)
   (iY (j6 (iZ 0) (uR T.G_ (Hf T).mono hr rfl T.Kr T.II hx) rfl)
   (iY (j6 (iZ 0) (uR T.Ha (Hi T).mono hr rfl T.Ks T.IJ hx) rfl)
   (i3 (j6 (iZ 0) (uR T.DI (ET T).mono hr rfl T.GP T.Gy hx) rfl))))),?_⟩
  have Hs:∀{G:Hp} {x dx:Addr} {o:HO},G x=none->G dx=none->jo G (upd (upd G dx (HO.own x)) x o):=λ{G x dx o} hx hdx b u eb=>by rw[i7 (i4 eb hx),i7 (i4 eb hdx)];exact eb
  show pE _ _ _ [⇑r,↥n] H;exists ∃h q,H h=none/\H q=none/\wj A.jW H' h q (ak n.toNat (-1))/\H' r=some (.ins A.jR dx (kB "hands" (.ref h) []))/\(∀b o,H b=some o->b≠r->H' b=some o)/\σ'=[⇑r,↥n]
  ·simp?[];intro x d1 hx hd1 _;refine⟨x,d1,_,rfl,i8,n0,n1,λq H1 hq m1 f1=> ?_⟩;simp?[];obtain⟨_,hq1⟩:=jT hq;obtain⟨_,hq2⟩:=jT hq1;have npx:=i4 e hx;have npq:=i4 e hq2;rw[f1 _ _ (Hs hx hd1 _ _ e) npx];refine⟨T.jX,T.lF,by decide,hR _ _ ⟨x,q,hx,hq2,m1.keep λb o eb hb=> ?_,i8,λb o eb nb=> ?_,rfl⟩⟩
   ·rw[i7 (by rcases hb with rfl|rfl;exact ah npx;exact ah npq)];exact eb
   ·rw[i7 nb];exact f1 _ _ (Hs hx hd1 _ _ eb) (i4 eb hx)
  ext _ H1 ⟨h,q,hh,hq,m1,e1,f1,rfl⟩;have nrh:=i4 e hh;have nrq:=i4 e hq;have fresh:∀{G:Hp} {z:Addr},(∀b u,H b=some u->b≠r->G b=some u)->G z=none->r≠z->H z=none:=λ{G z} hG hz np=>by
   cases ez:H z with
   |none=>rfl
   |some u=>rw[hG _ _ ez (ah np)]at hz;cases hz
  exists ∃b d,H1 b=none/\H1 d=none/\qf A.jP H' b d []/\H' r=some (.ins A.jR dx (kB "book" (.ref b) (kB "hands" (.ref h) [])))/\(∀b o,H1 b=some o->b≠r->H' b=some o)/\σ'=[⇑r,↥n]
  ·simp?[Bh];intro x d1 hx hd1 _;refine⟨d1,rfl,λd H2 hd m2 f2=> ?_⟩;obtain⟨_,hq1⟩:=jT hd;obtain⟨_,hq2⟩:=jT hq1;have npx:=i4 e1 hx;have npq:=i4 e1 hq2;rw[f2 _ _ npx (Hs hx hd1 _ _ e1)];refine⟨T.jX,T.lB,(show(1:Nat)<1000 by decide),hR _ _ ⟨x,d,hx,hq2,m2.keep λb o eb hb=> ?_,i8,λb o eb nb=> ?_,rfl⟩⟩
   ·rw[i7 (by rcases hb with rfl|rfl;exact ah npx;exact ah npq)];exact eb
   ·rw[i7 nb];exact f2 _ _ (i4 eb hx) (Hs hx hd1 _ _ eb)
  ext _ H2 ⟨b,d,hb,hd,m2,e2,f2,rfl⟩;have nrb:=i4 e1 hb;have nrd:=i4 e1 hd;exists ∃w wq,H2 w=none/\H2 wq=none/\su A.jH H' w wq []/\H' r=some (.ins A.jR dx (kB "weaks" (.ref w) (kB "book" (.ref b) (kB "hands" (.ref h) []))))/\(∀b o,H2 b=some o->b≠r->H' b=some o)/\σ'=[⇑r,↥n]
  ·simp?[Bi];intro x d1 hx hd1 _;refine⟨d1,rfl,λe5 he5=> ?_⟩;obtain⟨n5,h5⟩:=jT he5;obtain⟨_,h52⟩:=jT h5;have npx:=i4 e2 hx;have np5:=i4 e2 h52;have f3:∀y o,y≠x->upd (upd H2 d1 (HO.own x)) x (HO.ins A.jH d1 []) y=some o->upd (upd (upd (upd H2 d1 (HO.own x)) x (HO.ins A.jH d1 [])) e5 (.lst [])) x (.ins A.jH d1 (J_ e5)) y=some o:=λy o hy ey=>by rw[i7 hy,i7 (i4 ey he5)];exact ey
   have m3:su A.jH (upd (upd (upd (upd H2 d1 (HO.own x)) x (HO.ins A.jH d1 [])) e5 (.lst [])) x (.ins A.jH d1 (J_ e5))) x e5 []:=⟨⟨d1,i8⟩,by rw[i7 n5,i8];rfl⟩;generalize upd (upd (upd (upd H2 d1 (HO.own x)) x (HO.ins A.jH d1 [])) e5 (.lst [])) x (.ins A.jH d1 (J_ e5))=H3 at*;rw[f3 _ _ npx (Hs hx hd1 _ _ e2)];refine⟨T.jX,T.kH,by simp[kB,TR],hR _ _ ⟨x,e5,hx,h52,m3.keep λb o eb hb=> ?_,i8,λb o eb nb=> ?_,rfl⟩⟩
   ·rw[i7 (by rcases hb with rfl|rfl;exact ah npx;exact ah np5)];exact eb
   ·rw[i7 nb];exact f3 _ _ (i4 eb hx) (Hs hx hd1 _ _ eb)
  ext _ H3 ⟨w,wq,hw2,hwq2,m3,e3,f3,rfl⟩;have nrw:=i4 e2 hw2;have nrwq:=i4 e2 hwq2;simp?[wR];intro x d1 hx hd1 _;refine⟨d1,rfl,λld lq H4 hld hlq f4 m4=> ?_⟩;have un:∀{z:Addr},upd (upd H3 d1 (HO.own x)) x (HO.ins A.jF d1 []) z=none->H3 z=none:=λhz=>(jT (jT hz).2).2;have npx:=i4 e3 hx;have npd:=i4 e3 (un hld);have npq:=i4 e3 (un hlq);rw[f4 _ _ npx (Hs hx hd1 _ _ e3)];refine⟨T.jX,T.kG,by simp[kB,TR,V1,V0],?_⟩;rw[RW];have g:∀y o,H3 y=some o->y≠r->upd H4 r (.ins A.jR dx (Bc h b w x)) y=some o:=λy o ey ny=>by
   rw[i7 ny];exact f4 _ _ (i4 ey hx) (Hs hx hd1 _ _ ey)
  have bk:∀{z:Addr},H3 z=none->r≠z->H z=none:=λ{z} hz np=>by
   cases ez:H z with
   |none=>rfl
   |some u=>rw[f3 _ _ (f2 _ _ (f1 _ _ ez (ah np)) (ah np)) (ah np)]at hz;cases hz
  have bk2:∀{z:Addr},H2 z=none->r≠z->H z=none:=λ{z} hz np=>by
   cases ez:H z with
   |none=>rfl
   |some u=>rw[f2 _ _ (f1 _ _ ez (ah np)) (ah np)]at hz;cases hz
  have hd3:=f3 _ _ m2.dc (ah nrd);have hq2:=f2 _ _ m1.ls (ah nrq);have hq3:=f3 _ _ hq2 (ah nrq);refine k h q b d ⟨w,wq,x,ld,lq⟩ _ hh hq (fresh f1 hb nrb) (fresh f1 hd nrd) ⟨⟨dx,w,x,i8⟩,m1.keep λy o ey hy=> ?_,m2.keep λy o ey hy=> ?_⟩ ⟨⟨dx,i8⟩,m3.keep λy o ey hy=> ?_,⟨[],?_⟩,i4 m3.ls (un hlq)⟩ ⟨i4 hq2 hwq2,i4 hq3 (un hlq),i4 hd3 (un hld)⟩ ⟨bk2 hwq2 nrwq,bk (un hlq) npq,bk (un hld) npd⟩ λy o ey ny=>g _ _ (f3 _ _ (f2 _ _ (f1 _ _ ey ny) ny) ny) ny
  ·have ny:y≠r:=by rcases hy with rfl|rfl;exact ah nrh;exact ah nrq
   exact g _ _ (f3 _ _ (f2 _ _ ey ny) ny) ny
  ·have ny:y≠r:=by rcases hy with rfl|rfl;exact ah nrb;exact ah nrd
   exact g _ _ (f3 _ _ ey ny) ny
  ·have ny:y≠r:=by rcases hy with rfl|rfl;exact ah nrw;exact ah nrwq
   exact g _ _ ey ny
  ·obtain⟨dl,el⟩:=m4.ob;exact⟨⟨dl,by rw[i7 (ah npx)];exact el⟩,by rw[i7 (ah npd)];exact m4.dc,by rw[i7 (ah npq)];exact m4.sq,m4.xs,(λe he=>by cases he),m4.ln⟩
def Il:Sp:=λvs H Q _=>∃s a,vs=[.int s,.int a]/\0<=s/\s<=8/\0<=a/\a<=2/\Q (.int (2*(4*s+a))) H
theorem HR:jg ["slots","age"] ["slots","age"] (i9 vK):=fsc
theorem A8(T:Txt K mg A):CG P w K mg base true 6 "head_word" ["slots","age"] Il:=by
 specialize T.vp.me HR
 ·obtain⟨s',a,rfl,h⟩:=h;obtain⟨q,s0,s1,a0,a1⟩:=Sj h;refine⟨_,kY.run (i3 (jf (i5 (uX T).mono hr rfl hx (iW (ja jM (ja vZ i6 (iZ 0)) (iZ 1)) iX)))),?_⟩;simp?[vU,AK (show -1000000000000<=4*s'+a by lia) (show 4*s'+a<=1000000000000 by lia)];exact q
def Ej(A:Ad):Sp:=λvs H Q _=>∃p q ws i n,vs=[.ref p,.int i]/\j9 A.jm H p q ws/\0<=i/\lQ ws i.toNat=some n/\Q (.int n) H
theorem Q2{n:Int}(h0:0<=n)(h1:n<=34):kd (.int (2*n))=some (aI "number"):=by rw[oG,if_neg ⋯,if_pos ⋯]
theorem qN:jg ["memory","at","word","number"] ["memory","at"] (i9 rO):=fsc
theorem oJ(T:Txt K mg A):CG P w K mg base true 6 "head_number" ["memory","at"] (Ej A):=by
 specialize T.rC.me qN
 ·obtain⟨p,q,ws,i,n,rfl,h⟩:=h;obtain⟨h,m,i0,c⟩:=Ke h;refine⟨_,kY.run (iY (jr (i:=2) qN.nd rfl lo (jw (iZ 0) T.jN (m_ T).mono hr hx (iW (iZ 1) iX)))
   (iY (ju (k_ (nO (je G2 (i5 (sR T).mono hr rfl hx (iW (iZ 2) iX)) i_ (jy _)) (mY (jS (jB (i5 (KO T).mono hr rfl hx (iW (i5 (sh T).mono hr rfl hx (iW (iZ 2) iX)) iX)) (λ_=>rfl)))))) (i3 jK) jh)
   (iY (jr (i:=3) qN.nd rfl lo (i5 (sh T).mono hr rfl hx (iW (iZ 2) iX)))
   (iY (ju (jS (jB (i5 (Me T).mono hr rfl hx (iW (iZ 0) (iW (iZ 1) (iW (ja lE (iZ 3) i6) iX)))) (λ_=>rfl))) (i3 jK) jh)
   (i3 (jf (iZ 3))))))),?_⟩
  obtain⟨dx,e⟩:=m.ob;obtain⟨c1,c2,c3,c4,c5⟩:=qu c;simp?[e,DE];refine⟨p,q,ws,i,rfl,m,i0,by clear c4;lia,?_⟩;have k:=Q2 c2 c3;have z:2*n/2=n:=by lia
  rw[c1];refine⟨_,_,rfl,k,?_⟩;simp?[];refine⟨_,_,rfl,k,⋯,?_⟩;rw[z];refine⟨_,rfl,c2,c3,c4,?_⟩;simp?[];refine⟨_,_,rfl,k,⋯,?_⟩;rw[z];simp?[];refine⟨p,q,ws,i,_,rfl,m,i0,⋯,?_⟩;simp?[];exact h
abbrev Wx(A:Ad)(H:Hp)(x:Ax)(M:Mem):Prop:=Wh A.jD A.jm A.jq A.jR A.jW A.jP A.jH A.jF H x M
def Ek(A:Ad):Sp:=λvs H Q _=>Y3 λ(x:Ax) (M:Mem) (u:Int)=>C4 (vs=[.ref x.p,.int u]) (Wx A H x M) ((kd (.int u)).isSome=true) (Q (.bl (oV M.sy u)) H)
theorem D6:jg ["areas","word"] ["areas","word"] (i9 rP):=fsc
theorem uW(T:Txt K mg A):CG P w K mg base true 6 "is_of_young" ["areas","word"] (Ek A):=by
 specialize T.rD.me D6
 ·obtain⟨x,M,u,rfl,h,ku,q⟩:=h;refine⟨_,kY.run (i3 (jf (qB (nM lj (i5 (sR T).mono hr rfl hx (iW (iZ 1) iX)) i_ (jy _)) (qC (jw (jd (iZ 0) rfl) T.j5 (sP T).mono hr hx (iW (i5 (sh T).mono hr rfl hx (iW (iZ 1) iX)) iX)))))),?_⟩;obtain⟨dp,ep⟩:=h.ar.ob;obtain⟨dy,ey⟩:=h.ar.oV
  cases hp:mX u with
  |false=>
   obtain⟨v,ev,nv⟩:=OZ hp ku;rw[show oV M.sy u=false by unfold oV;rw[hp];rfl]at q;simp?[];refine⟨_,_,rfl,ev,?_⟩;simp?[nv];exact q
  |true=>
   obtain⟨ev,u9,u0,eu⟩:=AX hp ku;simp?[];refine⟨_,_,rfl,ev,?_⟩;simp?[ep,T.jC,T.jL,ux,ey,CT];refine⟨_,_,rfl,ev,⋯,x.y,dy,_,_,_,_,rfl,ey,?_⟩;rw[show wi (ι (u/2)) M.sy.b (M.sy.t-1)=oV M.sy u by unfold oV wi;rw[hp];simp only[eR,iF]];exact q
def JX(A:Ad):Sp:=λvs H Q _=>∃p d ks i,vs=[.ref p,.int i]/\qf A.jP H p d ks/\0<=i/\i<=9999/\∀H',qf A.jP H' p d (RX ks i)->(∀b o,H b=some o->b≠d->H' b=some o)->Q .non H'
theorem RY{ks:List Int}{k:Int}(h:¬k∈ks):RX ks k=ks:=List.filter_eq_self.mpr λx hx=>decide_eq_true λz=>h (z▸hx)
theorem JK:jg ["self","place"] ["self","place"] (i9 As):=fsc
theorem Ju(T:Txt K mg A):CM P w K mg base true 6 A.jP "rub" ["self","place"] (JX A):=by
 specialize T.Ah.me JK
 ·obtain⟨p,d,ks,i,rfl,h⟩:=h;obtain⟨h,m,i0,i1⟩:=Ke h;refine⟨_,kY.run (i3 (ju (jB (jw (iZ 0) T.mV (Jt T).mono hr hx (iW (iZ 1) iX)) (λ_=>rfl)) (i3 (jc (Jd (jd (iZ 0) rfl) (iZ 1) ⟨rfl,rfl,rfl,rfl⟩))) jh)),?_⟩;obtain⟨dx,e⟩:=m.ob;simp?[e,Qz];refine⟨p,d,ks,i,rfl,m,i0,i1,?_⟩;by_cases z:i∈ks
  ·have e2:nD (Ey ks) (aS i)=some (.bl true):=by rw[GA,if_pos z]
   simp?[z,e,T.mV,T.kM,LB,m.dc,e2,NV];exact h _ m.put λb o eb nb=>qp eb nb
  ·simp?[z];refine h H ?_ λb o eb _=>eb;rw[RY z];exact m
def Ik:Sp:=λvs H Q _=>Y4 λ(v:V) (lp:Addr) (P:List (Option Int)) (t:Th)=>C6 (vs=[v,.ref lp]) (H lp=some (.lst (P.map tv))) (Ki H t v) ((∀n,t= .nu n-> -1000000000000<=n/\n<=1000000000000)) ((∀k,t= .ce k->∃a,P[k]? =some (some a)/\0<=a/\a<=9999)) (Q (.int (wd (λk=>P.getD k none) t)) H)
theorem HQ:jg ["_law_thing_here","_law_places"] ["_law_thing_here","_law_places"] (i9 vJ):=fsc
theorem ql(T:Txt K mg A):CG P w K mg base true 6 "_law_word" ["_law_thing_here","_law_places"] Ik:=by
 specialize T.vo.me HQ
 ·obtain⟨v,lp,Pl,t,rfl,ep,ht,h1,h2,q⟩:=h;refine⟨_,kY.run (iY (ju (je z_ (iZ 0) j7 (jy _)) (i3 (jf (kT T.pI))) jh)
   (iY (ju (je lj (jv jE (iZ 0) i6) i_ (jy _)) (i3 (jf (i5 (uX T).mono hr rfl hx (iW (jv jE (iZ 0) i6) iX)))) jh)
   (i3 (jf (i5 (rf T).mono hr rfl hx (iW (jv jE (iZ 1) (jv jE (iZ 0) i6)) iX)))))),?_⟩
  cases t with
  |no=>
   cases ht
   simp?[];exact q
  |nu n=>
   obtain⟨a,rfl,ea⟩:=ht;simp?[ea];have:=h1 n rfl;exact⟨_,rfl,AK this.1 this.2,q⟩
  |ce k=>
   obtain⟨a,rfl,ea⟩:=ht;obtain⟨b,eb,b0,b9⟩:=h2 k rfl;have at1:qh (Pl.map tv) (k:Int)=some (.int b):=jI (by rw[ai,eb];rfl);simp?[ea,ep,at1];refine⟨_,rfl,AK b0 b9,?_⟩;have e:wd (λk=>Pl.getD k none) (.ce k)=2*b+1:=by show 2*(Pl.getD k none).getD 0+1=_;rw[ae,eb];rfl
   rw[e]at q;exact q
def UC(A:Ad):Sp:=λvs H Q _=>∃p q ws i j,vs=[.ref p,.int i,.int j]/\j9 A.jm H p q ws/\ws.length<=4000/\0<=j/\j<=8/\0<=i/\i+j<ws.length/\∀H',j9 A.jm H' p q (laid ws i.toNat j.toNat)->(∀b o,H b=some o->b≠q->H' b=some o)->Q .non H'
theorem PF:jg ["memory","at","slots","place"] ["memory","at","slots"] (i9 PC):=fsc
theorem T3(T:Txt K mg A):CG P w K mg base true 7 "lay" ["memory","at","slots"] (UC A):=by
 specialize T.Pw.me PF
 ·obtain⟨p,q,ws,i,j,rfl,h⟩:=h;obtain⟨h,m,hl,j0,j1,i0,i1⟩:=X2 h;refine⟨_,kY.run (iY (jc (i5 (wM T).mono hr rfl hx (iW (iZ 2) iX)))
   (iY (ju (jS (jB (i5 (Me T).mono hr rfl hx (iW (iZ 0) (iW (iZ 1) (iW (iZ 2) iX)))) (λ_=>rfl))) (i3 jK) jh)
   (iY (jc (jw (iZ 0) T.jN (lK T).mono hr hx (iW (iZ 1) (iW (i5 (A8 T).mono hr rfl hx (iW (iZ 2) (iW i6 iX))) iX))))
   (i3 (jY hx.own rfl (Jh rfl T.mP (iW (ja jM (iZ 1) i6) (iW (ja jM (ja jM (iZ 1) i6) (iZ 2)) iX))) (jG (i:=3) PF.nd rfl lo)
    (i3 (jc (jw (iZ 0) T.jN (lK T).mono hr hx (iW (iZ 3) (iW (kT T.pI) iX)))))))))),?_⟩
  obtain⟨dx,e⟩:=m.ob;simp?[OE,rW,AK j0 j1];refine⟨p,q,ws,i,j,rfl,m,i0,i1,?_⟩;simp?[e,Bx];refine⟨_,_,rfl,j0,j1,by decide,by decide,p,q,ws,i,_,rfl,m,i0,by omega,by rw[oG,if_neg ⋯,if_pos (by omega)];rfl,?_⟩;simp?[];refine⟨by omega,by omega,by omega,by omega,?_⟩;rw[show(i+1+j-(i+1)).toNat=j.toNat by lia,show 2*(4*j+0)=8*(j.toNat:Int) by lia];refine ke.range (λt σ H'=>∃v3,σ=[some (.ref p),some (.int i),some (.int j),v3]/\j9 A.jm H' p q (blank (ws.set i.toNat (8*(j.toNat:Int))) (i.toNat+1) t)/\(∀b o,H b=some o->b≠q->H' b=some o))
   ⟨_,rfl,m.put _ _,λb o eb nb=>qp eb nb⟩ ?_ ?_
  ·rintro t σ H1 ht ⟨v3,rfl,m1,b1⟩;obtain⟨dy,e1⟩:=m1.ob;simp?[e1,Bx];refine⟨p,q,_,_,_,rfl,m1,⋯,by rw[qr,aN];omega,rfl,?_⟩;rw[show(i+1+(t:Int)).toNat=i.toNat+1+t by lia];exact⟨m1.put _ _,λb o eb nb=>by rw[i7 nb];exact b1 b o eb nb⟩
  ·rintro σ H1 ⟨v3,rfl,m1,b1⟩;rw[Rl]at m1;exact h _ m1 b1
def J3(A:Ad):Sp:=λvs H Q _=>∃p q ws i n,vs=[.ref p,.int i]/\j9 A.jm H p q ws/\0<=i/\lQ ws i.toNat=some n/\Q (.int (n/4)) H
theorem JP:jg ["memory","at"] ["memory","at"] (i9 AA):=fsc
theorem qZ(T:Txt K mg A):CG P w K mg base true 7 "slots_of" ["memory","at"] (J3 A):=by
 specialize T.Ao.me JP
 ·obtain⟨p,q,ws,i,n,rfl,h⟩:=h;obtain⟨h,m,i0,c⟩:=Ke h;refine⟨_,kY.run (i3 (jf (ja lE (i5 (oJ T).mono hr rfl hx (iW (iZ 0) (iW (iZ 1) iX))) i6))),?_⟩;simp?[];exact⟨p,q,ws,i,n,rfl,m,i0,c,by decide,by decide,h⟩
def Nr(A:Ad):Sp:=λvs H Q _=>∃p q ws i n,vs=[.ref p,.int i]/\j9 A.jm H p q ws/\0<=i/\lQ ws i.toNat=some n/\Q (.int (n%4)) H
theorem Nn:jg ["memory","at"] ["memory","at"] (i9 D0):=fsc
theorem F1(T:Txt K mg A):CG P w K mg base true 7 "age_of" ["memory","at"] (Nr A):=by
 specialize T.DX.me Nn
 ·obtain⟨p,q,ws,i,n,rfl,h⟩:=h;obtain⟨h,m,i0,c⟩:=Ke h;refine⟨_,kY.run (i3 (jf (ja jU (i5 (oJ T).mono hr rfl hx (iW (iZ 0) (iW (iZ 1) iX))) i6))),?_⟩;simp?[];exact⟨p,q,ws,i,n,rfl,m,i0,c,by decide,h⟩
def Sb(A:Ad):Sp:=λvs H Q _=>∃p q ws i g n,vs=[.ref p,.int i,.int g]/\j9 A.jm H p q ws/\0<=i/\lQ ws i.toNat=some n/\0<=g/\g<=9999/\Q .non (upd H q (.lst ((ws.set i.toNat (2*g+1)).map ι)))
theorem R5:jg ["memory","at","goal"] ["memory","at","goal"] (i9 K9):=fsc
theorem Rw(T:Txt K mg A):CG P w K mg base true 7 "send" ["memory","at","goal"] (Sb A):=by
 specialize T.K3.me R5
 ·obtain⟨p,q,ws,i,g,n,rfl,h⟩:=h;obtain⟨h,m,i0,c,g0,g2⟩:=WE h;refine⟨_,kY.run (iY (jc (i5 (oJ T).mono hr rfl hx (iW (iZ 0) (iW (iZ 1) iX))))
   (i3 (jc (jw (iZ 0) T.jN (lK T).mono hr hx (iW (iZ 1) (iW (i5 (rf T).mono hr rfl hx (iW (iZ 2) iX)) iX)))))),?_⟩
  obtain⟨dx,e⟩:=m.ob;obtain⟨c1,c2,c3,c4,c5⟩:=qu c;simp?[];refine⟨p,q,ws,i,n,rfl,m,i0,c,?_⟩;simp?[rV,AK g0 g2,e,Bx];exact⟨p,q,ws,i,_,rfl,m,i0,by clear c4;lia,by rw[oG,if_neg ⋯,if_neg (by omega),if_pos ⋯];rfl,h⟩
def Lj(A:Ad):Sp:=λvs H Q _=>∃p q ws i,vs=[.ref p,.int i]/\j9 A.jm H p q ws/\jZ ws/\0<=i/\i<ws.length/\if mX (ws.getD i.toNat 0)=true then Q (.int (ws.getD i.toNat 0/2)) H else∃n,lQ ws i.toNat=some n/\Q .non H
theorem D8:jg ["memory","at","word"] ["memory","at"] (i9 BQ):=fsc
theorem Af(T:Txt K mg A):CG P w K mg base true 7 "sent_to" ["memory","at"] (Lj A):=by
 specialize T.BJ.me D8
 ·obtain⟨p,q,ws,i,rfl,h⟩:=h;obtain⟨h,m,wo',i0,i1⟩:=Sj h;refine⟨_,kY.run (iY (jr (i:=2) D8.nd rfl lo (jw (iZ 0) T.jN (m_ T).mono hr hx (iW (iZ 1) iX)))
   (iY (ju (je lj (i5 (sR T).mono hr rfl hx (iW (iZ 2) iX)) i_ (jy _)) (i3 (jf (i5 (sh T).mono hr rfl hx (iW (iZ 2) iX)))) jh)
   (iY (jc (i5 (oJ T).mono hr rfl hx (iW (iZ 0) (iW (iZ 1) iX))))
   (i3 (jf j7))))),?_⟩
  obtain⟨dx,e⟩:=m.ob;simp?[e,DE];refine⟨p,q,ws,i,rfl,m,i0,i1,?_⟩;obtain⟨x,hx'⟩:=L7 wo' (show i.toNat<ws.length by omega);refine⟨_,_,rfl,hx',?_⟩
  cases hp:mX (ws.getD i.toNat 0) with
  |true=>
   rw[if_pos hp]at h;obtain⟨ex,w9,w0,_⟩:=AX hp (by rw[hx'];rfl);rw[ex]at hx'
   cases hx'
   simp?[];exact⟨_,_,rfl,ex,⋯,h⟩
  |false=>
   rw[if_neg (by rw[hp];decide)]at h;obtain⟨y,ey,ny⟩:=OZ hp (by rw[hx'];rfl);rw[ey]at hx'
   cases hx'
   obtain⟨n,c,h⟩:=h;simp?[ny];exact⟨p,q,ws,i,n,rfl,m,i0,c,h⟩
def JY(A:Ad):Sp:=λvs H Q _=>X1 λ(x:Ax) (u:Ow) (ow:Own) (M:Mem) (O Y:List (Nat×Int)) (k j:Nat) (a:Int) (t:Th) (v:V)=>C9 (vs=[.ref u.d,.int k,.int j,v]) (Wx A H x M) (j3 H x u ow) (In ow M O Y) (((k,a)∈O∨(k,a)∈Y)) (j<(ow.s k).length) (Ki H t v) (Gd ow t) (∀(H':Hp) (ks:List Int),Wx A H' x {M with ws:=M.ws.set (a+1+(j:Int)).toNat (wd ow.p t),ks:=ks}->j3 H' x u (ow.put k j t)->ks.Nodup->(∀q,q∈ks↔(q∈M.ks/\q≠a+1+(j:Int))∨(q=a+1+(j:Int)/\ow.g k=2/\GZ ow t=true))->(∀b v,H b=some v->Hq v=true->b≠x.q->b≠x.d->b∉u.rs->H' b=some v)->Q .non H')
theorem Ck:jg ["_law_own","_law_k","_law_slot","_law_thing_here","_law_at_here"] ["_law_own","_law_k","_law_slot","_law_thing_here"] (i9 Au):=fsc
theorem Ce(T:Txt K mg A):CG P w K mg base true 7 "_law_put" ["_law_own","_law_k","_law_slot","_law_thing_here"] (JY A):=by
 specialize T.Ai.me Ck
 ·obtain⟨x,u,ow,M,O,Y,k,j,a,t,v,rfl,h,o,I,m,hj,tV,gd,q⟩:=h;refine⟨_,kY.run (iY (jr (i:=4) Ck.nd rfl lo (ja jM (ja jM (jv jE (jb (iZ 0) i_) (iZ 1)) i6) (iZ 2)))
   (iY (mn (iZ 3) (mj (jv jE (jb (iZ 0) i_) (iZ 1)) (iZ 2) nK))
   (iY (jc (jw (jd (jb (iZ 0) i_) rfl) T.jN (lK T).mono hr hx (iW (iZ 4) (iW (i5 (ql T).mono hr rfl hx (iW (iZ 3) (iW (jb (iZ 0) i_) iX))) iX))))
   (i3 (ju (k_ (mv (je lj (jv jE (jb (iZ 0) i_) (iZ 1)) i6 (jy _)) (mv (je pe (iZ 3) j7 (jy _)) (mv (je lj (jv jE (iZ 3) i6) i_ (jy _)) (ox (je p_ (jv jE (jb (iZ 0) i_) (jv jE (iZ 3) i6)) i6 (jy _))))))) (i3 (jc (jw (jd (jb (iZ 0) i_) rfl) T.mV (wG T).mono hr hx (iW (iZ 4) iX)))) (i3 (jc (jw (jd (jb (iZ 0) i_) rfl) T.mV (Ju T).mono hr hx (iW (iZ 4) iX))))))))),?_⟩
  show pE _ _ _ [⇑u.d,↥k,↥j,some v,none] H;obtain⟨p1,p2,p3,p4⟩:=I.pl m;have ez:ow.z k=(ow.s k).length+1:=rfl;have at1:qh (ow.P.map tv) (k:Int)=some (.int a):=jI (by rw[ai,Own.Ng p2];rfl);obtain⟨ra,rv,r1,r2,r3,r4⟩:=o.Lk (k:=k) (by rw[I.ls];exact p1);exists σ'=[⇑u.d,↥k,↥j,some v,↥(a+1+j)]/\H=H'
  ·simp?[o.dc,kZ,o.pl,at1];exact hR _ _ ⟨rfl,rfl⟩
  ext _ _ ⟨rfl,rfl⟩;have ix:EK rv.length (j:Int)=some j:=sG ⋯ (by rw[r4.l];lia);exists σ'=[⇑u.d,↥k,↥j,some v,↥(a+1+j)]/\H'=upd H ra (.lst (rv.set j v))
  ·simp?[o.dc,uA,o.sl,jI r2,r3,ix];exact hR _ _ ⟨rfl,rfl⟩
  ext _ _ ⟨rfl,rfl⟩;have o1:=o.sset r1 r3 r4 (j:=j) tV;have mra:ra∈u.rs:=aJ r1;have w1:Wx A (upd H ra (.lst (rv.set j v))) x M:=h.row r3 (o.nm _ (by simp[Ow.as,mra]));have t1:=tV.upd (ys:=rv.set j v) r3;have k1:Kx [ra] H (upd H ra (.lst (rv.set j v))):=Mw;generalize upd H ra (.lst (rv.set j v))=H1 at*;obtain⟨da,ea⟩:=w1.ar.ob;obtain⟨dm,em⟩:=w1.ar.mem.ob;have gw:=I.WN gd;have l2:=I.fr.l2;exists σ'=[⇑u.d,↥k,↥j,some v,↥(a+1+j)]/\H'=upd H1 x.q (.lst ((M.ws.set (a+1+(j:Int)).toNat (wd ow.p t)).map ι))
  ·simp?[o1.dc,Jw,kZ,ea,T.jC,T.jz,oo,em,Bx];refine⟨v,u.lp,ow.P,t,rfl,o1.pl,t1,gw.1,gw.2,⟨x.m,x.q,M.ws,a+1+j,_,rfl,w1.ar.mem,⋯,⋯,L6 I gd ow.p (I.pb gd),hR _ _ ⟨rfl,rfl⟩⟩⟩
  ext _ _ ⟨rfl,rfl⟩;have m2:=w1.ar.mem.put (a+1+(j:Int)).toNat (wd ow.p t);have f2:∀b v,H1 b=some v->b≠x.q->upd H1 x.q (.lst ((M.ws.set (a+1+(j:Int)).toNat (wd ow.p t)).map ι)) b=some v:=λb v e n=>qp e n;have w2:Wx A (upd H1 x.q (.lst ((M.ws.set (a+1+(j:Int)).toNat (wd ow.p t)).map ι))) x {M with ws:=M.ws.set (a+1+(j:Int)).toNat (wd ow.p t)}:=w1.Gu (w1.ar.wr m2 f2) λb v e n _ _=>f2 b v e n;have o2:=o1.go w1 (H':=upd H1 x.q (.lst ((M.ws.set (a+1+(j:Int)).toNat (wd ow.p t)).map ι))) λb v e k n=>f2 b v e λz=>n (by rw[z];simp[mx]);have t2:=t1.upd (ys:=(M.ws.set (a+1+(j:Int)).toNat (wd ow.p t)).map ι) w1.ar.mem.ls;generalize upd H1 x.q (.lst ((M.ws.set (a+1+(j:Int)).toNat (wd ow.p t)).map ι))=H2 at*;obtain⟨dr,er⟩:=w2.ro;obtain⟨db,eb⟩:=w2.bk.ob;have yes:ow.g k=2/\GZ ow t=true->Q .non (upd H2 x.d (.dK (Ey (MS M.ks (a+1+j))))):=λc=>by
   have b3:=w2.bk.put (ks':=MS M.ks (a+1+j));have f3:∀b v,H2 b=some v->b≠x.d->upd H2 x.d (.dK (Ey (MS M.ks (a+1+j)))) b=some v:=λb v e n=>qp e n;refine q _ _ (w2.book b3 w2.nd λb v e _ n=>f3 b v e n) (o2.go w2 λb v e k n=>f3 b v e λz=>n (by rw[z];simp[mx])) (OG I.kn) (λq=> ?_) λb v e k b1 b2 b3=>f3 b v (f2 b v (k1 b v e k λz=>b3 (by rw[List.mem_singleton.mp z];exact mra)) b1) b2;rw[LW];by_cases z:q=a+1+j
   ·exact⟨λ_=> .inr ⟨z,c⟩,λ_=> .inr z⟩
   ·exact⟨λy=> .inl ⟨y.resolve_right z,z⟩,λy=>y.elim (λy=> .inl y.1) λy=> .inr y.1⟩
  have no:¬(ow.g k=2/\GZ ow t=true)->∀H',qf A.jP H' x.b x.d (RX M.ks (a+1+j))->(∀b o,H2 b=some o->b≠x.d->H' b=some o)->Q .non H':=λc H' b3 f3=>by
   refine q _ _ (w2.book b3 w2.nd λb v e _ n=>f3 b v e n) (o2.go w2 λb v e k n=>f3 b v e λz=>n (by rw[z];simp[mx])) (eX _ I.kn) (λq=> ?_) λb v e k b1 b2 b3=>f3 b v (f2 b v (k1 b v e k λz=>b3 (by rw[List.mem_singleton.mp z];exact mra)) b1) b2;unfold RX;rw[iI,decide_eq_true_eq];exact⟨.inl,λy=>y.elim id λy=>absurd y.2 c⟩
  have at2:qh (ow.G.map ι) (k:Int)=some (.int (ow.g k)):=jI (Own.Bs p1);have Rj:=I.Rj;have ag2:H2 u.la=some (.lst (ow.G.map ι)):=o2.ag;by_cases c:ow.g k=2/\GZ ow t=true
  ·refine sD (λK1 hK=> ?_) ?_
   ·cases t with
    |no=>cases c.2
    |nu n=>cases c.2
    |ce i=>
     obtain⟨b,rfl,e⟩:=t2;have gi:ow.g i<2:=of_decide_eq_true c.2;simp?[o2.dc,nh,ag2,at2,c.1,e,show qh (ow.G.map ι) (i:Int)=some (.int (ow.g i)) from jI (Own.Bs gd.1),gi];exact hK
   ·simp?[o2.dc,Cj,er,T.jX,T.lB,DZ,eb,FJ];exact⟨x.b,x.d,M.ks,_,rfl,w2.bk,⋯,⋯,⋯,yes c⟩
  ·refine uy (λK1 hK=> ?_) ?_
   ·by_cases ck:ow.g k=2
    ·cases t with
     |no=>
      cases t2
      simp?[o2.dc,nh,ag2,at2,ck];exact hK
     |nu n=>
      obtain⟨b,rfl,e⟩:=t2;simp?[o2.dc,nh,ag2,at2,ck,e];exact hK
     |ce i=>
      obtain⟨b,rfl,e⟩:=t2;have gi:¬ow.g i<2:=λz=>c ⟨ck,decide_eq_true z⟩;simp?[o2.dc,nh,ag2,at2,ck,e,show qh (ow.G.map ι) (i:Int)=some (.int (ow.g i)) from jI (Own.Bs gd.1),gi];exact hK
    ·simp?[o2.dc,nh,ag2,at2,ck];exact hK
   ·simp?[o2.dc,Cj,er,T.jX,T.lB,DZ,eb,QC];exact⟨x.b,x.d,M.ks,_,rfl,w2.bk,⋯,⋯,λH' b3 f3=>no c H' b3 f3⟩
def Ig(A:Ad):Sp:=λvs H Q _=>Y9 λ(x:Ax) (u:Ow) (ow:Own) (M:Mem) (O Y:List (Nat×Int)) (j:Nat) (t:Th) (v:V)=>C8 (vs=[.ref u.d,.int j,v]) (Wx A H x M) (j3 H x u ow) (In ow M O Y) (j<ow.D.length) (Ki H t v) (Gd ow t) (∀(H':Hp),Wx A H' x {M with hw:=M.hw.set j (wd ow.p t)}->j3 H' x u {ow with D:=ow.D.set j t}->Kx [x.g,u.lh] H H'->Q .non H')
theorem HP:jg ["_law_own","_law_hand","_law_thing_here"] ["_law_own","_law_hand","_law_thing_here"] (i9 vH):=fsc
theorem sQ(T:Txt K mg A):CG P w K mg base true 7 "_law_held" ["_law_own","_law_hand","_law_thing_here"] (Ig A):=by
 specialize T.vj.me HP
 ·obtain⟨x,u,ow,M,O,Y,j,t,v,rfl,h,o,I,hj,tV,gd,q⟩:=h;refine⟨_,kY.run (iY (mn (iZ 2) (mj (jb (iZ 0) i_) (iZ 1) nK))
   (i3 (jc (jw (jd (jb (iZ 0) i_) rfl) T.oE (A4 T).mono hr hx (iW (iZ 1) (iW (i5 (ql T).mono hr rfl hx (iW (iZ 2) (iW (jb (iZ 0) i_) iX))) iX)))))),?_⟩
  show pE _ _ _ [⇑u.d,↥j,some v] H;obtain⟨vh,eh,th⟩:=o.hd;have ix:EK vh.length (j:Int)=some j:=sG ⋯ (by rw[th.l];lia);exists σ'=[⇑u.d,↥j,some v]/\H'=upd H u.lh (.lst (vh.set j v))
  ·simp?[o.dc,Jx,eh,ix];exact hR _ _ ⟨rfl,rfl⟩
  ext _ _ ⟨rfl,rfl⟩;have o1:=o.Xf eh th (j:=j) tV;have w1:Wx A (upd H u.lh (.lst (vh.set j v))) x M:=h.row eh (o.nm _ (by simp[Ow.as]));have t1:=tV.upd (ys:=vh.set j v) eh;have k1:Kx [x.g,u.lh] H (upd H u.lh (.lst (vh.set j v))):=Mw.mono λb hb=>ao _ hb;generalize upd H u.lh (.lst (vh.set j v))=H1 at*;obtain⟨dr,er⟩:=w1.ro;obtain⟨dh,eh1⟩:=w1.hd.ob;have gw:=I.WN gd;have hl:M.hw.length=ow.D.length:=by rw[I.hd,aa]
  simp?[o1.dc,Cj,kZ,er,T.jX,T.lF,Hy,eh1,LU];refine⟨v,u.lp,ow.P,t,rfl,o1.pl,t1,gw.1,gw.2,⟨x.h,x.g,M.hw,j,_,rfl,w1.hd,⋯,by rw[hl];lia,L6 I gd ow.p (I.pb gd),?_⟩⟩;have hd6:=w1.hd.put j (wd ow.p t);have f6:∀b v,H1 b=some v->b≠x.g->upd H1 x.g (.lst ((M.hw.set j (wd ow.p t)).map ι)) b=some v:=λb v e n=>qp e n;exact q _ (w1.hand hd6 f6) (o1.go w1 λb v e k n=>f6 b v e λz=>n (by rw[z];simp[mx])) λb v e k n=>f6 b v (k1 b v e k n) λz=>n (by rw[z];simp)
def J4(A:Ad):Sp:=λvs H Q _=>∃p q ws i n,vs=[.ref p,.int i]/\j9 A.jm H p q ws/\0<=i/\lQ ws i.toNat=some n/\Q (.int (n/4+1)) H
theorem JQ:jg ["memory","at"] ["memory","at"] (i9 AB):=fsc
theorem Ci(T:Txt K mg A):CG P w K mg base true 8 "words_of" ["memory","at"] (J4 A):=by
 specialize T.Aq.me JQ
 ·obtain⟨p,q,ws,i,n,rfl,h⟩:=h;obtain⟨h,m,i0,c⟩:=Ke h;refine⟨_,kY.run (i3 (jf (ja jM (i5 (qZ T).mono hr rfl hx (iW (iZ 0) (iW (iZ 1) iX))) i6))),?_⟩;simp?[];exact⟨p,q,ws,i,n,rfl,m,i0,c,h⟩
def R8(A:Ad):Sp:=λvs H Q _=>∃p q ws i g n,vs=[.ref p,.int i,.int g]/\j9 A.jm H p q ws/\0<=i/\lQ ws i.toNat=some n/\0<=g/\g<=2/\Q .non (upd H q (.lst ((ws.set i.toNat (2*(4*(n/4)+g))).map ι)))
theorem Mp:jg ["memory","at","age","slots"] ["memory","at","age"] (i9 K5):=fsc
theorem Ho(T:Txt K mg A):CG P w K mg base true 8 "aged" ["memory","at","age"] (R8 A):=by
 specialize T.KY.me Mp
 ·obtain⟨p,q,ws,i,g,n,rfl,h⟩:=h;obtain⟨h,m,i0,c,g0,g2⟩:=WE h;refine⟨_,kY.run (iY (jr (i:=3) Mp.nd rfl lo (i5 (qZ T).mono hr rfl hx (iW (iZ 0) (iW (iZ 1) iX))))
   (iY (ju (jS (jB (i5 (jV T).mono hr rfl hx (iW (iZ 2) (iW i6 (iW (kT T.pG) iX)))) (λ_=>rfl))) (i3 jK) jh)
   (i3 (jc (jw (iZ 0) T.jN (lK T).mono hr hx (iW (iZ 1) (iW (i5 (A8 T).mono hr rfl hx (iW (iZ 3) (iW (iZ 2) iX))) iX))))))),?_⟩
  obtain⟨dx,e⟩:=m.ob;obtain⟨c1,c2,c3,c4,c5⟩:=qu c;simp?[];refine⟨p,q,ws,i,n,rfl,m,i0,c,?_⟩;simp?[jQ,AK g0 g2,e,Bx];refine⟨_,_,rfl,⋯,⋯,g0,g2,p,q,ws,i,_,rfl,m,i0,by clear c3 c1;lia,by rw[oG,if_neg ⋯,if_pos ⋯];rfl,h⟩
noncomputable def BX (i n:Int):List Int:=(bh (n/4).toNat).map λt:Nat=>i+1+(t:Int)
def El(A:Ad):Sp:=λvs H Q _=>∃p q ws i n,vs=[.ref p,.int i]/\j9 A.jm H p q ws/\ws.length<=4000/\0<=i/\lQ ws i.toNat=some n/\∀l,H l=none->Q (.ref l) (upd H l (.lst ((BX i n).map ι)))
theorem vQ:jg ["memory","at","slots"] ["memory","at"] (i9 rR):=fsc
theorem uY(T:Txt K mg A):CG P w K mg base true 8 "slot_places" ["memory","at"] (El A):=by
 specialize T.rF.me vQ
 ·obtain⟨p,q,ws,i,n,rfl,h⟩:=h;obtain⟨h,m,hl,i0,c⟩:=Sj h;refine⟨_,kY.run (iY (jr (i:=2) vQ.nd rfl lo (i5 (qZ T).mono hr rfl hx (iW (iZ 0) (iW (iZ 1) iX))))
   (i3 (jf (KD (by rfl) rfl T.BA rfl T.mP (iW (ja jM (iZ 1) i6) (iW (ja jM (ja jM (iZ 1) i6) (iZ 2)) iX)))))),?_⟩
  obtain⟨c1,c2,c3,c4,c5⟩:=qu c;simp?[Kk];refine⟨p,q,ws,i,n,rfl,m,i0,c,?_⟩;simp?[];have z:(i+1+n/4-(i+1)).toNat=(n/4).toNat:=by lia
  refine⟨⋯,⋯,⋯,⋯,aA (show(i+1+n/4-(i+1)).toNat<=8 by lia) (by decide),λl hl0=> ?_⟩;have:=h l hl0;rw[BX,bj]at this;rw[z];exact this
def PL(A:Ad):Sp:=λvs H Q _=>∃m q ws w,vs=[.ref m,.int w]/\j9 A.jm H m q ws/\jZ ws/\(kd (.int w)).isSome=true/\mX w=true/\w/2<ws.length/\mX (ws.getD (w/2).toNat 0)=true/\Q (.int (ws.getD (w/2).toNat 0)) H
theorem JN:jg ["memory","word","goal"] ["memory","word"] (i9 HC):=fsc
theorem O0(T:Txt K mg A):CG P w K mg base true 8 "moved" ["memory","word"] (PL A):=by
 specialize T.Hw.me JN
 ·obtain⟨m,q,ws,w,rfl,h⟩:=h;obtain⟨h,mm,wo',kw,hp,wl,hp2⟩:=X2 h;refine⟨_,kY.run (iY (ju (je G2 (i5 (sR T).mono hr rfl hx (iW (iZ 1) iX)) i_ (jy _)) (i3 (jf (iZ 1))) jh)
   (iY (jr (i:=2) JN.nd rfl lo (i5 (Af T).mono hr rfl hx (iW (iZ 0) (iW (i5 (sh T).mono hr rfl hx (iW (iZ 1) iX)) iX))))
   (iY (ju (je z_ (iZ 2) j7 (jy _)) (i3 (jf (iZ 1))) jh)
   (i3 (jf (i5 (rf T).mono hr rfl hx (iW (iZ 2) iX))))))),?_⟩
  obtain⟨ex,w9,w0,ew⟩:=AX hp kw;have hm:ws.getD (w/2).toNat 0∈ws:=by rw[ae,ab (show(w/2).toNat<ws.length by omega)];exact bc _
  simp?[];refine⟨_,_,rfl,ex,?_⟩;simp?[];refine⟨_,_,rfl,ex,⋯,m,q,ws,_,rfl,mm,wo',w0,wl,?_⟩;rw[if_pos hp2];generalize ws.getD (w/2).toNat 0=x at*;obtain⟨_,x9,x0,_⟩:=AX hp2 (wo' x hm);simp?[rV,AK x0 x9];simp only[mX,decide_eq_true_eq]at hp2;rw[show 2*(x/2)+1=x by lia];exact h
def Ei(A:Ad):Sp:=λvs H Q _=>Y3 λ(x:Ax) (M:Mem) (a:Int)=>C5 (vs=[.ref x.p,.int a]) (Wx A H x M) (jZ M.ws) (NJ M.sy M.ws a) (Q (tv (Dm M.sy M.ws a)) H)
theorem Lb:jg ["areas","at"] ["areas","at"] (i9 BO):=fsc
theorem DT(T:Txt K mg A):CG P w K mg base true 8 "goal_of" ["areas","at"] (Ei A):=by
 specialize T.BH.me Lb
 ·obtain⟨x,M,a,rfl,h,wo',g,q⟩:=h;refine⟨_,kY.run (iY (ju (jB (jw (jd (iZ 0) rfl) T.j5 (sP T).mono hr hx (iW (iZ 1) iX)) (λ_=>rfl)) (i3 (jf (i5 (Af T).mono hr rfl hx (iW (jd (iZ 0) rfl) (iW (iZ 1) iX))))) jh)
   (i3 (jf (iZ 1)))),?_⟩
  obtain⟨dp,ep⟩:=h.ar.ob;obtain⟨dy,ey⟩:=h.ar.oV;by_cases z:M.sy.b<=a/\a<=M.sy.t-1
  ·have wy:wi (ι a) M.sy.b (M.sy.t-1)=true:=AK z.1 z.2;simp?[ep,T.jC,T.jL,ux,ey,CT];refine⟨x.y,dy,_,_,_,a,rfl,ey,?_⟩;simp?[wy,ep,T.jC,T.jz,oo];refine⟨x.m,x.q,M.ws,a,rfl,h.ar.mem,wo',g.a0,g.a1,?_⟩;unfold Dm at q;rw[if_pos z]at q;by_cases y:mX (mE M.ws a)=true
   ·rw[if_pos y]at q;rw[if_pos (show mX (M.ws.getD a.toNat 0)=true from y)];exact q
   ·rw[if_neg y]at q;obtain⟨n,en⟩:=Option.isSome_iff_exists.mp ((g.ok z.1 z.2).resolve_left y);rw[if_neg (show¬mX (M.ws.getD a.toNat 0)=true from y)];exact⟨n,en,q⟩
  ·simp?[ep,T.jC,T.jL,ux,ey,CT];refine⟨x.y,dy,_,_,_,a,rfl,ey,?_⟩;simp?[show wi (ι a) M.sy.b (M.sy.t-1)=false by show(decide _&&decide _)=false;rw[←iF];exact decide_eq_false z];unfold Dm at q;rw[if_neg z]at q;exact q
def Eh(A:Ad):Sp:=λvs H Q _=>Y6 λ(x:Ax) (u:Ow) (ow:Own) (M:Mem) (O Y:List (Nat×Int))=>C5 (vs=[.ref u.d]) (Wx A H x M) (j3 H x u ow) (In ow M O Y) (∀H',jo H H'->Q (.bl true) H')
theorem mD:jg ["_law_own","_law_memory","_law_k","_law_at_here","_law_slot","_law_words"] ["_law_own"] (i9 pM):=fsc
theorem DS(T:Txt K mg A):CG P w K mg base true 8 "_law_stands" ["_law_own"] (Eh A):=by
 specialize T.rB.me mD
 ·obtain⟨x,u,ow,M,O,Y,rfl,h,o,I,q⟩:=h;refine⟨_,kY.run (iY (jr (i:=1) mD.nd rfl lo (jd (jb (iZ 0) i_) rfl))
   (iY (jY hx.own rfl (kS rfl T.mP (iW (ji jJ (by rfl) T.kj ζl (iW (jb (iZ 0) i_) iX)) iX)) (jG (i:=2) mD.nd rfl lo)
    (iY (jr (i:=3) mD.nd rfl lo (jv jE (jb (iZ 0) i_) (iZ 2)))
   (i3 (ju (je pe (iZ 3) j7 (jy _)) (iY (ju (k_ (nO (je (v_ (GV hr)) (i5 (F1 T).mono hr rfl hx (iW (iZ 1) (iW (iZ 3) iX))) (jv jE (jb (iZ 0) i_) (iZ 2)) (jy _)) (mY (je (v_ (GV hr)) (i5 (qZ T).mono hr rfl hx (iW (iZ 1) (iW (iZ 3) iX))) (ji jJ (by rfl) T.kj ζl (iW (jv jE (jb (iZ 0) i_) (iZ 2)) iX)) (jy _))))) (i3 (jf lH)) jh)
   (i3 (jY hx.own rfl (kS rfl T.mP (iW (ji jJ (by rfl) T.kj ζl (iW (jv jE (jb (iZ 0) i_) (iZ 2)) iX)) iX)) (jG (i:=4) mD.nd rfl lo)
    (i3 (ju (je (v_ (GV hr)) (jw (iZ 1) T.jN (m_ T).mono hr hx (iW (ja jM (ja jM (iZ 3) i6) (iZ 4)) iX)) (i5 (ql T).mono hr rfl hx (iW (jv jE (jv jE (jb (iZ 0) i_) (iZ 2)) (iZ 4)) (iW (jb (iZ 0) i_) iX))) (jy _)) (i3 (jf lH)) jh))))) jh))))
   (iY (oF (i:=5) (fsc:=i9 pM) (N2:=["_law_own"]) (js:=[0]) mD.nd rfl lo ⟨rfl,rfl,∅,∅,∅,∅,∅,∅,∅⟩ rfl rfl (by rfl) (ka (jb (iZ 0) i_)) (λ_ _ _ _=>Dv) (λ_ _ _ _=>(i5 (ql T).mono hr rfl LP (iW (iZ 0) (iW (jb (iZ 1) i_) iX)))))
   (i3 (jf (nM (pK (GV hr)) (j4 (jd (jb (iZ 0) i_) rfl) T.oE (A5 T).mono hr hx) (iZ 5) (jy _))))))),?_⟩
  show pE _ _ _ [⇑u.d,none,none,none,none,none] H;obtain⟨da,ea⟩:=h.ar.ob;obtain⟨dm,em⟩:=h.ar.mem.ob;have Bz:=I.Bz;exists σ'=[⇑u.d,⇑x.m,none,none,none,none]/\H=H'
  ·simp?[o.dc,Jw,ea,T.jC,T.jz,oo];exact hR _ _ ⟨rfl,rfl⟩
  ext _ _ ⟨rfl,rfl⟩;exists Y3 λv2 v3 v4=>σ'=[⇑u.d,⇑x.m,v2,v3,v4,none]/\H=H'
  ·simp?[o.dc,kZ,o.pl];refine⟨by rw[aa];lia,by rw[aa,I.lp];lia,?_⟩;refine ke.vw (λi σ H'=>Y3 λv2 v3 v4=>σ=[⇑u.d,⇑x.m,v2,v3,v4,none]/\H=H') ⟨_,_,_,rfl,rfl⟩ ?_ ?_
   ·rintro i σ H2 hi ⟨v2,v3,v4,rfl,rfl⟩ R2 hR2;rw[aa,aU,I.lp]at hi;have fin:∀v3 v4,R2 [⇑u.d,⇑x.m,↥(0+(i:Int)),v3,v4,none] H:=λv3 v4=>hR2 _ _ ⟨_,_,_,rfl,rfl⟩
    cases ep:ow.p i with
    |none=>
     have at1:qh (ow.P.map tv) (0+(i:Int))=some .non:=by
      rw[bg];refine jI ?_;have e:=ep;unfold Own.p at e;rw[ae,ab (by rw[I.lp];exact hi)]at e;rw[ai,ab (by rw[I.lp];exact hi)];exact congrArg (λo=>some (tv o)) e
     simp?[o.dc,kZ,o.pl,at1];exact fin _ _
    |some a=>
     have at1:qh (ow.P.map tv) (0+(i:Int))=some (.int a):=by rw[bg];exact jI (by rw[ai,Own.Ng ep];rfl)
     have m:=I.at hi ep;obtain⟨p1,p2,p3,p4⟩:=I.pl m;obtain⟨c1,c2⟩:=I.ce i a m;have s8:=I.s8 i;have ag:=I.ag i hi;have ez:ow.z i=(ow.s i).length+1:=rfl;have cn:lQ M.ws a.toNat=some (4*(ow.s i).length+ow.g i):=by
      rw[oC,show M.ws.getD a.toNat 0=mE M.ws a from rfl,c1,if_pos ⋯];congr 1;clear ez;lia
     obtain⟨ra,rv,r1,r2,r3,r4⟩:=o.Lk (k:=i) (by rw[I.ls];exact hi);refine jj (λσ' H'=>σ'=[⇑u.d,⇑x.m,↥(0+(i:Int)),↥a,v4,none]/\H=H') (λR3 hR3=> ?_) ?_
     ·simp?[o.dc,kZ,o.pl,at1];exact hR3 _ _ ⟨rfl,rfl⟩
     ext _ _ ⟨rfl,rfl⟩;refine sD (λK1 hK=>by simp?[];exact hK) ?_;have at2:qh (ow.G.map ι) (0+(i:Int))=some (.int (ow.g i)):=by rw[bg];exact jI (Own.Bs hi)
     have at3:qh (u.rs.map ξ) (0+(i:Int))=some (.ref ra):=by rw[bg];exact jI r2
     have e4:(4*((ow.s i).length:Int)+ow.g i)%4=ow.g i:=by clear ez;lia
     have e5:(4*((ow.s i).length:Int)+ow.g i)/4=(ow.s i).length:=by clear ez;lia
     refine jj (λσ' H'=>σ'=[⇑u.d,⇑x.m,↥(0+(i:Int)),↥a,v4,none]/\H=H') (λR3 hR3=> ?_) ?_
     ·refine uy (λK1 hK=> ?_) (hR3 _ _ ⟨rfl,rfl⟩);simp?[];refine⟨x.m,x.q,M.ws,_,_,rfl,h.ar.mem,p3,cn,?_⟩;simp?[o.dc,nh,o.ag,at2,e4];refine⟨x.m,x.q,M.ws,_,_,rfl,h.ar.mem,p3,cn,?_⟩;simp?[o.dc,uA,o.sl,at3,r3,e5,r4.l];exact hK
     ext _ _ ⟨rfl,rfl⟩;simp?[o.dc,uA,o.sl,at3,r3,r4.l];refine⟨by clear ez;lia,by clear e4 ez;lia,ke.vw (λj σ H'=>∃v4,σ=[⇑u.d,⇑x.m,↥(0+(i:Int)),↥a,v4,none]/\H=H') ⟨_,rfl,rfl⟩ ?_ ?_⟩
     ·rintro j σ H3 hj ⟨v4,rfl,rfl⟩ R4 hR4;rw[aU]at hj;have hv:rv[j]? =some (rv[j]'(by rw[r4.l];exact hj)):=ab _;have ht:(ow.s i)[j]? =some (ow.t i j):=by unfold Own.t;rw[ae,ab hj];rfl
      have tV:=r4.g j _ _ ht hv;generalize rv[j]'(by rw[r4.l];exact hj)=v at*;have at4:qh rv (0+(j:Int))=some v:=by rw[bg];exact jI hv
      have e6:M.ws.getD (a+1+(0+(j:Int))).toNat 0=wd (λk=>ow.P.getD k none) (ow.t i j):=by rw[bg];exact c2 j hj
      have gw:=I.WN (I.gs i a m _ (ow.tm hj));simp?[em,DE];refine⟨x.m,x.q,M.ws,_,rfl,h.ar.mem,⋯,⋯,?_⟩;rw[e6];simp?[o.dc,uA,o.sl,at3,r3,at4,kZ];refine⟨v,u.lp,ow.P,ow.t i j,rfl,o.pl,tV,gw.1,gw.2,?_⟩;simp?[];exact hR4 _ _ ⟨_,rfl,rfl⟩
     ·rintro σ H3 ⟨v4,rfl,rfl⟩;exact fin _ _
   ·rintro σ H2 ⟨v2,v3,v4,rfl,rfl⟩;exact hR _ _ ⟨v2,v3,v4,rfl,rfl⟩
  ext _ _ ⟨v2,v3,v4,rfl,rfl⟩;exists ∃lw,C3 (σ'=[⇑u.d,⇑x.m,v2,v3,v4,⇑lw]) (H lw=none) (H'=upd H lw (.lst (M.hw.map ι)))
  ·obtain⟨vh,eh,th⟩:=o.hd;have hl:M.hw.length=ow.D.length:=by rw[I.hd,aa]
   simp?[o.dc,Jx];refine⟨⟨_,kO.of eh⟩,B8 (xs:=vh) (λi ys H'=>H=H'/\ys=(M.hw.take i).map ι/\ys.length<=i) ⟨rfl,rfl,aq _⟩ (λi ys H' hP=>by rw[←hP.1];exact kO.of eh) (by rw[th.l];exact aA I.d4.2 (by decide)) (λi ys H' hP=>hP.2.2) (λi v ys H' hv hP K1 hK=> ?_) λys H' hP lw hlw=> ?_⟩
   ·obtain⟨rfl,rfl,yl⟩:=hP;have hi:i<ow.D.length:=by have:=(List.getElem?_eq_some_iff.mp hv).1;rw[th.l]at this;exact this
    have et:ow.D[i]? =some ow.D[i]:=ab hi;have gw:=I.WN (I.gd _ (bc hi));simp?[bq,o.dc,kZ];refine⟨v,u.lp,ow.P,ow.D[i],rfl,o.pl,th.g i _ _ et hv,gw.1,gw.2,hK _ _ ⟨rfl,?_,by rw[aj];exact cb yl⟩⟩;have e:M.hw[i]? =some (wd ow.p ow.D[i]):=by rw[I.hd,ai,et];rfl
    rw[bx,e,aB];rfl
   ·obtain⟨rfl,rfl,_⟩:=hP;rw[th.l,←hl,bo];exact hR _ _ ⟨lw,rfl,hlw,rfl⟩
  ext _ _ ⟨lw,rfl,hlw,rfl⟩;have s1:jo H (upd H lw (.lst (M.hw.map ι))):=jo.upd hlw;have e1:upd H lw (.lst (M.hw.map ι)) lw=some (.lst (M.hw.map ι)):=i8;generalize upd H lw (.lst (M.hw.map ι))=H1 at*;have h1:=h.same s1;have o1:=o.same s1;obtain⟨dr,er⟩:=h1.ro;obtain⟨dh,eh⟩:=h1.hd.ob;simp?[o1.dc,Cj,er,T.jX,T.lF,Hy,eh,LV];refine⟨x.h,x.g,M.hw,rfl,h1.hd,λl2 hl2=> ?_⟩;have s2:jo H1 (upd H1 l2 (.lst (M.hw.map ι))):=jo.upd hl2;have e2:upd H1 l2 (.lst (M.hw.map ι)) l2=some (.lst (M.hw.map ι)):=i8;generalize upd H1 l2 (.lst (M.hw.map ι))=H2 at*;simp?[e2,s2 _ _ e1,rZ (H:=H2) (d:=1) (l:=M.hw) (r:=M.hw) rfl];exact q _ (s1.trans s2)
def Nt(A:Ad):Sp:=λvs H Q _=>∃m q ws i sp z g n,vs=[.ref m,.int i,.ref sp,.int g]/\j9 A.jm H m q ws/\qt A.jq H sp z/\ws.length<=4000/\0<=i/\lQ ws i.toNat=some n/\0<=g/\g<=2/\0<=z.t/\z.e<=ws.length/\m≠sp/\n/4+1<=z.e-z.t/\(i<z.t∨z.t+(n/4+1)<=i)/\
 ∀H',j9 A.jm H' m q (AI ws i.toNat z.t.toNat (n/4+1) n g)->qt A.jq H' sp ⟨z.b,z.e,z.t+(n/4+1)⟩->(∀b u,H b=some u->b≠q->b≠sp->H' b=some u)->Q (.int z.t) H'
theorem BU:jg ["memory","at","space","age","words","goal"] ["memory","at","space","age"] (i9 D1):=fsc
theorem F2(T:Txt K mg A):CG P w K mg base true 9 "copied" ["memory","at","space","age"] (Nt A):=by
 specialize T.DY.me BU
 ·obtain⟨m,q,ws,i,sp',z,g,n,rfl,h⟩:=h;obtain⟨h,mm,hsp,w4,i0,cn,g0,g2,t0,e0,nms,hr',hd⟩:=WW h;refine⟨_,kY.run (iY (jr (i:=4) BU.nd rfl lo (i5 (Ci T).mono hr rfl hx (iW (iZ 0) (iW (iZ 1) iX))))
   (iY (ju (jS (jB (i5 (jV T).mono hr rfl hx (iW (iZ 3) (iW i6 (iW (kT T.pG) iX)))) (λ_=>rfl))) (i3 jK) jh)
   (iY (jr (i:=5) BU.nd rfl lo (jw (iZ 2) T.j5 (wH T).mono hr hx (iW (iZ 4) iX)))
   (iY (jc (jw (iZ 0) T.jN (DO T).mono hr hx (iW (iZ 1) (iW (iZ 5) (iW (iZ 4) iX)))))
   (iY (jc (i5 (Ho T).mono hr rfl hx (iW (iZ 0) (iW (iZ 5) (iW (iZ 3) iX)))))
   (iY (jc (i5 (Rw T).mono hr rfl hx (iW (iZ 0) (iW (iZ 1) (iW (iZ 5) iX)))))
   (i3 (jf (iZ 5))))))))),?_⟩
  obtain⟨dz,ez⟩:=hsp;obtain⟨dm,em⟩:=mm.ob;obtain⟨c1,c2,c3,c4,c5⟩:=qu cn;simp?[];refine⟨m,q,ws,i,n,rfl,mm,i0,cn,?_⟩;simp?[jQ,AK g0 g2,ez,JU];refine⟨sp',dz,z.b,z.e,z.t,_,rfl,ez,⋯,hr',?_⟩;have nqs:q≠sp':=λy=>by have:=mm.ls;rw[y,ez]at this;cases this
  have e1:upd H sp' (HO.ins A.jq dz (qP z.b z.e (z.t+(n/4+1)))) sp'=some (HO.ins A.jq dz (qP z.b z.e (z.t+(n/4+1)))):=i8;have f1:∀b u,H b=some u->b≠sp'->upd H sp' (HO.ins A.jq dz (qP z.b z.e (z.t+(n/4+1)))) b=some u:=λb u eb nb=>qp eb nb;generalize upd H sp' (HO.ins A.jq dz (qP z.b z.e (z.t+(n/4+1))))=H1 at*;have mm1:j9 A.jm H1 m q ws:=⟨⟨dm,f1 _ _ em nms⟩,f1 _ _ mm.ls nqs⟩;simp?[f1 _ _ em nms,TN];refine⟨m,q,ws,_,_,_,rfl,mm1,w4,i0,t0,⋯,by clear c1;lia,by omega,λH2 mm2 f2=> ?_⟩;have wl2:(cp ws ((ws.drop i.toNat).take (n/4+1).toNat) z.t.toNat (n/4+1).toNat).length=ws.length:=uN _;have g2':(cp ws ((ws.drop i.toNat).take (n/4+1).toNat) z.t.toNat (n/4+1).toNat).getD z.t.toNat 0=ws.getD i.toNat 0:=by
   rw[Od _ ⋯ (by clear mm2 c4;lia) (by clear wl2 c5 c4 c3 c1;omega),e_,ae,fL (by clear mm2 c4;lia),gZ,←ae];rfl
  have g3:(cp ws ((ws.drop i.toNat).take (n/4+1).toNat) z.t.toNat (n/4+1).toNat).getD i.toNat 0=ws.getD i.toNat 0:=Km _ (by omega);unfold AI at h;generalize cp ws ((ws.drop i.toNat).take (n/4+1).toNat) z.t.toNat (n/4+1).toNat=W at*;have cE:∀{X:List Int} {k:Nat},X.length=ws.length->X.getD k 0=ws.getD i.toNat 0->(k:Int)+n/4<ws.length->lQ X k=some n:=λhX hk hl=>by
   rw[oC,hk,hX,c1,if_pos ⋯];exact congrArg some ⋯
  simp?[];refine⟨m,q,W,_,_,n,rfl,mm2,t0,cE wl2 g2' (by clear g3 g2' wl2 c5 c1;omega),g0,g2,?_⟩;have mm3:=mm2.put z.t.toNat (2*(4*(n/4)+g));have f3:∀b u,H2 b=some u->b≠q->upd H2 q (HO.lst ((W.set z.t.toNat (2*(4*(n/4)+g))).map ι)) b=some u:=λb u eb nb=>qp eb nb;generalize upd H2 q (HO.lst ((W.set z.t.toNat (2*(4*(n/4)+g))).map ι))=H3 at*;simp?[];refine⟨m,q,_,_,_,n,rfl,mm3,i0,cE (by rw[aN,wl2]) (by rw[ae,aW,if_neg (by clear g3 g2' wl2 c5 c4 c3 c1;omega),←ae,g3]) ⋯,t0,⋯,?_⟩;simp?[];have mm4:=mm3.put i.toNat (2*z.t+1);rw[show 2*z.t+1=2*(z.t.toNat:Int)+1 by omega]at mm4⊢;exact h _ mm4 ⟨dz,by rw[i7 (ah nqs)];exact f3 _ _ (f2 _ _ e1 (ah nqs)) (ah nqs)⟩ λb u eb n1 n2=>by
   rw[i7 n1];exact f3 _ _ (f2 _ _ (f1 _ _ eb n2) n1) n1
def FH(A:Ad):Sp:=λvs H Q _=>Y5 λ(x:Ax) (M:Mem) (ow:Own) (G:List (Nat×Int)) (lg:Addr)=>Wy (vs=[.ref x.p,.ref x.b,.ref lg]) (Wx A H x M) (jZ M.ws) (M.ws.length<=200) (H lg=some (.lst ((G.map bN).map ι))) (M.ks.length<64) (G.length<=20) ((∀k,(ow.s k).length<=8)) ((∀e∈G,0<=e.2/\e.2+ow.z e.1<=M.ws.length/\∃n,lQ M.ws e.2.toNat=some n/\n/4=(ow.s e.1).length)) ((∀p∈M.ks,0<=p/\p<M.ws.length)) (∀(H':Hp) (d:Addr) (ks:List Int),(∀b u,H b=some u->Hq u=true->b≠d)->Wx A H' {x with d:=d} {M with ks:=ks}->Kx [] H H'->ks.Nodup->(∀p,p∈ks↔(p∈M.ks∨∃e∈G,p∈qQ ow e)/\oV M.sy (mE M.ws p)=true)->Q .non H')
theorem pN:jg ["areas","book","grown","looked","at","place"] ["areas","book","grown"] (i9 ua):=fsc
theorem E1(T:Txt K mg A):CG P w K mg base true 9 "renew_book" ["areas","book","grown"] (FH A):=by
 specialize T.tE.me pN
 ·obtain⟨x,M,ow,G,lg,rfl,h,wo',l2,eg,Rj,g10,s8,cells,kb,q⟩:=h;refine⟨_,kY.run (iY (jr (i:=3) pN.nd rfl lo (j4 (iZ 1) T.mV (qG T).mono hr hx))
   (iY (jY hx.own rfl (ka (iZ 2)) (jG (i:=4) pN.nd rfl lo)
    (i3 (jc (nP PySem.F.slot_list_extend PySem.F.type_list_extend Kv (iZ 3) (iW (i5 (uY T).mono hr rfl hx (iW (jd (iZ 0) rfl) (iW (iZ 4) iX))) iX)))))
   (iY (jc (j4 (iZ 1) T.mV (EO T).mono hr hx))
   (i3 (jY hx.own rfl (ka (iZ 3)) (jG (i:=5) pN.nd rfl lo)
    (i3 (ju (jB (i5 (uW T).mono hr rfl hx (iW (iZ 0) (iW (jw (jd (iZ 0) rfl) T.jN (m_ T).mono hr hx (iW (iZ 5) iX)) iX))) (λ_=>rfl)) (i3 (jc (jw (iZ 1) T.mV (wG T).mono hr hx (iW (iZ 5) iX)))) jh))))))),?_⟩
  obtain⟨db,eb⟩:=h.bk.ob;obtain⟨da,ea⟩:=h.ar.ob;show pE _ _ _ [⇑x.p,⇑x.b,⇑lg,none,none,none] H;exists ∃ll,C3 (σ'=[⇑x.p,⇑x.b,⇑lg,⇑ll,none,none]) (H ll=none) (H'=upd H ll (.lst ((kC M.ks).map ι)))
  ·simp?[eb,wX];exact⟨x.b,x.d,M.ks,rfl,h.bk,Rj,λll hl=>hR _ _ ⟨ll,rfl,hl,rfl⟩⟩
  ext _ _ ⟨ll,rfl,hl,rfl⟩;have s1:jo H (upd H ll (.lst ((kC M.ks).map ι))):=jo.upd hl;have e1:upd H ll (.lst ((kC M.ks).map ι)) ll=some (.lst ((kC M.ks).map ι)):=i8;generalize upd H ll (.lst ((kC M.ks).map ι))=H1 at*;have h1:=h.same s1;have nlg:lg≠ll:=i4 eg hl;exists ∃v4,C4 (σ'=[⇑x.p,⇑x.b,⇑lg,⇑ll,v4,none]) (Wx A H' x M) (Kx [] H H') (H' ll=some (.lst ((kC M.ks++G.flatMap (qQ ow)).map ι)))
  ·simp?[];refine⟨⟨_,kO.of (s1 _ _ eg)⟩,?_⟩;refine ke.uT (xs:=(G.map bN).map ι) (λi σ H'=>∃v4,C4 (σ=[⇑x.p,⇑x.b,⇑lg,⇑ll,v4,none]) (Wx A H' x M) (Kx [] H H') (H' ll=some (.lst ((kC M.ks++(G.take i).flatMap (qQ ow)).map ι))))
    ⟨_,rfl,h1,vO s1,by rw[e1,fv,iw,aM]⟩ (λi σ H' _ hz=>by obtain⟨_,_,_,k,_⟩:=hz;exact kO.of (k _ _ eg rfl aG)) ?_ ?_
   ·rintro i v σ H2 hv ⟨v4,rfl,w2,k2,e2⟩ R2 hR2;obtain⟨hi,rfl,tk⟩:=ints_get hv;have hi':i<G.length:=by rw[aa]at hi;exact hi
    have ee:(G.map bN)[i]=G[i].2:=de ..;rw[ee];obtain⟨a0,a1,n,cn,n4⟩:=cells G[i] (bc hi');obtain⟨da2,ea2⟩:=w2.ar.ob;have ez:ow.z G[i].1=(ow.s G[i].1).length+1:=rfl;simp?[CF,e2,ea2,T.jC,T.jz,oo];refine⟨x.m,x.q,M.ws,_,n,rfl,w2.ar.mem,⋯,a0,cn,λl3 hl3=> ?_⟩;have sp:BX G[i].2 n=qQ ow G[i]:=by unfold BX qQ;rw[n4]<;>rfl
    rw[sp];have s3:jo H2 (upd H2 l3 (.lst ((qQ ow G[i]).map ι))):=jo.upd hl3;have e3:upd H2 l3 (.lst ((qQ ow G[i]).map ι)) l3=some (.lst ((qQ ow G[i]).map ι)):=i8;have n3:ll≠l3:=i4 e2 hl3;generalize upd H2 l3 (.lst ((qQ ow G[i]).map ι))=H3 at*;have e4:=s3 _ _ e2;dsimp only;rw[e4,e3];dsimp only;have L1:=(CU s8 (G.take i)).2.1;have Internal:(qQ ow G[i]).length=(ow.s G[i].1).length:=by unfold qQ;rw[aa,bI]
    have L3:=s8 G[i].1;have L4:(G.take i).length<=20:=by rw[bE];lia
    have L5:(kC M.ks).length=M.ks.length:=(mM M.ks).length_eq;refine⟨n3,aA (show _<=4000 by rw[aa,aa,aj];lia) (by decide),hR2 _ _ ⟨_,rfl,(w2.same s3).row e4 (h.new hl),λb u eb kb nb=> ?_,?_⟩⟩
    ·rw[i7 (i4 eb hl)];exact s3 _ _ (k2 b u eb kb nb)
    ·rw[i8,←aB,cj,show G.take (i+1)=G.take i++[G[i]] by rw[bx,ab hi'];rfl,gN,fX]
   ·rintro σ H2 ⟨v4,rfl,w2,k2,e2⟩;rw[aa,aa,bo]at e2;exact hR _ _ ⟨v4,rfl,w2,k2,e2⟩
  ext _ H2 ⟨v4,rfl,w2,k2,e2⟩;obtain⟨db2,eb2⟩:=w2.bk.ob;exists ∃d,C6 (σ'=[⇑x.p,⇑x.b,⇑lg,⇑ll,v4,none]) ((∀b u,H b=some u->Hq u=true->b≠d)) (ll≠d) (Wx A H' {x with d:=d} {M with ks:=[]}) (Kx [] H H') (H' ll=some (.lst ((kC M.ks++G.flatMap (qQ ow)).map ι)))
  ·simp?[eb2,MC];refine⟨x.b,x.d,M.ks,rfl,w2.bk,λd H3 hd b3 f3=>hR _ _ ⟨d,rfl,λb u e k=>i4 (k2 b u e k aG) hd,i4 e2 hd,w2.book b3 (Xk w2.nd (w2.new hd)) λb u e n1 _=>f3 b u e n1,λb u e k n=>f3 b u (k2 b u e k n) λz=> ?_,f3 _ _ e2 (jA e2 eb2)⟩⟩;rw[z,eb]at e;cases e;cases k
  ext _ H3 ⟨d,rfl,fd,nd,w3,k3,e3⟩;simp?[];refine⟨⟨_,kO.of e3⟩,?_⟩;generalize hL:kC M.ks++G.flatMap (qQ ow)=L at*;have L1:=(CU s8 G).2.1;have L5:(kC M.ks).length=M.ks.length:=(mM M.ks).length_eq;have Ll:L.length<=300:=by rw[←hL,aj];lia
  have mL:∀p,p∈L↔p∈M.ks∨∃e∈G,p∈qQ ow e:=λp=>by rw[←hL,cG,iz,(mM M.ks).mem_iff]
  have bL:∀p∈L,0<=p/\p<M.ws.length:=λp hp=>by
   rcases (mL p).mp hp with z|⟨e,he,z⟩
   ·exact kb p z
   ·obtain⟨j,hj,rfl⟩:=sO.mp z;obtain⟨a0,a1,_⟩:=cells e he;have ez:ow.z e.1=(ow.s e.1).length+1:=rfl;lia
  refine ke.uT (xs:=L.map ι) (λi σ H'=>Y2 λv5 ks=>C7 (σ=[⇑x.p,⇑x.b,⇑lg,⇑ll,v4,v5]) (Wx A H' {x with d:=d} {M with ks:=ks}) (Kx [] H H') (H' ll=some (.lst (L.map ι))) (ks.Nodup) (ks.length<=i) (∀p,p∈ks↔p∈L.take i/\oV M.sy (mE M.ws p)=true))
   ⟨_,[],rfl,w3,k3,e3,bB,aq _,λp=>by simp⟩ (λi σ H' _ hz=>by obtain⟨_,_,_,_,_,e,_⟩:=hz;exact kO.of e) ?_ ?_
  ·rintro i v σ H4 hv ⟨v5,ks,rfl,w4,k4,e4,nd4,l4,m4⟩ R2 hR2;obtain⟨hi,rfl,tk⟩:=ints_get hv;obtain⟨p0,p1⟩:=bL _ (bc hi);generalize hp:L[i]=p at*;obtain⟨da4,ea4⟩:=w4.ar.ob;obtain⟨dm4,em4⟩:=w4.ar.mem.ob;obtain⟨db4,eb4⟩:=w4.bk.ob;have kw:(kd (.int (mE M.ws p))).isSome=true:=by obtain⟨y,ey⟩:=L7 wo' (show p.toNat<M.ws.length by lia);unfold mE;rw[ey];rfl
   simp?[ea4,T.jC,T.jz,oo,em4,DE];refine⟨x.m,x.q,M.ws,p,rfl,w4.ar.mem,p0,by omega,?_⟩;refine⟨{x with d:=d},{M with ks:=ks},mE M.ws p,rfl,w4,kw,?_⟩;refine⟨_,rfl,?_⟩
   cases hy:oV M.sy (mE M.ws p) with
   |false=>
    rw[if_neg aR];refine hR2 _ _ ⟨_,ks,rfl,w4,k4,e4,nd4,⋯,λp'=> ?_⟩;rw[m4 p',tk,cG,az];exact⟨λz=>⟨.inl z.1,z.2⟩,λz=>⟨z.1.resolve_right (λe=>by rw[e,hy]at z;cases z.2),z.2⟩⟩
   |true=>
    rw[if_pos rfl,eb4];dsimp only;refine⟨⟨rfl,FJ⟩,x.b,d,ks,p,rfl,w4.bk,⋯,p0,⋯,?_⟩;have b5:=w4.bk.put (ks':=MS ks p);have f5:∀b u,H4 b=some u->b≠d->upd H4 d (.dK (Ey (MS ks p))) b=some u:=λb u e n=>qp e n;refine hR2 _ _ ⟨_,MS ks p,rfl,w4.book b5 w4.nd λb u e _ n=>f5 b u e n,λb u e k n=>f5 b u (k4 b u e k n) (fd b u e k),f5 _ _ e4 nd,OG nd4,by have:=Q_ (ks:=ks) (p:=p);lia,λp'=> ?_⟩;rw[LW,m4 p',tk,cG,az];constructor
    ·rintro(z|rfl)
     ·exact⟨.inl z.1,z.2⟩
     ·exact⟨.inr rfl,hy⟩
    ·rintro⟨z|z,y⟩
     ·exact .inl ⟨z,y⟩
     ·exact .inr z
  ·rintro σ H4 ⟨v5,ks,rfl,w4,k4,e4,nd4,l4,m4⟩;rw[aa,bo]at m4;exact q H4 d ks fd w4 k4 nd4 λp=>by rw[m4 p,mL p]
def Ef(A:Ad):Sp:=λvs H Q _=>∃p dx b e t m q ws sz,vs=[.ref p,.ref m]/\H p=some (.ins A.jq dx (qP b e t))/\j9 A.jm H m q ws/\walks ws b sz t/\sz.length<=5000/\
 ∀l H',jo H H'->H l=none->H' l=some (.lst ((BE b sz).map ι))->Q (.ref l) H'
theorem oQ:jg ["self","memory","found","at"] ["self","memory"] (i9 rM):=fsc
theorem qH(T:Txt K mg A):CM P w K mg base true 9 A.jq "cells" ["self","memory"] (Ef A):=by
 specialize T.rp.me oQ
 ·obtain⟨p,dx,b,e,t,m,q,ws,sz,rfl,h⟩:=h;obtain⟨h,hp,hm,hw,hz⟩:=Sj h;refine⟨_,kY.run (iY (jr (i:=2) oQ.nd rfl lo (kh iX))
   (iY (jr (i:=3) oQ.nd rfl lo (jd (iZ 0) rfl))
   (iY (Ab hx.own (je p_ (iZ 3) (jd (iZ 0) rfl) (jy _))
    (iY (jc (nP aZ a_ kr (iZ 2) (iW (iZ 3) iX)))
   (i3 (jr (i:=3) oQ.nd rfl lo (ja jM (iZ 3) (i5 (Ci T).mono hr rfl hx (iW (iZ 1) (iW (iZ 3) iX))))))))
   (i3 (jf (iZ 2)))))),?_⟩
  simp?[];intro l0 hl0;have hp0:=jo.upd (o:= .lst []) hl0 _ _ hp;simp?[hp0,T.j5,T.kI,Gg];refine⟨λk σ H'=>∃dn rs,sz=dn++rs/\k=rs.length/\walks ws (b+dn.sum) rs t/\σ=[some (.ref p),some (.ref m),some (.ref l0),some (.int (b+dn.sum))]/\jo H H'/\H' l0=some (.lst ((BE b dn).map ι)),
   ⟨_,[],sz,rfl,rfl,by simpa using hw,by simp,jo.upd hl0,i8⟩,?_⟩
  rintro k σ H1 ⟨dn,rs,es,ek,hw1,rfl,s1,e1⟩;have hp1:=s1 _ _ hp;have m1:=hm.same s1;simp?[hp1,T.j5,T.lu,JR]
  cases rs with
  |nil=>
   have z:b+dn.sum=t:=hw1;rw[if_neg ⋯];rw[aM]at es;subst es;exact h l0 H1 s1 hl0 e1
  |cons s' rr=>
   obtain⟨⟨a0,a1,n,hc,hn⟩,hw2⟩:=hw1;have z:=Gj hw2;have z2:=FQ hc hn;rw[if_pos ⋯];refine⟨λσ' H'=>∃dn rs,sz=dn++rs/\rr.length=rs.length/\walks ws (b+dn.sum) rs t/\σ'=[some (.ref p),some (.ref m),some (.ref l0),some (.int (b+dn.sum))]/\jo H H'/\H' l0=some (.lst ((BE b dn).map ι)),
    λσ' H' hh=>⟨rr.length,by rw[ek,aF];lia,hh⟩,?_⟩
   simp?[e1];have hdl:dn.length<=5000:=by rw[es,aj]at hz;lia
   refine⟨by rw[aa,Jz];exact aT hdl (by decide),?_⟩;have m2:j9 A.jm (upd H1 l0 (.lst ((BE b dn).map ι++[ι (b+dn.sum)]))) m q ws:=m1.keep λx o ex hx=>by
    rw[i7 (λy=>by subst y;rcases hx with rfl|rfl;exact absurd hm.ob (by rintro⟨_,y⟩;rw[hl0]at y;cases y);exact absurd hm.ls (by rw[hl0];intro y;cases y))];exact ex
   refine⟨m,q,ws,b+dn.sum,n,rfl,m2,a0,hc,dn++[s'],rr,by rw[es];simp,rfl,?_,?_,s1.put hl0,?_⟩
   ·rw[fS,show b+(dn.sum+[s'].sum)=b+dn.sum+s' by simp;lia];exact hw2
   ·rw[fS,show b+(dn.sum+[s'].sum)=b+dn.sum+(n/4+1) by simp;lia]
   ·rw[i8,F9,aB];rfl
def Bg(A:Ad):Sp:=λvs H Q _=>∃(p dx m q o y s:Addr) (ws:List Int) (x dz:Addr) (z:S3) (n g:Int),vs=[.ref p,.ref x,.int n,.int g]/\H p=some (.ins A.jD dx (uK m o y s))/\j9 A.jm H m q ws/\ws.length<=4000/\H x=some (.ins A.jq dz (qP z.b z.e z.t))/\p≠x/\m≠x/\0<=z.t/\z.e<=ws.length/\0<=g/\g<=2/\0<=n/\n<=8/\n+1<=z.e-z.t/\
 ∀H',j9 A.jm H' m q (j8 ws z.t.toNat n.toNat g)->H' x=some (.ins A.jq dz (qP z.b z.e (z.t+(n+1))))->(∀b u,H b=some u->b≠q->b≠x->H' b=some u)->Q (.int z.t) H'
theorem q8:jg ["self","space","slots","age","at"] ["self","space","slots","age"] (i9 pB):=fsc
theorem qX(T:Txt K mg A):CM P w K mg base true 9 A.jD "lay_into" ["self","space","slots","age"] (Bg A):=by
 specialize T.pw.me q8
 ·obtain⟨p,dx,m,q,o,y,s',ws,x,dz,z,n,g,rfl,h⟩:=h;obtain⟨h,hp,hm,hl,hx',npx,nmx,t0,el,g0,g2,n0,n8,hr'⟩:=WX h;refine⟨_,kY.run (iY (jc (i5 (wM T).mono hr rfl hx (iW (iZ 2) iX)))
   (iY (jr (i:=4) q8.nd rfl lo (jw (iZ 1) T.j5 (wH T).mono hr hx (iW (ja jM (iZ 2) i6) iX)))
   (iY (jc (i5 (T3 T).mono hr rfl hx (iW (jd (iZ 0) rfl) (iW (iZ 4) (iW (iZ 2) iX)))))
   (iY (jc (i5 (Ho T).mono hr rfl hx (iW (jd (iZ 0) rfl) (iW (iZ 4) (iW (iZ 3) iX)))))
   (i3 (jf (iZ 4))))))),?_⟩
  simp?[rW,AK n0 n8,hx',JU];refine⟨x,dz,z.b,z.e,z.t,_,rfl,hx',by omega,hr',?_⟩;have nqx:q≠x:=λw=>by have:=hm.ls;rw[w,hx']at this;cases this
  have npq:p≠q:=λw=>by have:=hm.ls;rw[←w,hp]at this;cases this
  have hx1:upd H x (HO.ins A.jq dz (qP z.b z.e (z.t+(n+1)))) x=some (.ins A.jq dz (qP z.b z.e (z.t+(n+1)))):=i8;have f1:∀b u,H b=some u->b≠x->upd H x (HO.ins A.jq dz (qP z.b z.e (z.t+(n+1)))) b=some u:=λb u eb nb=>qp eb nb;generalize upd H x (HO.ins A.jq dz (qP z.b z.e (z.t+(n+1))))=H1 at*;have m1:j9 A.jm H1 m q ws:=hm.keep λb u eb hb=>f1 b u eb (by rcases hb with rfl|rfl;exact nmx;exact nqx);simp?[f1 _ _ hp npx,T.jC,T.jz,oo];refine⟨m,q,ws,z.t,n,rfl,m1,hl,n0,n8,t0,by omega,λH2 m2 f2=> ?_⟩;simp?[f2 _ _ (f1 _ _ hp npx) npq,T.jC,T.jz,oo];refine⟨m,q,_,z.t,g,4*(n.toNat:Int),rfl,m2,t0,Kl (by omega) (by omega),g0,g2,?_⟩;have eg:2*(4*(4*(n.toNat:Int)/4)+g)=2*(4*(n.toNat:Int)+g):=by lia
  rw[eg];simp?[];exact h _ (m2.put _ _) (by rw[i7 (ah nqx)];exact f2 _ _ hx1 (ah nqx)) λb u eb nb nx=>by
   rw[i7 nb];exact f2 _ _ (f1 _ _ eb nx) nb
def FF(A:Ad):Sp:=λvs H Q _=>Y5 λ(x:Ax) (M:Mem) (c:CS) (a n:Int)=>XU (vs=[.ref x.p,.int a]) (Wx A H x (cM M c)) (jZ c.ws) (c.ws.length<=200) (M.so.e<=c.ws.length) (M.ss.e<=c.ws.length) (0<=a) (a<c.ws.length) (0<=c.ot) (0<=c.st) (lQ c.ws a.toNat=some n) ((n%4=0->n/4+1<=M.ss.e-c.st/\(a<c.st∨c.st+(n/4+1)<=a))) ((n%4≠0->n/4+1<=M.so.e-c.ot/\(a<c.ot∨c.ot+(n/4+1)<=a))) (∀H',Kx [x.q] H H'->Wx A H' x (cM M (if n%4=0 then⟨AI c.ws a.toNat c.st.toNat (n/4+1) n 1,c.ot,c.st+(n/4+1),c.cs⟩ else⟨AI c.ws a.toNat c.ot.toNat (n/4+1) n 2,c.ot+(n/4+1),c.st,c.cs⟩))->Q (.int (if n%4=0 then c.st else c.ot)) H')
theorem Ff:jg ["areas","at"] ["areas","at"] (i9 tZ):=fsc
theorem EZ(T:Txt K mg A):CG P w K mg base true 10 "copy_young" ["areas","at"] (FF A):=by
 specialize T.tB.me Ff
 ·obtain⟨x,M,c,a,n,rfl,h,wo',l2,oe,se,a0,a1,o0,s0,cn,h1,h2,q⟩:=h;refine⟨_,kY.run (iY (ju (je lj (i5 (F1 T).mono hr rfl hx (iW (jd (iZ 0) rfl) (iW (iZ 1) iX))) i6 (jy _)) (i3 (jf (i5 (F2 T).mono hr rfl hx (iW (jd (iZ 0) rfl) (iW (iZ 1) (iW (jd (iZ 0) rfl) (iW i6 iX))))))) jh)
   (i3 (jf (i5 (F2 T).mono hr rfl hx (iW (jd (iZ 0) rfl) (iW (iZ 1) (iW (jd (iZ 0) rfl) (iW i6 iX)))))))),?_⟩
  obtain⟨dp,ep⟩:=h.ar.ob;obtain⟨ds,es⟩:=h.ar.Em;obtain⟨d0,eo⟩:=h.ar.old;by_cases z:n%4=0
  ·rw[if_pos z,if_pos z]at q;obtain⟨r1,r2⟩:=h1 z;refine q9 (λ_ _=>False) (λR _=> ?_) (λ_ _ z=>z.elim);simp?[ep,T.jC,T.jz,oo];refine⟨x.m,x.q,c.ws,a,n,rfl,h.ar.mem,a0,cn,?_⟩;simp?[z,ep,T.jC,T.jz,T.kE,oo,FI];refine⟨x.m,x.q,c.ws,a,x.s,⟨M.ss.b,M.ss.e,c.st⟩,1,n,rfl,h.ar.mem,h.ar.Em,⋯,a0,cn,by decide,by decide,s0,se,h.ar.md.2.2,r1,r2,λH' m' s' f'=>q H' (λb u eb k nb=>f' b u eb (by simpa using nb) (λz=>by rw[z,es]at eb;cases eb;cases k)) ?_⟩
   exact h.Gu (h.ar.Yd m' s' f') λb u eb nb n1 _=>f' b u eb nb (BB eb es n1 (by kernel_rfl))
  ·rw[if_neg z,if_neg z]at q;obtain⟨r1,r2⟩:=h2 z;exists σ'=[⇑x.p,↥a]/\H=H'
   ·simp?[ep,T.jC,T.jz,oo];refine⟨x.m,x.q,c.ws,a,n,rfl,h.ar.mem,a0,cn,?_⟩;simp?[z];exact hR _ _ ⟨rfl,rfl⟩
   ext _ _ ⟨rfl,rfl⟩;simp?[ep,T.jC,T.jz,T.kQ,oo,CZ];refine⟨x.m,x.q,c.ws,a,x.o,⟨M.so.b,M.so.e,c.ot⟩,2,n,rfl,h.ar.mem,h.ar.old,⋯,a0,cn,by decide,by decide,o0,oe,h.ar.md.1,r1,r2,λH' m' s' f'=>q H' (λb u eb k nb=>f' b u eb (by simpa using nb) (λz=>by rw[z,eo]at eb;cases eb;cases k)) ?_⟩
   exact h.Gu (h.ar.V7 m' s' f') λb u eb nb n1 _=>f' b u eb nb (BB eb eo n1 (by kernel_rfl))
def AF(A:Ad):Sp:=λvs H Q _=>∃p m q o y s ws so sy ss n,vs=[.ref p,.int n]/\nU A.jD A.jm A.jq H p m q o y s ws so sy ss/\ws.length<=4000/\0<=sy.t/\sy.e<=ws.length/\0<=n/\n<=8/\n+1<=sy.e-sy.t/\
 ∀H',nU A.jD A.jm A.jq H' p m q o y s (j8 ws sy.t.toNat n.toNat 0) so ⟨sy.b,sy.e,sy.t+(n+1)⟩ ss->(∀b u,H b=some u->b≠q->b≠y->H' b=some u)->Q (.int sy.t) H'
theorem AD:jg ["self","slots"] ["self","slots"] (i9 oN):=fsc
theorem Ac(T:Txt K mg A):CM P w K mg base true 10 A.jD "lay_young" ["self","slots"] (AF A):=by
 specialize T.oK.me AD
 ·obtain⟨p,m,q,o,y,s',ws,so,sy,ss,n,rfl,h⟩:=h;obtain⟨h,a,hl,t0,el,n0,n8,nr⟩:=WY h;refine⟨_,kY.run (i3 (jf (jw (iZ 0) T.jC (qX T).mono hr hx (iW (jd (iZ 0) rfl) (iW (iZ 1) (iW i6 iX)))))),?_⟩;obtain⟨dx,hp⟩:=a.ob;obtain⟨dy,hy⟩:=a.oV;simp?[hp,T.jC,T.jL,ux,NQ];exact⟨p,dx,m,q,o,y,s',ws,y,dy,sy,n,0,rfl,hp,a.mem,hl,hy,a.pd.2.2.1,a.md.2.1,t0,el,by decide,by decide,n0,n8,nr,λH' m' e' f'=>h H' (a.XR m' ⟨dy,e'⟩ f') f'⟩
def BY(A:Ad):Sp:=λvs H Q _=>∃p m q o y s ws so sy ss n,vs=[.ref p,.int n]/\nU A.jD A.jm A.jq H p m q o y s ws so sy ss/\ws.length<=4000/\0<=so.t/\so.e<=ws.length/\0<=n/\n<=8/\n+1<=so.e-so.t/\
 ∀H',nU A.jD A.jm A.jq H' p m q o y s (j8 ws so.t.toNat n.toNat 2) ⟨so.b,so.e,so.t+(n+1)⟩ sy ss->(∀b u,H b=some u->b≠q->b≠o->H' b=some u)->Q (.int so.t) H'
theorem BR:jg ["self","slots"] ["self","slots"] (i9 qd):=fsc
theorem BC(T:Txt K mg A):CM P w K mg base true 10 A.jD "lay_old" ["self","slots"] (BY A):=by
 specialize T.qb.me BR
 ·obtain⟨p,m,q,o,y,s',ws,so,sy,ss,n,rfl,h⟩:=h;obtain⟨h,a,hl,t0,el,n0,n8,nr⟩:=WY h;refine⟨_,kY.run (i3 (jf (jw (iZ 0) T.jC (qX T).mono hr hx (iW (jd (iZ 0) rfl) (iW (iZ 1) (iW (kT T.pG) iX)))))),?_⟩;obtain⟨dx,hp⟩:=a.ob;obtain⟨dy,hy⟩:=a.old;simp?[hp,T.jC,T.kQ,CZ,NQ];exact⟨p,dx,m,q,o,y,s',ws,o,dy,so,n,2,rfl,hp,a.mem,hl,hy,a.pd.2.1,a.md.1,t0,el,by decide,by decide,n0,n8,nr,λH' m' e' f'=>h H' (a.V7 m' ⟨dy,e'⟩ f') f'⟩
theorem Bm{ws:List Int}{z:Nat->Int}:∀{l:List (Nat×Int)} {a t:Int},oW z a l t->(∀e∈l,0<=e.2/\e.2<ws.length/\∃n,lQ ws e.2.toNat=some n/\n/4+1=z e.1)->walks ws a (l.map λe=>z e.1) t
 | [],_,_,h,_=>h
 |e::r,a,t,h,c=>by
  have c1:=c e (ax ..);rw[h.1]at c1;exact⟨c1,Bm h.2 λf hf=>c f (ao _ hf)⟩
theorem In.XQ{x:Own}{M:Mem}{O Y:List (Nat×Int)}(I:In x M O Y){l:List (Nat×Int)}(h:∀e∈l,e∈O∨e∈Y):∀e∈l,0<=e.2/\e.2<M.ws.length/\∃n,lQ M.ws e.2.toNat=some n/\n/4+1=x.z e.1:=λe he=>by
 have m:=h e he;obtain⟨p1,p2,p3,p4⟩:=I.pl (k:=e.1) (a:=e.2) m;obtain⟨c1,_⟩:=I.ce e.1 e.2 m;have s8:=I.s8 e.1;have ag:=I.ag e.1 p1;have ez:x.z e.1=(x.s e.1).length+1:=rfl;refine⟨p3,⋯,4*(x.s e.1).length+x.g e.1,?_,⋯⟩;rw[oC,show M.ws.getD e.2.toNat 0=mE M.ws e.2 from rfl,c1,if_pos ⋯];congr 1;clear ez;lia
theorem zl{K:af}{x:Ax}{u:Ow}{n:Nat}{cst:Int}{L:List (Nat×Int)}{za zb:Addr}{D:Ends}{t1 t2 t3 t4 t5 t6 t7 v8 v9:Option V}{H5:Hp}{P5:List (Option Int)}{G5:List Int}
  (dc:H5 u.d=some (.dK (wt x.p x.r u))) (p5:H5 u.lp=some (.lst (P5.map tv))) (a5:H5 u.la=some (.lst (G5.map ι))) (ea:H5 za=some (.lst (nV (L.map au)))) (eb:H5 zb=some (.lst ((L.map bN).map ι))) (npa:u.lp≠u.la) (n1:u.lp≠za) (n2:u.la≠za) (n3:u.lp≠zb) (n4:u.la≠zb) (lP:P5.length=n) (lG:G5.length=n) (hk:∀e∈L,e.1<n) (nd:(L.map au).Nodup)
  (q:∀(v8 v9:Option V) (H':Hp) (P:List (Option Int)) (G:List Int),(∀b v,H5 b=some v->b≠u.lp->b≠u.la->H' b=some v)->H' u.lp=some (.lst (P.map tv))->H' u.la=some (.lst (G.map ι))->P.length=n->G.length=n->(∀k,k<n->P.getD k none=(lk L k).or (P5.getD k none))->(∀k,k<n->G.getD k 0=if (lk L k).isSome=true then cst else G5.getD k 0)->D.nx [⇑u.d,t1,t2,t3,t4,t5,t6,t7,v8,v9] H'):
  ke (U6 K za zb) (Ov K 2 (wB (nZ 8) (wB (nZ 9) MP))) (pE (CA (AO 9) (Ou (IL (AO 0) (tC (V.str (aI "places")))) (AO 8) FP)) (CA (tC (ι cst)) (Ou (IL (AO 0) (tC (V.str (aI "ages")))) (AO 8) FP))) D [⇑u.d,t1,t2,t3,t4,t5,t6,t7,v8,v9] H5:=by
 have nl:(nV (L.map au)).length=L.length:=by unfold nV;rw[aa,aa]
 refine ke.XS (xs:=nV (L.map au)) (ys:=(L.map bN).map ι) (λi σ H'=>Y4 λ(v8 v9:Option V) (P:List (Option Int)) (G:List Int)=>C8 (σ=[⇑u.d,t1,t2,t3,t4,t5,t6,t7,v8,v9]) ((∀b v,H5 b=some v->b≠u.lp->b≠u.la->H' b=some v)) (H' u.lp=some (.lst (P.map tv))) (H' u.la=some (.lst (G.map ι))) (P.length=n) (G.length=n) ((∀k,k<n->P.getD k none=(lk (L.take i) k).or (P5.getD k none))) (∀k,k<n->G.getD k 0=if (lk (L.take i) k).isSome=true then cst else G5.getD k 0))
  (by rw[nl,aa,aa]) ⟨v8,v9,P5,G5,rfl,λ_ _ h _ _=>h,p5,a5,lP,lG,λ_ _=>rfl,λ_ _=>rfl⟩ (λi σ H' _ hz=>by obtain⟨_,_,_,_,_,f,_⟩:=hz;exact⟨kO.of (f _ _ ea (ah n1) (ah n2)),kO.of (f _ _ eb (ah n3) (ah n4))⟩) ?_ ?_
 ·rintro i v y σ H6 p hv hy ⟨v8,v9,P,G,rfl,f6,p6,a6,l6,g6,m6,m6'⟩ hp R2 hR2;have hi:i<L.length:=by have:=(List.getElem?_eq_some_iff.mp hv).1;rw[nl]at this;exact this
  have ev:v=ι (L[i].1:Nat):=by unfold nV at hv;rw[ai,ai,ab hi]at hv;exact(aY hv).symm
  have ey:y=ι L[i].2:=by rw[ai,ai,ab hi]at hy;exact(aY hy).symm
  subst ev ey;have kn:=hk L[i] (bc hi);have s7:jo H6 (upd H6 p (.tup [.int (L[i].1:Nat),.int L[i].2])):=jo.upd hp;have tp:upd H6 p (.tup [.int (L[i].1:Nat),.int L[i].2]) p=some (.tup [.int (L[i].1:Nat),.int L[i].2]):=i8;generalize upd H6 p (.tup [.int (L[i].1:Nat),.int L[i].2])=H7 at*;have dc7:=s7 _ _ (f6 _ _ dc (jA dc p5) (jA dc a5));have p7:=s7 _ _ p6;have a7:=s7 _ _ a6;have nk:lk (L.take i) L[i].1=none:=pL λz=>by
   obtain⟨e,he,e1⟩:=List.mem_map.mp z;obtain⟨j,hj,rfl⟩:=List.mem_iff_getElem.mp he;rw[ie]at e1;have hj':j<i:=by rw[bE]at hj;lia
   have:=List.pairwise_iff_getElem.mp nd j i (by rw[aa];lia) (by rw[aa];exact hi) hj';rw[de,de]at this;exact this e1
  have ix1:EK (P.map tv).length (L[i].1:Int)=some L[i].1:=sG ⋯ (by rw[aa];lia);have ix2:EK (G.map ι).length (L[i].1:Int)=some L[i].1:=sG ⋯ (by rw[aa];lia);refine⟨p,_,rfl,.inl (.inl tp),rfl,_,_,rfl,_,_,rfl,rfl,?_⟩;show pE _ _ _ [⇑u.d,t1,t2,t3,t4,t5,t6,t7,↥(L[i].1:Nat),some (ι L[i].2)] H7;exists σ'=[⇑u.d,t1,t2,t3,t4,t5,t6,t7,↥(L[i].1:Nat),some (ι L[i].2)]/\H'=upd H7 u.lp (.lst ((P.set L[i].1 (some L[i].2)).map tv))
  ·simp?[dc7,kZ,p7,ix1];refine hR _ _ ⟨rfl,?_⟩;rw[ei];rfl
  ext _ _ ⟨rfl,rfl⟩;have f8:∀{b v},H7 b=some v->b≠u.lp->upd H7 u.lp (.lst ((P.set L[i].1 (some L[i].2)).map tv)) b=some v:=λ{b v} e n=>qp e n;have p8:upd H7 u.lp (.lst ((P.set L[i].1 (some L[i].2)).map tv)) u.lp=some (.lst ((P.set L[i].1 (some L[i].2)).map tv)):=i8;have dc8:=f8 dc7 (jA dc7 p7);have a8:=f8 a7 (ah npa);generalize upd H7 u.lp (.lst ((P.set L[i].1 (some L[i].2)).map tv))=H8 at*;simp?[dc8,nh,a8,ix2];refine hR2 _ _ ⟨_,_,P.set L[i].1 (some L[i].2),G.set L[i].1 cst,rfl,λb v e b1 b2=> ?_,?_,?_,by rw[aN];exact l6,by rw[aN];exact g6,λk hk=> ?_,λk hk=> ?_⟩
  ·rw[i7 b2];exact f8 (s7 _ _ (f6 b v e b1 b2)) b1
  ·rw[i7 npa];exact p8
  ·rw[i8,ei]
  ·rw[Xe ⋯,Ma hi,m6 k hk];by_cases e:L[i].1=k
   ·rw[if_pos e,if_pos e,←e,nk];rfl
   ·rw[if_neg e,if_neg e,gv]
  ·rw[Xe ⋯,Ma hi,m6' k hk];by_cases e:L[i].1=k
   ·rw[if_pos e,if_pos e,←e,nk];rfl
   ·rw[if_neg e,if_neg e,gv]
 ·rintro σ H6 ⟨v8,v9,P,G,rfl,f6,p6,a6,l6,g6,m6,m6'⟩;rw[nl,bo]at m6 m6';exact q v8 v9 H6 P G f6 p6 a6 l6 g6 m6 m6'
def Ij(A:Ad):Sp:=λvs H Q _=>Y9 λ(x:Ax) (u:Ow) (ow:Own) (M M':Mem) (O Y F:List (Nat×Int)) (lr:Addr)=>Qm (vs=[.ref u.d,.ref lr,.int O.length]) (Wx A H x M') (j3 H x u ow) (In ow M O Y) ((∃Dn c,qT ow M O Y F Dn c)) (H lr=some (.lst (nV (F.map au)))) (u.lp≠lr) (u.la≠lr) ((∀x',Nx ow F x'->In x' M' (O++F.filter λe=>decide (ow.g e.1=1)) (F.filter λe=>decide (ow.g e.1=0)))) (∀H' x',Nx ow F x'->Wx A H' x M'->j3 H' x u x'->(∀b v,H b=some v->b≠u.lp->b≠u.la->H' b=some v)->Q (.bl true) H')
theorem kK:jg ["_law_own","_law_order_here","_law_stood","_law_areas","_law_stays","_law_grows","_law_young","_law_old","_law_k","_law_at_here"] ["_law_own","_law_order_here","_law_stood"] (i9 pX):=fsc
theorem Hn(T:Txt K mg A):CG P w K mg base true 10 "_law_went" ["_law_own","_law_order_here","_law_stood"] (Ij A):=by
 specialize T.vn.me kK
 ·obtain⟨x,u,ow,M,M',O,Y,F,lr,rfl,h,o,I,⟨Dn,c,md⟩,eo,nr1,nr2,nx,q⟩:=h;refine⟨_,kY.run (iY (jr (i:=3) kK.nd rfl lo (jb (iZ 0) i_))
   (iY (oF (i:=4) (fsc:=i9 pX) (N2:=["_law_own"]) (js:=[0]) kK.nd rfl lo ⟨rfl,rfl,∅,∅,∅,∅,∅,∅,∅⟩ rfl rfl (by rfl) (ka (iZ 1)) (λ_ _ _ _=>(l_ (je lj (jv jE (jb (iZ 1) i_) (iZ 0)) i6 (jy _)))) (λ_ _ _ _=>(iZ 0)))
   (iY (oF (i:=5) (fsc:=i9 pX) (N2:=["_law_own"]) (js:=[0]) kK.nd rfl lo ⟨rfl,rfl,∅,∅,∅,∅,∅,∅,∅⟩ rfl rfl (by rfl) (ka (iZ 1)) (λ_ _ _ _=>(l_ (je lj (jv jE (jb (iZ 1) i_) (iZ 0)) i6 (jy _)))) (λ_ _ _ _=>(iZ 0)))
   (iY (jr (i:=6) kK.nd rfl lo (jw (jd (iZ 3) rfl) T.j5 (qH T).mono hr hx (iW (jd (iZ 3) rfl) iX)))
   (iY (jr (i:=7) kK.nd rfl lo (jw (jd (iZ 3) rfl) T.j5 (qH T).mono hr hx (iW (jd (iZ 3) rfl) iX)))
   (iY (ju (k_ (nO (je G2 (ji jJ (by rfl) T.kj ζl (iW (iZ 6) iX)) (ji jJ (by rfl) T.kj ζl (iW (iZ 4) iX)) (jy _)) (mY (je G2 (ji jJ (by rfl) T.kj ζl (iW (iZ 7) iX)) (ja jM (iZ 2) (ji jJ (by rfl) T.kj ζl (iW (iZ 5) iX))) (jy _))))) (i3 (jf lH)) jh)
   (iY (jY hx.own rfl (kS rfl T.mP (iW (ji jJ (by rfl) T.kj ζl (iW (jb (iZ 0) i_) iX)) iX)) (jG (i:=8) kK.nd rfl lo)
    (i3 (ju (k_ (mv (je p_ (jv jE (jb (iZ 0) i_) (iZ 8)) i6 (jy _)) (ox (je Dt (iZ 8) (iZ 1) (by with_unfolding_all rfl))))) (i3 (mn j7 (mj (jb (iZ 0) i_) (iZ 8) nK))) jh)))
   (iY (jY hx.own rfl (Ji rfl T.Md (iW (iZ 4) (iW (iZ 6) iX))) (qD (n:=2) (by rfl) (ky (jG (i:=8) kK.nd rfl lo) (ky (jG (i:=9) kK.nd rfl lo) pf)))
    (iY (mn (iZ 9) (mj (jb (iZ 0) i_) (iZ 8) nK))
   (i3 (mn i6 (mj (jb (iZ 0) i_) (iZ 8) nK)))))
   (iY (jY hx.own rfl (Ji rfl T.Md (iW (iZ 5) (iW (sH OO (iZ 7) (qy (iZ 2)) MW) iX))) (qD (n:=2) (by rfl) (ky (jG (i:=8) kK.nd rfl lo) (ky (jG (i:=9) kK.nd rfl lo) pf)))
    (iY (mn (iZ 9) (mj (jb (iZ 0) i_) (iZ 8) nK))
   (i3 (mn i6 (mj (jb (iZ 0) i_) (iZ 8) nK)))))
   (i3 (jf lH))))))))))),?_⟩
  show pE _ _ _ [⇑u.d,⇑lr,↥O.length,none,none,none,none,none,none,none] H;obtain⟨da,ea⟩:=h.ar.ob;have LR:=md.LR I;exists σ'=[⇑u.d,⇑lr,↥O.length,⇑x.p,none,none,none,none,none,none]/\H=H'
  ·simp?[o.dc,Jw];exact hR _ _ ⟨rfl,rfl⟩
  ext _ _ ⟨rfl,rfl⟩;have kl:∀k∈F.map au,k<ow.G.length:=λk hk=>by obtain⟨a,ha⟩:=md.fy k hk;exact((I.ye k a).mp ha).1
  exists ∃l1,C5 (σ'=[⇑u.d,⇑lr,↥O.length,⇑x.p,⇑l1,none,none,none,none,none]) (jo H H') (u.lp≠l1) (u.la≠l1) (H' l1=some (.lst (nV ((F.filter λe=>decide (ow.g e.1=0)).map au))))
  ·simp?[];refine⟨⟨_,kO.of eo⟩,uw.IZ (pg ow 0) (λv=>v) (kO.of eo) (by unfold nV;rw[aa,aa];exact aA LR (by decide)) (λv hv K' hK=> ?_) (λv hv _ K' hK=> ?_) λlg hlg=> ?_⟩
   ·obtain⟨k,hk,rfl⟩:=List.mem_map.mp hv;simp?[bq,o.dc,nh,o.ag,jI (Own.Bs (kl k hk))];exact hK
   ·simp?[bq];exact hK
   ·rw[eY,CN];exact hR _ _ ⟨lg,rfl,jo.upd hlg,i4 o.pl hlg,i4 o.ag hlg,i8⟩
  ext _ H1 ⟨l1,rfl,s1,nl1,nl1',e1⟩;have o1:=o.same s1;exists ∃l2,C5 (σ'=[⇑u.d,⇑lr,↥O.length,⇑x.p,⇑l1,⇑l2,none,none,none,none]) (jo H1 H') (u.lp≠l2) (u.la≠l2) (H' l2=some (.lst (nV ((F.filter λe=>decide (ow.g e.1=1)).map au))))
  ·simp?[];refine⟨⟨_,kO.of (s1 _ _ eo)⟩,uw.IZ (pg ow 1) (λv=>v) (kO.of (s1 _ _ eo)) (by unfold nV;rw[aa,aa];exact aA LR (by decide)) (λv hv K' hK=> ?_) (λv hv _ K' hK=> ?_) λlg hlg=> ?_⟩
   ·obtain⟨k,hk,rfl⟩:=List.mem_map.mp hv;simp?[bq,o1.dc,nh,o1.ag,jI (Own.Bs (kl k hk))];exact hK
   ·simp?[bq];exact hK
   ·rw[eY,CN];exact hR _ _ ⟨lg,rfl,jo.upd hlg,i4 o1.pl hlg,i4 o1.ag hlg,i8⟩
  rintro Gq hGq _ H2 ⟨l2,rfl,s2,nl2,nl2',e2⟩;have o2:=o1.same s2;subst hGq;have I':=nx _ (T1 I.lp);have ez:(X_ ow F).z=ow.z:=rfl;have h2:=h.same (s1.trans s2);obtain⟨da2,ea2⟩:=h2.ar.ob;obtain⟨dy2,ey2⟩:=h2.ar.oV;obtain⟨do2,eo2⟩:=h2.ar.old;generalize hY:(F.filter λe=>decide (ow.g e.1=0))=Y' at*;generalize hG:(F.filter λe=>decide (ow.g e.1=1))=G' at*;have ly:Y'.length<=20:=by rw[←hY];exact aA (cV ..) LR
  have lg:G'.length<=20:=by rw[←hG];exact aA (cV ..) LR
  have lO:=I.Xt;exists ∃l3,C5 (σ'=[⇑u.d,⇑lr,↥O.length,⇑x.p,⇑l1,⇑l2,⇑l3,none,none,none]) (jo H2 H') (u.lp≠l3) (u.la≠l3) (H' l3=some (.lst ((Y'.map bN).map ι)))
  ·simp?[ea2,T.jC,T.jL,T.jz,ux,oo,ey2,BV];refine⟨x.y,dy2,_,_,_,x.m,x.q,M'.ws,_,rfl,ey2,h2.ar.mem,Bm I'.ly (I'.XQ λe he=> .inr he),by rw[aa];lia,λl3 H3 s3 n3 e3=>hR _ _ ⟨l3,rfl,s3,i4 o2.pl n3,i4 o2.ag n3,?_⟩⟩;rw[e3,←Bu I'.ly]
  rintro Gq hGq _ H3 ⟨l3,rfl,s3,nl3,nl3',e3⟩;have o3:=o2.same s3;subst hGq;have h3:=h2.same s3;exists ∃l4,C5 (σ'=[⇑u.d,⇑lr,↥O.length,⇑x.p,⇑l1,⇑l2,⇑l3,⇑l4,none,none]) (jo H3 H') (u.lp≠l4) (u.la≠l4) (H' l4=some (.lst (((O++G').map bN).map ι)))
  ·simp?[s3 _ _ ea2,T.jC,T.kQ,T.jz,CZ,oo,s3 _ _ eo2,BV];have lo':=I'.lo;rw[←I'.fr.ob]at lo';refine⟨x.o,do2,_,_,_,x.m,x.q,M'.ws,_,rfl,s3 _ _ eo2,h3.ar.mem,Bm lo' (I'.XQ λe he=> .inl he),by rw[aa,aj];lia,λl4 H4 s4 n4 e4=>hR _ _ ⟨l4,rfl,s4,i4 o3.pl n4,i4 o3.ag n4,?_⟩⟩;rw[e4,←Bu lo']
  ext _ H4 ⟨l4,rfl,s4,nl4,nl4',e4⟩;have s14:jo H H4:=s1.trans (s2.trans (s3.trans s4));have o4:=o.same s14;have h4:=h3.same s4;have e1':=s4 _ _ (s3 _ _ (s2 _ _ e1));have e2':=s4 _ _ (s3 _ _ e2);have e3':=s4 _ _ e3;exists σ'=[⇑u.d,⇑lr,↥O.length,⇑x.p,⇑l1,⇑l2,⇑l3,⇑l4,none,none]/\H4=H'
  ·refine uy (λK1 hK=> ?_) (hR _ _ ⟨rfl,rfl⟩);simp?[e1',e2',e3',e4,nV,aa,aj];rw[decide_eq_true ⋯];exact hK
  ext _ _ ⟨rfl,rfl⟩;have Bz:=I.Bz;have n3:=Ow.U2 o.nd;have eo4:=s14 _ _ eo;exists Y2 λ(v8:Option V) (P:List (Option Int))=>C6 (σ'=[⇑u.d,⇑lr,↥O.length,⇑x.p,⇑l1,⇑l2,⇑l3,⇑l4,v8,none]) ((∀b v,H4 b=some v->b≠u.lp->b≠u.la->H' b=some v)) (H' u.lp=some (.lst (P.map tv))) (H' u.la=some (.lst (ow.G.map ι))) (P.length=ow.G.length) (∀k,k<ow.G.length->P.getD k none=if ow.g k<2/\k∉F.map au then none else ow.p k)
  ·simp?[o4.dc,nh,o4.ag];refine⟨by rw[aa];lia,by rw[aa];lia,?_⟩;refine ke.vw (λi σ H'=>Y2 λ(v8:Option V) (P:List (Option Int))=>C6 (σ=[⇑u.d,⇑lr,↥O.length,⇑x.p,⇑l1,⇑l2,⇑l3,⇑l4,v8,none]) ((∀b v,H4 b=some v->b≠u.lp->b≠u.la->H' b=some v)) (H' u.lp=some (.lst (P.map tv))) (H' u.la=some (.lst (ow.G.map ι))) (P.length=ow.G.length) (∀k,k<ow.G.length->P.getD k none=if k<i/\ow.g k<2/\k∉F.map au then none else ow.p k))
    ⟨_,ow.P,rfl,λ_ _ h _ _=>h,o4.pl,o4.ag,I.lp,λk _=>by rw[if_neg λz=>absurd z.1 (cq _)];rfl⟩ ?_ ?_
   ·rintro i σ H5 hi ⟨v8,P,rfl,f5,p5,a5,l5,m5⟩ R2 hR2;rw[aa,aU]at hi;have at1:qh (ow.G.map ι) (0+(i:Int))=some (.int (ow.g i)):=by rw[bg];exact jI (Own.Bs hi)
    have dc5:=f5 _ _ o4.dc (jA o4.dc o4.pl) (jA o4.dc o4.ag);have or5:=f5 _ _ eo4 (ah nr1) (ah nr2);have fin0:¬(ow.g i<2/\i∉F.map au)->R2 [⇑u.d,⇑lr,↥O.length,⇑x.p,⇑l1,⇑l2,⇑l3,⇑l4,↥(0+(i:Int)),none] H5:=λz=>by
     refine hR2 _ _ ⟨_,P,rfl,f5,p5,a5,l5,λk hk=> ?_⟩;rw[m5 k hk];by_cases e:k=i
     ·subst e;rw[if_neg λy=>z y.2,if_neg λy=>z y.2]
     ·by_cases y:k<i/\ow.g k<2/\k∉F.map au
      ·rw[if_pos y,if_pos ⟨⋯,y.2⟩]
      ·rw[if_neg y,if_neg λy'=>y ⟨⋯,y'.2⟩]
    have at1:qh (ow.G.map ι) (i:Int)=some (.int (ow.g i)):=jI (Own.Bs hi);have ix:EK (P.map tv).length (i:Int)=some i:=sG ⋯ (by rw[aa];lia);rw[bg]at fin0;simp?[dc5,nh,kZ,a5,p5,at1,or5,bg,OI,ix];by_cases z1:ow.g i<2
    ·rw[if_pos z1];refine⟨rfl,LS,?_⟩;by_cases z2:i∈F.map au
     ·rw[if_neg λy=>y z2];exact fin0 λy=>y.2 z2
     ·rw[if_pos z2];refine hR2 _ _ ⟨_,P.set i none,rfl,λb v e b1 b2=>by rw[i7 b1];exact f5 b v e b1 b2,by rw[i8,ei];rfl,by rw[i7 (ah n3.1)];exact a5,by rw[aN];exact l5,λk hk=> ?_⟩;rw[Xe ⋯];by_cases e:i=k
      ·subst e;rw[if_pos rfl,if_pos ⟨⋯,z1,z2⟩]
      ·rw[if_neg e,m5 k hk];by_cases y:k<i/\ow.g k<2/\k∉F.map au
       ·rw[if_pos y,if_pos ⟨⋯,y.2⟩]
       ·rw[if_neg y,if_neg λy'=>y ⟨⋯,y'.2⟩]
    ·rw[if_neg z1];exact fin0 λy=>z1 y.1
   ·rintro σ H5 ⟨v8,P,rfl,f5,p5,a5,l5,m5⟩;rw[aa,aU]at m5;refine hR _ _ ⟨v8,P,rfl,f5,p5,a5,l5,λk hk=> ?_⟩;rw[m5 k hk];by_cases y:ow.g k<2/\k∉F.map au
    ·rw[if_pos y,if_pos ⟨hk,y⟩]
    ·rw[if_neg y,if_neg λy'=>y y'.2]
  ext _ H5 ⟨v8,P5,rfl,f5,p5,a5,l5,m5⟩;exists Y4 λ(v8 v9:Option V) (P:List (Option Int)) (G:List Int)=>C8 (σ'=[⇑u.d,⇑lr,↥O.length,⇑x.p,⇑l1,⇑l2,⇑l3,⇑l4,v8,v9]) ((∀b v,H4 b=some v->b≠u.lp->b≠u.la->H' b=some v)) (H' u.lp=some (.lst (P.map tv))) (H' u.la=some (.lst (G.map ι))) (P.length=ow.G.length) (G.length=ow.G.length) ((∀k,k<ow.G.length->P.getD k none=(lk Y' k).or (P5.getD k none))) (∀k,k<ow.G.length->G.getD k 0=if (lk Y' k).isSome then 1 else ow.g k)
  ·have uO:=f5 _ _ e1' (ah nl1) (ah nl1');have AV:=f5 _ _ e3' (ah nl3) (ah nl3');simp?[];refine⟨⟨_,kO.of uO⟩,⟨_,kO.of AV⟩,zl (x:=x) (f5 _ _ o4.dc (jA o4.dc o4.pl) (jA o4.dc o4.ag)) p5 a5 uO AV n3.1 nl1 nl1' nl3 nl3' l5 rfl (λe he=> ?_) ?_ λv8 v9 H6 P G f6 p6 a6 l6 g6 m6 m6'=>hR _ _ ⟨v8,v9,P,G,rfl,λb v e b1 b2=>f6 b v (f5 b v e b1 b2) b1 b2,p6,a6,l6,g6,m6,m6'⟩⟩
   ·rw[←hY]at he;exact kl e.1 (bu (f:=au) (List.mem_filter.mp he).1)
   ·rw[←hY];exact gr (iq _ gM) md.fn
  ext _ H6 ⟨v8',v9',P6,G6,rfl,f6,p6,a6,l6,g6,m6,m6'⟩;exists Y4 λ(v8 v9:Option V) (P:List (Option Int)) (G:List Int)=>C8 (σ'=[⇑u.d,⇑lr,↥O.length,⇑x.p,⇑l1,⇑l2,⇑l3,⇑l4,v8,v9]) ((∀b v,H4 b=some v->b≠u.lp->b≠u.la->H' b=some v)) (H' u.lp=some (.lst (P.map tv))) (H' u.la=some (.lst (G.map ι))) (P.length=ow.G.length) (G.length=ow.G.length) ((∀k,k<ow.G.length->P.getD k none=(lk G' k).or (P6.getD k none))) (∀k,k<ow.G.length->G.getD k 0=if (lk G' k).isSome then 2 else G6.getD k 0)
  ·have rY:=f6 _ _ e2' (ah nl2) (ah nl2');have UZ:=f6 _ _ e4 (ah nl4) (ah nl4');have cu:w_ (((O++G').map bN).map ι) (some (O.length:Int)) none=(G'.map bN).map ι:=by
    rw[Of (by rw[aa,aa,aj];lia),←eS,←eS,List.drop_left]
   simp?[Iq,UZ,cu];intro p hp;have s7:jo H6 (upd H6 p (.lst ((G'.map bN).map ι))):=jo.upd hp;have e7:upd H6 p (.lst ((G'.map bN).map ι)) p=some (.lst ((G'.map bN).map ι)):=i8;have n7:=i4 p6 hp;have n8:=i4 a6 hp;generalize upd H6 p (.lst ((G'.map bN).map ι))=H7 at*;refine⟨⟨_,kO.of (s7 _ _ rY)⟩,⟨_,kO.of e7⟩,zl (x:=x) (s7 _ _ (f6 _ _ o4.dc (jA o4.dc o4.pl) (jA o4.dc o4.ag))) (s7 _ _ p6) (s7 _ _ a6) (s7 _ _ rY) e7 n3.1 nl2 nl2' n7 n8 l6 g6 (λe he=> ?_) ?_ λv8 v9 H8 P G f8 p8 a8 l8 g8 m8 m8'=>hR _ _ ⟨v8,v9,P,G,rfl,λb v e b1 b2=>f8 b v (s7 _ _ (f6 b v e b1 b2)) b1 b2,p8,a8,l8,g8,m8,m8'⟩⟩
   ·rw[←hG]at he;exact kl e.1 (bu (f:=au) (List.mem_filter.mp he).1)
   ·rw[←hG];exact gr (iq _ gM) md.fn
  ext _ H7 ⟨v8',v9',P7,G7,rfl,f7,p7,a7,l7,g7,m7,m7'⟩;simp?[];have o7:=o4.XO f7 p7 a7;refine q H7 ⟨P7,G7,ow.S,ow.D⟩ ⟨rfl,rfl,by rw[I.lp];exact l7,g7,λk hk=> ?_,λk hk=> ?_⟩ (h4.Wd o4 f7) o7 λb v e b1 b2=>f7 b v (s14 _ _ e) b1 b2
  ·show P7.getD k none=_;rw[m7 k hk,m6 k hk,m5 k hk,←hG,←hY,sM,sM];have ag:=I.ag k hk;by_cases z2:ow.g k=2
   ·simp[z2]
   ·by_cases y:k∈F.map au
    ·obtain⟨qa,hq⟩:=my y;by_cases z1:ow.g k=1
     ·simp[z1,hq]
     ·simp[show ow.g k=0 by lia,hq]
    ·by_cases z1:ow.g k=1
     ·simp[z1,pL y];intro qa m;exact absurd (bu (f:=au) m) y
     ·simp[show ow.g k=0 by lia,pL y];intro qa m;exact absurd (bu (f:=au) m) y
  ·show G7.getD k 0=_;rw[m7' k hk,m6' k hk,←hG,←hY,sM,sM];have ag:=I.ag k hk;by_cases y:k∈F.map au
   ·rw[if_pos y];obtain⟨qa,hq⟩:=my y;have gk:=md.fg I (q_ hq);rw[hq];by_cases z1:ow.g k=1
    ·simp[z1]
    ·have z0:ow.g k=0:=by lia
     simp[z0]
   ·rw[if_neg y,pL y];by_cases z1:ow.g k=1<;>by_cases z0:ow.g k=0<;>simp[z1,z0]
structure NK(A:Ad)(H:Hp)(x:Ax)(M:Mem)(c:CS)(l:Addr):Prop where
 wh:Wx A H x (cM M c)
 cl:H l=some (.lst (c.cs.map ι))
 nm:l∉mx x
 wo:jZ c.ws
 l2:c.ws.length<=200
 oe:M.so.e<=c.ws.length
 se:M.ss.e<=c.ws.length
 c1:c.cs.length<=100
theorem NK.nq{A:Ad}{H:Hp}{x:Ax}{M:Mem}{c:CS}{l:Addr}(h:NK A H x M c l):l≠x.q:=(OY h.nm).1.1
theorem Oe{ws:List Int}{i t:Nat}{k n g:Int}(h:i<ws.length):(AI ws i t k n g).getD i 0=2*t+1:=by
 unfold AI;rw[GR (by rw[aN,uN];exact h)]
def Sa(A:Ad):Sp:=λvs H Q _=>Y5 λ(x:Ax) (M:Mem) (c:CS) (l:Addr) (u:Int)=>C5 (vs=[.ref x.p,.int u,.ref l]) (NK A H x M c l) (Qr M c u) ((c.ot<=9999/\c.st<=9999)) (∀H',Wx A H' x (cM M (ki M.sy c u))->H' l=some (.lst ((ki M.sy c u).cs.map ι))->Kx [l,x.q] H H'->jZ (ki M.sy c u).ws->Q (.int (mZ M.sy c u)) H')
theorem Mq:jg ["areas","word","copies","at"] ["areas","word","copies"] (i9 K8):=fsc
theorem Mf(T:Txt K mg A):CG P w K mg base true 11 "meet" ["areas","word","copies"] (Sa A):=by
 specialize T.K2.me Mq
 ·obtain⟨x,M,c,l,u,rfl,h,mo,t9,q⟩:=h;refine⟨_,kY.run (iY (ju (jS (jB (i5 (uW T).mono hr rfl hx (iW (iZ 0) (iW (iZ 1) iX))) (λ_=>rfl))) (i3 (jf (iZ 1))) jh)
   (iY (jr (i:=3) Mq.nd rfl lo (i5 (sh T).mono hr rfl hx (iW (iZ 1) iX)))
   (iY (ju (je z_ (i5 (Af T).mono hr rfl hx (iW (jd (iZ 0) rfl) (iW (iZ 3) iX))) j7 (jy _)) (i3 (jc (nP aZ a_ kr (iZ 2) (iW (i5 (EZ T).mono hr rfl hx (iW (iZ 0) (iW (iZ 3) iX))) iX)))) jh)
   (i3 (jf (i5 (O0 T).mono hr rfl hx (iW (jd (iZ 0) rfl) (iW (iZ 1) iX)))))))),?_⟩
  obtain⟨dp,ep⟩:=h.wh.ar.ob
  cases hy:oV M.sy u with
  |false=>
   refine q9 (λ_ _=>False) (λR _=> ?_) (λ_ _ z=>z.elim);simp?[];refine⟨x,_,u,rfl,h.wh,mo.kw,?_⟩;rw[show oV (cM M c).sy u=false from hy];have e1:ki M.sy c u=c:=by unfold ki;rw[hy];rfl
   have e2:mZ M.sy c u=u:=by unfold mZ;rw[hy];rfl
   rw[e1,e2]at q;simp?[];exact q H h.wh h.cl (Kx.refl H) h.wo
  |true=>
   have hp:mX u=true:=by unfold oV at hy;rw[bf]at hy;exact hy.1
   obtain⟨ev,u9,u0,eu⟩:=AX hp mo.kw;obtain⟨a0,a1,mc⟩:=mo.yg hy;exists σ'=[⇑x.p,↥u,⇑l,none]/\H=H'
   ·simp?[];refine⟨x,_,u,rfl,h.wh,mo.kw,?_⟩;rw[show oV (cM M c).sy u=true from hy];simp?[];exact hR _ _ ⟨rfl,rfl⟩
   ext _ _ ⟨rfl,rfl⟩;exists σ'=[⇑x.p,↥u,⇑l,↥(u/2)]/\H=H'
   ·simp?[];exact⟨_,_,rfl,ev,⋯,hR _ _ ⟨rfl,rfl⟩⟩
   ext _ _ ⟨rfl,rfl⟩;exists C7 (σ'=[⇑x.p,↥u,⇑l,↥(u/2)]) (Wx A H' x (cM M (ki M.sy c u))) (H' l=some (.lst ((ki M.sy c u).cs.map ι))) (Kx [l,x.q] H H') (jZ (ki M.sy c u).ws) (mX (mE (ki M.sy c u).ws (u/2))=true) ((ki M.sy c u).ws.length=c.ws.length)
   ·cases ip:mX (mE c.ws (u/2)) with
    |true=>
     have e1:ki M.sy c u=c:=by unfold ki;rw[hy,if_pos rfl,if_pos ip]
     rw[e1]at hR;simp?[ep,T.jC,T.jz,oo];refine⟨x.m,x.q,c.ws,_,rfl,h.wh.ar.mem,h.wo,a0,a1,?_⟩;rw[if_pos (show mX (c.ws.getD (u/2).toNat 0)=true from ip)];simp?[];exact hR _ _ ⟨rfl,h.wh,h.cl,Kx.refl H,h.wo,ip,rfl⟩
    |false=>
     obtain⟨n,cn,h1,h2⟩:=mc ip;obtain⟨_,n0,n34,n2,_⟩:=qu cn;simp?[ep,T.jC,T.jz,oo];refine⟨x.m,x.q,c.ws,_,rfl,h.wh.ar.mem,h.wo,a0,a1,?_⟩;rw[if_neg (show¬mX (c.ws.getD (u/2).toNat 0)=true by rw[show c.ws.getD (u/2).toNat 0=mE c.ws (u/2) from rfl,ip];intro z;cases z)]
     refine⟨n,cn,?_⟩;simp?[h.cl];refine⟨x,M,c,u/2,n,rfl,h.wh,h.wo,h.l2,h.oe,h.se,a0,a1,mo.o0,mo.s0,cn,h1,h2,λH1 k1 w1=> ?_⟩;have l1:=k1 l _ h.cl rfl (by simpa using h.nq);have c1:=h.c1;have mc':ki M.sy c u=if n%4=0 then⟨AI c.ws (u/2).toNat c.st.toNat (n/4+1) n 1,c.ot,c.st+(n/4+1),c.cs++[c.st]⟩ else⟨AI c.ws (u/2).toNat c.ot.toNat (n/4+1) n 2,c.ot+(n/4+1),c.st,c.cs++[c.ot]⟩:=by
      unfold ki;rw[hy,if_pos rfl,ip,if_neg (by intro z;cases z),cn]
     have t0:=mo.o0;have t1:=mo.s0;have kx:∀{ys:List V},Kx [l,x.q] H (upd H1 l (.lst ys)):=λ{ys} b v eb kb nb=>by
      rw[aP,not_or]at nb;rw[i7 nb.1];exact k1 b v eb kb nb.2
     rw[mc']at hR;by_cases z:n%4=0
     ·rw[if_pos z]at hR w1⊢;simp?[l1];refine⟨by rw[aa];exact aT c1 (by decide),hR _ _ ⟨rfl,w1.row l1 h.nm,?_,kx,Ko h.wo n0 n34 (by decide) (by decide) (by omega),?_,GG⟩⟩
      ·rw[i8,aB];rfl
      ·show mX (List.getD _ _ _)=true;rw[Oe ⋯];exact sE ⋯
     ·rw[if_neg z]at hR w1⊢;simp?[l1];refine⟨by rw[aa];exact aT c1 (by decide),hR _ _ ⟨rfl,w1.row l1 h.nm,?_,kx,Ko h.wo n0 n34 (by decide) (by decide) (by omega),?_,GG⟩⟩
      ·rw[i8,aB];rfl
      ·show mX (List.getD _ _ _)=true;rw[Oe ⋯];exact sE ⋯
   ext _ H1 ⟨rfl,w1,l1,k1,o1,p1,n1⟩;obtain⟨dp1,ep1⟩:=w1.ar.ob;simp?[ep1,T.jC,T.jz,oo];have e:=q H1 w1 l1 k1 o1;unfold mZ at e;rw[if_pos hy]at e;exact⟨x.m,x.q,_,u,rfl,w1.ar.mem,o1,mo.kw,hp,show u/2<((ki M.sy c u).ws.length:Int) by rw[n1];exact a1,p1,e⟩
noncomputable def lx (x:Ax) (u:Ow):List Addr:=mx x++u.d::u.as
theorem X9{x:Ax}{y s d b:Addr}(h:b∈mx {x with y:=y,s:=s,d:=d}):b∈mx x∨b=d:=by
 simp only[mx,aP,aG,or_false]at h⊢;rcases h with h|h|h|h|h|h<;>simp[h]
theorem j3.dn{H:Hp}{x:Ax}{u:Ow}{w:Own}{y s d:Addr}(o:j3 H x u w)(n:∀b v,H b=some v->Hq v=true->b≠d):j3 H {x with y:=y,s:=s,d:=d} u w:=
 {o with
  nm:=λa ha z=>by
   rcases X9 z with z|z
   ·exact o.nm a ha z
   ·rcases List.mem_cons.mp ha with rfl|ha
    ·exact n _ _ o.dc rfl z
    ·obtain⟨ys,e⟩:=o.ll ha;exact n _ _ e rfl z}
def Ih(A:Ad):Sp:=λvs H Q _=>Y7 λ(x:Ax) (u:Ow) (ow:Own) (M:Mem) (O Y:List (Nat×Int)) (c:Int)=>C6 (vs=[.ref u.d,.int c]) (Wx A H x M) (j3 H x u ow) (In ow M O Y) (ow.G.length<20) (∀(H':Hp) (u':Ow) (ow':Own) (M':Mem) (O' Y':List (Nat×Int)),Wx A H' x M'->j3 H' x u' ow'->In ow' M' O' Y'->(u'.d=u.d/\u'.more=u.more)->(ow'=ow∨∃a g n,ow'=ow.lay a g n)->(M'.os=M.os/\M'.ts=M.ts/\M'.sd=M.sd)->qU (lx x u) H H' (lx x u')->Q .non H')
theorem ue:jg ["_law_own","_law_cell","_law_areas","_law_slots"] ["_law_own","_law_cell"] (i9 vI):=fsc
theorem A6(T:Txt K mg A):CG P w K mg base true 11 "_law_laid" ["_law_own","_law_cell"] (Ih A):=by
 specialize T.vk.me ue
 ·obtain⟨x,u,ow,M,O,Y,c,rfl,h,o,I,l10,q⟩:=h;refine⟨_,kY.run (iY (jr (i:=2) ue.nd rfl lo (jb (iZ 0) i_))
   (iY (jr (i:=3) ue.nd rfl lo (FY (iW (ja jU (ja lE (iZ 1) i6) i6) (iW (ja jU (ja lE (iZ 1) i6) i6) iX)) (qj Rg (by rfl) T.Jq ζn (iW (nM lj (ja jU (iZ 1) i6) i6 (jy _)) iX)) (λ_ _=>rfl)))
   (iY (ju (je p_ (j4 (jd (iZ 2) rfl) T.j5 (rd T).mono hr hx) (ja jM (ja jM (j4 (jd (iZ 2) rfl) T.j5 (wI T).mono hr hx) (iZ 3)) i6) (jy _)) (i3 MY) jh)
   (i3 (ju (je lj (ja jU (iZ 1) i6) i6 (jy _)) (iY (jc (nP aZ a_ kr (jb (iZ 0) i_) (iW (jw (iZ 2) T.jC (BC T).mono hr hx (iW (iZ 3) iX)) iX)))
   (iY (jc (nP aZ a_ kr (jb (iZ 0) i_) (iW i6 iX)))
   (i3 (jc (nP aZ a_ kr (jb (iZ 0) i_) (iW (ja AZ (kh (iW j7 iX)) (iZ 3)) iX)))))) (i3 (ju (k_ (mv (je lj (ja jU (iZ 1) i6) i6 (jy _)) (ox (je Dr (j4 (jd (iZ 2) rfl) T.j5 (rd T).mono hr hx) (iZ 3) (jy _))))) (iY (jc (nP aZ a_ kr (jb (iZ 0) i_) (iW (jw (iZ 2) T.jC (Ac T).mono hr hx (iW (iZ 3) iX)) iX)))
   (iY (jc (nP aZ a_ kr (jb (iZ 0) i_) (iW (ja jU (ja lE (iZ 1) i6) i6) iX)))
   (iY (jc (i5 (Ho T).mono hr rfl hx (iW (jd (iZ 2) rfl) (iW (jv jE (jb (iZ 0) i_) (G8 G4 i6)) (iW (jv jE (jb (iZ 0) i_) (G8 G4 i6)) iX)))))
   (i3 (jc (nP aZ a_ kr (jb (iZ 0) i_) (iW (ja AZ (kh (iW j7 iX)) (iZ 3)) iX))))))) jh))))))),?_⟩
  show pE _ _ _ [⇑u.d,↥c,none,none] H;obtain⟨da,ea⟩:=h.ar.ob;obtain⟨do1,eo⟩:=h.ar.old;obtain⟨dy1,ey⟩:=h.ar.oV;exists σ'=[⇑u.d,↥c,⇑x.p,none]/\H=H'
  ·simp?[o.dc,Jw];exact hR _ _ ⟨rfl,rfl⟩
  ext _ _ ⟨rfl,rfl⟩;have sj:Q .non H:=q H u ow M O Y h o I ⟨rfl,rfl⟩ (.inl rfl) ⟨rfl,rfl,rfl⟩ (qU.of (Kx.refl H));exists ∃n:Nat,C3 (σ'=[⇑u.d,↥c,⇑x.p,↥n]) (H=H') (n<=8)
  ·by_cases c7:c%7=3
   ·simp?[c7];intro p hp;rw[K4 hp];exact hR _ _ ⟨(c/2%9).toNat,by rw[cJ ⋯],rfl,by clear c7;lia⟩
   ·simp?[c7];intro p hp;rw[K4 hp];exact hR _ _ ⟨(c/2%4).toNat,by rw[cJ ⋯],rfl,⋯⟩
  ext _ _ ⟨n,rfl,rfl,n8⟩;by_cases z:M.so.e-M.so.t<M.sy.t-M.sy.b+n+1
  ·refine q9 (λ_ _=>False) (λR _=> ?_) (λ_ _ z=>z.elim);simp?[ea,T.jC,T.kQ,CZ,eo,vR];refine⟨x.o,do1,_,_,_,rfl,eo,?_⟩;simp?[ea,T.jC,T.jL,ux,ey,Ea];refine⟨x.y,dy1,_,_,_,rfl,ey,?_⟩;simp?[z];exact sj
  exists σ'=[⇑u.d,↥c,⇑x.p,↥n]/\H=H'
  ·simp?[ea,T.jC,T.kQ,CZ,eo,vR];refine⟨x.o,do1,_,_,_,rfl,eo,?_⟩;simp?[ea,T.jC,T.jL,ux,ey,Ea];refine⟨x.y,dy1,_,_,_,rfl,ey,?_⟩;simp?[z];exact hR _ _ ⟨rfl,rfl⟩
  ext _ _ ⟨rfl,rfl⟩;have f:=I.fr;have f1:=f.hv;have f2:=f.ot;have f3:=f.o0;have f4:=f.yw;have f5:=f.y0;have f6:=f.yt;have f7:=f.l2;have pP:(ow.P.map tv).length<=20:=by rw[aa,I.lp];lia
  have n3:=Ow.U2 o.nd;have fin:∀{a g:Int} {M2:Mem} {H2 H3:Hp} {O' Y':List (Nat×Int)} {nr:Addr},Wx A H2 x M2->(∀b v,H b=some v->Hq v=true->b≠x.q->H2 b=some v)->In (ow.lay a g n) M2 O' Y'->H nr=none->(∀b v,H2 b=some v->b≠u.lp->b≠u.la->b≠u.ls->H3 b=some v)->H3 u.lp=some (.lst ((ow.P++[some a]).map tv))->H3 u.la=some (.lst ((ow.G++[g]).map ι))->H3 u.ls=some (.lst ((u.rs++[nr]).map ξ))->H3 nr=some (.lst (ak n .non))->(M2.os=M.os/\M2.ts=M.ts/\M2.sd=M.sd)->Q .non H3:=λ{a g M2 H2 H3 O' Y' nr} w2 k2 I2 hnr g' e1 e2 e3 e4 hM=>by
   have o2:=o.go h (H':=H2) λb v e k n=>k2 b v e k λz=>n (by rw[z];exact ax ..);refine q _ {u with rs:=u.rs++[nr]} (ow.lay a g n) M2 O' Y' (w2.Xv o2 g') (o.lay hnr (h.new hnr) (λb v e k b0 b1 b2 b3=>g' b v (k2 b v e k b0) b1 b2 b3) ⟨_,h.ar.mem.ls⟩ e1 e2 e3 e4 I.ls) I2 ⟨rfl,rfl⟩ (.inr ⟨_,_,_,rfl⟩) hM ⟨λb v e k z=> ?_,λb hb=> ?_⟩
   ·have n2:∀a∈lx x u,b≠a:=λa ha y=>z (by rw[y];exact ha);exact g' b v (k2 b v e k (n2 _ (by simp[lx,mx]))) (n2 _ (by simp[lx,Ow.as])) (n2 _ (by simp[lx,Ow.as])) (n2 _ (by simp[lx,Ow.as]))
   ·have hb:b∈mx x++(u.d::u.as++[nr]):=hb;rw[←cj]at hb;rcases List.mem_append.mp hb with hb|hb
    ·exact .inl hb
    ·exact .inr λv e=>by rw[List.mem_singleton.mp hb,hnr]at e;cases e
  cases c2:decide (c%2=0) with
  |true=>
   have c2:=of_decide_eq_true c2;refine sD (λK1 hK=>by simp?[c2];exact hK) ?_;exists σ'=[⇑u.d,↥c,⇑x.p,↥n]/\∃H2,(∀b,H2 b=none->H b=none)/\Wx A H2 x {M with ws:=j8 M.ws M.so.t.toNat n 2,so:=⟨M.so.b,M.so.e,M.so.t+(n+1)⟩}/\(∀b v,H b=some v->Hq v=true->b≠x.q->H2 b=some v)/\H'=upd H2 u.lp (.lst ((ow.P++[some M.so.t]).map tv))
   ·simp?[o.dc,kZ,ea,SN,o.pl];refine⟨x.p,x.m,x.q,x.o,x.y,x.s,M.ws,M.so,M.sy,M.ss,n,rfl,h.ar,⋯,f3,⋯,⋯,⋯,⋯,?_⟩;intro H2 a2 f2';have e2:=f2' _ _ o.pl (o.ne _ (by simp[Ow.as])).1 (jA o.pl eo);rw[e2];refine⟨aT pP (by decide),hR _ _ ⟨rfl,H2,λb hb=> ?_,h.Gu a2 λb v e n1 n2 _=>f2' b v e n1 (BB e eo n2 (by kernel_rfl)),λb v e k n1=>f2' b v e n1 (λy=>by rw[y,eo]at e;cases e;cases k),?_⟩⟩
    ·obtain⟨_,eo2⟩:=a2.old
     cases e:H b with
     |none=>rfl
     |some v=>
      rw[f2' b v e (λy=>by rw[y,a2.mem.ls]at hb;cases hb) (λy=>by rw[y,eo2]at hb;cases hb)]at hb
      cases hb
    ·rw[aB];rfl
   ext _ _ ⟨rfl,H2,b2,w2,k2,rfl⟩;have o2:=o.go h (H':=H2) λb v e k n=>k2 b v e k λz=>n (by rw[z];exact ax ..);exists σ'=[⇑u.d,↥c,⇑x.p,↥n]/\H'=upd (upd H2 u.lp (.lst ((ow.P++[some M.so.t]).map tv))) u.la (.lst ((ow.G++[2]).map ι))
   ·have d3:upd H2 u.lp (.lst ((ow.P++[some M.so.t]).map tv)) u.d=some (.dK (wt x.p x.r u)):=by rw[i7 (jA o2.dc o2.pl)];exact o2.dc
    have a3:upd H2 u.lp (.lst ((ow.P++[some M.so.t]).map tv)) u.la=some (.lst (ow.G.map ι)):=by rw[i7 (ah n3.1)];exact o2.ag
    generalize upd H2 u.lp (.lst ((ow.P++[some M.so.t]).map tv))=H3 at*;simp?[d3,nh,a3];refine⟨aT (show _<=20 by rw[aa];lia) (by decide),hR _ _ ⟨rfl,?_⟩⟩;rw[aB];rfl
   ext _ _ ⟨rfl,rfl⟩;have d4:upd (upd H2 u.lp (.lst ((ow.P++[some M.so.t]).map tv))) u.la (.lst ((ow.G++[2]).map ι)) u.d=some (.dK (wt x.p x.r u)):=by rw[i7 (jA o2.dc o2.ag),i7 (jA o2.dc o2.pl)];exact o2.dc
   have s4:upd (upd H2 u.lp (.lst ((ow.P++[some M.so.t]).map tv))) u.la (.lst ((ow.G++[2]).map ι)) u.ls=some (.lst (u.rs.map ξ)):=by rw[i7 n3.2.2.1,i7 n3.2.1];exact o2.sl
   have p4:upd (upd H2 u.lp (.lst ((ow.P++[some M.so.t]).map tv))) u.la (.lst ((ow.G++[2]).map ι)) u.lp=some (.lst ((ow.P++[some M.so.t]).map tv)):=by rw[i7 n3.1,i8]
   have a4:upd (upd H2 u.lp (.lst ((ow.P++[some M.so.t]).map tv))) u.la (.lst ((ow.G++[2]).map ι)) u.la=some (.lst ((ow.G++[2]).map ι)):=i8;have g4:∀b v,H2 b=some v->b≠u.lp->b≠u.la->upd (upd H2 u.lp (.lst ((ow.P++[some M.so.t]).map tv))) u.la (.lst ((ow.G++[2]).map ι)) b=some v:=λb v e b1 b2=>by rw[i7 b2,i7 b1];exact e
   have b4:∀b,upd (upd H2 u.lp (.lst ((ow.P++[some M.so.t]).map tv))) u.la (.lst ((ow.G++[2]).map ι)) b=none->H b=none:=λb hb=>b2 b (jT (jT hb).2).2;generalize upd (upd H2 u.lp (.lst ((ow.P++[some M.so.t]).map tv))) u.la (.lst ((ow.G++[2]).map ι))=H4 at*;simp?[d4,uA,s4];intro p hp;refine⟨⋯,⋯,aA (show _<=8 by lia) (by decide),λnr hnr=> ?_⟩;obtain⟨nrp,hnr4⟩:=jT hnr;have s6:jo H4 (upd (upd H4 p (.lst [.non])) nr (.lst (ak n .non))):=λb v e=>by rw[i7 (i4 e hnr4),i7 (i4 e hp)];exact e
   rw[aU,uQ];have e6:upd (upd H4 p (.lst [.non])) nr (.lst (ak n .non)) nr=some (.lst (ak n .non)):=i8;generalize upd (upd H4 p (.lst [.non])) nr (.lst (ak n .non))=H6 at*;rw[s6 _ _ s4];have nls:=i4 s4 hnr4;refine⟨aT (show _<=20 by rw[aa,o.rl,I.ls];lia) (by decide),fin w2 k2 (I.lay (a:=M.so.t) (g:=2) (so:=⟨M.so.b,M.so.e,M.so.t+(n+1)⟩) (sy:=M.sy) n8 l10 (by decide) (by decide) f3 ⋯ ?_ (.inl ⟨rfl,rfl,rfl⟩) ?_ ?_ λk b m=> ?_) (b4 nr hnr4) (λb v e b1 b2 b3=>by rw[i7 b3];exact s6 _ _ (g4 b v e b1 b2)) ?_ ?_ ?_ ?_ ?_⟩
   ·refine⟨by show(j8 _ _ _ _).length<=200;rw[pv];exact f7,f.ob,by show 0<=M.so.t+_;lia,by show M.so.t+_<=M.so.e;lia,?_,f4,f5,f6,f.st,by show M.sy.t-M.sy.b<=M.so.e-(M.so.t+_);lia,f.Rt⟩;show(M.sy.b=M.so.e/\M.ss.b=M.sy.e/\M.ss.e=((j8 _ _ _ _).length:Int))∨(M.ss.b=M.so.e/\M.sy.b=M.ss.e/\M.sy.e=((j8 _ _ _ _).length:Int));rw[pv];exact f1
   ·have e:=wb (k:=ow.G.length) (I.L8 (a:=M.so.t) (g:=2) (n:=n)).1;rw[(Own.lay_z (k:=0) I.ls).2]at e;exact e
   ·exact I.L8.2
   ·rcases m with m|m
    ·have:=I.O4 m;lia
    ·have:=I.Qi m;lia
   ·rw[i7 (ah n3.2.1)];exact s6 _ _ p4
   ·rw[i7 (ah n3.2.2.1)];exact s6 _ _ a4
   ·rw[i8,aB];rfl
   ·rw[i7 (ah nls)];exact e6
   ·exact⟨rfl,rfl,rfl⟩
  |false=>
   have c2:=of_decide_eq_false c2;refine uy (λK1 hK=>by simp?[c2];exact hK) ?_;by_cases zy:M.sy.e-M.sy.t>n
   ·refine sD (λK1 hK=> ?_) ?_
    ·simp?[show c%2=1 by lia,ea,T.jC,T.jL,ux,ey,vR];refine⟨x.y,dy1,_,_,_,rfl,ey,?_⟩;show K1 (decide ((n:Int)<M.sy.e-M.sy.t)) H;rw[decide_eq_true zy];exact hK
    exists σ'=[⇑u.d,↥c,⇑x.p,↥n]/\∃H2,(∀b,H2 b=none->H b=none)/\Wx A H2 x {M with ws:=j8 M.ws M.sy.t.toNat n 0,sy:=⟨M.sy.b,M.sy.e,M.sy.t+(n+1)⟩}/\(∀b v,H b=some v->Hq v=true->b≠x.q->H2 b=some v)/\H'=upd H2 u.lp (.lst ((ow.P++[some M.sy.t]).map tv))
    ·simp?[o.dc,kZ,ea,SO,o.pl];refine⟨x.p,x.m,x.q,x.o,x.y,x.s,M.ws,M.so,M.sy,M.ss,n,rfl,h.ar,⋯,⋯,by clear zy z;lia,⋯,⋯,⋯,?_⟩;intro H2 a2 f2';have e2:=f2' _ _ o.pl (o.ne _ (by simp[Ow.as])).1 (jA o.pl ey);rw[e2];refine⟨aT pP (by decide),hR _ _ ⟨rfl,H2,λb hb=> ?_,h.Gu a2 λb v e n1 n2 _=>f2' b v e n1 (BB e ey n2 (by kernel_rfl)),λb v e k n1=>f2' b v e n1 (λy=>by rw[y,ey]at e;cases e;cases k),?_⟩⟩
     ·obtain⟨_,ey2⟩:=a2.oV
      cases e:H b with
      |none=>rfl
      |some v=>
       rw[f2' b v e (λy=>by rw[y,a2.mem.ls]at hb;cases hb) (λy=>by rw[y,ey2]at hb;cases hb)]at hb
       cases hb
     ·rw[aB];rfl
    ext _ _ ⟨rfl,H2,b2,w2,k2,rfl⟩;have o2:=o.go h (H':=H2) λb v e k n=>k2 b v e k λz=>n (by rw[z];exact ax ..);have gg:0<=c/18%2/\c/18%2<=1:=by lia
    generalize hgg:c/18%2=g at*;exists σ'=[⇑u.d,↥c,⇑x.p,↥n]/\H'=upd (upd H2 u.lp (.lst ((ow.P++[some M.sy.t]).map tv))) u.la (.lst ((ow.G++[g]).map ι))
    ·have d3:upd H2 u.lp (.lst ((ow.P++[some M.sy.t]).map tv)) u.d=some (.dK (wt x.p x.r u)):=by rw[i7 (jA o2.dc o2.pl)];exact o2.dc
     have a3:upd H2 u.lp (.lst ((ow.P++[some M.sy.t]).map tv)) u.la=some (.lst (ow.G.map ι)):=by rw[i7 (ah n3.1)];exact o2.ag
     generalize upd H2 u.lp (.lst ((ow.P++[some M.sy.t]).map tv))=H3 at*;simp?[d3,nh,a3,hgg];refine⟨aT (show _<=20 by rw[aa];lia) (by decide),hR _ _ ⟨rfl,?_⟩⟩;rw[aB];rfl
    ext _ _ ⟨rfl,rfl⟩;have d4:upd (upd H2 u.lp (.lst ((ow.P++[some M.sy.t]).map tv))) u.la (.lst ((ow.G++[g]).map ι)) u.d=some (.dK (wt x.p x.r u)):=by rw[i7 (jA o2.dc o2.ag),i7 (jA o2.dc o2.pl)];exact o2.dc
    have s4:upd (upd H2 u.lp (.lst ((ow.P++[some M.sy.t]).map tv))) u.la (.lst ((ow.G++[g]).map ι)) u.ls=some (.lst (u.rs.map ξ)):=by rw[i7 n3.2.2.1,i7 n3.2.1];exact o2.sl
    have p4:upd (upd H2 u.lp (.lst ((ow.P++[some M.sy.t]).map tv))) u.la (.lst ((ow.G++[g]).map ι)) u.lp=some (.lst ((ow.P++[some M.sy.t]).map tv)):=by rw[i7 n3.1,i8]
    have a4:upd (upd H2 u.lp (.lst ((ow.P++[some M.sy.t]).map tv))) u.la (.lst ((ow.G++[g]).map ι)) u.la=some (.lst ((ow.G++[g]).map ι)):=i8;have g4:∀b v,H2 b=some v->b≠u.lp->b≠u.la->upd (upd H2 u.lp (.lst ((ow.P++[some M.sy.t]).map tv))) u.la (.lst ((ow.G++[g]).map ι)) b=some v:=λb v e b1 b2=>by rw[i7 b2,i7 b1];exact e
    have b4:∀b,upd (upd H2 u.lp (.lst ((ow.P++[some M.sy.t]).map tv))) u.la (.lst ((ow.G++[g]).map ι)) b=none->H b=none:=λb hb=>b2 b (jT (jT hb).2).2;have w4:Wx A (upd (upd H2 u.lp (.lst ((ow.P++[some M.sy.t]).map tv))) u.la (.lst ((ow.G++[g]).map ι))) x {M with ws:=j8 M.ws M.sy.t.toNat n 0,sy:=⟨M.sy.b,M.sy.e,M.sy.t+(n+1)⟩}:=w2.Wd o2 g4;generalize upd (upd H2 u.lp (.lst ((ow.P++[some M.sy.t]).map tv))) u.la (.lst ((ow.G++[g]).map ι))=H4 at*;exists σ'=[⇑u.d,↥c,⇑x.p,↥n]/\H'=upd H4 x.q (.lst ((j8 M.ws M.sy.t.toNat n g).map ι))
    ·obtain⟨da4,ea4⟩:=w4.ar.ob;have l1:qh (iy tv (ow.P++[some M.sy.t])) (-1)=some (.int M.sy.t):=by rw[aB];exact IG _ _
     have l2:qh (iy ι (ow.G++[g])) (-1)=some (.int g):=by rw[aB];exact IG _ _
     simp?[ea4,T.jC,T.jz,oo,d4,kZ,nh,p4,a4,l1,l2];refine⟨x.m,x.q,j8 M.ws M.sy.t.toNat n 0,M.sy.t,g,_,rfl,w4.ar.mem,⋯,IM n8 ⋯ (by decide) (by decide),gg.1,⋯,?_⟩;refine hR _ _ ⟨rfl,?_⟩;congr 3;show(j8 M.ws M.sy.t.toNat n 0).set M.sy.t.toNat (2*(4*((4*(n:Int)+0)/4)+g))=j8 M.ws M.sy.t.toNat n g;unfold j8;rw[List.set_set,show(4*(n:Int)+0)/4=n by lia]
    ext _ _ ⟨rfl,rfl⟩;have nq1:=λb hb=>(o.ne b hb).1;have f5':∀b v,H4 b=some v->b≠x.q->upd H4 x.q (.lst ((j8 M.ws M.sy.t.toNat n g).map ι)) b=some v:=λb v e n=>qp e n;have d5:=f5' _ _ d4 (jA d4 w4.ar.mem.ls);have s5:=f5' _ _ s4 (nq1 _ (by simp[Ow.as]));have p5:=f5' _ _ p4 (nq1 _ (by simp[Ow.as]));have a5:=f5' _ _ a4 (nq1 _ (by simp[Ow.as]));have q5:upd H4 x.q (.lst ((j8 M.ws M.sy.t.toNat n g).map ι)) x.q=some (.lst ((j8 M.ws M.sy.t.toNat n g).map ι)):=i8;have b5:∀b,upd H4 x.q (.lst ((j8 M.ws M.sy.t.toNat n g).map ι)) b=none->H b=none:=λb hb=>b4 b (jT hb).2;have w2':Wx A (upd H2 x.q (.lst ((j8 M.ws M.sy.t.toNat n g).map ι))) x {M with ws:=j8 M.ws M.sy.t.toNat n g,sy:=⟨M.sy.b,M.sy.e,M.sy.t+(n+1)⟩}:=by
     have f:∀b v,H2 b=some v->b≠x.q->upd H2 x.q (.lst ((j8 M.ws M.sy.t.toNat n g).map ι)) b=some v:=λb v e n=>qp e n;obtain⟨dm2,em2⟩:=w2.ar.mem.ob;refine w2.Gu (w2.ar.wr ⟨⟨dm2,?_⟩,i8⟩ f) λb v e n _ _=>f b v e n;have e:=f _ _ em2 (jA em2 w2.ar.mem.ls);rw[show((j8 M.ws M.sy.t.toNat n 0).length:Int)=((j8 M.ws M.sy.t.toNat n g).length:Int) by rw[pv,pv]]at e;exact e
    generalize upd H4 x.q (.lst ((j8 M.ws M.sy.t.toNat n g).map ι))=H5 at*;simp?[d5,uA,s5];intro p hp;refine⟨⋯,⋯,aA (show _<=8 by lia) (by decide),λnr hnr=> ?_⟩;obtain⟨nrp,hnr4⟩:=jT hnr;have s6:jo H5 (upd (upd H5 p (.lst [.non])) nr (.lst (ak n .non))):=λb v e=>by rw[i7 (i4 e hnr4),i7 (i4 e hp)];exact e
    rw[aU,uQ];have e6:upd (upd H5 p (.lst [.non])) nr (.lst (ak n .non)) nr=some (.lst (ak n .non)):=i8;generalize upd (upd H5 p (.lst [.non])) nr (.lst (ak n .non))=H6 at*;rw[s6 _ _ s5];have nls:=i4 s5 hnr4;refine⟨aT (show _<=20 by rw[aa,o.rl,I.ls];lia) (by decide),fin w2' (λb v e k n=>by rw[i7 n];exact k2 b v e k n) (I.lay (a:=M.sy.t) (g:=g) (so:=M.so) (sy:=⟨M.sy.b,M.sy.e,M.sy.t+(n+1)⟩) n8 l10 gg.1 ⋯ ⋯ (by clear z;lia) ?_ (.inr ⟨⋯,rfl,rfl⟩) I.L8.1 ?_ λk b m=> ?_) (b5 nr hnr4) (λb v e b1 b2 b3=> ?_) ?_ ?_ ?_ ?_ ?_⟩
    ·refine⟨by show(j8 _ _ _ _).length<=200;rw[pv];exact f7,f.ob,f3,f2,?_,by show M.sy.e-M.sy.b=_;exact f4,by show M.sy.b<=M.sy.t+_;lia,by show M.sy.t+_<=M.sy.e;lia,f.st,by show M.sy.t+_-M.sy.b<=M.so.e-M.so.t;lia,f.Rt⟩;show(M.sy.b=M.so.e/\M.ss.b=M.sy.e/\M.ss.e=((j8 _ _ _ _).length:Int))∨(M.ss.b=M.so.e/\M.sy.b=M.ss.e/\M.sy.e=((j8 _ _ _ _).length:Int));rw[pv];exact f1
    ·have e:=wb (k:=ow.G.length) (I.L8 (a:=M.sy.t) (g:=g) (n:=n)).2;rw[(Own.lay_z (k:=0) I.ls).2]at e;exact e
    ·rcases m with m|m
     ·have:=I.O4 m;lia
     ·have:=I.Qi m;lia
    ·rw[i7 b3];refine s6 _ _ ?_;by_cases y:b=x.q
     ·subst y;rw[i8]at e;cases e;exact q5
     ·rw[i7 y]at e;exact f5' b v (g4 b v e b1 b2) y
    ·rw[i7 (ah n3.2.1)];exact s6 _ _ p5
    ·rw[i7 (ah n3.2.2.1)];exact s6 _ _ a5
    ·rw[i8,aB];rfl
    ·rw[i7 (ah nls)];exact e6
    ·exact⟨rfl,rfl,rfl⟩
   ·refine uy (λK1 hK=> ?_) ?_
    ·simp?[show c%2=1 by lia,ea,T.jC,T.jL,ux,ey,vR];refine⟨x.y,dy1,_,_,_,rfl,ey,?_⟩;show K1 (decide ((n:Int)<M.sy.e-M.sy.t)) H;rw[decide_eq_false zy];exact hK
    ·exact sj
structure CB(x:Own)(O:List (Nat×Int))(i j:Nat)(ds:List Int):Prop where
 nd:ds.Nodup
 fr:∀q∈ds,∃k a m,(k,a)∈O/\m<(x.s k).length/\q=a+1+(m:Nat)/\GZ x (x.t k m)=true/\(k<i∨k=i/\m<j)
 to:∀k a m,(k,a)∈O->m<(x.s k).length->GZ x (x.t k m)=true->(k<i∨k=i/\m<j)->a+1+(m:Nat)∈ds
section
variable{x:Own}{M:Mem}{O Y:List (Nat×Int)}{i j:Nat}{ds:List Int}{a:Int}
theorem CB.nil:CB x O 0 0 []:=⟨bB,(λ_ z=>nomatch z),λk a m _ _ _ z=>by lia⟩
theorem CB.XN(b:CB x O i j ds){i' j':Nat}(h:∀k a m,(k,a)∈O->m<(x.s k).length->GZ x (x.t k m)=true->((k<i∨k=i/\m<j)↔(k<i'∨k=i'/\m<j'))):CB x O i' j' ds:=
 ⟨b.nd,λq hq=>by
  obtain⟨k,a,m,h1,h2,h3,h4,h5⟩:=b.fr q hq;exact⟨k,a,m,h1,h2,h3,h4,(h k a m h1 h2 h4).mp h5⟩,λk a m h1 h2 h4 h5=>b.to k a m h1 h2 h4 ((h k a m h1 h2 h4).mpr h5)⟩
theorem CB.skip(b:CB x O i j ds)(h:GZ x (x.t i j)=false):CB x O i (j+1) ds:=b.XN λk a m _ _ y=>by
 by_cases e:k=i/\m=j
 ·rw[e.1,e.2,h]at y;cases y
 ·lia
theorem CB.none(b:CB x O i 0 ds)(h:∀a,(i,a)∉O):CB x O (i+1) 0 ds:=b.XN λk a m m1 _ _=>by
 by_cases e:k=i
 ·rw[e]at m1;exact absurd m1 (h a)
 ·lia
theorem CB.next(b:CB x O i j ds)(h:j=(x.s i).length):CB x O (i+1) 0 ds:=b.XN λk a m _ m2 _=>by
 by_cases e:k=i
 ·subst e;lia
 ·lia
theorem CB.add(b:CB x O i j ds)(I:In x M O Y)(m:(i,a)∈O)(hj:j<(x.s i).length)(y:GZ x (x.t i j)=true):CB x O i (j+1) (ds++[a+1+(j:Nat)]):=by
 refine⟨List.nodup_append.mpr ⟨b.nd,List.nodup_cons.mpr ⟨aG,bB⟩,λu hu v hv e=> ?_⟩,λq hq=> ?_,λk a' m' h1 h2 h4 h5=> ?_⟩
 ·rw[az]at hv;subst hv;subst e;obtain⟨k,a',m',h1,h2,h3,h4,h5⟩:=b.fr _ hu;have d:=oH x.z1 I.lo m h1 (i:=a+1+j) ⋯ (by unfold Own.z;lia) ⋯ (by unfold Own.z;lia);lia
 ·rcases List.mem_append.mp hq with hq|hq
  ·obtain⟨k,a',m',h1,h2,h3,h4,h5⟩:=b.fr q hq;exact⟨k,a',m',h1,h2,h3,h4,⋯⟩
  ·exact⟨i,a,j,m,hj,List.mem_singleton.mp hq,y,⋯⟩
 ·by_cases e:k=i/\m'=j
  ·obtain⟨rfl,rfl⟩:=e;have:=((I.oe k a).mp m).2.2;rw[((I.oe k a').mp h1).2.2]at this;cases this
   exact aH _ (List.mem_singleton.mpr rfl)
  ·exact aQ _ (b.to k a' m' h1 h2 h4 ⋯)
theorem OJ{t:Th}(h:GZ x t=true):∃k,t= .ce k/\x.g k<2:=by
 cases t with
 |no=>cases h
 |nu n=>cases h
 |ce k=>exact⟨k,rfl,of_decide_eq_true h⟩
theorem CB.len(b:CB x O i j ds)(I:In x M O Y):ds.length<64:=aT (len_sub b.nd λq hq=>by
 obtain⟨k,a,m,h1,h2,rfl,h4,_⟩:=b.fr q hq;obtain⟨n,e,g⟩:=OJ h4;exact I.b2 k a m n h1 h2 e g) I.Rj
theorem CB.perm(b:CB x O x.G.length 0 ds)(I:In x M O Y):ds.Perm M.ks:=(List.perm_ext_iff_of_nodup b.nd I.kn).mpr λq=>by
 constructor
 ·intro hq;obtain⟨k,a,m,h1,h2,rfl,h4,_⟩:=b.fr q hq;obtain⟨n,e,g⟩:=OJ h4;exact I.b2 k a m n h1 h2 e g
 ·intro hq;obtain⟨k,a,m,n,h1,h2,rfl,h4,h5⟩:=I.b1 q hq;exact b.to k a m h1 h2 (by rw[h4];exact decide_eq_true h5) (.inl ((I.oe k a).mp h1).1)
end
def Ic:Sp:=λvs H Q _=>Y6 λ(x:Ax) (u:Ow) (ow:Own) (M:Mem) (O Y:List (Nat×Int))=>C4 (vs=[.ref u.d]) (j3 H x u ow) (In ow M O Y) (∀l H',jo H H'->H' l=some (.lst ((kC M.ks).map ι))->Q (.ref l) H')
theorem oR:jg ["_law_own","_law_due","_law_k","_law_slot","_law_thing_here"] ["_law_own"] (i9 vG):=fsc
theorem Hl(T:Txt K mg A):CG P w K mg base true 11 "_law_book" ["_law_own"] Ic:=by
 specialize T.vg.me oR
 ·obtain⟨x,u,ow,M,O,Y,rfl,o,I,q⟩:=h;refine⟨_,kY.run (iY (jr (i:=1) oR.nd rfl lo (kh iX))
   (iY (jY hx.own rfl (kS rfl T.mP (iW (ji jJ (by rfl) T.kj ζl (iW (jb (iZ 0) i_) iX)) iX)) (jG (i:=2) oR.nd rfl lo)
    (i3 (ju (je lj (jv jE (jb (iZ 0) i_) (iZ 2)) i6 (jy _)) (i3 (jY hx.own rfl (r_ rfl T.m9 (iW (jv jE (jb (iZ 0) i_) (iZ 2)) iX)) (qD (n:=2) (by rfl) (ky (jG (i:=3) oR.nd rfl lo) (ky (jG (i:=4) oR.nd rfl lo) pf)))
    (i3 (ju (k_ (mv (je pe (iZ 4) j7 (jy _)) (mv (je lj (jv jE (iZ 4) i6) i_ (jy _)) (ox (je p_ (jv jE (jb (iZ 0) i_) (jv jE (iZ 4) i6)) i6 (jy _)))))) (i3 (jc (nP aZ a_ kr (iZ 1) (iW (ja jM (ja jM (jv jE (jb (iZ 0) i_) (iZ 2)) i6) (iZ 3)) iX)))) jh)))) jh)))
   (i3 (jf (ji Ky (by rfl) T.sf ζs (iW (iZ 1) iX)))))),?_⟩
  show pE _ _ _ [⇑u.d,none,none,none,none] H;exists ∃l,C3 (σ'=[⇑u.d,⇑l,none,none,none]) (H l=none) (H'=upd H l (.lst []))
  ·simp?[];exact λl hl=>hR _ _ ⟨l,rfl,hl,rfl⟩
  ext _ _ ⟨l,rfl,hl,rfl⟩;have Bz:=I.Bz;have e0:upd H l (.lst []) l=some (.lst (([]:List Int).map ι)):=i8;have s0:jo H (upd H l (.lst [])):=jo.upd hl;generalize upd H l (.lst [])=H0 at*;exists Y4 λ(v2 v3 v4:Option V) (ds:List Int)=>C4 (σ'=[⇑u.d,⇑l,v2,v3,v4]) (jo H H') (H' l=some (.lst (ds.map ι))) (ds.Perm M.ks)
  ·simp?[(o.same s0).dc,nh,(o.same s0).ag];refine⟨by rw[aa];lia,by rw[aa];lia,?_⟩;refine ke.vw (λi σ H'=>Y4 λ(v2 v3 v4:Option V) (ds:List Int)=>C4 (σ=[⇑u.d,⇑l,v2,v3,v4]) ((∀b v,H b=some v->b≠l->H' b=some v)) (H' l=some (.lst (ds.map ι))) (CB ow O i 0 ds)) ⟨_,_,_,[],rfl,λb v e _=>s0 _ _ e,e0,CB.nil⟩ ?_ ?_
   ·rintro i σ H2 hi ⟨v2,v3,v4,ds,rfl,f2,e2,b2⟩ R2 hR2;rw[aa,aU]at hi;have nl:∀{b:Addr} {v:HO},H b=some v->b≠l:=λe=>i4 e hl;have dc2:=f2 _ _ o.dc (nl o.dc);have ag2:=f2 _ _ o.ag (nl o.ag);have at1:qh (ow.G.map ι) (0+(i:Int))=some (.int (ow.g i)):=by rw[bg];exact jI (Own.Bs hi)
    by_cases z:ow.g i=2
    ·obtain⟨a,ea⟩:=Option.isSome_iff_exists.mp (I.od i hi z);have mO:=(I.oe i a).mpr ⟨hi,z,ea⟩;obtain⟨ra,rv,r1,r2,r3,r4⟩:=o.Lk (k:=i) (by rw[I.ls];exact hi);have at3:qh (u.rs.map ξ) (0+(i:Int))=some (.ref ra):=by rw[bg];exact jI r2
     have at4:qh (ow.P.map tv) (0+(i:Int))=some (.int a):=by rw[bg];exact jI (by rw[ai,Own.Ng ea];rfl)
     have sl2:=f2 _ _ o.sl (nl o.sl);have pl2:=f2 _ _ o.pl (nl o.pl);simp?[dc2,nh,ag2,at1,z,uA,sl2,at3];refine⟨⟨_,kO.of (f2 _ _ r3 (nl r3))⟩,?_⟩;refine ke.enum (xs:=rv) (λj σ H'=>Y3 λ(v3 v4:Option V) (ds:List Int)=>C4 (σ=[⇑u.d,⇑l,↥(0+(i:Int)),v3,v4]) ((∀b v,H b=some v->b≠l->H' b=some v)) (H' l=some (.lst (ds.map ι))) (CB ow O i j ds)) ⟨_,_,ds,rfl,f2,e2,b2⟩ (λj σ H' _ ⟨_,_,_,_,f,_,_⟩=>kO.of (f _ _ r3 (nl r3))) ?_ ?_
     ·rintro j v σ H3 p hv ⟨v3,v4,ds,rfl,f3,e3,b3⟩ hp R3 hR3;have hj:j<(ow.s i).length:=by rw[←r4.l];exact(List.getElem?_eq_some_iff.mp hv).1
      have ht:(ow.s i)[j]? =some (ow.t i j):=by unfold Own.t;rw[ae,ab hj];rfl
      have tV:=r4.g j _ _ ht hv;have s4:jo H3 (upd H3 p (.tup [.int j,v])):=jo.upd hp;have tp:upd H3 p (.tup [.int j,v]) p=some (.tup [.int j,v]):=i8;generalize upd H3 p (.tup [.int j,v])=H4 at*;have f4:∀b v,H b=some v->b≠l->H4 b=some v:=λb v e n=>s4 _ _ (f3 b v e n);have no:GZ ow (ow.t i j)=false->R3 [⇑u.d,⇑l,↥(0+(i:Int)),↥j,some v] H4:=λy=>hR3 _ _ ⟨_,_,ds,rfl,f4,s4 _ _ e3,b3.skip y⟩;refine⟨p,_,rfl,.inl (.inl tp),rfl,_,_,rfl,_,_,rfl,rfl,?_⟩
      cases et:ow.t i j with
      |no=>
       rw[et]at tV no;cases tV
       simp?[];exact no rfl
      |nu m=>
       rw[et]at tV no;obtain⟨b,rfl,eb⟩:=tV;simp?[f4 _ _ eb (nl eb)];exact no rfl
      |ce k=>
       rw[et]at tV no;obtain⟨b,rfl,eb⟩:=tV;have gd:=I.gs i a (.inl mO) _ (ow.tm hj);rw[et]at gd;have dc4:=f4 _ _ o.dc (nl o.dc);have ag4:=f4 _ _ o.ag (nl o.ag);have pl4:=f4 _ _ o.pl (nl o.pl);simp?[f4 _ _ eb (nl eb),dc4,nh,kZ,ag4,pl4,at4,jI (Own.Bs gd.1),s4 _ _ e3];by_cases y:ow.g k<2
       ·rw[if_pos y];have yy:GZ ow (ow.t i j)=true:=by rw[et];exact decide_eq_true y
        have b4:=b3.add I mO hj yy;have ln:=b4.len I;refine⟨aT (show _<=64 by rw[aa];rw[aj]at ln;lia) (by decide),hR3 _ _ ⟨_,_,ds++[a+1+(j:Int)],rfl,λb v e n=>by rw[i7 n];exact f4 b v e n,?_,b4⟩⟩;rw[i8,aB];rfl
       ·rw[if_neg y];exact no (decide_eq_false y)
     ·rintro σ H3 ⟨v3,v4,ds,rfl,f3,e3,b3⟩;exact hR2 _ _ ⟨_,_,_,ds,rfl,f3,e3,b3.next r4.l⟩
    ·simp?[dc2,nh,ag2,at1,z];exact hR2 _ _ ⟨_,_,_,ds,rfl,f2,e2,b2.none λa m=>z ((I.oe i a).mp m).2.1⟩
   ·rintro σ H2 ⟨v2,v3,v4,ds,rfl,f2,e2,b2⟩;rw[aa,aU]at b2;exact hR _ _ ⟨v2,v3,v4,ds,rfl,λb v e=>f2 b v e (i4 e hl),e2,b2.perm I⟩
  ext _ H1 ⟨v2,v3,v4,ds,rfl,s1,e1,pm⟩;simp?[CJ,FU,e1];refine⟨by rw[pm.length_eq];exact I.Rj,λl2 hl2=>q l2 _ (s1.trans (jo.upd hl2)) ?_⟩;rw[i8,OK pm]
structure Nw where
 ln:Addr
 lt:Addr
 ld:Addr
 rt:List Addr
 ns:List Nat
 tk:List (Nat×Int×Bool)
 sd:List Int
noncomputable def Nw.as (N:Nw):List Addr:=N.ln::N.lt::N.ld::N.rt
noncomputable def NH (t:Nat×Int×Bool):List V:=[.int t.1,.int t.2.1,.bl t.2.2]
structure pR(H:Hp)(x:Ax)(u:Ow)(N:Nw):Prop where
 mo:u.more=[(.inr "names",.ref N.ln),(.inr "tickets",.ref N.lt),(.inr "said",.ref N.ld)]
 e1:H N.ln=some (.lst (nV N.ns))
 e2:H N.lt=some (.lst (N.rt.map ξ))
 e3:H N.ld=some (.lst (N.sd.map ι))
 rl:N.rt.length=N.tk.length
 er:∀(i:Nat) a t,N.rt[i]? =some a->N.tk[i]? =some t->H a=some (.lst (NH t))
 nd:N.as.Nodup
 nm:∀a∈N.as,a∉lx x u
section
variable{H H':Hp}{x x':Ax}{u u':Ow}{N:Nw}{w:Own}
theorem pR.fr(n:pR H x u N)(s:qU (lx x u) H H' (lx x' u'))(e:u'.more=u.more):pR H' x' u' N:=by
 have k:∀{a:Addr} {xs:List V},H a=some (.lst xs)->a∈N.as->H' a=some (.lst xs)/\a∉lx x' u':=λh m=>s.keep h rfl (n.nm _ m);refine⟨e.trans n.mo,(k n.e1 (by simp[Nw.as])).1,(k n.e2 (by simp[Nw.as])).1,(k n.e3 (by simp[Nw.as])).1,n.rl,λi a t h1 h2=>(k (n.er i a t h1 h2) (by simp[Nw.as,aJ h1])).1,n.nd,λa m=> ?_⟩;have m':a∈N.ln::N.lt::N.ld::N.rt:=m;simp only[aP]at m';rcases m' with rfl|rfl|rfl|h
 ·exact(k n.e1 m).2
 ·exact(k n.e2 m).2
 ·exact(k n.e3 m).2
 ·obtain⟨i,hi,rfl⟩:=List.mem_iff_getElem.mp h;exact(k (n.er i _ _ (ab hi) (ab (by rw[←n.rl];exact hi))) m).2
theorem F4(n:pR H x u N):nD (wt x.p x.r u) (dg (aI "names"))=some (.ref N.ln)/\nD (wt x.p x.r u) (dg (aI "tickets"))=some (.ref N.lt)/\nD (wt x.p x.r u) (dg (aI "said"))=some (.ref N.ld):=by
 unfold wt;rw[n.mo];exact⟨by kernel_rfl,by kernel_rfl,by kernel_rfl⟩
end
theorem pR.sy{H:Hp}{x:Ax}{u:Ow}{N:Nw}(n:pR H x u N){i:Nat}{a:Addr}(h1:N.rt[i]? =some a){t:Nat×Int×Bool}{v:Int}:pR (upd (upd H a (.lst (NH t))) N.ld (.lst ((N.sd++[v]).map ι))) x u {N with tk:=N.tk.set i t,sd:=N.sd++[v]}:=by
 have d:=n.nd;simp only[Nw.as,cY,aP,not_or]at d;obtain⟨⟨d1,d2,d3⟩,⟨d4,d5⟩,d6,d7⟩:=d;have m:=aJ h1;refine⟨n.mo,?_,?_,i8,by rw[aN];exact n.rl,λj b t' q1 q2=> ?_,n.nd,n.nm⟩
 ·rw[i7 d2,i7 (λz=>d3 (by rw[z];exact m))];exact n.e1
 ·rw[i7 d4,i7 (λz=>d5 (by rw[z];exact m))];exact n.e2
 ·have q1:N.rt[j]? =some b:=q1;rw[aW]at q2;rw[i7 (λz=>d6 (by rw[←z];exact aJ q1))];by_cases e:i=j
  ·subst e;rw[h1]at q1;cases q1
   rw[if_pos rfl,if_pos (by rw[←n.rl];exact(List.getElem?_eq_some_iff.mp h1).1)]at q2
   cases q2;exact i8
  ·rw[if_neg e]at q2;rw[i7 λz=>e ?_]
   ·exact n.er j b t' q1 q2
   ·subst z;obtain⟨hi,e1⟩:=List.getElem?_eq_some_iff.mp h1;obtain⟨hj,e2⟩:=List.getElem?_eq_some_iff.mp q1;rcases eK i j with l|l|l
    ·exact absurd (e1.trans e2.symm) (List.pairwise_iff_getElem.mp d7 i j hi hj l)
    ·exact l
    ·exact absurd (e2.trans e1.symm) (List.pairwise_iff_getElem.mp d7 j i hj hi l)
noncomputable def Bl (ow:Own) (tk:List (Nat×Int×Bool)):List Int:=tk.filterMap λt=>if t.2.2=true/\ow.p t.1=none then some t.2.1 else none
noncomputable def Bf (ow:Own) (t:Nat×Int×Bool):Nat×Int×Bool:=if t.2.2=true/\ow.p t.1=none then(t.1,t.2.1,false) else t
noncomputable def Nl (ow:Own) (N:Nw):Nw:={N with tk:=N.tk.map (Bf ow),sd:=N.sd++Bl ow N.tk}
def JZ:Sp:=λvs H Q _=>Y4 λ(x:Ax) (u:Ow) (ow:Own) (N:Nw)=>C8 (vs=[.ref u.d]) (j3 H x u ow) (pR H x u N) (ow.P.length=ow.G.length) ((∀t∈N.tk,t.1<ow.G.length)) (N.sd.length<=60) (N.tk.length<=60) (∀H',pR H' x u (Nl ow N)->(∀b v,H b=some v->b∉N.as->H' b=some v)->Q .non H')
theorem Cn:jg ["_law_own","_law_row"] ["_law_own"] (i9 Av):=fsc
theorem Cf(T:Txt K mg A):CG P w K mg base true 11 "_law_say" ["_law_own"] JZ:=by
 specialize T.Aj.me Cn
 ·obtain⟨x,u,ow,N,rfl,o,n,lP,tl,l1,l2,q⟩:=h;refine⟨_,kY.run (i3 (jY hx.own rfl (ka (jb (iZ 0) i_)) (jG (i:=1) Cn.nd rfl lo)
    (i3 (ju (k_ (mv (jB (jv jE (iZ 1) i6) (λ_=>rfl)) (ox (je z_ (jv jE (jb (iZ 0) i_) (jv jE (iZ 1) i6)) j7 (jy _))))) (iY (mn lH (mj (iZ 1) i6 nK))
   (i3 (jc (nP aZ a_ kr (jb (iZ 0) i_) (iW (jv jE (iZ 1) i6) iX))))) jh)))),?_⟩
  simp?[o.dc,(F4 n).2.1];refine⟨⟨_,kO.of n.e2⟩,?_⟩;refine ke.uT (xs:=N.rt.map ξ) (λi σ H'=>Y2 λ(v1:Option V) (tk:List (Nat×Int×Bool))=>C4 (σ=[⇑u.d,v1]) (pR H' x u {N with tk:=tk,sd:=N.sd++Bl ow (N.tk.take i)}) ((∀(j:Nat) t,N.tk[j]? =some t->tk[j]? =some (if j<i then Bf ow t else t))) (∀b v,H b=some v->b∉N.as->H' b=some v))
   ⟨_,N.tk,rfl,by rw[fv];show pR H x u {N with tk:=N.tk,sd:=N.sd++[]};rw[aM];exact n,λj t e=>e,λ_ _ e _=>e⟩ (λi σ H' _ hz=>by obtain⟨_,_,_,n',_,_⟩:=hz;exact kO.of n'.e2) ?_ ?_
  ·rintro i v σ H2 hv ⟨v1,tk,rfl,n2,t2,f2⟩ R2 hR2;rw[ai]at hv;obtain⟨ra,hra,rfl⟩:=Option.map_eq_some_iff.mp hv;have hi:i<N.tk.length:=by rw[←n.rl];exact(List.getElem?_eq_some_iff.mp hra).1
   have et:N.tk[i]? =some N.tk[i]:=ab hi;have tp:=tl _ (bc hi);have ek:tk[i]? =some N.tk[i]:=by rw[t2 i _ et,if_neg (bw _)]
   have er:=n2.er i ra _ hra ek;have dc2:=f2 _ _ o.dc λz=>n.nm _ z (by simp[lx]);have pl2:=f2 _ _ o.pl λz=>n.nm _ z (by simp[lx,Ow.as]);have us:Bl ow (N.tk.take (i+1))=Bl ow (N.tk.take i)++Bl ow [N.tk[i]]:=by unfold Bl;rw[bx,et,gu];rfl
   generalize hT:N.tk[i]=t at*;have st:∀{tk':List (Nat×Int×Bool)},(∀(j:Nat) t,j≠i->tk[j]? =some t->tk'[j]? =some t)->tk'[i]? =some (Bf ow t)->∀(j:Nat) t,N.tk[j]? =some t->tk'[j]? =some (if j<i+1 then Bf ow t else t):=λ{tk'} h1 h2 j t' e=>by
    by_cases z:j=i
    ·subst z;rw[et]at e;cases e
     rw[if_pos (dW _)];exact h2
    ·have:=h1 j _ z (t2 j t' e);rw[this];by_cases y:j<i
     ·rw[if_pos y,if_pos ⋯]
     ·rw[if_neg y,if_neg ⋯]
   have no:¬(t.2.2=true/\ow.p t.1=none)->R2 [⇑u.d,⇑ra] H2:=λz=>by
    have e1:Bf ow t=t:=if_neg z;have e2:Bl ow [t]=[]:=by unfold Bl;rw[bP,if_neg z];rfl
    rw[e2,aM]at us;exact hR2 _ _ ⟨_,tk,rfl,by rw[us];exact n2,st (λj t _ e=>e) (by rw[e1];exact ek),f2⟩
   obtain⟨k,m,b⟩:=t;have d2:=F4 n2
   cases b with
   |false=>
    simp?[er,NH];exact no λz=>nomatch z.1
   |true=>
    cases ep:ow.p k with
    |some a=>
     have at1:qh (ow.P.map tv) (k:Int)=some (.int a):=jI (by rw[ai,Own.Ng ep];rfl);simp?[er,NH,dc2,kZ,pl2,at1];exact no λz=>by rw[show ow.p k=some a from ep]at z;exact nomatch z.2
    |none=>
     have at1:qh (ow.P.map tv) (k:Int)=some .non:=by
      refine jI ?_;have e:=ep;unfold Own.p at e;rw[ae,ab (by rw[lP];exact tp)]at e;rw[ai,ab (by rw[lP];exact tp)];exact congrArg (λo=>some (tv o)) e
     have nda:u.d≠ra:=λz=>n.nm ra (by simp[Nw.as,aJ hra]) (by rw[←z];simp[lx]);have nld:N.ld≠ra:=λz=>by
      have d:=n.nd;simp only[Nw.as,cY,aP,not_or]at d;exact d.2.2.1 (by rw[z];exact aJ hra)
     simp?[er,NH,dc2,kZ,pl2,at1,show EK 3 2=some 2 from rfl];rw[i7 nda,dc2];simp?[d2.2.2];rw[i7 nld,n2.e3];have hl:(Bl ow (N.tk.take i)).length<=N.tk.length:=aA (List.length_filterMap_le ..) (by rw[bE];lia);refine⟨aT (show _<=200 by rw[aa,aj];lia) (by decide),?_⟩;have c:(k,m,true).2.2=true/\ow.p (k,m,true).1=none:=⟨rfl,ep⟩;have u1:Bl ow [(k,m,true)]=[m]:=by unfold Bl;rw[bP,if_pos c];rfl
     have s1:Bf ow (k,m,true)=(k,m,false):=if_pos c;rw[u1]at us;have n3:=n2.sy (t:=(k,m,false)) (v:=m) hra;refine hR2 _ _ ⟨_,tk.set i (k,m,false),rfl,?_,st (λj t' z e=>by rw[aW,if_neg (ah z)];exact e) (by rw[s1,aW,if_pos rfl,if_pos (List.getElem?_eq_some_iff.mp ek).1]),λb v e z=> ?_⟩
     ·rw[us,←cj];rw[aB]at n3;exact n3
     ·rw[i7 (λy=>z (by rw[y];simp[Nw.as])),i7 (λy=>z (by rw[y];simp[Nw.as,aJ hra]))];exact f2 b v e z
  ·rintro σ H2 ⟨v1,tk,rfl,n2,t2,f2⟩;rw[aa,n.rl]at n2 t2;rw[bo]at n2;have e:tk=N.tk.map (Bf ow):=eB λj=>by
    rw[ai];by_cases z:j<N.tk.length
    ·rw[t2 j _ (ab z),if_pos z,ab z];rfl
    ·have ln:=n2.rl;rw[bz (by have:N.rt.length=tk.length:=ln;rw[←this,n.rl];lia),bz ⋯];rfl
   rw[e]at n2;exact q H2 n2 f2
noncomputable def X8 (s:S3) (c:CS) (a:Int):CS:={ki s c (mE c.ws a) with ws:=(ki s c (mE c.ws a)).ws.set a.toNat (mZ s c (mE c.ws a))}
def Bk(A:Ad):Sp:=λvs H Q _=>Y5 λ(x:Ax) (M:Mem) (c:CS) (l:Addr) (a:Int)=>C9 (vs=[.ref x.p,.int a,.ref l]) (NK A H x M c l) (Qr M c (mE c.ws a)) ((c.ot<=9999/\c.st<=9999)) (0<=a) (a<c.ws.length) ((kd (.int (mZ M.sy c (mE c.ws a)))).isSome=true) ((ki M.sy c (mE c.ws a)).ws.length=c.ws.length) (∀H',Wx A H' x (cM M (X8 M.sy c a))->H' l=some (.lst ((X8 M.sy c a).cs.map ι))->Kx [l,x.q] H H'->Q .non H')
theorem HV:jg ["areas","place","copies"] ["areas","place","copies"] (i9 vN):=fsc
theorem A_(T:Txt K mg A):CG P w K mg base true 12 "meet_slot" ["areas","place","copies"] (Bk A):=by
 specialize T.vv.me HV
 ·obtain⟨x,M,c,l,a,rfl,h,mo,t9,a0,a1,kw,nl,q⟩:=h;refine⟨_,kY.run (i3 (jc (jw (jd (iZ 0) rfl) T.jN (lK T).mono hr hx (iW (iZ 1) (iW (i5 (Mf T).mono hr rfl hx (iW (iZ 0) (iW (jw (jd (iZ 0) rfl) T.jN (m_ T).mono hr hx (iW (iZ 1) iX)) (iW (iZ 2) iX)))) iX))))),?_⟩;obtain⟨dp,ep⟩:=h.wh.ar.ob;obtain⟨dm,em⟩:=h.wh.ar.mem.ob;simp?[ep,T.jC,T.jz,oo,em,Bx,DE];refine⟨x.m,x.q,c.ws,a,rfl,h.wh.ar.mem,a0,a1,x,M,c,l,mE c.ws a,rfl,h,mo,t9,λH1 w1 l1 k1 o1=>⟨x.m,x.q,(ki M.sy c (mE c.ws a)).ws,a,_,rfl,w1.ar.mem,a0,show a<((ki M.sy c (mE c.ws a)).ws.length:Int) by rw[nl];exact a1,kw,?_⟩⟩;have m2:=w1.ar.mem.put a.toNat (mZ M.sy c (mE c.ws a));have f2:∀b v,H1 b=some v->b≠x.q->upd H1 x.q (.lst (((ki M.sy c (mE c.ws a)).ws.set a.toNat (mZ M.sy c (mE c.ws a))).map ι)) b=some v:=λb v eb nb=>qp eb nb;refine q _ (w1.Gu (w1.ar.wr m2 f2) λb u eb nb _ _=>f2 b u eb nb) (f2 _ _ l1 h.nq) λb v eb kb nb=>f2 b v (k1 b v eb kb nb) λz=>nb (by rw[z];simp)
structure NN{α:Type}(f:Option α->Option α)(xs:List (Option α))(ks:List Int)(ys:List (Option α)):Prop where
 len:ys.length=xs.length
 get:∀j:Nat,ys[j]? =if (j:Int)∈ks then xs[j]?.map f else xs[j]?
section
variable{α:Type}{f:Option α->Option α}{xs ys:List (Option α)}{ks:List Int}
theorem NN.nil:NN f xs [] xs:=⟨rfl,λj=>by rw[if_neg (by simp)]⟩
theorem NN.step(h:NN f xs ks ys){k:Nat}{a:Option α}(nk:(k:Int)∉ks)(hv:xs[k]? =some a):ys[k]? =some a/\NN f xs (ks++[(k:Int)]) (ys.set k (f a)):=by
 refine⟨by rw[h.get,if_neg nk];exact hv,by rw[aN];exact h.len,λj=> ?_⟩;have kl:k<ys.length:=by rw[h.len];exact(List.getElem?_eq_some_iff.mp hv).1
 rw[aW];by_cases c:k=j
 ·subst c;rw[if_pos rfl,if_pos kl,if_pos (by simp),hv];rfl
 ·rw[if_neg c,h.get];have:((j:Int)∈ks++[(k:Int)])↔(j:Int)∈ks:=by
   rw[cG,az];exact⟨λz=>z.resolve_right ⋯,.inl⟩
  by_cases d:(j:Int)∈ks
  ·rw[if_pos d,if_pos (this.mpr d)]
  ·rw[if_neg d,if_neg (λz=>d (this.mp z))]
theorem NN.done(h:NN f xs ks ys)(hk:∀(j:Nat) a,xs[j]? =some (some a)->(j:Int)∈ks)(fn:f none=none):ys=xs.map f:=by
 refine eB λj=> ?_;rw[h.get,ai];by_cases c:(j:Int)∈ks
 ·rw[if_pos c]
 ·rw[if_neg c]
  cases e:xs[j]? with
  |none=>rfl
  |some o=>
   cases o with
   |none=>rw[fb,fn]
   |some a=>exact absurd (hk j a e) c
end
theorem CP:∀{os:List (Option Int)} {k:Nat} {x:Int×Int},x∈Kg k os->∃n:Nat,x.1=((k+n:Nat):Int)/\os[n]? =some (some x.2)
 | [],_,x,h=>by cases h
 |some p::r,k,x,h=>by
  rcases List.mem_cons.mp h with rfl|h
  ·exact⟨0,rfl,rfl⟩
  ·obtain⟨n,e,g⟩:=CP h;exact⟨n+1,by rw[e];lia,g⟩
 |none::r,k,x,h=>by
  obtain⟨n,e,g⟩:=CP (os:=r) h;exact⟨n+1,by rw[e];lia,g⟩
theorem Hv:∀{os:List (Option Int)} {k n:Nat} {p:Int},os[n]? =some (some p)->(((k+n:Nat):Int),p)∈Kg k os
 | [],_,_,_,h=>by cases h
 |some q::r,k,0,p,h=>by cases h;exact ax ..
 |none::r,k,0,p,h=>by cases h
 |some q::r,k,n+1,p,h=>by
  have:=Hv (os:=r) (k:=k+1) h;rw[show k+1+n=k+(n+1) by lia]at this;exact ao _ this
 |none::r,k,n+1,p,h=>by
  have:=Hv (os:=r) (k:=k+1) h;rw[show k+1+n=k+(n+1) by lia]at this;exact this
theorem KS:∀{os:List (Option Int)} {k:Nat},((Kg k os).map (·.1)).Pairwise (·<·)
 | [],_=> .nil
 |some p::r,k=>by
  refine List.pairwise_cons.mpr ⟨λz hz=> ?_,KS⟩;obtain⟨x,hx,rfl⟩:=List.mem_map.mp hz;obtain⟨n,e,_⟩:=CP hx;show(k:Int)<x.1;rw[e];lia
 |none::r,k=>KS (os:=r)
theorem Et:∀{ws:List (Option (Int×Int))} {k:Nat} {x:Int×Int×Int},x∈j_ k ws->∃n:Nat,x.1=((k+n:Nat):Int)/\ws[n]? =some (some x.2)
 | [],_,x,h=>by cases h
 |some p::r,k,x,h=>by
  rcases List.mem_cons.mp h with rfl|h
  ·exact⟨0,rfl,rfl⟩
  ·obtain⟨n,e,g⟩:=Et h;exact⟨n+1,by rw[e];lia,g⟩
 |none::r,k,x,h=>by
  obtain⟨n,e,g⟩:=Et (ws:=r) h;exact⟨n+1,by rw[e];lia,g⟩
theorem Es:∀{ws:List (Option (Int×Int))} {k n:Nat} {p:Int×Int},ws[n]? =some (some p)->(((k+n:Nat):Int),p.1,p.2)∈j_ k ws
 | [],_,_,_,h=>by cases h
 |some q::r,k,0,p,h=>by cases h;exact ax ..
 |none::r,k,0,p,h=>by cases h
 |some q::r,k,n+1,p,h=>by
  have:=Es (ws:=r) (k:=k+1) h;rw[show k+1+n=k+(n+1) by lia]at this;exact ao _ this
 |none::r,k,n+1,p,h=>by
  have:=Es (ws:=r) (k:=k+1) h;rw[show k+1+n=k+(n+1) by lia]at this;exact this
theorem Qb{β:Type}{g:β->Int}{l:List β}(h:(l.map g).Pairwise (·<·)){i:Nat}{x:β}(e:l[i]? =some x):g x∉(l.take i).map g:=by
 intro z;obtain⟨y,hy,ey⟩:=List.mem_map.mp z;obtain⟨j,hj,rfl⟩:=List.mem_iff_getElem.mp hy;rw[bE]at hj;have hi:=(List.getElem?_eq_some_iff.mp e).1;have:=List.pairwise_iff_getElem.mp h j i (by rw[aa];lia) (by rw[aa];exact hi) ⋯;rw[de,de,(List.getElem?_eq_some_iff.mp e).2]at this;rw[ie]at ey;omega
theorem B2{β:Type}{l:List β}{i:Nat}{x:β}(e:l[i]? =some x):l.take (i+1)=l.take i++[x]:=by rw[bx,e];rfl
theorem Wh.WK{cA cM' cS cR cH cB cW cL:Addr}{H:Hp}{x:Ax}{M:Mem}(w:Wh cA cM' cS cR cH cB cW cL H x M){os:List (Option Int)}:Wh cA cM' cS cR cH cB cW cL (upd H x.v (.lst (os.map tv))) x {M with os:=os}:=by
 obtain⟨es,l⟩:=w.la;have n:=DK w.nd;exact w.tick w.wk.put (l.kg (λb u e h=>by rw[i7 (jA e w.wk.ls (by rcases h with h|h<;>(rw[eq_of_beq h];kernel_rfl)))];exact e) (i7 (jA l.dc w.wk.ls)) (i7 (ah n.2.2.1))) λb u e n1 _ _=>qp e n1
theorem Wh.Ye{cA cM' cS cR cH cB cW cL:Addr}{H H':Hp}{x:Ax}{M:Mem}(w:Wh cA cM' cS cR cH cB cW cL H x M){ts:List (Option (Int×Int))}{sd:List Int}{es:List We}(l:kP cL H' x.l x.e x.u ts sd es)(o:Out x.e x.u H H'):Wh cA cM' cS cR cH cB cW cL H' x {M with ts:=ts,sd:=sd}:=by
 obtain⟨es0,l0⟩:=w.la;obtain⟨dw,ew⟩:=w.wk.ob;exact w.tick ⟨⟨dw,o _ _ (jA ew l0.dc) (jA ew l0.sq) ew⟩,o _ _ (jA w.wk.ls l0.dc) (DK w.nd).2.2.1 w.wk.ls⟩ l λb y eb _ n1 n2=>o _ _ n1 n2 eb
theorem De{mg:Str->Option Value}{A:Ad}{H:Hp}{l c:Addr}{x:Ax}{M:Mem}{σ:St}{p:Int}{Q:VK}(hc:Qo mg lm H l c (.ref x.p))(w:Wx A H x M)(wo:jZ M.ws)(g:NJ M.sy M.ws p)(hσ:σ[1]? =some (some (.ref l)))(ha:σ[3]? =some (some (.int p)))(q:Q (tv (Dm M.sy M.ws p)) H):
  Lo mg lm 1 (AH (Ei A) (λ_ _ _ _=>False) (Ep (AO 1) (Ep (AO 0) Ip))) (AO 3) σ H Q:=by
 refine⟨l,c,.ref x.p,hσ,hc,?_⟩;obtain⟨_,_,oz,_,_,_,ez,dz,_⟩:=hc;simp only[AO,ha];refine⟨trivial,tv (Dm M.sy M.ws p),?_,q⟩;simp only[AH,Ep,Ip,AO,fO,fP];exact⟨x,M,p,rfl,w.drop ez dz,wo,g,rfl,rfl⟩
def Cz(mg:Str->Option Value)(A:Ad):Sp:=λvs H Q _=>Y4 λ(x:Ax) (M:Mem) (l c:Addr)=>C9 (vs=[.ref x.r,.ref l]) (Wx A H x M) (Qo mg lm H l c (.ref x.p)) (jZ M.ws) (M.os.length<=60) (M.ts.length<60) ((∀a,some a∈M.os->NJ M.sy M.ws a)) ((∀y,some y∈M.ts->NJ M.sy M.ws y.1)) (∀H',Wx A H' x {M with os:=M.os.map (ND M.sy M.ws),ts:=M.ts.map (GK M.sy M.ws),sd:=M.sd++Be M.sy M.ws (j_ 0 M.ts)}->Kx [x.v,x.e,x.u] H H'->Q .non H')
theorem kN:jg ["self","goal_of","name","at","goal","ticket","number"] ["self","goal_of"] (i9 qL):=fsc
theorem Cu(T:Txt K mg A):mS P w K mg base (uv P w) true 12 A.kR A.mh ["self","goal_of"] (Cz mg A):=by
 refine T.Cs.NF kN (λvs H Q E h=> ?_) (λcdv A' outer s H vs Q E hr hx h=> ?_)
 ·obtain⟨_,_,_,_,rfl,_⟩:=h;rfl
 ·obtain⟨x,M,l,c,rfl,h,hc,wo',ol,tl,go,gt,q⟩:=h;refine⟨_,kY.run (iY (jY hx.own rfl (ka (j4 (jd (iZ 0) rfl) T.mK (wJ T).mono hr hx)) (qD (n:=2) (by rfl) (ky (jG (i:=2) kN.nd rfl lo) (ky (jG (i:=3) kN.nd rfl lo) pf)))
    (iY (jr (i:=4) kN.nd rfl lo (Du X7 (i:=1) rfl hr (iZ 3) (λ_ _ _ _ _ hr=>(i5 (DT T).mono hr rfl LQ (iW (iZ 1) (iW (iZ 0) iX))))))
   (i3 (ju (je z_ (iZ 4) j7 (jy _)) (i3 (jc (jw (jd (iZ 0) rfl) T.mK (Hh T).mono hr hx (iW (iZ 2) iX)))) (i3 (jc (jw (jd (iZ 0) rfl) T.mK (Hj T).mono hr hx (iW (iZ 2) (iW (iZ 4) iX)))))))))
   (i3 (jY hx.own rfl (ka (j4 (jd (iZ 0) rfl) T.kA (sg T).mono hr hx)) (qD (n:=3) (by rfl) (ky (jG (i:=5) kN.nd rfl lo) (ky (jG (i:=3) kN.nd rfl lo) (ky (jG (i:=6) kN.nd rfl lo) pf))))
    (iY (jr (i:=4) kN.nd rfl lo (Du X7 (i:=1) rfl hr (iZ 3) (λ_ _ _ _ _ hr=>(i5 (DT T).mono hr rfl LQ (iW (iZ 1) (iW (iZ 0) iX))))))
   (i3 (ju (je z_ (iZ 4) j7 (jy _)) (i3 (jc (jw (jd (iZ 0) rfl) T.kA (Hg T).mono hr hx (iW (iZ 5) iX)))) (i3 (jc (jw (jd (iZ 0) rfl) T.kA (EU T).mono hr hx (iW (iZ 5) (iW (iZ 4) iX))))))))))),?_⟩
  obtain⟨dr,er⟩:=h.ro;obtain⟨dw,ew⟩:=h.wk.ob;obtain⟨es,hl⟩:=h.la;have n:=DK h.nd;show pE _ _ _ [⇑x.r,⇑l,none,none,none,none,none] H;exists (∃a2 a3 a4,σ'=[⇑x.r,⇑l,a2,a3,a4,none,none])/\Wx A H' x {M with os:=M.os.map (ND M.sy M.ws)}/\∀b y,H b=some y->b≠x.v->H' b=some y
  ·simp?[er,T.jX,T.kH,BL,ew,Gk];refine⟨x.w,x.v,M.os,rfl,h.wk,⋯,λl1 as H1 s1 hl1 e1 pa=>⟨l1,rfl,⟨_,kO.of e1⟩,?_⟩⟩;have n1:x.v≠l1:=i4 h.wk.ls hl1;have k1:∀{b:Addr} {y:HO} {H2:Hp},(∀b y,H1 b=some y->b≠x.v->H2 b=some y)->H b=some y->b≠x.v->H2 b=some y:=λf e n=>f _ _ (s1 _ _ e) n;refine ke.uT (xs:=as) (λi σ H'=>Y4 λa2 a3 a4 os'=>C4 (σ=[⇑x.r,⇑l,a2,a3,a4,none,none]) (Wx A H' x {M with os:=os'}) (NN (ND M.sy M.ws) M.os (((Kg 0 M.os).take i).map (·.1)) os') (∀b y,H1 b=some y->b≠x.v->H' b=some y))
    ⟨none,none,none,M.os,rfl,h.same s1,NN.nil,λb y e _=>e⟩ (λi σ H' _ hz=>by obtain⟨_,_,_,_,_,_,_,f⟩:=hz;exact kO.of (f _ _ e1 (ah n1))) ?_ ?_
   ·rintro i v σ H2 hx' ⟨a2,a3,a4,os',rfl,w2,p2,f2⟩ R2 hR2;obtain⟨a,kp,rfl,ek,ea⟩:=pa.at_ hx'
    obtain⟨m,en,on⟩:=CP (aJ ek);rw[cP]at en;have ea2:=f2 _ _ ea (λz=>by have:=s1 _ _ h.wk.ls;rw[←z,ea]at this;cases this)
    obtain⟨st,p3⟩:=p2.step (k:=m) (a:=some kp.2) (by rw[←en];exact Qb KS ek) on;rw[←en,show((Kg 0 M.os).take i).map (·.1)++[kp.1]=((Kg 0 M.os).take (i+1)).map (·.1) by rw[B2 ek,aB];rfl]at p3;have hc2:Qo mg lm H2 l c (.ref x.p):=hc.to λb o eb=>k1 f2 eb (λz=>by rw[z,h.wk.ls]at eb;cases eb)
    have er2:=k1 f2 er (λz=>by rw[z,h.wk.ls]at er;cases er)
    obtain⟨dw2,ew2⟩:=w2.wk.ob;have gk:=go kp.2 (aJ on);refine⟨a,_,rfl,Kd.of ea2,rfl,_,_,rfl,_,_,rfl,rfl,?_⟩;show pE _ _ _ [⇑x.r,⇑l,↥kp.1,↥kp.2,a4,none,none] H2;refine jj (λσ' H'=>H2=H'/\σ'=[⇑x.r,⇑l,↥kp.1,↥kp.2,some (tv (Dm M.sy M.ws kp.2)),none,none]) (λR3 hR3=> ?_) ?_
    ·exact De (M:={M with os:=os'}) hc2 w2 wo' ⟨gk.a0,gk.a1,gk.a9,gk.ok⟩ rfl rfl (hR3 _ _ ⟨rfl,rfl⟩)
    ext _ _ ⟨rfl,rfl⟩;have fin:∀{g:Option Int},Dm M.sy M.ws kp.2=g->R2 [⇑x.r,⇑l,↥kp.1,↥kp.2,some (tv g),none,none] (upd H2 x.v (.lst ((os'.set m g).map tv))):=λ{g} e=>by
     rw[show ND M.sy M.ws (some kp.2)=g from e]at p3;exact hR2 _ _ ⟨_,_,_,_,rfl,w2.WK,p3,λb y eb nb=>by rw[i7 nb];exact f2 _ _ eb nb⟩
    cases hk:Dm M.sy M.ws kp.2 with
    |none=>
     simp?[tv,er2,T.jX,T.kH,BL,ew2,Qe];exact⟨x.w,x.v,os',m,kp.2,by rw[en],w2.wk,st,fin hk⟩
    |some g=>
     obtain⟨g0,g1⟩:=gk.a9 _ hk;simp?[tv,er2,T.jX,T.kH,BL,ew2,Qf];exact⟨x.w,x.v,os',m,kp.2,g,by rw[en],w2.wk,st,g0,g1,fin hk⟩
   ·rintro σ H2 ⟨a2,a3,a4,os',rfl,w2,p2,f2⟩;have ea:os'=M.os.map (ND M.sy M.ws):=p2.done (λj a e=>by
     have m:=Hv (k:=0) e;rw[cP]at m;rw[pa.len,bo];exact List.mem_map.mpr ⟨_,m,rfl⟩) rfl
    rw[←ea]at hR;exact hR _ _ ⟨⟨_,_,_,rfl⟩,w2,λb y eb nb=>k1 f2 eb nb⟩
  ext _ H1 ⟨⟨a2,a3,a4,rfl⟩,w1,f1⟩;obtain⟨es1,l1⟩:=w1.la;obtain⟨dl,el⟩:=l1.ob;obtain⟨dr1,er1⟩:=w1.ro;simp?[er1,T.jX,T.kG,BK,el,Cc];refine⟨x.l,x.e,x.u,M.ts,M.sd,es1,rfl,l1,⋯,λl2 as H2 s2 hl2 e2 ta=>⟨l2,rfl,⟨_,kO.of e2⟩,?_⟩⟩;have n1:x.u≠l2:=i4 l1.sq hl2;have n2:l2≠x.e:=(i4 l1.dc hl2).symm;refine ke.uT (xs:=as) (λi σ H'=>Y6 λa2 a3 a4 a5 a6 ts'=>C4 (σ=[⇑x.r,⇑l,a2,a3,a4,a5,a6]) (Wx A H' x {M with os:=M.os.map (ND M.sy M.ws),ts:=ts',sd:=M.sd++Be M.sy M.ws ((j_ 0 M.ts).take i)}) (NN (GK M.sy M.ws) M.ts (((j_ 0 M.ts).take i).map (·.1)) ts') (Out x.e x.u H2 H'))
   ⟨a2,a3,a4,none,none,M.ts,rfl,by rw[fv,Be,List.filterMap_nil,aM];exact w1.same s2,NN.nil,λb y _ _ e=>e⟩ (λi σ H' _ hz=>by obtain⟨_,_,_,_,_,_,_,_,_,f⟩:=hz;exact kO.of (f _ _ n2 (ah n1) e2)) ?_ ?_
  ·rintro i v σ H3 hx' ⟨a2,a3,a4,a5,a6,ts',rfl,w3,p3,f3⟩ R2 hR2;obtain⟨a,kp,rfl,ek,ea⟩:=ta.at_ hx'
   obtain⟨m,en,on⟩:=Et (aJ ek);rw[cP]at en;have l2':=l1.same s2;have ea3:=f3 _ _ (jA ea l2'.dc) (jA ea l2'.sq) ea;obtain⟨st,p4⟩:=p3.step (k:=m) (a:=some kp.2) (by rw[←en];exact Qb CY ek) on;rw[←en,show((j_ 0 M.ts).take i).map (·.1)++[kp.1]=((j_ 0 M.ts).take (i+1)).map (·.1) by rw[B2 ek,aB];rfl]at p4;have hc3:Qo mg lm H3 l c (.ref x.p):=hc.to λb o eb=>f3 _ _ (jA eb hl.dc) (jA eb hl.sq) (s2 _ _ (f1 _ _ eb (jA eb h.wk.ls)));obtain⟨dr3,er3⟩:=w3.ro;obtain⟨es3,l3⟩:=w3.la;obtain⟨dl3,AV⟩:=l3.ob;have gk:=gt kp.2 (aJ on);refine⟨a,_,rfl,Kd.of ea3,rfl,_,_,rfl,_,_,rfl,_,_,rfl,rfl,?_⟩;show pE _ _ _ [⇑x.r,⇑l,a2,↥kp.2.1,a4,↥kp.1,↥kp.2.2] H3;refine jj (λσ' H'=>H3=H'/\σ'=[⇑x.r,⇑l,a2,↥kp.2.1,some (tv (Dm M.sy M.ws kp.2.1)),↥kp.1,↥kp.2.2]) (λR3 hR3=> ?_) ?_
   ·exact De hc3 w3 wo' ⟨gk.a0,gk.a1,gk.a9,gk.ok⟩ rfl rfl (hR3 _ _ ⟨rfl,rfl⟩)
   ext _ _ ⟨rfl,rfl⟩;have tn:kp.1.toNat=m:=by rw[en];exact aU m
   have pk:pd ts' (.int kp.1)=some kp.2:=by
    show(if 0<=kp.1 then ts'.getD kp.1.toNat none else none)=_;rw[if_pos ⋯,tn,ae,st];rfl
   have tl2:=p3.len;have sn:∀{g:Option Int},Dm M.sy M.ws kp.2.1=g->Be M.sy M.ws ((j_ 0 M.ts).take (i+1))=Be M.sy M.ws ((j_ 0 M.ts).take i)++(if g.isSome=true then [] else [kp.2.2]):=λ{g} e=>by
    rw[B2 ek,Be,gu,bP,e]
    cases g<;>rfl
   have fin:∀{g:Option Int} {H4:Hp} {es4:List We},Dm M.sy M.ws kp.2.1=g->kP A.jF H4 x.l x.e x.u (ts'.set m (g.map λg=>(g,kp.2.2))) (M.sd++Be M.sy M.ws ((j_ 0 M.ts).take (i+1))) es4->Out x.e x.u H3 H4->R2 [⇑x.r,⇑l,a2,↥kp.2.1,some (tv g),↥kp.1,↥kp.2.2] H4:=λ{g H4 es4} e l4 o4=>by
    rw[show GK M.sy M.ws (some kp.2)=g.map λg=>(g,kp.2.2) by rw[←e];rfl]at p4;exact hR2 _ _ ⟨_,_,_,_,_,_,rfl,w3.Ye l4 o4,p4,λb y n1 n2 eb=>o4 _ _ n1 n2 (f3 _ _ n1 n2 eb)⟩
   cases hk:Dm M.sy M.ws kp.2.1 with
   |none=>
    simp?[tv,er3,T.jX,T.kG,BK,AV,Rp];refine⟨x.l,x.e,x.u,ts',_,es3,_,_,rfl,l3,⋯,pk,?_⟩;rw[tn];exact λH4 es4 l4 o4=>fin hk (by rw[sn hk,←cj];exact l4) o4
   |some g=>
    obtain⟨g0,g1⟩:=gk.a9 _ hk;simp?[tv,er3,T.jX,T.kG,BK,AV,OQ];refine⟨x.l,x.e,x.u,ts',_,es3,_,_,_,rfl,l3,⋯,pk,g0,g1,?_⟩;rw[tn];exact λH4 es4 l4 o4=>fin hk (by rw[sn hk,←cj];show kP _ _ _ _ _ _ (_++[]) _;rw[aM];exact l4) o4
  ·rintro σ H3 ⟨a2,a3,a4,a5,a6,ts',rfl,w3,p3,f3⟩;have AV:as.length=(j_ 0 M.ts).length:=ta.len;have ea:ts'=M.ts.map (GK M.sy M.ws):=p3.done (λj a e=>by
    have m:=Es (k:=0) e;rw[cP]at m;rw[AV,bo];exact List.mem_map.mpr ⟨_,m,rfl⟩) rfl
   rw[AV,bo,ea]at w3;refine q H3 w3 λb y eb _ nb=> ?_;simp only[aP,aG,or_false,not_or]at nb;exact f3 _ _ nb.2.1 nb.2.2 (s2 _ _ (f1 _ _ eb nb.1))
theorem Td{ns:List Int}:∃is:List Int,w_ (ns.map ι) (some 4) (some 14)=is.map ι/\is.length<=10:=by
 unfold w_;refine⟨_,by rw[←eS,←gI],?_⟩;rw[bE,dU];unfold HT.HA;simp only[aa];rw[if_neg (by decide),if_neg (by decide),show gY 14=14 from rfl,show gY 4=4 from rfl];omega
theorem P8{x:Own}{c:Int}(al:∀k,k<x.G.length->(x.p k).isSome=true):Gd x (Cp c x.G.length):=by
 cases e:Cp c x.G.length with
 |no=>exact bY
 |nu m=>
  unfold Cp at e;by_cases z:c%4=0
  ·rw[if_pos z]at e;cases e;show -1000000000000<=_/\_<=1000000000000;clear z;lia
  ·rw[if_neg z]at e;by_cases y:c%4=1∨(x.G.length:Int)=0
   ·rw[if_pos y]at e;cases e
   ·rw[if_neg y]at e;cases e
 |ce i=>
  obtain⟨_,_,h3,rfl⟩:=Ls e;have p1:=cX (c/4) h3;have p2:=dH (c/4) (show(0:Int)<x.G.length by lia);exact⟨⋯,al _ ⋯⟩
theorem Sq{x:Own}{ns:List Int}{m n:Nat}(hs:x.S.length=n)(Bz:n<=10)(h:∀k j,x.t k j= .no∨x.t k j=Cp (cf ns k j) n):Fl m x:=⟨ns,n,[],Bz,bR _,λk j _=>by
 by_cases z:k<n
 ·exact(h k j).imp id λe=>⟨z,e⟩
 ·have:x.s k=[]:=by unfold Own.s;rw[ae,bz ⋯];rfl
  left;unfold Own.t;rw[this];rfl⟩
def qS(K:af)(H:Hp)(a:Addr)(ns:List Int):Prop:=(∃o,H a=some (.GL o (.lst (ns.map ι))))∨∀H',kO K H' a (ns.map ι)
theorem qS.sq{K:af}{H:Hp}{a:Addr}{ns:List Int}(h:qS K H a ns):kO K H a (ns.map ι):=h.elim (λ⟨o,e⟩=> .inl (.inr ⟨o,e⟩)) λh=>h H
theorem qS.kx{K:af}{H H':Hp}{a:Addr}{ns:List Int}(h:qS K H a ns)(k:∀o v,H a=some (.GL o v)->H' a=some (.GL o v)):qS K H' a ns:=h.imp (λ⟨o,e⟩=>⟨o,k _ _ e⟩) id
theorem XE{K:af}{H:Hp}{a p:Addr}{ns:List Int}(hO:Ly [p] H)(h:kO K H a (ns.map ι)):qS K H a ns:=by
 rcases h with (h|⟨o,h⟩)|h
 ·by_cases z:a∈ [p]
  ·rw[hO.2 a z]at h;cases h
  ·rcases hO.1 a z with y|⟨o,xs,y⟩<;>rw[y]at h<;>cases h
 ·exact .inl ⟨o,h⟩
 ·exact .inr λH'=> .inr h
theorem qS.lx{K:af}{cA cM cS cR cH cB cW cL:Addr}{H H':Hp}{x x':Ax}{M:Mem}{u u':Ow}{w:Own}{a:Addr}{ns:List Int}(h:qS K H a ns)(wh:Wh cA cM cS cR cH cB cW cL H x M)(o:j3 H x u w)(s:qU (lx x u) H H' (lx x' u')):qS K H' a ns:=h.kx λq v e=>s.1 _ _ e rfl λz=>by
 rcases List.mem_append.mp z with z|z
 ·obtain⟨v,y,_,_,n⟩:=wh.Mu a z;rw[e]at y;cases y;exact n _ _ rfl
 ·rcases List.mem_cons.mp z with rfl|z
  ·rw[o.dc]at e;cases e
  ·obtain⟨ys,y⟩:=o.ll z;rw[e]at y;cases y
def FA(K:af)(A:Ad):Sp:=λvs H Q _=>Y2 λ(a:Addr) (ns:List Int)=>C5 (vs=[.ref a]) (qS K H a ns) (ns.length<=63) (H A.jx=some (.Co #[])) (∀(H':Hp) (x:Ax) (u:Ow) (ow:Own) (M:Mem) (O Y:List (Nat×Int)),Wx A H' x M->x.t=A.jx->j3 H' x u ow->In ow M O Y->u.more=[]->(M.os=[]/\M.ts=[]/\M.sd=[])->Fl 0 ow->ow.G.length<=10->qS K H' a ns->Q (.ref u.d) H')
theorem kD:jg ["_law_script","_law_young","_law_areas","_law_many","_law_own","_law_cell","_law_k","_law_slot","_law_hand"] ["_law_script"] (i9 tW):=fsc
theorem EX(T:Txt K mg A):CG P w K mg base true 12 "_law_built" ["_law_script"] (FA K A):=by
 specialize T.tf.me kD
 ·obtain⟨a,ns,rfl,hS,l63,et,q⟩:=h;refine⟨_,kY.run (iY (jr (i:=1) kD.nd rfl lo (ja jM i6 (ja jU (i5 (qI T).mono hr rfl hx (iW (iZ 0) (iW i6 iX))) i6)))
   (iY (jr (i:=2) kD.nd rfl lo (oh T.DG (EN T).mono hr rfl T.GN T.Gw hx (iW (ja jM (ja jM (iZ 1) i6) (ja jU (i5 (qI T).mono hr rfl hx (iW (iZ 0) (iW i6 iX))) i6)) (iW (iZ 1) iX))))
   (iY (jr (i:=3) kD.nd rfl lo (ja jM i6 (ja jU (i5 (qI T).mono hr rfl hx (iW (iZ 0) (iW i6 iX))) i6)))
   (iY (jr (i:=4) kD.nd rfl lo (MV (qE i_ (iZ 2) (qE i_ (oh T.DJ (EW T).mono hr rfl T.GQ T.Gz hx (iW (iZ 3) iX)) (qE i_ (kh iX) (qE i_ (kh iX) (qE i_ (kh iX) MX)))))))
   (iY (qx (wC hr) (iZ 4) i_ (ja AZ (kh (iW j7 iX)) (iZ 3)) rfl)
   (iY (jY hx.own rfl (ka (sH L0 (iZ 0) (qy i6) (qy i6))) (jG (i:=5) kD.nd rfl lo)
    (i3 (jc (i5 (A6 T).mono hr rfl hx (iW (iZ 4) (iW (iZ 5) iX))))))
   (iY (jY hx.own rfl (kS rfl T.mP (iW (ji jJ (by rfl) T.kj ζl (iW (jb (iZ 4) i_) iX)) iX)) (jG (i:=6) kD.nd rfl lo)
    (i3 (jY hx.own rfl (kS rfl T.mP (iW (ji jJ (by rfl) T.kj ζl (iW (jv jE (jb (iZ 4) i_) (iZ 6)) iX)) iX)) (jG (i:=7) kD.nd rfl lo)
    (iY (jr (i:=5) kD.nd rfl lo (ja jM (i5 (qI T).mono hr rfl hx (iW (iZ 0) (iW (ja jM i6 (ja jU (ja jM (ja vZ i6 (iZ 6)) (iZ 7)) i6)) iX))) (ja vZ i6 (iZ 6))))
   (i3 (jc (i5 (Ce T).mono hr rfl hx (iW (iZ 4) (iW (iZ 6) (iW (iZ 7) (iW (i5 (wK T).mono hr rfl hx (iW (iZ 5) (iW (ji jJ (by rfl) T.kj ζl (iW (jb (iZ 4) i_) iX)) iX))) iX)))))))))))
   (iY (jY hx.own rfl (kS rfl T.mP (iW (iZ 3) iX)) (jG (i:=8) kD.nd rfl lo)
    (i3 (jc (i5 (sQ T).mono hr rfl hx (iW (iZ 4) (iW (iZ 8) (iW (i5 (wK T).mono hr rfl hx (iW (i5 (qI T).mono hr rfl hx (iW (iZ 0) (iW (ja jM i6 (iZ 8)) iX))) (iW (ji jJ (by rfl) T.kj ζl (iW (jb (iZ 4) i_) iX)) iX))) iX)))))))
   (i3 (jf (iZ 4))))))))))),?_⟩
  show pE _ _ _ [⇑a,none,none,none,none,none,none,none,none] H;have y0:0<=cat ns 0%17/\cat ns 0%17<=16:=by lia
  exists ∃y:Int,C4 (σ'=[⇑a,↥y,none,none,none,none,none,none,none]) (H=H') (4<=y) (y<=20)
  ·simp?[];refine⟨a,ns,0,rfl,hS.sq,by decide,?_⟩;simp?[];exact hR _ _ ⟨4+cat ns 0%17,rfl,rfl,⋯,⋯⟩
  ext _ _ ⟨y,rfl,rfl,y4,y20⟩;have Hs:∀{G:Hp} {x dx:Addr} {o:HO},G x=none->G dx=none->jo G (upd (upd G dx (HO.own x)) x o):=λ{G x dx o} hx hdx b u eb=>by rw[i7 (i4 eb hx),i7 (i4 eb hdx)];exact eb
  exists Y7 λo pA m qA oA yA sA=>C7 (σ'=[⇑a,↥y,⇑pA,none,none,none,none,none,none]) (nU A.jD A.jm A.jq H' pA m qA oA yA sA (ak (o+2*y).toNat (-1)) ⟨0,o,0⟩ ⟨o,o+y,o⟩ ⟨o+y,o+2*y,o+y⟩) (jo H H') (H pA=none) (H qA=none) (4+y<=o) (o<=73)
  ·simp?[];refine⟨a,ns,1,rfl,hS.sq,by decide,?_⟩;simp?[];intro pA dx hp hdx _;have s1:=Hs (o:=HO.ins A.jD dx []) hp hdx;refine⟨pA,dx,y+4+cat ns 1%50,y,rfl,i8,⋯,⋯,⋯,⋯,?_⟩;intro m qA oA yA sA H2 a2 f2 fr2;exact⟨rfl,hR _ _ ⟨y+4+cat ns 1%50,pA,m,qA,oA,yA,sA,rfl,a2,λb v e=>f2 b v (s1 _ _ e) (i4 e hp),hp,(jT (jT fr2.2.1).2).2,⋯,⋯⟩⟩
  ext _ H1 ⟨o,pA,m,qA,oA,yA,sA,rfl,ar1,s1,hpA,hqA,o4,Rt⟩;have hS1:=hS.kx (H':=H1) λo v e=>s1 _ _ e;exists ∃n:Int,C4 (σ'=[⇑a,↥y,⇑pA,↥n,none,none,none,none,none]) (H1=H') (1<=n) (n<=4)
  ·simp?[];refine⟨a,ns,2,rfl,hS1.sq,by decide,?_⟩;simp?[];exact hR _ _ ⟨1+cat ns 2%4,rfl,rfl,⋯,⋯⟩
  ext _ _ ⟨n,rfl,rfl,n1,n4⟩;exists Y5 λ(x:Ax) (d0 lp la ls:Addr)=>Qm (σ'=[⇑a,↥y,⇑pA,↥n,⇑d0,none,none,none,none]) (Wx A H' x ⟨ak (o+2*y).toNat (-1),⟨0,o,0⟩,⟨o,o+y,o⟩,⟨o+y,o+2*y,o+y⟩,ak n.toNat (-1),[],[],[],[]⟩) (x.t=A.jx) (H' d0=some (.dK [(.inr "areas",.ref x.p),(.inr "roots",.ref x.r),(.inr "places",.ref lp),(.inr "ages",.ref la),(.inr "slots",.ref ls)])) (H' lp=some (.lst [])) (H' la=some (.lst [])) (H' ls=some (.lst [])) ((lp≠la/\lp≠ls/\la≠ls)) ((∀b∈ [d0,lp,la,ls],b∉mx x)) (qS K H' a ns)
  ·simp?[PR,Ir];intro d0 hd0 r dx hr hdx _;have hr1:=(jT hr).2;have sI:jo H1 (upd (upd (upd H1 d0 (.dK [])) dx (HO.own r)) r (HO.ins A.jR dx [])):=(jo.upd hd0).trans (Hs hr hdx);have dI:upd (upd (upd H1 d0 (.dK [])) dx (HO.own r)) r (HO.ins A.jR dx []) d0=some (.dK []):=Hs hr hdx _ _ i8;have nd0:d0≠r:=i4 (show upd H1 d0 (.dK []) d0=some (.dK []) from i8) hr;refine⟨r,dx,n,rfl,i8,n1,⋯,?_⟩;generalize upd (upd (upd H1 d0 (.dK [])) dx (HO.own r)) r (HO.ins A.jR dx [])=HI at*;intro h g b bd W H2 hh hg hb hbd rt wl ⟨ngv,ngu,nbe⟩ ⟨hv,hu,he⟩ f2;refine⟨rfl,λlp hlp la hla ls hls=> ?_⟩;have f12:jo H1 H2:=λz v e=>f2 _ _ (sI _ _ e) (i4 e hr1);have d2:=f2 _ _ dI nd0;have s3:jo H2 (upd H2 lp (.lst [])):=jo.upd hlp;have s4:jo (upd H2 lp (.lst [])) (upd (upd H2 lp (.lst [])) la (.lst [])):=jo.upd hla;have s5:jo (upd (upd H2 lp (.lst [])) la (.lst [])) (upd (upd (upd H2 lp (.lst [])) la (.lst [])) ls (.lst [])):=jo.upd hls;have l5:=s5 _ _ (s4 _ _ (show upd H2 lp (.lst []) lp=some (.lst []) from i8));have a5:=s5 _ _ (show upd (upd H2 lp (.lst [])) la (.lst []) la=some (.lst []) from i8);have c5:upd (upd (upd H2 lp (.lst [])) la (.lst [])) ls (.lst []) ls=some (.lst []):=i8;have n1:=i4 (show upd H2 lp (.lst []) lp=some (.lst []) from i8) hla;have n2:=i4 (s4 _ _ (show upd H2 lp (.lst []) lp=some (.lst []) from i8)) hls;have n3:=i4 (show upd (upd H2 lp (.lst [])) la (.lst []) la=some (.lst []) from i8) hls;have s25:=s3.trans (s4.trans s5);have hla2:=(jT hla).2;have hls2:=(jT (jT hls).2).2;generalize upd (upd (upd H2 lp (.lst [])) la (.lst [])) ls (.lst [])=H5 at*;obtain⟨esl,ll⟩:=wl.ls;have q2:=f12 _ _ ar1.mem.ls;have w2:Wx A H2 ⟨pA,m,qA,oA,yA,sA,r,h,g,b,bd,W.w,W.wq,W.l,W.ld,W.lq,A.jx⟩ ⟨ak (o+2*y).toNat (-1),⟨0,o,0⟩,⟨o,o+y,o⟩,⟨o+y,o+2*y,o+y⟩,ak n.toNat (-1),[],[],[],[]⟩:=⟨ar1.same f12,wl.ob,rt.hd,rt.bk,wl.wk,⟨esl,ll⟩,wV.new (f12 _ _ (s1 _ _ et)),by
    have z1:=i4 (sI _ _ ar1.mem.ls) hg;have z2:=i4 (sI _ _ ar1.mem.ls) hv;have z3:=i4 (sI _ _ ar1.mem.ls) hu;have z4:=jA q2 rt.bk.dc;have z5:=jA q2 ll.dc;have z6:=jA rt.hd.ls rt.bk.dc;have z7:=jA rt.hd.ls ll.dc;have z8:=jA wl.wk.ls rt.bk.dc;have z9:=jA wl.wk.ls ll.dc;have y1:=jA ll.sq rt.bk.dc;have y2:=jA ll.sq ll.dc;simp only[mx,cY,aP,not_or,aG,not_false_eq_true,and_true,bB];exact⟨⟨z1,z2,z3,z4,z5⟩,⟨ngv,ngu,z6,z7⟩,⟨wl.ne,z8,z9⟩,⟨y1,y2⟩,nbe⟩⟩
   have w5:=w2.same s25;have d5:=s25 _ _ d2;have fu:∀{c v'},H5 c=some v'->c≠d0->upd H5 d0 (.dK (Bw [] [(.inr (aI "areas"),.ref pA),(.inr (aI "roots"),.ref r),(.inr (aI "places"),.ref lp),(.inr (aI "ages"),.ref la),(.inr (aI "slots"),.ref ls)])) c=some v':=λ{c v'} e n=>qp e n;have nd:d0∉mx ⟨pA,m,qA,oA,yA,sA,r,h,g,b,bd,W.w,W.wq,W.l,W.ld,W.lq,A.jx⟩:=by
    simp only[mx,aP,not_or,aG,not_false_eq_true,and_true];exact⟨jA d2 q2,jA d2 rt.hd.ls,jA d2 wl.wk.ls,jA d2 ll.sq,i4 dI hbd,i4 dI he⟩
   refine⟨d5,[(.inr (aI "areas"),.ref pA),(.inr (aI "roots"),.ref r),(.inr (aI "places"),.ref lp),(.inr (aI "ages"),.ref la),(.inr (aI "slots"),.ref ls)],rfl,(show 5<=15 by decide),hR _ _ ⟨_,d0,lp,la,ls,rfl,w5.fr λc v' e' z=>fu e' λy=> ?_,rfl,?_,fu l5 (jA l5 d5),fu a5 (jA a5 d5),fu c5 (jA c5 d5),⟨n1,n2,n3⟩,λc hc=> ?_,hS1.kx λo' v' e'=>fu (s25 _ _ (f12 _ _ e')) λy=> ?_⟩⟩
   ·subst y;rw[d5]at e';cases e'
    exact z.elim nd λz=>eT (show true=false from z.2)
   ·rw[i8];kernel_rfl
   ·simp only[aP,aG,or_false]at hc;rcases hc with rfl|rfl|rfl|rfl
    ·exact nd
    ·exact w2.new hlp
    ·exact w2.new hla2
    ·exact w2.new hls2
   ·rw[y,hd0]at e';cases e'
  ext _ H2 ⟨x,d0,lp,la,ls,rfl,w2,xt,d2,p2,a2,s2,nl,ne2,hS2⟩;exists ∃u:Ow,C5 (σ'=[⇑a,↥y,⇑pA,↥n,⇑u.d,none,none,none,none]) (Wx A H' x ⟨ak (o+2*y).toNat (-1),⟨0,o,0⟩,⟨o,o+y,o⟩,⟨o+y,o+2*y,o+y⟩,ak n.toNat (-1),[],[],[],[]⟩) (j3 H' x u ⟨[],[],[],ak n.toNat .no⟩) (u.more=[]) (qS K H' a ns)
  ·simp?[];intro p hp;refine⟨⋯,⋯,aA (show _<=4 by lia) (by decide),λlh hlh=> ?_⟩;obtain⟨_,hlh2⟩:=jT hlh;have s3:jo H2 (upd (upd H2 p (.lst [.non])) lh (.lst (ak n.toNat .non))):=λb v e=>by rw[i7 (i4 e hlh2),i7 (i4 e hp)];exact e
   rw[uQ];have e3:upd (upd H2 p (.lst [.non])) lh (.lst (ak n.toNat .non)) lh=some (.lst (ak n.toNat .non)):=i8;generalize upd (upd H2 p (.lst [.non])) lh (.lst (ak n.toNat .non))=H3 at*;have d3:=s3 _ _ d2;rw[d3];have w3:=w2.same s3;have fu:∀{c v'} {kv:List (Key×V)},H3 c=some v'->c≠d0->upd H3 d0 (.dK kv) c=some v':=λ{c v' kv} e n=>qp e n;refine⟨aT (show 5<=20 by decide) (by decide),hR _ _ ⟨⟨d0,lp,la,ls,lh,[],[]⟩,rfl,w3.fr λc v' e' z=>fu e' λy=> ?_,⟨?_,fu (s3 _ _ p2) (jA p2 d2),fu (s3 _ _ a2) (jA a2 d2),fu (s3 _ _ s2) (jA s2 d2),rfl,(λk b e=>nomatch e),⟨_,fu e3 (jA e3 d3),by rw[ba,ba],λj t v h1 h2=> ?_⟩,?_,λb hb=> ?_⟩,rfl,hS2.kx λo' v' e'=>fu (s3 _ _ e') λy=> ?_⟩⟩
   ·subst y;rw[d3]at e';cases e'
    exact z.elim (ne2 _ (by simp)) λz=>eT (show true=false from z.2)
   ·rw[i8];kernel_rfl
   ·rw[b_]at h1 h2;by_cases y:j<n.toNat
    ·rw[if_pos y]at h1 h2;cases h1;cases h2;rfl
    ·rw[if_neg y]at h1;cases h1
   ·show [lp,la,ls,lh].Nodup;have n1:=i4 p2 hlh2;have n2:=i4 a2 hlh2;have n3:=i4 s2 hlh2;simp[nl.1,nl.2.1,nl.2.2,n1,n2,n3]
   ·have hb:b∈ [d0,lp,la,ls,lh]:=hb;simp only[aP,aG,or_false]at hb;rcases hb with rfl|rfl|rfl|rfl|rfl
    ·exact ne2 _ (by simp)
    ·exact ne2 _ (by simp)
    ·exact ne2 _ (by simp)
    ·exact ne2 _ (by simp)
    ·exact w2.new hlh2
   ·rw[y,d2]at e';cases e'
  ext _ H3 ⟨u,rfl,w3,o3,um,hS3⟩;have I3:=In.new (o:=o) (y:=y) (n:=n) ⋯ ⋯ Rt y20 ⋯ n1 n4;have r0:(ak n.toNat Th.no).length=n.toNat:=ba;exists Y6 λ(v5:Option V) (u':Ow) (ow:Own) (M:Mem) (O Y:List (Nat×Int))=>Wy (σ'=[⇑a,↥y,⇑pA,↥n,⇑u'.d,v5,none,none,none]) (Wx A H' x M) (j3 H' x u' ow) (In ow M O Y) (ow.D.length=n.toNat) ((∀k j,ow.t k j= .no)) ((∀k,k<ow.G.length->(ow.p k).isSome=true)) (ow.G.length<=10) (u'.more=[]) ((M.os=[]/\M.ts=[]/\M.sd=[])) (qS K H' a ns)
  ·simp?[];refine⟨_,hS3.sq,λp hp=> ?_⟩;obtain⟨cs,ecs,cl⟩:=Td (ns:=ns);rw[ecs];have s4:jo H3 (upd H3 p (.lst (cs.map ι))):=jo.upd hp;have e4:upd H3 p (.lst (cs.map ι)) p=some (.lst (cs.map ι)):=i8;have np:∀{b v},H3 b=some v->b≠p:=λe=>i4 e hp;generalize upd H3 p (.lst (cs.map ι))=H4 at*;have np0:p∉lx x u:=λz=>by
    rcases List.mem_append.mp z with z|z
    ·exact w3.new hp z
    ·rcases List.mem_cons.mp z with z|z
     ·exact np o3.dc z.symm
     ·obtain⟨ys,e⟩:=o3.ll z;exact np e rfl
   refine⟨⟨_,kO.of e4⟩,ke.uT (xs:=cs.map ι) (λi σ H'=>Y6 λ(v5:Option V) (u':Ow) (ow:Own) (M:Mem) (O Y:List (Nat×Int))=>XT (σ=[⇑a,↥y,⇑pA,↥n,⇑u'.d,v5,none,none,none]) (p∉lx x u') (u'.more=[]) ((M.os=[]/\M.ts=[]/\M.sd=[])) (H' p=some (.lst (cs.map ι))) (Wx A H' x M) (j3 H' x u' ow) (In ow M O Y) (ow.D.length=n.toNat) ((∀k j,ow.t k j= .no)) ((∀k,k<ow.G.length->(ow.p k).isSome=true)) (ow.G.length<=i) (qS K H' a ns))
    ⟨_,u,_,_,_,_,rfl,np0,um,⟨rfl,rfl,rfl⟩,e4,w3.same s4,o3.same s4,I3,r0,λk j=>rfl,λk hk=>absurd hk (cq _),bR _,hS3.kx λo v e=>s4 _ _ e⟩ (λi σ H' _ hz=>by obtain⟨_,_,_,_,_,_,_,_,_,_,e,_⟩:=hz;exact kO.of e) ?_ ?_⟩
   ·rintro i v σ H5 hv ⟨v5,u5,ow,M,O,Y,rfl,np5,um5,eM,e5,w5,o5,I5,dl,bl,al,gl,hS5⟩ R2 hR2;obtain⟨hi,rfl,_⟩:=ints_get hv;simp?[];refine⟨x,u5,ow,M,O,Y,cs[i],rfl,w5,o5,I5,⋯,λH6 u6 ow6 M6 O6 Y6 w6 o6 I6 ed eO eM6 st=> ?_⟩;obtain⟨e6,np6⟩:=st.keep e5 rfl np5;have g6:ow6.D=ow.D/\ow6.G.length<=ow.G.length+1/\(∀k j,ow6.t k j= .no)/\∀k,k<ow6.G.length->(ow6.p k).isSome=true:=by
     rcases eO with rfl|⟨a',g',n',rfl⟩
     ·exact⟨rfl,⋯,bl,al⟩
     ·exact⟨rfl,by show(ow.G++[_]).length<=_;rw[aj];exact aq _,Own.TK bl,Own.TJ I5.lp al⟩
    exact hR2 _ _ ⟨_,u6,ow6,M6,O6,Y6,by rw[ed.1],np6,ed.2.trans um5,⟨eM6.1.trans eM.1,eM6.2.1.trans eM.2.1,eM6.2.2.trans eM.2.2⟩,e6,w6,o6,I6,by rw[g6.1];exact dl,g6.2.2.1,g6.2.2.2,⋯,hS5.lx w5 o5 st⟩
   ·rintro σ H5 ⟨v5,u5,ow,M,O,Y,rfl,np5,um5,eM,e5,w5,o5,I5,dl,bl,al,gl,hS5⟩;exact hR _ _ ⟨v5,u5,ow,M,O,Y,rfl,w5,o5,I5,dl,bl,al,by rw[aa]at gl;lia,um5,eM,hS5⟩
  ext _ H4 ⟨v5,u,ow,M,O,Y,rfl,w4,o4,I4,dl,bl,al,g10,um4,eM4,hS4⟩;have Bz:=I4.Bz;exists Y5 λ(v5 v6 v7:Option V) (ow':Own) (M':Mem)=>Qm (σ'=[⇑a,↥y,⇑pA,↥n,⇑u.d,v5,v6,v7,none]) (Wx A H' x M') (j3 H' x u ow') (In ow' M' O Y) (ow'.P=ow.P) (ow'.G=ow.G) (ow'.D=ow.D) (Fl 0 ow') ((M'.os=[]/\M'.ts=[]/\M'.sd=[])) (qS K H' a ns)
  ·simp?[o4.dc,kZ,o4.pl];refine⟨⋯,by rw[aa,I4.lp];lia,?_⟩;refine ke.vw (λi σ H'=>Y5 λ(v5 v6 v7:Option V) (ow':Own) (M':Mem)=>Qm (σ=[⇑a,↥y,⇑pA,↥n,⇑u.d,v5,v6,v7,none]) (Wx A H' x M') (j3 H' x u ow') (In ow' M' O Y) (ow'.P=ow.P) (ow'.G=ow.G) (ow'.D=ow.D) ((∀k j,ow'.t k j= .no∨ow'.t k j=Cp (cf ns k j) ow.G.length)) ((M'.os=[]/\M'.ts=[]/\M'.sd=[])) (qS K H' a ns))
    ⟨_,_,_,ow,M,rfl,w4,o4,I4,rfl,rfl,rfl,(λk j=> .inl (bl k j)),eM4,hS4⟩ ?_ ?_
   ·rintro i σ H5 hi ⟨v5,v6,v7,ow5,M5,rfl,w5,o5,I5,eP,eG,eD,tt,eM5,hS5⟩ R2 hR2;rw[aa,aU,I4.lp]at hi;obtain⟨ra,rv,r1,r2,r3,r4⟩:=o5.Lk (k:=i) (by rw[I5.ls,eG];exact hi);have at3:qh (u.rs.map ξ) (0+(i:Int))=some (.ref ra):=by rw[bg];exact jI r2
    have s8:=I5.s8 i;simp?[o5.dc,uA,o5.sl,at3,r3,r4.l];refine⟨⋯,⋯,?_⟩;refine ke.vw (λj σ H'=>Y4 λ(v5 v7:Option V) (ow':Own) (M':Mem)=>Wy (σ=[⇑a,↥y,⇑pA,↥n,⇑u.d,v5,↥(0+(i:Int)),v7,none]) (Wx A H' x M') (j3 H' x u ow') (In ow' M' O Y) (ow'.P=ow.P) (ow'.G=ow.G) (ow'.D=ow.D) ((ow'.s i).length=(ow5.s i).length) ((∀k j,ow'.t k j= .no∨ow'.t k j=Cp (cf ns k j) ow.G.length)) ((M'.os=[]/\M'.ts=[]/\M'.sd=[])) (qS K H' a ns))
     ⟨_,_,ow5,M5,rfl,w5,o5,I5,eP,eG,eD,rfl,tt,eM5,hS5⟩ ?_ ?_
    ·rintro j σ H6 hj ⟨v5,v7,ow6,M6,rfl,w6,o6,I6,eP6,eG6,eD6,es6,tt6,eM6,hS6⟩ R3 hR3;rw[aU,←es6]at hj;refine jj (λσ' H'=>σ'=[⇑a,↥y,⇑pA,↥n,⇑u.d,↥(cf ns i j),↥(0+(i:Int)),↥(0+(j:Int)),none]/\H6=H') (λR4 hR4=> ?_) ?_
     ·simp?[];refine⟨a,ns,14+(5*(0+(i:Int))+(0+(j:Int)))%22,rfl,hS6.sq,⋯,?_⟩;have e:cat ns (14+(5*(0+(i:Int))+(0+(j:Int)))%22)+3*(0+(i:Int))=cf ns i j:=by unfold cf;rw[bg,bg]
      dsimp only;rw[e];exact hR4 _ _ ⟨rfl,rfl⟩
     ext _ _ ⟨rfl,rfl⟩;simp?[o6.dc,kZ,o6.pl];have ln:((iy tv ow6.P).length:Int)=ow.G.length:=by rw[aa,eP6,I4.lp]
     rw[ln];refine⟨cf ns i j,_,rfl,⋯,λv H7 s7 tV=> ?_⟩;have ep:∀k,ow6.p k=ow.p k:=λk=>by unfold Own.p;rw[eP6]
     obtain⟨pa,epa⟩:=Option.isSome_iff_exists.mp (al i hi);have m6:=I6.at (k:=i) (a:=pa) (by rw[eG6];exact hi) (by rw[ep];exact epa);have gd:Gd ow6 (Cp (cf ns i j) ow.G.length):=by rw[←eG6];exact P8 λk hk=>by rw[ep];exact al k (by rw[←eG6];exact hk)
     have hS':i<ow6.S.length:=by rw[I6.ls,eG6];exact hi
     have tt':∀k' j',(ow6.put i j (Cp (cf ns i j) ow.G.length)).t k' j'= .no∨(ow6.put i j (Cp (cf ns i j) ow.G.length)).t k' j'=Cp (cf ns k' j') ow.G.length:=λk' j'=>by
      rw[Own.Pu hS' hj];by_cases z:k'=i/\j'=j
      ·rw[if_pos z,z.1,z.2];exact .inr rfl
      ·rw[if_neg z];exact tt6 k' j'
     refine⟨x,u,ow6,M6,O,Y,i,j,pa,Cp (cf ns i j) ow.G.length,v,by rw[bg,bg],w6.same s7,o6.same s7,I6,m6,hj,tV,gd,λH8 ks w8 o8 nd8 m8 k8=>hR3 _ _ ⟨_,_,ow6.put i j _,_,rfl,w8,o8,I6.put m6 hj gd (Sq (ns:=ns) (by show(ow6.S.set _ _).length=ow.G.length;rw[aN,I6.ls,eG6]) g10 tt') nd8 m8,eP6,eG6,eD6,?_,tt',eM6,hS6.kx λo' v' e'=>k8 _ _ (s7 _ _ e') rfl (λz=> ?_) (λz=> ?_) λz=> ?_⟩⟩
     ·rw[Own.Mn hS',if_pos rfl,aN];exact es6
     ·rw[z,w6.ar.mem.ls]at e';cases e'
     ·rw[z,w6.bk.dc]at e';cases e'
     ·obtain⟨ii,hii,ez⟩:=List.mem_iff_getElem.mp z;obtain⟨vs,e1,_⟩:=o6.sr ii _ (ab hii);rw[ez,e']at e1;cases e1
    ·rintro σ H6 ⟨v5,v7,ow6,M6,rfl,w6,o6,I6,eP6,eG6,eD6,es6,tt6,eM6,hS6⟩;exact hR2 _ _ ⟨_,_,_,ow6,M6,rfl,w6,o6,I6,eP6,eG6,eD6,tt6,eM6,hS6⟩
   ·rintro σ H5 ⟨v5,v6,v7,ow5,M5,rfl,w5,o5,I5,eP,eG,eD,tt,eM5,hS5⟩;exact hR _ _ ⟨v5,v6,v7,ow5,M5,rfl,w5,o5,I5,eP,eG,eD,Sq (by rw[I5.ls,eG]) g10 tt,eM5,hS5⟩
  ext _ H5 ⟨v5',v6,v7,ow5,M5,rfl,w5,o5,I5,eP,eG,eD,fl5,eM5,hS5⟩;exists Y3 λ(v8:Option V) (ow':Own) (M':Mem)=>C8 (σ'=[⇑a,↥y,⇑pA,↥n,⇑u.d,v5',v6,v7,v8]) (Wx A H' x M') (j3 H' x u ow') (In ow' M' O Y) (ow'.G=ow.G) (Fl 0 ow') ((M'.os=[]/\M'.ts=[]/\M'.sd=[])) (qS K H' a ns)
  ·simp?[];refine⟨⋯,⋯,?_⟩;refine ke.vw (λi σ H'=>Y3 λ(v8:Option V) (ow':Own) (M':Mem)=>Qm (σ=[⇑a,↥y,⇑pA,↥n,⇑u.d,v5',v6,v7,v8]) (Wx A H' x M') (j3 H' x u ow') (In ow' M' O Y) (ow'.P=ow.P) (ow'.G=ow.G) (ow'.D.length=n.toNat) (Fl 0 ow') ((M'.os=[]/\M'.ts=[]/\M'.sd=[])) (qS K H' a ns))
    ⟨_,ow5,M5,rfl,w5,o5,I5,eP,eG,by rw[eD];exact dl,fl5,eM5,hS5⟩ ?_ ?_
   ·rintro i σ H6 hi ⟨v8,ow6,M6,rfl,w6,o6,I6,eP6,eG6,eD6,fl6,eM6,hS6⟩ R2 hR2;simp?[];refine⟨a,ns,36+(0+(i:Int)),rfl,hS6.sq,⋯,?_⟩;simp?[o6.dc,kZ,o6.pl];have ln:((iy tv ow6.P).length:Int)=ow.G.length:=by rw[aa,eP6,I4.lp]
    rw[ln];have ep:∀k,ow6.p k=ow.p k:=λk=>by unfold Own.p;rw[eP6]
    refine⟨_,_,rfl,⋯,λv H7 s7 tV=> ?_⟩;have gd:Gd ow6 (Cp (cat ns (36+(0+(i:Int)))) ow.G.length):=by rw[←eG6];exact P8 λk hk=>by rw[ep];exact al k (by rw[←eG6];exact hk)
    refine⟨x,u,ow6,M6,O,Y,i,_,v,by rw[bg],w6.same s7,o6.same s7,I6,by rw[eD6];exact hi,tV,gd,λH8 w8 o8 k8=>hR2 _ _ ⟨_,_,_,rfl,w8,o8,I6.held gd,eP6,eG6,by show(ow6.D.set _ _).length=_;rw[aN];exact eD6,fl6.of λ_ _=> .inl rfl,eM6,hS6.kx λo' v' e'=>k8 _ _ (s7 _ _ e') rfl λz=> ?_⟩⟩;rcases List.mem_cons.mp z with z|z
    ·rw[z,w6.hd.ls]at e';cases e'
    ·obtain⟨vh,eh,_⟩:=o6.hd;rw[List.mem_singleton.mp z,eh]at e';cases e'
   ·rintro σ H6 ⟨v8,ow6,M6,rfl,w6,o6,I6,eP6,eG6,eD6,fl6,eM6,hS6⟩;exact hR _ _ ⟨v8,ow6,M6,rfl,w6,o6,I6,eG6,fl6,eM6,hS6⟩
  ext _ H6 ⟨v8,ow6,M6,rfl,w6,o6,I6,eG6,fl6,eM6,hS6⟩;simp?[];exact q H6 x u ow6 M6 O Y w6 xt o6 I6 um4 eM6 fl6 (by rw[eG6];exact g10) hS6
noncomputable def IC (ow:Own) (t:Nat×Int×Bool):Option (Int×Int):=if t.2.2=true then(ow.p t.1).map λa=>(a,t.2.1) else none
structure Nm(ow:Own)(M:Mem)(N:Nw):Prop where
 os:M.os=N.ns.map ow.p
 ts:M.ts=N.tk.map (IC ow)
 sd:M.sd=N.sd++Bl ow N.tk
 kn:∀k∈N.ns,k<ow.G.length
 kt:∀t∈N.tk,t.1<ow.G.length
def Lv(ow:Own)(tk:List (Nat×Int×Bool)):Prop:=∀t∈tk,t.2.2=true->(ow.p t.1).isSome=true
theorem Lv.Bl{ow:Own}:∀{tk:List (Nat×Int×Bool)},Lv ow tk->Bl ow tk=[]
 | [],_=>rfl
 |t::r,h=>by
  have ih:=Lv.Bl (tk:=r) λt' m=>h t' (ao _ m);unfold Internal.K13.Bl at ih⊢;rw[bP,if_neg λz=> ?_,ih];have:=h t (ax ..) z.1;rw[z.2]at this;cases this
theorem OF{tc:TT}{t u:TS}{D:Ends}{σ:St}{H:Hp}(h:∀K:Bool->Hp->Prop,(∀H',jo H H'->K false H')->tc σ H K)(ht:∀H',jo H H'->u D σ H'):Lr tc t u D σ H:=h _ λH' s=>by rw[if_neg (by intro z;cases z)];exact ht H' s
def Ii(A:Ad):Sp:=λvs H Q _=>Y7 λ(x:Ax) (u:Ow) (ow:Own) (M:Mem) (O Y:List (Nat×Int)) (N:Nw)=>Qm (vs=[.ref u.d]) (Wx A H x M) (j3 H x u ow) (In ow M O Y) (pR H x u N) (Nm ow M N) (Lv ow N.tk) (N.ns.length<=60) (N.tk.length<60) (∀H',jo H H'->Q (.bl true) H')
theorem oS:jg ["_law_own","_law_roots","_law_name","_law_there","_law_pending"] ["_law_own"] (i9 pW):=fsc
theorem A7(T:Txt K mg A):CG P w K mg base true 12 "_law_told" ["_law_own"] (Ii A):=by
 specialize T.vm.me oS
 ·obtain⟨x,u,ow,M,O,Y,N,rfl,h,o,I,n,nm,lv,l1,l2,q⟩:=h;refine⟨_,kY.run (iY (jr (i:=1) oS.nd rfl lo (jb (iZ 0) i_))
   (iY (ju (k_ (nO (je (v_ (GV hr)) (j4 (jd (iZ 1) rfl) T.mV (qG T).mono hr hx) (i5 (Hl T).mono hr rfl hx (iW (iZ 0) iX)) (jy _)) (mY (je (v_ (GV hr)) (j4 (jd (iZ 1) rfl) T.kA (EV T).mono hr hx) (jb (iZ 0) i_) (jy _))))) (i3 (jf lH)) jh)
   (iY (jY hx.own rfl (kS rfl T.mP (iW (ji jJ (by rfl) T.kj ζl (iW (jb (iZ 0) i_) iX)) iX)) (jG (i:=2) oS.nd rfl lo)
    (i3 (ju (je (v_ (GV hr)) (jw (jd (iZ 1) rfl) T.mK (DR T).mono hr hx (iW (iZ 2) iX)) (jv jE (jb (iZ 0) i_) (jv jE (jb (iZ 0) i_) (iZ 2))) (jy _)) (i3 (jf lH)) jh)))
   (iY (wD (i:=3) (fsc:=i9 pW) (N2:=["_law_own"]) (js:=[0]) oS.nd rfl lo ⟨rfl,rfl,∅,∅,∅,∅,∅,∅,∅⟩ rfl rfl (by rfl) (r_ rfl T.m9 (iW (jb (iZ 0) i_) iX)) (λ_ _ _ _=>(l_ (je pe (jv jE (jb (iZ 2) i_) (iZ 1)) j7 (jy _)))) (λ_ _ _ _=>(lY (iW (iZ 0) (iW (jv jE (jb (iZ 2) i_) (iZ 1)) iX)))))
   (iY (wD (i:=4) (fsc:=i9 pW) (N2:=["_law_own"]) (js:=[0]) oS.nd rfl lo ⟨rfl,rfl,∅,∅,∅,∅,∅,∅,∅⟩ rfl rfl (by rfl) (r_ rfl T.m9 (iW (jb (iZ 0) i_) iX)) (λ_ _ _ _=>(l_ (Jj (jv jE (iZ 1) i6) (λ_=>rfl)))) (λ_ _ _ _=>(lY (iW (iZ 0) (iW (jv jE (jb (iZ 2) i_) (jv jE (iZ 1) i6)) (iW (jv jE (iZ 1) i6) iX))))))
   (i3 (jf (qB (nM (pK (GV hr)) (j4 (jd (iZ 1) rfl) T.mK (wJ T).mono hr hx) (iZ 3) (jy _)) (qC (nM (pK (GV hr)) (j4 (jd (iZ 1) rfl) T.kA (sg T).mono hr hx) (iZ 4) (jy _))))))))))),?_⟩
  show pE _ _ _ [⇑u.d,none,none,none,none] H;have sd:M.sd=N.sd:=by rw[nm.sd,lv.Bl,aM]
  have om:=F4 n;exists σ'=[⇑u.d,⇑x.r,none,none,none]/\H=H'
  ·simp?[o.dc,Cj];exact hR _ _ ⟨rfl,rfl⟩
  ext _ _ ⟨rfl,rfl⟩;obtain⟨dr,er⟩:=h.ro;obtain⟨db,eb⟩:=h.bk.ob;obtain⟨es,hl⟩:=h.la;obtain⟨dl,el⟩:=hl.ob;exists σ'=[⇑u.d,⇑x.r,none,none,none]/\jo H H'
  ·refine OF (λK1 hK=> ?_) λH' s'=>hR _ _ ⟨rfl,s'⟩;simp?[er,T.jX,T.lB,DZ,eb,wX];refine⟨x.b,x.d,M.ks,rfl,h.bk,I.Rj,λl2 hl2=> ?_⟩;have s2:jo H (upd H l2 (.lst ((kC M.ks).map ι))):=jo.upd hl2;have e2:upd H l2 (.lst ((kC M.ks).map ι)) l2=some (.lst ((kC M.ks).map ι)):=i8;generalize upd H l2 (.lst ((kC M.ks).map ι))=H2 at*;refine⟨x,u,ow,M,O,Y,rfl,o.same s2,I,λl3 H3 s3 e3=> ?_⟩;have s23:=s2.trans s3;simp?[s3 _ _ e2,e3,rZ (H:=H3) (d:=1) (l:=kC M.ks) (r:=kC M.ks) rfl,s23 _ _ er,T.jX,T.kG,BK,s23 _ _ el,OS];refine⟨x.l,x.e,x.u,M.ts,M.sd,es,rfl,hl.same s23,λl4 hl4=> ?_⟩;have s4:jo H3 (upd H3 l4 (.lst (M.sd.map ι))):=jo.upd hl4;have e4:upd H3 l4 (.lst (M.sd.map ι)) l4=some (.lst (M.sd.map ι)):=i8;generalize upd H3 l4 (.lst (M.sd.map ι))=H4 at*;have s24:=s23.trans s4;simp?[s24 _ _ o.dc,om.2.2,e4,s24 _ _ n.e3,sd,rZ (H:=H4) (d:=1) (l:=N.sd) (r:=N.sd) rfl];exact hK _ s24
  ext _ H1 ⟨rfl,s1⟩;have h1:=h.same s1;have o1:=o.same s1;obtain⟨dr1,er1⟩:=h1.ro;obtain⟨dw1,ew1⟩:=h1.wk.ob;have ol:M.os.length=N.ns.length:=by rw[nm.os,aa]
  have nl:(nV N.ns).length=N.ns.length:=by unfold nV;rw[aa]
  have pat:∀{k:Nat},k<ow.G.length->qh (ow.P.map tv) (k:Int)=some (tv (ow.p k)):=λ{k} hk=>jI (by rw[ai];unfold Own.p;rw[ae,ab (by rw[I.lp];exact hk)];rfl);exists ∃v2,σ'=[⇑u.d,⇑x.r,v2,none,none]/\H1=H'
  ·simp?[o1.dc,om.1,s1 _ _ n.e1];refine⟨⋯,⋯,ke.vw (λi σ H'=>∃v2,σ=[⇑u.d,⇑x.r,v2,none,none]/\H1=H') ⟨_,rfl,rfl⟩ ?_ ?_⟩
   ·rintro i σ H2 hi ⟨v2,rfl,rfl⟩ R2 hR2;rw[nl,aU]at hi;have kl:=nm.kn _ (bc hi);have at1:qh (nV N.ns) (0+(i:Int))=some (.int (N.ns[i]:Nat)):=by rw[bg];exact jI (by unfold nV;rw[ai,ab hi];rfl)
    have og:M.os[i]? =some (ow.p N.ns[i]):=by rw[nm.os,ai,ab hi];rfl
    refine uy (λK1 hK=> ?_) (hR2 _ _ ⟨_,rfl,rfl⟩);simp?[er1,T.jX,T.kH,BL,ew1,Qd];refine⟨x.w,x.v,M.os,i,_,by rw[bg],h1.wk,og,?_⟩
    cases ep:ow.p N.ns[i] with
    |none=>
     simp?[tv,o1.dc,om.1,s1 _ _ n.e1,at1,kZ,o1.pl,pat kl,ep];exact hK
    |some a=>
     simp?[tv,o1.dc,om.1,s1 _ _ n.e1,at1,kZ,o1.pl,pat kl,ep];exact hK
   ·rintro σ H2 ⟨v2,rfl,rfl⟩;exact hR _ _ ⟨v2,rfl,rfl⟩
  ext _ _ ⟨v2,rfl,rfl⟩;exists Y2 λl3 as=>C4 (σ'=[⇑u.d,⇑x.r,v2,⇑l3,none]) (jo H1 H') (H' l3=some (.lst as)) (Qs H' as (Kg 0 M.os))
  ·simp?[o1.dc,om.1,s1 _ _ n.e1];refine⟨⟨_,kO.of (s1 _ _ n.e1)⟩,sC (λi ys H'=>jo H1 H'/\Qs H' ys (Kg 0 (M.os.take i))/\ys.length<=i) ⟨jo.refl _,.nil,aq _⟩ (λi ys H' hP=>kO.of (hP.1 _ _ (s1 _ _ n.e1))) (by rw[nl];exact aA l1 (by decide)) (λi ys H' hP=>hP.2.2) (λi y ys H' hx' hP p1 hp1 K1 hK=> ?_) λys H' hP l hl'=> ?_⟩
   ·obtain⟨s2,hp,hy⟩:=hP;unfold nV at hx';rw[ai]at hx';obtain⟨k,hk,rfl⟩:=Option.map_eq_some_iff.mp hx';have hi:=(List.getElem?_eq_some_iff.mp hk).1;have kl:=nm.kn k (aJ hk);have tk:M.os.take (i+1)=M.os.take i++[ow.p k]:=by rw[bx,nm.os,ai,hk];rfl
    have hlt:(M.os.take i).length=i:=by rw[bE];lia
    have s3:=s2.trans (jo.upd (o:= .tup [.int i,.int k]) hp1);have o3:=o1.same s3;have hp':=hp.same (jo.upd (o:= .tup [.int i,.int k]) hp1);generalize upd H' p1 (.tup [.int i,.int k])=H3 at*
    cases ep:ow.p k with
    |none=>
     simp?[bq,o3.dc,kZ,o3.pl,pat kl,ep,tv];refine hK _ _ ⟨s3,?_,⋯⟩;rw[tk,ep,si,aM];exact hp'
    |some a=>
     simp?[bq,o3.dc,kZ,o3.pl,pat kl,ep,tv];intro p2 hp2;refine hK _ _ ⟨s3.trans (jo.upd hp2),?_,by rw[aj];exact cb hy⟩;rw[tk,ep,si,hlt];exact(hp'.same (jo.upd hp2)).snoc (by rw[i8,cP])
   ·rw[nl,←ol,bo]at hP;exact hR _ _ ⟨l,ys,rfl,hP.1.trans (jo.upd hl'),i8,hP.2.1.same (jo.upd hl')⟩
  ext _ H3 ⟨l3,as,rfl,s3,e3,pa⟩;have s13:=s1.trans s3;have tl:M.ts.length=N.tk.length:=by rw[nm.ts,aa]
  have rl:(N.rt.map ξ).length=N.tk.length:=by rw[aa,n.rl]
  exists Y2 λl4 bs=>C4 (σ'=[⇑u.d,⇑x.r,v2,⇑l3,⇑l4]) (jo H3 H') (H' l4=some (.lst bs)) (Qu H' bs (j_ 0 M.ts))
  ·simp?[(o1.same s3).dc,om.2.1,s13 _ _ n.e2];refine⟨⟨_,kO.of (s13 _ _ n.e2)⟩,sC (λi ys H'=>jo H3 H'/\Qu H' ys (j_ 0 (M.ts.take i))/\ys.length<=i) ⟨jo.refl _,.nil,aq _⟩ (λi ys H' hP=>kO.of (hP.1 _ _ (s13 _ _ n.e2))) (by rw[rl];exact aA (c8 l2) (by decide)) (λi ys H' hP=>hP.2.2) (λi y ys H' hx' hP p1 hp1 K1 hK=> ?_) λys H' hP l hl'=> ?_⟩
   ·obtain⟨s2,hp,hy⟩:=hP;rw[ai]at hx';obtain⟨ra,hra,rfl⟩:=Option.map_eq_some_iff.mp hx';have hi:i<N.tk.length:=by rw[←n.rl];exact(List.getElem?_eq_some_iff.mp hra).1
    have et:N.tk[i]? =some N.tk[i]:=ab hi;have kl:=nm.kt _ (bc hi);have lv1:=lv _ (bc hi);have tk:M.ts.take (i+1)=M.ts.take i++[IC ow N.tk[i]]:=by rw[bx,nm.ts,ai,et];rfl
    have hlt:(M.ts.take i).length=i:=by rw[bE];lia
    have s4:=s2.trans (jo.upd (o:= .tup [.int i,.ref ra]) hp1);have o4:=o.same (s13.trans s4);have er4:=s4 _ _ (s13 _ _ (n.er i ra _ hra et));have hp':=hp.same (jo.upd (o:= .tup [.int i,.ref ra]) hp1);generalize upd H' p1 (.tup [.int i,.ref ra])=H4 at*;generalize N.tk[i]=t at*;obtain⟨k,m,b⟩:=t
    cases b with
    |false=>
     simp?[er4,NH];refine hK _ _ ⟨s4,?_,⋯⟩;rw[tk,show IC ow (k,m,false)=none from rfl,sk,aM];exact hp'
    |true=>
     obtain⟨a,ep⟩:=Option.isSome_iff_exists.mp (lv1 rfl);have ep:ow.p k=some a:=ep;have kl:k<ow.G.length:=kl;simp?[er4,NH,bq,o4.dc,kZ,o4.pl,pat kl,ep,tv];intro p2 hp2;refine hK _ _ ⟨s4.trans (jo.upd hp2),?_,by rw[aj];exact cb hy⟩;rw[tk,show IC ow (k,m,true)=some (a,m) by show(ow.p k).map _=_;rw[ep];rfl,sk,hlt];exact(hp'.same (jo.upd hp2)).snoc (by rw[i8,cP])
   ·rw[rl,←tl,bo]at hP;exact hR _ _ ⟨l,ys,rfl,hP.1.trans (jo.upd hl'),i8,hP.2.1.same (jo.upd hl')⟩
  ext _ H4 ⟨l4,bs,rfl,s4,e4,ta⟩;have h4:=(h1.same s3).same s4;obtain⟨dr4,er4⟩:=h4.ro;obtain⟨dw4,ew4⟩:=h4.wk.ob;simp?[er4,T.jX,T.kH,BL,ew4,Gk];refine⟨x.w,x.v,M.os,rfl,h4.wk,⋯,λl5 cs H5 s5 _ e5 pc=> ?_⟩;obtain⟨es5,hl5⟩:=(h4.same s5).la;obtain⟨dl5,X3⟩:=hl5.ob;have pa5:=(pa.same s4).same s5;simp?[e5,s5 _ _ (s4 _ _ e3),pc.len,pa5.len,pc.eq Yg pa5,s5 _ _ er4,T.jX,T.kG,BK,X3,Cc];refine⟨x.l,x.e,x.u,M.ts,M.sd,es5,rfl,hl5,⋯,λl6 ds H6 s6 _ e6 td=> ?_⟩;have ta6:=(ta.same s5).same s6;simp?[e6,s6 _ _ (s5 _ _ e4),td.len,ta6.len,td.eq Yh ta6];exact q _ (s13.trans (s4.trans (s5.trans s6)))
def J0(A:Ad):Sp:=λvs H Q _=>Y5 λ(x:Ax) (M:Mem) (ow:Own) (O Y:List (Nat×Int))=>C4 (vs=[.ref x.p,.ref x.r]) (Wx A H x M) (In ow M O Y) (∀(H':Hp) (l:Addr) (F:List (Nat×Int)) (Dn:List Int) (c:CS),H l=none->Wx A H' x (WI M c (ow.D.map (wd (pp ow F))))->H' l=some (.lst (c.cs.map ι))->qT ow M O Y F Dn c->SG ow M F Dn->F.map au=ord ow O->Kx [x.q,x.g] H H'->Q (.ref l) H')
structure Go(A:Ad)(H0 H:Hp)(x:Ax)(M:Mem)(ow:Own)(O Y F:List (Nat×Int))(Dn:List Int)(c:CS)(l:Addr)(hw:List Int):Prop where
 wh:Wx A H x (WI M c hw)
 cl:H l=some (.lst (c.cs.map ι))
 md:qT ow M O Y F Dn c
 kx:Kx [x.q,x.g] H0 H
 nm:l∉mx x
theorem Go.ng{A:Ad}{H0 H:Hp}{x:Ax}{M:Mem}{ow:Own}{O Y F:List (Nat×Int)}{Dn:List Int}{c:CS}{l:Addr}{hw:List Int}(g:Go A H0 H x M ow O Y F Dn c l hw):l≠x.g:=(OY g.nm).1.2.1
section
variable{A:Ad}{H0 H H':Hp}{x:Ax}{M:Mem}{ow:Own}{O Y F:List (Nat×Int)}{Dn:List Int}{c:CS}{l:Addr}{hw:List Int}
theorem Go.pre(g:Go A H0 H x M ow O Y F Dn c l hw)(I:In ow M O Y):NK A H x {M with hw:=hw} c l/\c.ot<=9999/\c.st<=9999:=by
 have t:=g.md.Lu I;have f:=I.fr;have:=f.hv;have:=f.yw;have:=f.y0;have:=f.yt;have:=f.l2;have:=f.ot;have:=f.o0;have e:=g.md.len;have LR:=g.md.LR I;refine⟨⟨g.wh,g.cl,g.nm,g.md.wo,⋯,?_,?_,by rw[g.md.cs,aa];lia⟩,⋯,⋯⟩
 ·show M.so.e<=_;lia
 ·show M.ss.e<=_;lia
theorem Go.same(g:Go A H0 H x M ow O Y F Dn c l hw)(s:jo H H'):Go A H0 H' x M ow O Y F Dn c l hw:=⟨g.wh.same s,s _ _ g.cl,g.md,g.kx.trans (vO s),g.nm⟩
theorem Qr.X6{u:Int}(m:Qr M c u):Qr {M with hw:=hw} c u:=⟨m.kw,m.o0,m.s0,m.yg⟩
theorem Go.slot(g:Go A H0 H x M ow O Y F Dn c l hw)(I:In ow M O Y)(hl:H0 l=none){k:Nat}{a ag:Int}(m:At ow O F k a ag){j:Nat}(hj:j<(ow.s k).length)(w0:Cq ow F hw){Q:VK}{E:XK}
  (q:∀H' F' c',(∃ls,F'=F++ls)->Go A H0 H' x M ow O Y F' ((a+1+j)::Dn) c' l hw->Cq ow F' hw->F'.map au=Iw ow (F.map au) (ow.t k j)->Kx [l,x.q] H H'->Q .non H'):
  Bk A [.ref x.p,.int (a+1+j),.ref l] H Q E:=by
 obtain⟨p,t1,t2⟩:=g.pre I;obtain⟨m1,m2,a0,a1,ls,md,e1⟩:=g.md.slot I m hj rfl rfl;have nl:(ki M.sy c (mE c.ws (a+1+j))).ws.length=c.ws.length:=by have:=md.len;rw[show({ki M.sy c (mE c.ws (a+1+j)) with ws:=(ki M.sy c (mE c.ws (a+1+j))).ws.set (a+1+(j:Int)).toNat (mZ M.sy c (mE c.ws (a+1+j)))}:CS).ws.length=(ki M.sy c (mE c.ws (a+1+j))).ws.length from aN ..]at this;rw[this,g.md.len]
 refine⟨x,{M with hw:=hw},c,l,a+1+j,rfl,p,m1.X6,⟨t1,t2⟩,a0,by rw[g.md.len];exact a1,m2,nl,λH' w1 l1 k1=>q H' (F++ls) _ ⟨ls,rfl⟩ ⟨w1,l1,md,λb v eb kb nb=>k1 b v (g.kx b v eb kb nb) kb λz=> ?_,g.nm⟩ (w0.app md I) e1 k1⟩;rcases List.mem_cons.mp z with rfl|z
 ·rw[hl]at eb;cases eb
 ·rw[az]at z;subst z;exact nb (ax ..)
end
theorem mI:jg ["areas","roots","copies","hand","word","place","done"] ["areas","roots"] (i9 Aw):=fsc
theorem Jv(T:Txt K mg A):CG P w K mg base true 13 "copy_met" ["areas","roots"] (J0 A):=by
 specialize T.Ak.me mI
 ·obtain⟨x,M,ow,O,Y,rfl,h,I,q⟩:=h;refine⟨_,kY.run (iY (jr (i:=2) mI.nd rfl lo (kh iX))
   (iY (jY hx.own rfl (r_ rfl T.m9 (iW (j4 (jd (iZ 1) rfl) T.oE (A5 T).mono hr hx) iX)) (qD (n:=2) (by rfl) (ky (jG (i:=3) mI.nd rfl lo) (ky (jG (i:=4) mI.nd rfl lo) pf)))
    (i3 (jc (jw (jd (iZ 1) rfl) T.oE (A4 T).mono hr hx (iW (iZ 3) (iW (i5 (Mf T).mono hr rfl hx (iW (iZ 0) (iW (iZ 4) (iW (iZ 2) iX)))) iX))))))
   (iY (jY hx.own rfl (ka (j4 (jd (iZ 1) rfl) T.mV (qG T).mono hr hx)) (jG (i:=5) mI.nd rfl lo)
    (i3 (jc (i5 (A_ T).mono hr rfl hx (iW (iZ 0) (iW (iZ 5) (iW (iZ 2) iX)))))))
   (iY (jr (i:=6) mI.nd rfl lo i6)
   (iY (Ab hx.own (je p_ (iZ 6) (ji jJ (by rfl) T.kj ζl (iW (iZ 2) iX)) (jy _))
    (iY (jY hx.own rfl (ka (i5 (uY T).mono hr rfl hx (iW (jd (iZ 0) rfl) (iW (jv jE (iZ 2) (iZ 6)) iX)))) (jG (i:=5) mI.nd rfl lo)
    (i3 (jc (i5 (A_ T).mono hr rfl hx (iW (iZ 0) (iW (iZ 5) (iW (iZ 2) iX)))))))
   (i3 (jr (i:=6) mI.nd rfl lo (ja jM (iZ 6) i6)))))
   (i3 (jf (iZ 2)))))))),?_⟩
  obtain⟨dr,er⟩:=h.ro;obtain⟨dh,eh⟩:=h.hd.ob;obtain⟨db,eb⟩:=h.bk.ob;show pE _ _ _ [⇑x.p,⇑x.r,none,none,none,none,none] H;exists ∃l,C3 (σ'=[⇑x.p,⇑x.r,⇑l,none,none,none,none]) (H l=none) (H'=upd H l (.lst []))
  ·simp?[];intro l hl;exact hR _ _ ⟨l,rfl,hl,rfl⟩
  ext _ _ ⟨l,rfl,hl,rfl⟩;have s1:jo H (upd H l (.lst [])):=jo.upd hl;have g1:Go A H (upd H l (.lst [])) x M ow O Y [] [] ⟨M.ws,M.so.t,M.ss.b,[]⟩ l M.hw:=⟨by
   have e:(⟨M.ss.b,M.ss.e,M.ss.b⟩:S3)=M.ss:=by show S3.mk M.ss.b M.ss.e M.ss.b=S3.mk M.ss.b M.ss.e M.ss.t;rw[I.fr.st]
   show Wx A _ x {M with ss:=⟨M.ss.b,M.ss.e,M.ss.b⟩};rw[e];exact h.same s1,i8,I.mid,vO s1,h.new hl⟩
  generalize upd H l (.lst [])=H1 at*;exists Y5 λv3 v4 F c hw=>C4 (σ'=[⇑x.p,⇑x.r,⇑l,v3,v4,none,none]) (Go A H H' x M ow O Y F [] c l hw) (Cq ow F hw) (F.map au=pJ ow [] ow.D)
  ·obtain⟨dr1,er1⟩:=g1.wh.ro;obtain⟨dh1,eh1⟩:=g1.wh.hd.ob;simp?[er1,T.jX,T.lF,Hy,eh1,LV];refine⟨x.h,x.g,M.hw,rfl,g1.wh.hd,λl2 hl2=>⟨⟨_,kO.of i8⟩,?_⟩⟩;have s2:jo H1 (upd H1 l2 (.lst (M.hw.map ι))):=jo.upd hl2;have g2:=g1.same s2;have e2:upd H1 l2 (.lst (M.hw.map ι)) l2=some (.lst (M.hw.map ι)):=i8;have n2l:=i4 g1.cl hl2;have n2q:=i4 g1.wh.ar.mem.ls hl2;have n2g:=i4 g1.wh.hd.ls hl2;generalize upd H1 l2 (.lst (M.hw.map ι))=H2 at*;refine ke.enum (xs:=M.hw.map ι) (λi σ H'=>Y5 λv3 v4 F c hw=>C7 (σ=[⇑x.p,⇑x.r,⇑l,v3,v4,none,none]) (Go A H H' x M ow O Y F [] c l hw) (H' l2=some (.lst (M.hw.map ι))) (F.map au=pJ ow [] (ow.D.take i)) (hw.length=ow.D.length) ((∀j t,ow.D[j]? =some t->j<i->hw.getD j 0=wd (pp ow F) t/\GW ow F t)) (∀j t,ow.D[j]? =some t->i<=j->hw.getD j 0=wd ow.p t))
    ⟨_,_,[],_,M.hw,rfl,g2,e2,rfl,by rw[I.hd,aa],λj t _ z=>absurd z (cq _),λj t ej _=> ?_⟩ (λi σ H' _ hz=>by obtain⟨_,_,_,_,_,_,_,e,_⟩:=hz;exact kO.of e) ?_ ?_
   ·rw[I.hd,ae,ai,ej];rfl
   ·rintro i v σ H3 p hv ⟨v3,v4,F,c,hw,rfl,g3,e3,k3,hl3,h1,h2⟩ hp R2 hR2;obtain⟨hi,rfl,_⟩:=ints_get hv;have hi':i<ow.D.length:=by rw[I.hd,aa]at hi;exact hi
    have et:ow.D[i]? =some ow.D[i]:=ab hi';have ew:M.hw[i]=wd ow.p ow.D[i]:=by
     have:M.hw[i]? =some (wd ow.p ow.D[i]):=by rw[I.hd,ai,et];rfl
     rw[ab hi]at this;exact aY this
    rw[ew];have s3:jo H3 (upd H3 p (.tup [.int i,.int (wd ow.p ow.D[i])])):=jo.upd hp;have g4:=g3.same s3;have e4:=s3 _ _ e3;have tp:upd H3 p (.tup [.int i,.int (wd ow.p ow.D[i])]) p=some (.tup [.int i,.int (wd ow.p ow.D[i])]):=i8;generalize upd H3 p (.tup [.int i,.int (wd ow.p ow.D[i])])=H4 at*;obtain⟨dr4,er4⟩:=g4.wh.ro;obtain⟨dh4,eh4⟩:=g4.wh.hd.ob;obtain⟨m1,m2,ls,md,e1,e2',e3'⟩:=g4.md.meet I (I.gd _ (bc hi')) (.inl rfl);obtain⟨pr,t1,t2⟩:=g4.pre I;refine⟨p,_,rfl,.inl (.inl tp),rfl,?_⟩;simp?[er4,T.jX,T.lF,Hy,eh4,LU];generalize hW:mZ M.sy c (wd ow.p ow.D[i])=W at*;refine⟨x,{M with hw:=hw},c,l,_,rfl,pr,m1.X6,⟨t1,t2⟩,λH5 w5 l5 k5 o5=>⟨x.h,x.g,hw,i,W,by rw[←hW],w5.hd,⋯,by rw[hl3];lia,m2,?_⟩⟩;have hd6:=w5.hd.put i W;have f6:∀b u,H5 b=some u->b≠x.g->upd H5 x.g (.lst ((hw.set i W).map ι)) b=some u:=λb u eb nb=>qp eb nb;refine hR2 _ _ ⟨_,_,F++ls,ki M.sy c (wd ow.p ow.D[i]),hw.set i W,rfl,⟨w5.hand hd6 f6,f6 _ _ l5 g4.ng,md,λb v eb kb nb=> ?_,g4.nm⟩,?_,?_,by rw[aN];exact hl3,λj t ej hj=> ?_,λj t ej hj=> ?_⟩
    ·rw[aP,not_or,az]at nb;refine f6 b v (k5 b v (g4.kx b v eb kb (by rw[aP,not_or,az];exact nb)) kb λz=> ?_) nb.2;rcases List.mem_cons.mp z with rfl|z
     ·rw[hl]at eb;cases eb
     ·exact nb.1 (List.mem_singleton.mp z)
    ·exact f6 _ _ (k5 _ _ e4 rfl (by rw[aP,not_or,az];exact⟨ah n2l,ah n2q⟩)) (ah n2g)
    ·rw[e1,k3,bx,et];exact wg.symm
    ·by_cases e:j=i
     ·subst e;rw[et]at ej;cases ej
      rw[GR ⋯];exact⟨e2',e3'⟩
     ·have z:=h1 j t ej ⋯;rw[GS (ah e),z.1];have y:=md.app I z.2;exact⟨y.1.symm,y.2⟩
    ·rw[GS ⋯];exact h2 j t ej ⋯
   ·rintro σ H3 ⟨v3,v4,F,c,hw,rfl,g3,e3,k3,hl3,h1,h2⟩;have ln:(M.hw.map ι).length=ow.D.length:=by rw[aa,I.hd,aa]
    rw[ln]at k3 h1;rw[bo]at k3;refine hR _ _ ⟨v3,v4,F,c,hw,rfl,g3,⟨eB λj=> ?_,λt ht=> ?_⟩,k3⟩
    ·by_cases z:j<ow.D.length
     ·have e:=(h1 j _ (ab z) z).1;rw[ae,ab ⋯]at e;rw[ai,ab z,ab ⋯];exact congrArg some e
     ·rw[bz ⋯,bz (by rw[aa];lia)]
    ·obtain⟨j,hj,rfl⟩:=List.mem_iff_getElem.mp ht;exact(h1 j _ (ab hj) hj).2
  ext _ H2 ⟨v3,v4,F,c,hw,rfl,g2,w2,k2⟩;exists Y4 λv5 F c Dn=>C5 (σ'=[⇑x.p,⇑x.r,⇑l,v3,v4,v5,none]) (Go A H H' x M ow O Y F Dn c l hw) (Cq ow F hw) (F.map au=pJ ow [] (U0 ow O)) (∀p∈M.ks,p∈Dn)
  ·obtain⟨dr1,er1⟩:=g2.wh.ro;obtain⟨db1,eb1⟩:=g2.wh.bk.ob;simp?[er1,T.jX,T.lB,DZ,eb1,wX];refine⟨x.b,x.d,M.ks,rfl,g2.wh.bk,I.Rj,λl2 hl2=>⟨l2,rfl,⟨_,kO.of i8⟩,?_⟩⟩;have s2:jo H2 (upd H2 l2 (.lst ((kC M.ks).map ι))):=jo.upd hl2;have g3:=g2.same s2;have e2:upd H2 l2 (.lst ((kC M.ks).map ι)) l2=some (.lst ((kC M.ks).map ι)):=i8;have n2l:=i4 g2.cl hl2;have n2q:=i4 g2.wh.ar.mem.ls hl2;generalize upd H2 l2 (.lst ((kC M.ks).map ι))=H3 at*;refine ke.uT (xs:=(kC M.ks).map ι) (λi σ H'=>Y4 λv5 F c Dn=>C6 (σ=[⇑x.p,⇑x.r,⇑l,v3,v4,v5,none]) (Go A H H' x M ow O Y F Dn c l hw) (Cq ow F hw) (H' l2=some (.lst ((kC M.ks).map ι))) (F.map au=pJ ow (pJ ow [] ow.D) (((kC M.ks).take i).map (Sf ow O))) (∀p∈(kC M.ks).take i,p∈Dn))
    ⟨_,F,c,[],rfl,g3,w2,e2,k2,λ_ z=>nomatch z⟩ (λi σ H' _ hz=>by obtain⟨_,_,_,_,_,_,_,e,_⟩:=hz;exact kO.of e) ?_ ?_
   ·rintro i v σ H4 hv ⟨v5,F,c,Dn,rfl,g4,w4,e4,k4,d4⟩ R2 hR2;obtain⟨hi,rfl,tk⟩:=ints_get hv;obtain⟨k,a,j,ii,m,hj,ep,et,gi⟩:=I.b1 _ ((mM M.ks).mem_iff.mp (bc hi));simp?[ep];refine g4.slot I hl (.inl ⟨m,rfl⟩) hj w4 λH5 F5 c5 _ g5 w5 k5 kx5=>hR2 _ _ ⟨_,F5,c5,_,rfl,g5,w5,?_,?_,λp hp=> ?_⟩
    ·exact kx5 _ _ e4 rfl (by rw[aP,not_or,az];exact⟨ah n2l,ah n2q⟩)
    ·rw[k5,k4,tk,aB,aE,bZ,wg,ep,Iu I.lo m hj]
    ·rw[tk]at hp;rcases List.mem_append.mp hp with hp|hp
     ·exact ao _ (d4 p hp)
     ·rw[List.mem_singleton.mp hp,ep];exact ax ..
   ·rintro σ H4 ⟨v5,F,c,Dn,rfl,g4,w4,e4,k4,d4⟩;rw[aa,bo]at k4 d4;exact hR _ _ ⟨v5,F,c,Dn,rfl,g4,w4,by rw[k4];exact I.start,λp hp=>d4 p ((mM M.ks).mem_iff.mpr hp)⟩
  ext _ H3 ⟨v5,F,c,Dn,rfl,g3,w3,k3,d3⟩;exists σ'=[⇑x.p,⇑x.r,⇑l,v3,v4,v5,↥0]/\H3=H'
  ·simp?[];exact hR _ _ ⟨rfl,rfl⟩
  ext _ _ ⟨rfl,rfl⟩;exists Y5 λv5 d F c Dn=>C5 (σ'=[⇑x.p,⇑x.r,⇑l,v3,v4,v5,↥d]) (Go A H H' x M ow O Y F Dn c l hw) (Cq ow F hw) (F.map au=ord ow O) (SG ow M F Dn)
  ·simp?[];refine⟨λk σ H'=>∃(v5:Option V) (d:Nat) (F:List (Nat×Int)) (c:CS) (Dn:List Int),σ=[⇑x.p,⇑x.r,⇑l,v3,v4,v5,↥d]/\k=21-d/\Go A H H' x M ow O Y F Dn c l hw/\Cq ow F hw/\ML ow (21-d) (F.map au) d=ord ow O/\(∀p∈M.ks,p∈Dn)/\∀k q,(k,q)∈F.take d->∀j:Nat,j<(ow.s k).length->q+1+j∈Dn,
    ⟨_,v5,0,F,c,Dn,rfl,rfl,g3,w3,by rw[k3];rfl,d3,λ_ _ z=>by simp at z⟩,?_⟩
   rintro k σ H4 ⟨v5,d,F,c,Dn,rfl,rfl,g4,w4,c4,d4,f4⟩;obtain⟨da4,ea4⟩:=g4.wh.ar.ob;have cl:c.cs.length=F.length:=by rw[g4.md.cs,aa]
   have LR:=g4.md.LR I;simp?[g4.cl,ea4,T.jC,T.jz,oo];by_cases z:d<F.length
   ·rw[if_pos (by rw[aa,cl];lia)];refine⟨λσ' H'=>∃(v5:Option V) (F:List (Nat×Int)) (c:CS) (Dn:List Int),σ'=[⇑x.p,⇑x.r,⇑l,v3,v4,v5,↥((d+1:Nat):Int)]/\Go A H H' x M ow O Y F Dn c l hw/\Cq ow F hw/\ML ow (21-(d+1)) (F.map au) (d+1)=ord ow O/\(∀p∈M.ks,p∈Dn)/\∀k q,(k,q)∈F.take (d+1)->∀j:Nat,j<(ow.s k).length->q+1+j∈Dn,
     λσ' H' z=>by obtain⟨v5,F,c,Dn,hh⟩:=z;exact⟨21-(d+1),by omega,v5,d+1,hh.1,rfl,F,c,Dn,hh.2⟩,?_⟩
    have eF:F[d]? =some F[d]:=ab z;generalize hkq:F[d]=kq at*;obtain⟨k,qa⟩:=kq;have mk:(k,qa)∈F:=aJ eF;have at1:At ow O F k qa (ow.g k+1):= .inr ⟨mk,rfl⟩;have rg:=g4.md.arg I at1;have ez:ow.z k=(ow.s k).length+1:=rfl;have s8:=I.s8 k;have gk:=g4.md.fg I mk;have hdw:=(g4.md.ce k qa _ at1).1;have cn:lQ c.ws qa.toNat=some (4*(ow.s k).length+(ow.g k+1)):=by
     rw[oC,show c.ws.getD qa.toNat 0=mE c.ws qa from rfl,hdw,g4.md.len,if_pos (by omega)];congr 1;clear ez;lia
    have ecs:(c.cs.map ι)[d]? =↥qa:=by rw[g4.md.cs,ai,ai,eF];rfl
    rw[jI ecs];dsimp only;refine⟨x.m,x.q,c.ws,qa,_,rfl,g4.wh.ar.mem,by rw[g4.md.len];have:=I.fr.l2;lia,rg.1,cn,λl2 hl2=> ?_⟩;refine⟨l2,rfl,⟨_,kO.of i8⟩,?_⟩;have sp:BX qa (4*((ow.s k).length:Int)+(ow.g k+1))=qQ ow (k,qa):=by
     unfold BX qQ;rw[show((4*((ow.s k).length:Int)+(ow.g k+1))/4).toNat=(ow.s k).length by omega]<;>rfl
    rw[sp];have s2:jo H4 (upd H4 l2 (.lst ((qQ ow (k,qa)).map ι))):=jo.upd hl2;have g5:=g4.same s2;have e2:upd H4 l2 (.lst ((qQ ow (k,qa)).map ι)) l2=some (.lst ((qQ ow (k,qa)).map ι)):=i8;have n2l:=i4 g4.cl hl2;have n2q:=i4 g4.wh.ar.mem.ls hl2;generalize upd H4 l2 (.lst ((qQ ow (k,qa)).map ι))=H5 at*;have sll:(qQ ow (k,qa)).length=(ow.s k).length:=by unfold qQ;rw[aa,bI]
    refine ke.uT (xs:=(qQ ow (k,qa)).map ι) (λi σ H'=>Y4 λ(v5:Option V) (ls:List (Nat×Int)) (c:CS) (Dn':List Int)=>C7 (σ=[⇑x.p,⇑x.r,⇑l,v3,v4,v5,↥d]) (Go A H H' x M ow O Y (F++ls) Dn' c l hw) (Cq ow (F++ls) hw) (H' l2=some (.lst ((qQ ow (k,qa)).map ι))) ((F++ls).map au=pJ ow (F.map au) ((ow.s k).take i)) ((∀p∈Dn,p∈Dn')) (∀j:Nat,j<i->j<(ow.s k).length->qa+1+j∈Dn'))
     ⟨_,[],c,Dn,rfl,by rw[aM];exact g5,by rw[aM];exact w4,e2,by rw[aM];rfl,λ_ h=>h,λj z=>absurd z (cq _)⟩ (λi σ H' _ hz=>by obtain⟨_,_,_,_,_,_,_,e,_⟩:=hz;exact kO.of e) ?_ ?_
    ·rintro i v σ H6 hv ⟨v5,ls,c6,Dn6,rfl,g6,w6,e6,k6,d6,f6⟩ R2 hR2;obtain⟨hi,rfl,tk⟩:=ints_get hv;have hi':i<(ow.s k).length:=by clear hdw ez;lia
     have e0:(qQ ow (k,qa))[i]? =some (qa+1+(i:Nat)):=by unfold qQ;rw[ai,fq hi'];rfl
     have ep:(qQ ow (k,qa))[i]=qa+1+(i:Nat):=aY ((ab hi).symm.trans e0);simp?[ep];refine g6.slot I hl (.inr ⟨aQ _ mk,rfl⟩) hi' w6 λH7 F7 c7 ⟨ls7,e7⟩ g7 w7 k7 kx7=> ?_;subst e7;rw[cj]at g7 w7 k7;refine hR2 _ _ ⟨_,ls++ls7,c7,_,rfl,g7,w7,?_,?_,λp hp=>ao _ (d6 p hp),λj j1 j2=> ?_⟩
     ·exact kx7 _ _ e6 rfl (by rw[aP,not_or,az];exact⟨ah n2l,ah n2q⟩)
     ·have et:ow.t k i=(ow.s k)[i]:=by unfold Own.t;rw[ae,ab hi'];rfl
      rw[k7,k6,bx,ab hi',←et];exact wg.symm
     ·by_cases e:j=i
      ·subst e;exact ax ..
      ·exact ao _ (f6 j ⋯ j2)
    ·rintro σ H6 ⟨v5,ls,c6,Dn6,rfl,g6,w6,e6,k6,d6,f6⟩;rw[aa,sll]at k6 f6;rw[bo]at k6;simp?[];refine⟨⋯,F++ls,c6,Dn6,g6,w6,?_,λp hp=>d6 p (d4 p hp),λk' q' m' j hj=> ?_⟩
     ·rw[k6,←c4,show 21-d=(21-(d+1))+1 by lia,Oc (by rw[aa];exact z)];congr 2;rw[ae,ai,eF];rfl
     ·rw[List.take_append_of_le_length ⋯,bx,eF]at m';rcases List.mem_append.mp m' with m'|m'
      ·exact d6 _ (f4 k' q' m' j hj)
      ·have m':=List.mem_singleton.mp m'
       cases m'
       exact f6 j hj hj
   ·rw[if_neg (by rw[aa,cl];lia)];refine hR _ _ ⟨v5,d,F,c,Dn,rfl,g4,w4,?_,λk q m j hj=>f4 k q (by rw[f_ ⋯];exact m) j hj,d4,w4.i⟩;rw[←c4,LI (by rw[aa];lia)]
  ext _ H4 ⟨v5,d,F,c,Dn,rfl,g4,w4,k4,d4⟩;simp?[];have e:=g4.wh;rw[w4.e]at e;exact q H4 l F Dn c hl e g4.cl g4.md d4 k4 g4.kx
structure Nk(x:Own)(M:Mem):Prop where
 ol:M.os.length<=60
 tl:M.ts.length<60
 po:∀a,some a∈M.os->∃k,k<x.G.length/\x.p k=some a
 pt:∀y,some y∈M.ts->∃k,k<x.G.length/\x.p k=some y.1
def B0(A:Ad):Sp:=λvs H Q _=>Y5 λ(x:Ax) (M:Mem) (ow:Own) (O Y:List (Nat×Int))=>C6 (vs=[.ref x.p,.ref x.r]) (Wx A H x M) (x.t=A.jx) (In ow M O Y) (Nk ow M) (∀(H':Hp) (d t:Addr) (F:List (Nat×Int)) (Dn:List Int) (c:CS) (ks:List Int),(∀b u,H b=some u->Hq u=true->b≠d)->Wx A H' {x with y:=x.s,s:=x.y,d:=d} (TZ ow M F c ks)->qT ow M O Y F Dn c->SG ow M F Dn->F.map au=ord ow O->ks.Nodup->     (∀p,p∈ks↔(p∈M.ks∨∃e∈F,ow.g e.1=1/\p∈qQ ow e)/\oV ⟨M.ss.b,M.ss.e,c.st⟩ (mE c.ws p)=true)->Kx (mx x) H H'->     H' t=some (.tup [.int (F.length-(F.filter λe=>decide (ow.g e.1=1)).length),.int (F.filter λe=>decide (ow.g e.1=1)).length])->Q (.ref t) H')
theorem pC:jg ["areas","roots","copies","grown"] ["areas","roots"] (i9 lL):=fsc
theorem BD(T:Txt K mg A):mS P w K mg base (uv P w) true 14 A.kW A.kL ["areas","roots"] (B0 A):=by
 refine T.r6.Xu pC (λvs H Q E h=> ?_) (λcdv A' outer s H vs Q E hcd hr hx h=> ?_)
 ·obtain⟨_,_,_,_,_,rfl,_⟩:=h;rfl
 ·obtain⟨x,M,ow,O,Y,rfl,h,ht,I,nk,q⟩:=h;refine⟨_,kY.run (iY (jr (i:=2) pC.nd rfl lo (i5 (Jv T).mono hr rfl hx (iW (iZ 0) (iW (iZ 1) iX))))
   (iY (jc (KG (L:=lm) (i:=0) (iZ 1) T.jX T.DA (Cu T).mono hr T.C2 (hcd.symm.trans T.pj) T.o_ rfl rfl rfl rfl (λ_=>rfl) ∅ rfl))
   (iY (jc (j4 (iZ 0) T.jC (EL T).mono hr hx))
   (iY (jc (j4 (jd (iZ 0) rfl) T.j5 (DQ T).mono hr hx))
   (iY (oF (i:=3) (fsc:=i9 lL) (N2:=["areas"]) (js:=[0]) pC.nd rfl lo ⟨rfl,rfl,∅,∅,∅,∅,∅,∅,∅⟩ rfl rfl (by rfl) (ka (iZ 2)) (λ_ _ _ _=>(l_ (Jj (jw (Je (K:=K) rfl (iZ 1) rfl) T.j5 (sP T).mono hr LP (iW (iZ 0) iX)) (λ_=>rfl)))) (λ_ _ _ _=>(iZ 0)))
   (iY (jc (i5 (E1 T).mono hr rfl hx (iW (iZ 0) (iW (jd (iZ 1) rfl) (iW (iZ 3) iX)))))
   (i3 (jf (lY (iW (ja lX (ji jJ (by rfl) T.kj ζl (iW (iZ 2) iX)) (ji jJ (by rfl) T.kj ζl (iW (iZ 3) iX))) (iW (ji jJ (by rfl) T.kj ζl (iW (iZ 3) iX)) iX))))))))))),?_⟩
  show pE _ _ _ [⇑x.p,⇑x.r,none,none] H;exists Y4 λl F Dn c=>C8 (σ'=[⇑x.p,⇑x.r,⇑l,none]) (H l=none) (Wx A H' x (WI M c (ow.D.map (wd (pp ow F))))) (H' l=some (.lst (c.cs.map ι))) (qT ow M O Y F Dn c) (SG ow M F Dn) (F.map au=ord ow O) (Kx [x.q,x.g] H H')
  ·simp?[];exact⟨x,M,ow,O,Y,rfl,h,I,λH' l F Dn c hl w1 e1 md dn fo kx=>hR _ _ ⟨l,F,Dn,c,rfl,hl,w1,e1,md,dn,fo,kx⟩⟩
  ext _ H1 ⟨l,F,Dn,c,rfl,hl,w1,e1,md,dn,fo,k1⟩;exists C4 (σ'=[⇑x.p,⇑x.r,⇑l,none]) (Wx A H' x {WI M c (ow.D.map (wd (pp ow F))) with os:=M.os.map (ND M.sy c.ws),ts:=M.ts.map (GK M.sy c.ws),sd:=M.sd++Be M.sy c.ws (j_ 0 M.ts)}) (H' l=some (.lst (c.cs.map ι))) (Kx (mx x) H H')
  ·obtain⟨dr1,er1⟩:=w1.ro;refine⟨x.r,dr1,_,.ref x.p,rfl,er1,by kernel_rfl,rfl,by rw[←ht];exact w1.tb,λH2 lf cc f2 tb2 hlf hcc clo=> ?_⟩;rw[←ht]at f2 tb2;have g2:∀{b u},H1 b=some u->(tg u=="b")=false->H2 b=some u:=λ{b u} e nt=>f2 b u (λz=>by
    obtain⟨ps,q,_⟩:=w1.tb;rw[z,q]at e;cases e
    have nt:(("b":Str)=="b")=false:=nt;rw[beq_self_eq_true]at nt;cases nt) e
   have w2:=w1.Co tb2 λb u e n1 _=>g2 e n1;refine⟨x,_,lf,cc,rfl,w2,clo,md.wo,nk.ol,nk.tl,λa m=> ?_,λy m=> ?_,λH3 w3 k3=> ?_⟩
   ·obtain⟨k,hk,e⟩:=nk.po a m;exact(md.go I hk e).1
   ·obtain⟨k,hk,e⟩:=nk.pt y m;exact(md.go I hk e).1
   obtain⟨_,_,oz,uz,_,_,ez,dz,_⟩:=clo;obtain⟨es2,l2⟩:=w2.la;have n3:∀{b:Addr},b∉mx x->b∉ [x.v,x.e,x.u]:=λ{b} n z=>n (by simp only[aP,aG,or_false]at z;rcases z with rfl|rfl|rfl<;>simp[mx]);have ez3:=k3 _ _ ez rfl (by simp only[aP,aG,or_false,not_or];exact⟨jA ez w2.wk.ls,jA ez l2.dc,jA ez l2.sq⟩);have F3:∀{b u},H1 b=some u->Hq u=true->b∉mx x->nX H3 cc b=some u:=λ{b u} e k n=>by
    rw[lR (λz=>by rw[z,hcc]at e;cases e)]
    exact k3 _ _ (g2 e (by cases u<;>first|(cases k;done)|kernel_rfl)) k (n3 n)
   refine hR _ _ ⟨rfl,w3.drop ez3 dz,F3 e1 rfl (h.new hl),λb u e k n=>F3 (k1 b u e k λz=>n ?_) k n⟩;simp only[aP,aG,or_false]at z;rcases z with rfl|rfl<;>simp[mx]
  ext _ H2 ⟨rfl,w2,e2,k2⟩;obtain⟨da2,ea2⟩:=w2.ar.ob;exists C4 (σ'=[⇑x.p,⇑x.r,⇑l,none]) (Wx A H' {x with y:=x.s,s:=x.y} ⟨c.ws,⟨M.so.b,M.so.e,c.ot⟩,⟨M.ss.b,M.ss.e,c.st⟩,M.sy,ow.D.map (wd (pp ow F)),M.ks,M.os.map (ND M.sy c.ws),M.ts.map (GK M.sy c.ws),M.sd++Be M.sy c.ws (j_ 0 M.ts)⟩) (H' l=some (.lst (c.cs.map ι))) (Kx (mx x) H H')
  ·simp?[ea2,NP];have f3:∀b u,H2 b=some u->b≠x.p->upd H2 x.p (.ins A.jD da2 (uK x.m x.o x.s x.y)) b=some u:=λb u e n=>qp e n;exact⟨x.p,da2,x.m,x.o,x.y,x.s,rfl,ea2,hR _ _ ⟨rfl,w2.Gu (w2.ar.flip i8 f3) λb u e _ _ n=>f3 b u e (BB e ea2 n (by kernel_rfl)),f3 _ _ e2 (jA e2 ea2),λb u e k n=>f3 b u (k2 b u e k n) λz=>by rw[z]at e;have:=k2 _ _ e k (by rw[←z];exact n);rw[ea2]at this;cases this;cases k⟩⟩
  ext _ H3 ⟨rfl,w3,e3,k3⟩;obtain⟨da3,ea3⟩:=w3.ar.ob;obtain⟨ds3,es3⟩:=w3.ar.Em;exists C4 (σ'=[⇑x.p,⇑x.r,⇑l,none]) (Wx A H' {x with y:=x.s,s:=x.y} (TZ ow M F c M.ks)) (H' l=some (.lst (c.cs.map ι))) (Kx (mx x) H H')
  ·simp?[ea3,T.jC,T.kE,FI,es3,Nq];have f4:∀b u,H3 b=some u->b≠x.y->upd H3 x.y (.ins A.jq ds3 (qP M.sy.b M.sy.e M.sy.b)) b=some u:=λb u e n=>qp e n;exact⟨x.y,ds3,_,_,_,rfl,es3,hR _ _ ⟨rfl,w3.Gu (w3.ar.XF (z:=⟨M.sy.b,M.sy.e,M.sy.b⟩) ⟨ds3,i8⟩ f4) λb u e _ n _=>f4 b u e (BB e es3 n (by kernel_rfl)),f4 _ _ e3 (jA e3 es3),λb u e k n=>f4 b u (k3 b u e k n) λz=>by have:=k3 b u e k n;rw[z,es3]at this;cases this;cases k⟩⟩
  ext _ H4 ⟨rfl,w4,e4,k4⟩;obtain⟨da4,ea4⟩:=w4.ar.ob;obtain⟨do4,eo4⟩:=w4.ar.old;have LR:=md.LR I;have tp:=md.Lu I;have ecs:=md.cs;have flt:(c.cs.map ι).filter (λv=>wi v M.so.b (c.ot-1))=((F.filter λe=>decide (ow.g e.1=1)).map bN).map ι:=by
   rw[I.fr.ob,ecs,du,du];congr 2;refine eJ λe he=> ?_;have r:=md.VP (k:=e.1) (q:=e.2) he;have:=ow.z1 e.1;have fr:=I.fr;have:=fr.hv;have:=fr.o0;have:=fr.yw;have:=fr.y0;have:=fr.yt;show wi (ι e.2) 0 (c.ot-1)=decide (ow.g e.1=1);rcases md.fg I (k:=e.1) (q:=e.2) he with z|z
   ·have:=r.2 z;rw[decide_eq_false ⋯];unfold wi;simp;clear z;lia
   ·have:=r.1 z;rw[decide_eq_true z];exact AK (by clear z;lia) (by clear z tp;lia)
  exists ∃lg,C5 (σ'=[⇑x.p,⇑x.r,⇑l,⇑lg]) (H' lg=some (.lst (((F.filter λe=>decide (ow.g e.1=1)).map bN).map ι))) (Wx A H' {x with y:=x.s,s:=x.y} (TZ ow M F c M.ks)) (H' l=some (.lst (c.cs.map ι))) (Kx (mx x) H H')
  ·simp?[];refine⟨⟨_,kO.of e4⟩,uw.IZ (λv=>wi v M.so.b (c.ot-1)) (λv=>v) (kO.of e4) (by rw[aa,ecs,aa];exact aA LR (by decide)) (λv hv K' hK=> ?_) (λv hv _ K' hK=> ?_) λlg hlg=> ?_⟩
   ·obtain⟨q',_,rfl⟩:=List.mem_map.mp hv;simp?[ea4,T.jC,T.kQ,CZ,eo4,CT,bq];exact⟨x.o,do4,_,_,_,_,rfl,eo4,_,rfl,hK⟩
   ·simp?[bq];exact hK
   ·rw[eY,flt];have s5:jo H4 (upd H4 lg (.lst (((F.filter λe=>decide (ow.g e.1=1)).map bN).map ι))):=jo.upd hlg;exact hR _ _ ⟨lg,rfl,i8,w4.same s5,s5 _ _ e4,k4.trans (vO s5)⟩
  ext _ H5 ⟨lg,rfl,eg5,w5,e5,k5⟩;obtain⟨dr5,er5⟩:=w5.ro;exists Y2 λd ks=>C8 (σ'=[⇑x.p,⇑x.r,⇑l,⇑lg]) ((∀b u,H b=some u->Hq u=true->b≠d)) (Wx A H' {x with y:=x.s,s:=x.y,d:=d} (TZ ow M F c ks)) (ks.Nodup) ((∀p,p∈ks↔(p∈M.ks∨∃e∈F,ow.g e.1=1/\p∈qQ ow e)/\oV ⟨M.ss.b,M.ss.e,c.st⟩ (mE c.ws p)=true)) (H' l=some (.lst (c.cs.map ι))) (H' lg=some (.lst (((F.filter λe=>decide (ow.g e.1=1)).map bN).map ι))) (Kx (mx x) H H')
  ·simp?[er5,T.jX,T.lB,DZ];refine⟨{x with y:=x.s,s:=x.y},TZ ow M F c M.ks,ow,F.filter λe=>decide (ow.g e.1=1),lg,rfl,w5,md.wo,?_,eg5,I.Rj,aA (cV ..) LR,I.s8,λe he=> ?_,λp hp=> ?_,λH6 d ks fd w6 k6 nd6 m6=>hR _ _ ⟨d,ks,rfl,λb u e k=> ?_,w6,nd6,λp=> ?_,k6 _ _ e5 rfl aG,k6 _ _ eg5 rfl aG,k5.trans (k6.mono λ_ z=>nomatch z)⟩⟩
   ·show c.ws.length<=200;rw[md.len];exact I.fr.l2
   ·obtain⟨he,e1⟩:=List.mem_filter.mp he;have e1:=of_decide_eq_true e1;have at1:At ow O F e.1 e.2 (ow.g e.1+1):= .inr ⟨he,rfl⟩;have rg:=md.arg I at1;have hdw:=(md.ce e.1 e.2 _ at1).1;have s8:=I.s8 e.1;have ez:ow.z e.1=(ow.s e.1).length+1:=rfl;refine⟨rg.1,by show _<=(c.ws.length:Int);rw[md.len];exact rg.2.2.1,4*(ow.s e.1).length+(ow.g e.1+1),?_,by clear ez;lia⟩;show lQ c.ws e.2.toNat=_;rw[oC,show c.ws.getD e.2.toNat 0=mE c.ws e.2 from rfl,hdw,md.len,if_pos ⋯];congr 1;clear ez;lia
   ·obtain⟨k,a,j,i,m,hj,rfl,_⟩:=I.b1 p hp;have r:=I.O4 m;have ez:ow.z k=(ow.s k).length+1:=rfl;have fr:=I.fr;have:=fr.hv;have:=fr.ot;have:=fr.yw;have:=fr.y0;have:=fr.yt;show _/\_<(c.ws.length:Int);rw[md.len];lia
   ·by_cases n:b∈mx x
    ·obtain⟨v,ev,kv,_⟩:=w5.Mu b n;exact fd _ _ ev kv
    ·exact fd b u (k5 b u e k n) k
   ·rw[m6 p];refine and_congr (or_congr Iff.rfl ⟨λ⟨e,he,hp⟩=> ?_,λ⟨e,he,e1,hp⟩=>⟨e,List.mem_filter.mpr ⟨he,decide_eq_true e1⟩,hp⟩⟩) Iff.rfl;obtain⟨he,e1⟩:=List.mem_filter.mp he;exact⟨e,he,of_decide_eq_true e1,hp⟩
  ext _ H6 ⟨d,ks,rfl,fd,w6,nd6,m6,e6,g6,k6⟩;simp?[e6,g6];intro t ht';have s7:jo H6 (upd H6 t (.tup [.int ((c.cs.map ι).length-(((F.filter λe=>decide (ow.g e.1=1)).map bN).map ι).length),.int (((F.filter λe=>decide (ow.g e.1=1)).map bN).map ι).length])):=jo.upd ht';refine q _ d t F Dn c ks fd (w6.same s7) md dn fo nd6 m6 (k6.trans (vO s7)) ?_;rw[i8];simp only[aa,ecs]
def Gn(ow:Own)(M:Mem)(ow':Own)(M':Mem):Prop:=∃(s:S3) (ws:List Int),(∀k,k<ow.G.length->ND s ws (ow.p k)=ow'.p k)/\M'.os=M.os.map (ND s ws)/\M'.ts=M.ts.map (GK s ws)/\M'.sd=M.sd++Be s ws (j_ 0 M.ts)
def Bj(A:Ad):Sp:=λvs H Q _=>Y6 λ(x:Ax) (u:Ow) (ow:Own) (M:Mem) (O Y:List (Nat×Int))=>C7 (vs=[.ref u.d]) (Wx A H x M) (x.t=A.jx) (j3 H x u ow) (In ow M O Y) (Nk ow M) (∀(H':Hp) (x':Ax) (ow':Own) (M':Mem) (F O' Y':List (Nat×Int)),Wx A H' x' M'->x'.t=A.jx->j3 H' x' u ow'->In ow' M' O' Y'->Nx ow F ow'->Gn ow M ow' M'->qU (lx x u) H H' (lx x' u)->Q (.bl true) H')
theorem kJ:jg ["_law_own","_law_areas","_law_order_here","_law_stood","_law_begins","_law_due","_law_found"] ["_law_own"] (i9 mC):=fsc
theorem qY(T:Txt K mg A):CG P w K mg base true 15 "_law_collected" ["_law_own"] (Bj A):=by
 specialize T.pz.me kJ
 ·obtain⟨x,u,ow,M,O,Y,rfl,h,ht,o,I,nk,q⟩:=h;refine⟨_,kY.run (iY (jr (i:=1) kJ.nd rfl lo (jb (iZ 0) i_))
   (iY (jr (i:=2) kJ.nd rfl lo (i5 (EY T).mono hr rfl hx (iW (iZ 0) iX)))
   (iY (jr (i:=3) kJ.nd rfl lo (ji jJ (by rfl) T.kj ζl (iW (jw (jd (iZ 1) rfl) T.j5 (qH T).mono hr hx (iW (jd (iZ 1) rfl) iX)) iX)))
   (iY (jr (i:=4) kJ.nd rfl lo (kh (iW (jd (jd (iZ 1) rfl) rfl) (iW (jd (jd (iZ 1) rfl) rfl) iX))))
   (iY (jr (i:=5) kJ.nd rfl lo (lY (iW (ji jJ (by rfl) T.kj ζl (iW (wa (fsc:=i9 mC) (N2:=["_law_own"]) (js:=[0]) ⟨rfl,rfl,∅,∅,∅,∅,∅,∅,∅⟩ rfl rfl (by rfl) (ka (iZ 2)) (λ_ _ _ _=>(l_ (je lj (jv jE (jb (iZ 1) i_) (iZ 0)) i6 (jy _)))) (λ_ _ _ _=>(iZ 0))) iX)) (iW (ji jJ (by rfl) T.kj ζl (iW (wa (fsc:=i9 mC) (N2:=["_law_own"]) (js:=[0]) ⟨rfl,rfl,∅,∅,∅,∅,∅,∅,∅⟩ rfl rfl (by rfl) (ka (iZ 2)) (λ_ _ _ _=>(l_ (je lj (jv jE (jb (iZ 1) i_) (iZ 0)) i6 (jy _)))) (λ_ _ _ _=>(iZ 0))) iX)) iX))))
   (iY (jr (i:=6) kJ.nd rfl lo (Kz (BD T).mono hr rfl T.pZ T.r6.kp T.Cr hx (iW (iZ 1) (iW (jb (iZ 0) i_) iX))))
   (iY (ju (k_ (nO (jS (jB (ji qz (by rfl) T.mN ζi (iW (iZ 6) (iW (A0 T.Hd PyProof.Rows.Boot.«tuple») iX))) (λ_=>rfl))) (nO (je (G3 (GV hr)) (iZ 6) (iZ 5) (jy _)) (nO (jS (jB (i5 (wL T).mono hr rfl hx (iW (jv jE (iZ 6) i6) iX)) (λ_=>rfl))) (mY (jS (jB (i5 (wL T).mono hr rfl hx (iW (jv jE (iZ 6) i6) iX)) (λ_=>rfl)))))))) (i3 (jf lH)) jh)
   (iY (ju (k_ (nO (je (G3 (GV hr)) (kh (iW (jd (jd (iZ 1) rfl) rfl) (iW (jd (jd (iZ 1) rfl) rfl) iX))) (iZ 4) (jy _)) (mY (je (G3 (GV hr)) (j4 (jd (iZ 1) rfl) T.j5 (wI T).mono hr hx) i6 (jy _))))) (i3 (jf lH)) jh)
   (i3 (jf (qB (i5 (Hn T).mono hr rfl hx (iW (iZ 0) (iW (iZ 2) (iW (iZ 3) iX)))) (qC (i5 (DS T).mono hr rfl hx (iW (iZ 0) iX)))))))))))))),?_⟩
  show pE _ _ _ [⇑u.d,none,none,none,none,none,none] H;exists σ'=[⇑u.d,⇑x.p,none,none,none,none,none]/\H=H'
  ·simp?[o.dc,Jw];exact hR _ _ ⟨rfl,rfl⟩
  ext _ _ ⟨rfl,rfl⟩;exists ∃lr,C4 (σ'=[⇑u.d,⇑x.p,⇑lr,none,none,none,none]) (jo H H') (H lr=none) (H' lr=some (.lst (nV (ord ow O))))
  ·simp?[];exact⟨x,u,ow,M,O,Y,rfl,o,I,λlr H1 s1 e1 n1=>hR _ _ ⟨lr,rfl,s1,n1,e1⟩⟩
  ext _ H1 ⟨lr,rfl,s1,n1,e1⟩;have h1:=h.same s1;have o1:=o.same s1;obtain⟨da1,ea1⟩:=h1.ar.ob;obtain⟨do1,eo1⟩:=h1.ar.old;exists σ'=[⇑u.d,⇑x.p,⇑lr,↥O.length,none,none,none]/\jo H1 H'
  ·simp?[ea1,T.jC,T.kQ,T.jz,CZ,oo,eo1,BV];have l':=I.lo;rw[←I.fr.ob]at l';refine⟨x.o,do1,_,_,_,x.m,x.q,M.ws,_,rfl,eo1,h1.ar.mem,Bm l' (I.XQ λe he=> .inl he),by rw[aa];have:=I.Xt;lia,λl4 H4 s4 n4 e4=> ?_⟩;rw[←Bu l']at e4;simp?[e4,aa];exact hR _ _ ⟨rfl,s4⟩
  ext _ H2 ⟨rfl,s2⟩;have h2:=h1.same s2;have o2:=o1.same s2;obtain⟨da2,ea2⟩:=h2.ar.ob;obtain⟨dy2,ey2⟩:=h2.ar.oV;obtain⟨ds2,es2⟩:=h2.ar.Em;exists ∃lb,C4 (σ'=[⇑u.d,⇑x.p,⇑lr,↥O.length,⇑lb,none,none]) (jo H2 H') (H2 lb=none) (H' lb=some (.lst [.int M.sy.b,.int M.ss.b]))
  ·simp?[ea2,T.jC,T.jL,T.kE,ux,FI,ey2,es2,T.j5,T.kI,Gg];exact λlb hlb=>hR _ _ ⟨lb,rfl,jo.upd hlb,hlb,i8⟩
  ext _ H3 ⟨lb,rfl,s3,nb,e3⟩;have h3:=h2.same s3;have o3:=o2.same s3;have gf:=I.gf;have er3:=s3 _ _ (s2 _ _ e1);have gl:=gf.len I.Bz;have nl:(nV (ord ow O)).length<=sizeLine:=by unfold nV;rw[aa];exact aA gl (by decide)
  exists ∃td,C3 (σ'=[⇑u.d,⇑x.p,⇑lr,↥O.length,⇑lb,⇑td,none]) (jo H3 H') (H' td=some (.tup [.int ((nV (ord ow O)).filter (pg ow 0)).length,.int ((nV (ord ow O)).filter (pg ow 1)).length]))
  ·simp?[];refine⟨⟨_,kO.of er3⟩,uw.IZ (pg ow 0) (λv=>v) (kO.of er3) nl (λv hv K' hK=> ?_) (λv hv _ K' hK=> ?_) λl5 hl5=> ?_⟩
   ·obtain⟨k,hk,rfl⟩:=List.mem_map.mp hv;simp?[bq,o3.dc,nh,o3.ag,jI (Own.Bs (gf.2 k hk).1)];exact hK
   ·simp?[bq];exact hK
   ·rw[eY];have s4:jo H3 (upd H3 l5 (.lst ((nV (ord ow O)).filter (pg ow 0)))):=jo.upd hl5;have e4:upd H3 l5 (.lst ((nV (ord ow O)).filter (pg ow 0))) l5=some (.lst ((nV (ord ow O)).filter (pg ow 0))):=i8;generalize upd H3 l5 (.lst ((nV (ord ow O)).filter (pg ow 0)))=H4 at*;have o4:=o3.same s4;simp?[e4];refine⟨⟨_,kO.of (s4 _ _ er3)⟩,uw.IZ (pg ow 1) (λv=>v) (kO.of (s4 _ _ er3)) nl (λv hv K' hK=> ?_) (λv hv _ K' hK=> ?_) λl6 hl6=> ?_⟩
    ·obtain⟨k,hk,rfl⟩:=List.mem_map.mp hv;simp?[bq,o4.dc,nh,o4.ag,jI (Own.Bs (gf.2 k hk).1)];exact hK
    ·simp?[bq];exact hK
    ·rw[eY];have s5:jo H4 (upd H4 l6 (.lst ((nV (ord ow O)).filter (pg ow 1)))):=jo.upd hl6;have e5:upd H4 l6 (.lst ((nV (ord ow O)).filter (pg ow 1))) l6=some (.lst ((nV (ord ow O)).filter (pg ow 1))):=i8;generalize upd H4 l6 (.lst ((nV (ord ow O)).filter (pg ow 1)))=H5 at*;simp?[e5];exact λtd htd=>hR _ _ ⟨td,rfl,(s4.trans s5).trans (jo.upd htd),i8⟩
  ext _ H4 ⟨td,rfl,s4,etd⟩;have h4:=h3.same s4;have o4:=o3.same s4;exists Y6 λt d F Dn c ks=>Qm (σ'=[⇑u.d,⇑x.p,⇑lr,↥O.length,⇑lb,⇑td,⇑t]) ((∀b v,H4 b=some v->Hq v=true->b≠d)) (Wx A H' {x with y:=x.s,s:=x.y,d:=d} (TZ ow M F c ks)) (qT ow M O Y F Dn c) (SG ow M F Dn) (F.map au=ord ow O) (ks.Nodup) ((∀p,p∈ks↔(p∈M.ks∨∃e∈F,ow.g e.1=1/\p∈qQ ow e)/\oV ⟨M.ss.b,M.ss.e,c.st⟩ (mE c.ws p)=true)) (Kx (mx x) H4 H') (H' t=some (.tup [.int (F.length-(F.filter λe=>decide (ow.g e.1=1)).length),.int (F.filter λe=>decide (ow.g e.1=1)).length]))
  ·simp?[o4.dc,Cj];exact⟨x,M,ow,O,Y,rfl,h4,ht,I,nk,λH5 d t F Dn c ks fd w5 md dn fo nd m5 k5 tp=>hR _ _ ⟨t,d,F,Dn,c,ks,rfl,fd,w5,md,dn,fo,nd,m5,k5,tp⟩⟩
  ext _ H5 ⟨t,d,F,Dn,c,ks,rfl,nd5,w5,md,dn,fo,nd,m5,k5,tp⟩;have o5:j3 H5 {x with y:=x.s,s:=x.y,d:=d} u ow:={o4.go h4 k5 with nm:=(o4.dn nd5).nm};have etd5:=k5 _ _ etd rfl (h4.Yj etd);have elr5:=k5 _ _ (s4 _ _ er3) rfl (h.new n1);have elb5:=k5 _ _ (s4 _ _ e3) rfl (h2.new nb);have lp:=F0 (x:=ow) (F:=F) λe he=>md.fg I (k:=e.1) (q:=e.2) he;have c0:((nV (ord ow O)).filter (pg ow 0)).length=(F.filter λe=>decide (ow.g e.1=0)).length:=by rw[←fo,CN];unfold nV;rw[aa,aa]
  have c1:((nV (ord ow O)).filter (pg ow 1)).length=(F.filter λe=>decide (ow.g e.1=1)).length:=by rw[←fo,CN];unfold nV;rw[aa,aa]
  have tp':H5 t=some (.tup [.int ((nV (ord ow O)).filter (pg ow 0)).length,.int ((nV (ord ow O)).filter (pg ow 1)).length]):=by
   rw[tp,c0,c1,show(F.length:Int)-((F.filter λe=>decide (ow.g e.1=1)).length:Int)=((F.filter λe=>decide (ow.g e.1=0)).length:Int) by clear c1 c0 tp;lia]
  generalize (((nV (ord ow O)).filter (pg ow 0)).length:Int)=C0 at*;generalize (((nV (ord ow O)).filter (pg ow 1)).length:Int)=C1 at*;exists σ'=[⇑u.d,⇑x.p,⇑lr,↥O.length,⇑lb,⇑td,⇑t]/\H5=H'
  ·refine uy (λK1 hK=> ?_) (hR _ _ ⟨rfl,rfl⟩);have t1:U4 H5 (.ref t)=some (.type "tuple"):=by simp[U4,tp']
   have t2:NL K H5 (.ref t):=by simp[NL,tp']
   simp?[t1,t2,T.qF,tp',etd5,VJ];refine⟨_,rfl,true,rfl,?_⟩;rw[if_neg (by decide),tp'];exact⟨_,rfl,true,rfl,hK⟩
  ext _ _ ⟨rfl,rfl⟩;obtain⟨da5,ea5⟩:=w5.ar.ob;obtain⟨dy5,ey5⟩:=w5.ar.oV;obtain⟨ds5,es5⟩:=w5.ar.Em;replace ea5:H5 x.p=some (.ins A.jD da5 (uK x.m x.o x.s x.y)):=ea5;replace ey5:H5 x.s=some (.ins A.jq dy5 (qP M.ss.b M.ss.e c.st)):=ey5;replace es5:H5 x.y=some (.ins A.jq ds5 (qP M.sy.b M.sy.e M.sy.b)):=es5;exists σ'=[⇑u.d,⇑x.p,⇑lr,↥O.length,⇑lb,⇑td,⇑t]/\jo H5 H'
  ·simp?[ea5,T.jC,T.jL,T.kE,ux,FI,ey5,es5,T.j5,T.kI,Gg];intro p hp;have s6:jo H5 (upd H5 p (.lst [.int M.sy.b,.int M.ss.b])):=jo.upd hp;generalize upd H5 p (.lst [.int M.sy.b,.int M.ss.b])=H6 at*;simp?[s6 _ _ elb5,VJ,s6 _ _ ea5,T.jC,T.kE,FI,s6 _ _ es5,Ea];refine⟨x.y,ds5,_,_,_,rfl,s6 _ _ es5,?_⟩;simp?[Int.sub_self];exact hR _ _ ⟨rfl,s6⟩
  ext _ H6 ⟨rfl,s6⟩;simp?[];refine⟨_,u,ow,M,_,O,Y,F,lr,rfl,w5.same s6,o5.same s6,I,⟨Dn,c,md⟩,by rw[fo];exact s6 _ _ elr5,i4 o.pl n1,i4 o.ag n1,λx' nxx=>I.next md dn nxx nd m5,λH7 x' nxx w7 o7 f7=>⟨true,rfl,?_⟩⟩;rw[if_pos rfl];have I':=I.next md dn nxx nd m5
  refine⟨_,u,x',_,_,_,rfl,w7,o7,I',λH8 s8=>q H8 _ x' _ F _ _ (w7.same s8) ht (o7.same s8) I' nxx ⟨M.sy,c.ws,λk hk=> ?_,rfl,rfl,rfl⟩ ⟨λb v e k n=> ?_,λb hb=> ?_⟩⟩
  ·rw[nxx.p k hk]
   cases e:ow.p k with
   |some a=>exact(md.go I hk e).2
   |none=>
    by_cases z:ow.g k=2
    ·rw[if_pos z];rfl
    ·rw[if_neg z,pL λm=>by obtain⟨a,ha⟩:=md.fy k m;rw[((I.ye k a).mp ha).2.2]at e;cases e];rfl
  ·have n1:b∉mx x:=λz=>n (aQ _ z);have n2:∀a∈u.as,b≠a:=λa ha z=>n (aH _ (ao _ (by rw[z];exact ha)));exact s8 _ _ (f7 _ _ (s6 _ _ (k5 _ _ (s4 _ _ (s3 _ _ (s2 _ _ (s1 _ _ e)))) k n1)) (n2 _ (by simp[Ow.as])) (n2 _ (by simp[Ow.as])))
  ·rcases List.mem_append.mp hb with hb|hb
   ·rcases X9 hb with hb|hb
    ·exact .inl (aQ _ hb)
    ·refine .inr λv e=> ?_
     cases i:Hq v with
     |false=>rfl
     |true=>exact(nd5 _ _ (s4 _ _ (s3 _ _ (s2 _ _ (s1 _ _ e)))) i hb).elim
   ·exact .inl (aH _ hb)
section
variable{H H':Hp}{x:Ax}{u:Ow}{N:Nw}{w:Own}{A:Ad}{M:Mem}
theorem pR.ll(n:pR H x u N){a:Addr}(m:a∈N.as):∃ys,H a=some (.lst ys):=by
 have m':a∈N.ln::N.lt::N.ld::N.rt:=m;simp only[aP]at m';rcases m' with rfl|rfl|rfl|h
 ·exact⟨_,n.e1⟩
 ·exact⟨_,n.e2⟩
 ·exact⟨_,n.e3⟩
 ·obtain⟨i,hi,rfl⟩:=List.mem_iff_getElem.mp h;exact⟨_,n.er i _ _ (ab hi) (ab (by rw[←n.rl];exact hi))⟩
theorem pR.wh(n:pR H x u N)(h:Wx A H x M)(f:∀b v,H b=some v->b∉N.as->H' b=some v):Wx A H' x M:=h.fr λb v e z=>f b v e λm=>by
 rcases z with z|z
 ·exact n.nm b m (aQ _ z)
 ·obtain⟨ys,q⟩:=n.ll m;rw[q]at e;cases e;exact Wv z.1
theorem pR.own(n:pR H x u N)(o:j3 H x u w)(f:∀b v,H b=some v->b∉N.as->H' b=some v):j3 H' x u w:=o.kx (L:=N.as) (λb v e _ nb=>f b v e nb) (λa ha z=>n.nm a z (aH _ ha)) λa ha xs e=>by
 obtain⟨ys,q⟩:=n.ll ha;rw[q]at e;cases e
end
noncomputable def lN (x:Ax) (u:Ow) (N:Nw):List Addr:=lx x u++N.as
theorem qU.lN{H H':Hp}{x x':Ax}{u u':Ow}{N:Nw}(h:qU (lx x u) H H' (lx x' u')):qU (lN x u N) H H' (lN x' u' N):=
 ⟨λb v e i n=>h.1 b v e i λz=>n (aQ _ z),λb z=>(List.mem_append.mp z).elim (λz=>(h.2 b z).imp (aQ _) id) λz=> .inl (aH _ z)⟩
theorem qU.nN{H H':Hp}{x:Ax}{u:Ow}{N:Nw}(f:∀b v,H b=some v->b∉N.as->H' b=some v):qU (Internal.K13.lN x u N) H H' (Internal.K13.lN x u N):= .of λb v e _ n=>f b v e λz=>n (aH _ z)
section
variable{ow ow':Own}{M M':Mem}{N:Nw}
theorem PD{s:S3}{ws:List Int}(g:∀k,k<ow.G.length->ND s ws (ow.p k)=ow'.p k):∀{tk:List (Nat×Int×Bool)} {j:Nat},(∀t∈tk,t.1<ow.G.length)->Lv ow tk->Be s ws (j_ j (tk.map (IC ow)))=Bl ow' tk
 | [],_,_,_=>rfl
 |t::r,j,hk,lv=>by
  have ih:=PD g (tk:=r) (j:=j+1) (λt m=>hk t (ao _ m)) λt m=>lv t (ao _ m);obtain⟨k,n,b⟩:=t;unfold Bl at ih⊢;rw[aE,bP]
  cases b with
  |false=>rw[if_neg λz=>nomatch z.1];exact ih
  |true=>
   obtain⟨a,ea⟩:=Option.isSome_iff_exists.mp (lv _ (ax ..) rfl);have ea:ow.p k=some a:=ea;have e1:=g k (hk _ (ax ..));rw[ea]at e1;have e1:Dm s ws a=ow'.p k:=e1;rw[show IC ow (k,n,true)=some (a,n) by show(ow.p k).map _=_;rw[ea];rfl];show Be s ws (((j:Int),a,n)::j_ (j+1) (r.map (IC ow)))=_;unfold Be at ih⊢;rw[bP];dsimp only;rw[e1]
   cases ow'.p k with
   |none=>rw[if_neg (by intro z;cases z),if_pos ⟨rfl,rfl⟩,ih]
   |some q=>rw[if_pos (show(some q).isSome=true from rfl),if_neg λz=>nomatch z.2];exact ih
theorem Nm.col(h:Nm ow M N)(lv:Lv ow N.tk)(g:Gn ow M ow' M')(eG:ow'.G.length=ow.G.length):Nm ow' M' N:=by
 obtain⟨s,ws,g1,g2,g3,g4⟩:=g;refine⟨?_,?_,?_,λk m=>by rw[eG];exact h.kn k m,λt m=>by rw[eG];exact h.kt t m⟩
 ·rw[g2,h.os,bj];exact bt λk m=>g1 k (h.kn k m)
 ·rw[g3,h.ts,bj];refine bt λt m=> ?_;have e:=g1 t.1 (h.kt t m);show GK s ws (IC ow t)=IC ow' t;unfold IC;rw[←e]
  cases t.2.2 with
  |false=>rfl
  |true=>cases ow.p t.1<;>rfl
 ·rw[g4,h.sd,lv.Bl,aM,h.ts,PD g1 h.kt lv]
theorem Nm.say(h:Nm ow M N):Nm ow M (Nl ow N)/\Lv ow (Nl ow N).tk:=by
 have lv:Lv ow (N.tk.map (Bf ow)):=λt m y=>by
  obtain⟨t0,_,rfl⟩:=List.mem_map.mp m;unfold Bf at y⊢;by_cases c:t0.2.2=true/\ow.p t0.1=none
  ·rw[if_pos c]at y;cases y
  ·rw[if_neg c]at y⊢
   cases e:ow.p t0.1 with
   |none=>exact absurd ⟨y,e⟩ c
   |some a=>rfl
 refine⟨⟨h.os,?_,?_,h.kn,λt m=> ?_⟩,lv⟩
 ·show M.ts=(N.tk.map (Bf ow)).map (IC ow);rw[h.ts,bj];refine bt λt _=> ?_;show IC ow t=IC ow (Bf ow t);unfold Bf;by_cases c:t.2.2=true/\ow.p t.1=none
  ·rw[if_pos c];unfold IC;rw[if_pos c.1,c.2];rfl
  ·rw[if_neg c]
 ·show M.sd=(N.sd++Bl ow N.tk)++Bl ow (N.tk.map (Bf ow));rw[lv.Bl,aM];exact h.sd
 ·obtain⟨t0,m0,rfl⟩:=List.mem_map.mp m;have:=h.kt t0 m0;unfold Bf;by_cases c:t0.2.2=true/\ow.p t0.1=none
  ·rw[if_pos c];exact this
  ·rw[if_neg c];exact this
theorem Nm.Tc(h:Nm ow M N)(lv:Lv ow N.tk)(e:∀k,k<ow.G.length->ow'.p k=ow.p k)(g:ow.G.length<=ow'.G.length)(m:M'.os=M.os/\M'.ts=M.ts/\M'.sd=M.sd):Nm ow' M' N/\Lv ow' N.tk:=by
 have lv':Lv ow' N.tk:=λt mt y=>by rw[e _ (h.kt t mt)];exact lv t mt y
 refine⟨⟨?_,?_,?_,λk mk=>av (h.kn k mk) g,λt mt=>av (h.kt t mt) g⟩,lv'⟩
 ·rw[m.1,h.os];exact bt λk mk=>(e k (h.kn k mk)).symm
 ·rw[m.2.1,h.ts];exact bt λt mt=>by unfold IC;rw[e _ (h.kt t mt)]
 ·rw[m.2.2,h.sd,lv.Bl,lv'.Bl]
end
structure Al(A:Ad)(H:Hp)(x:Ax)(u:Ow)(ow:Own)(M:Mem)(O Y:List (Nat×Int))(N:Nw)(m:Nat):Prop where
 wh:Wx A H x M
 xt:x.t=A.jx
 o:j3 H x u ow
 i:In ow M O Y
 n:pR H x u N
 nm:Nm ow M N
 lv:Lv ow N.tk
 fl:Fl m ow
 gl:ow.G.length<=10+m
 l1:N.ns.length<=m
 l2:N.tk.length<=m
section
variable{A:Ad}{H H':Hp}{x:Ax}{u:Ow}{ow:Own}{M:Mem}{O Y:List (Nat×Int)}{N:Nw}{m:Nat}
theorem Al.same(a:Al A H x u ow M O Y N m)(s:jo H H'):Al A H' x u ow M O Y N m:=
 {a with wh:=a.wh.same s,o:=a.o.same s,n:=a.n.fr (.same s) rfl}
theorem Al.mono(a:Al A H x u ow M O Y N m):Al A H x u ow M O Y N (m+1):=
 {a with fl:=a.fl.mono (cO _),gl:=by have:=a.gl;lia,l1:=by have:=a.l1;lia,l2:=by have:=a.l2;lia}
theorem Al.nk(a:Al A H x u ow M O Y N m)(h:m<=10):Nk ow M where
 ol:=by have:=a.l1;rw[a.nm.os,aa];lia
 tl:=by have:=a.l2;rw[a.nm.ts,aa];lia
 po:=λb hb=>by
  rw[a.nm.os]at hb;obtain⟨k,hk,e⟩:=List.mem_map.mp hb;exact⟨k,a.nm.kn k hk,e⟩
 pt:=λy hy=>by
  rw[a.nm.ts]at hy;obtain⟨t,ht,e⟩:=List.mem_map.mp hy;refine⟨t.1,a.nm.kt t ht,?_⟩;unfold IC at e
  cases b:t.2.2 with
  |false=>rw[b]at e;cases e
  |true=>
   rw[b,if_pos rfl]at e;obtain⟨q,e1,e2⟩:=Option.map_eq_some_iff.mp e;rw[e1,←e2]
theorem Al.Yc(a:Al A H x u ow M O Y N m):N.sd.length<=m:=by
 obtain⟨es,l⟩:=a.wh.la;have:=l.ln;have e:=a.nm.sd;rw[a.lv.Bl,aM]at e;rw[e,a.nm.ts,aa]at this;have:=a.l2;lia
end
theorem Own.VT{x:Own}{a g:Int}{n:Nat}{k:Nat}(h:k<x.P.length):(x.lay a g n).p k=x.p k:=by
 show(x.P++[some a]).getD k none=_;rw[qw,if_pos h];rfl
theorem Own.VU{x:Own}{a g:Int}{n:Nat}(k j:Nat):(x.lay a g n).t k j=x.t k j∨(x.lay a g n).t k j= .no:=by
 show((x.S++[ak n Th.no]).getD k []).getD j .no=_∨((x.S++[ak n Th.no]).getD k []).getD j .no=_;rw[qw];by_cases z:k<x.S.length
 ·rw[if_pos z];exact .inl rfl
 ·rw[if_neg z];by_cases y:k=x.S.length
  ·rw[if_pos y,ae,b_];by_cases w:j<n
   ·rw[if_pos w];exact .inr rfl
   ·rw[if_neg w];exact .inr rfl
  ·rw[if_neg y];exact .inr rfl
theorem Fl.put{m:Nat}{x:Own}{k j:Nat}{t:Th}(h:Fl m x)(hS:k<x.S.length)(hj:j<(x.s k).length):Fl (m+1) (x.put k j t):=by
 obtain⟨ns,n,B,h1,h2,h3⟩:=h;refine⟨ns,n,(k,j)::B,h1,cb h2,λk' j' z=> ?_⟩;rw[aP,not_or]at z;rw[Own.Pu hS hj,if_neg λy=>z.1 (by rw[y.1,y.2])];exact h3 k' j' z.2
theorem In.tick{x:Own}{M:Mem}{O Y:List (Nat×Int)}(I:In x M O Y){os:List (Option Int)}{ts:List (Option (Int×Int))}{sd:List Int}:In x {M with os:=os,ts:=ts,sd:=sd} O Y:=
 {I with fr:=⟨I.fr.l2,I.fr.ob,I.fr.o0,I.fr.ot,I.fr.hv,I.fr.yw,I.fr.y0,I.fr.yt,I.fr.st,I.fr.rm,I.fr.Rt⟩}
theorem pR.WK{H:Hp}{x:Ax}{u:Ow}{N:Nw}(n:pR H x u N){k:Nat}:pR (upd H N.ln (.lst (nV (N.ns++[k])))) x u {N with ns:=N.ns++[k]}:=by
 have d:=n.nd;simp only[Nw.as,cY,aP,not_or]at d;exact⟨n.mo,i8,by rw[i7 (ah d.1.1)];exact n.e2,by rw[i7 (ah d.1.2.1)];exact n.e3,n.rl,λi a t h1 h2=>by rw[i7 λz=>d.1.2.2 (by rw[←z];exact aJ h1)];exact n.er i a t h1 h2,n.nd,n.nm⟩
theorem pR.Yq{H:Hp}{x:Ax}{u:Ow}{N:Nw}(n:pR H x u N){ra:Addr}(hr:H ra=none)(nr:ra∉lx x u){t:Nat×Int×Bool}:pR (upd (upd H ra (.lst (NH t))) N.lt (.lst ((N.rt++[ra]).map ξ))) x u {N with rt:=N.rt++[ra],tk:=N.tk++[t]}:=by
 have d:=n.nd;simp only[Nw.as,cY,aP,not_or]at d;have ne:∀{b:Addr} {v:HO},H b=some v->b≠ra:=λe=>i4 e hr;have na:ra∉N.as:=λz=>by obtain⟨ys,e⟩:=n.ll z;exact ne e rfl
 refine⟨n.mo,by rw[i7 d.1.1,i7 (ne n.e1)];exact n.e1,i8,by rw[i7 (ah d.2.1.1),i7 (ne n.e3)];exact n.e3,by rw[aj,aj,n.rl];rfl,λi a t' h1 h2=> ?_,?_,λa m=> ?_⟩
 ·by_cases z:i<N.rt.length
  ·have h1:(N.rt++[ra])[i]? =some a:=h1;have h2:(N.tk++[t])[i]? =some t':=h2;rw[bJ z]at h1;rw[bJ (by rw[←n.rl];exact z)]at h2;have e:=n.er i a t' h1 h2;rw[i7 λy=>d.2.1.2 (by rw[←y];exact aJ h1),i7 (ne e)];exact e
  ·have h1:(N.rt++[ra])[i]? =some a:=h1;have h2:(N.tk++[t])[i]? =some t':=h2;have hi:i=N.rt.length:=by
    have:=(List.getElem?_eq_some_iff.mp h1).1;rw[aj]at this;have:i<N.rt.length+1:=this;lia
   rw[bD ⋯,hi,e_]at h1;rw[bD (by rw[←n.rl];lia),hi,n.rl,e_]at h2
   cases h1;cases h2
   rw[i7 (ah (ne n.e2)),i8]
 ·show(N.as++[ra]).Nodup;exact List.nodup_append.mpr ⟨n.nd,List.nodup_cons.mpr ⟨aG,bB⟩,λa ha b hb e=>by rw[az]at hb;subst hb;exact na (e▸ha)⟩
 ·have m:a∈N.as++[ra]:=m;rcases List.mem_append.mp m with m|m
  ·exact n.nm a m
  ·rw[List.mem_singleton.mp m];exact nr
section
variable{A:Ad}{H H':Hp}{x:Ax}{u:Ow}{ow:Own}{M:Mem}{O Y:List (Nat×Int)}{N:Nw}{m:Nat}
theorem Al.held(a:Al A H x u ow M O Y N m){j:Nat}{t:Th}(gd:Gd ow t)(w:Wx A H' x {M with hw:=M.hw.set j (wd ow.p t)})(o:j3 H' x u {ow with D:=ow.D.set j t})(k:Kx [x.g,u.lh] H H'):Al A H' x u {ow with D:=ow.D.set j t} {M with hw:=M.hw.set j (wd ow.p t)} O Y N m/\qU (lN x u N) H H' (lN x u N):=by
 have k':Kx (lx x u) H H':=k.mono λb hb=>by
  simp only[aP,aG,or_false]at hb;rcases hb with rfl|rfl<;>simp[lx,mx,Ow.as]
 have c:=a.nm.Tc (ow':={ow with D:=ow.D.set j t}) (M':={M with hw:=M.hw.set j (wd ow.p t)}) a.lv (λ_ _=>rfl) (aq _) ⟨rfl,rfl,rfl⟩;exact⟨⟨w,a.xt,o,a.i.held gd,a.n.fr (.of k') rfl,c.1,c.2,a.fl.of λ_ _=> .inl rfl,a.gl,a.l1,a.l2⟩,(qU.of k').lN⟩
theorem Al.laid(a:Al A H x u ow M O Y N m){u':Ow}{ow':Own}{M':Mem}{O' Y':List (Nat×Int)}(w:Wx A H' x M')(o:j3 H' x u' ow')(I:In ow' M' O' Y')(ed:u'.more=u.more)(eO:ow'=ow∨∃a g n,ow'=ow.lay a g n)(eM:M'.os=M.os/\M'.ts=M.ts/\M'.sd=M.sd)(st:qU (lx x u) H H' (lx x u')):Al A H' x u' ow' M' O' Y' N (m+1):=by
 have g:(∀k,k<ow.G.length->ow'.p k=ow.p k)/\ow.G.length<=ow'.G.length/\ow'.G.length<=ow.G.length+1/\Fl m ow':=by
  rcases eO with rfl|⟨b,g,n,rfl⟩
  ·exact⟨λ_ _=>rfl,aq _,cO _,a.fl⟩
  ·have e:(ow.lay b g n).G.length=ow.G.length+1:=by show(ow.G++[g]).length=_;rw[aj];rfl
   exact⟨λk hk=>Own.VT (by rw[a.i.lp];exact hk),⋯,⋯,a.fl.of Own.VU⟩
 have c:=a.nm.Tc (M':=M') a.lv g.1 g.2.1 eM;have:=a.gl;have:=a.l1;have:=a.l2;exact⟨w,a.xt,o,I,a.n.fr st ed,c.1,c.2,g.2.2.2.mono (cO _),⋯,⋯,⋯⟩
theorem Al.put(a:Al A H x u ow M O Y N m)(m10:m<10){k j:Nat}{b:Int}{t:Th}{ks:List Int}(mk:(k,b)∈O∨(k,b)∈Y)(hj:j<(ow.s k).length)(gd:Gd ow t)(w:Wx A H' x {M with ws:=M.ws.set (b+1+(j:Int)).toNat (wd ow.p t),ks:=ks})(o:j3 H' x u (ow.put k j t))(nd:ks.Nodup)
  (hks:∀q,q∈ks↔(q∈M.ks/\q≠b+1+(j:Int))∨(q=b+1+(j:Int)/\ow.g k=2/\GZ ow t=true)) (f:∀b v,H b=some v->Hq v=true->b≠x.q->b≠x.d->b∉u.rs->H' b=some v):Al A H' x u (ow.put k j t) {M with ws:=M.ws.set (b+1+(j:Int)).toNat (wd ow.p t),ks:=ks} O Y N (m+1)/\qU (lN x u N) H H' (lN x u N):=by
 have k':Kx (lx x u) H H':=λb v e i n=>f b v e i (λz=>n (by rw[z];simp[lx,mx])) (λz=>n (by rw[z];simp[lx,mx])) λz=>n (by simp[lx,Ow.as,z]);have c:=a.nm.Tc (ow':=ow.put k j t) (M':={M with ws:=M.ws.set (b+1+(j:Int)).toNat (wd ow.p t),ks:=ks}) a.lv (λ_ _=>rfl) (aq _) ⟨rfl,rfl,rfl⟩;have fl:=a.fl.put (t:=t) (show k<ow.S.length by rw[a.i.ls];exact(a.i.pl mk).1) hj;have:=a.gl;have:=a.l1;have:=a.l2;exact⟨⟨w,a.xt,o,a.i.put mk hj gd (fl.mono ⋯) nd hks,a.n.fr (.of k') rfl,c.1,c.2,fl,by show ow.G.length<=_;lia,⋯,⋯⟩,(qU.of k').lN⟩
theorem Al.VF(a:Al A H x u ow M O Y N m){H2:Hp}{x':Ax}{ow':Own}{M':Mem}{F O' Y':List (Nat×Int)}(w:Wx A H' x' M')(xt:x'.t=A.jx)(o:j3 H' x' u ow')(I:In ow' M' O' Y')(nx:Nx ow F ow')(gn:Gn ow M ow' M')(st:qU (lx x u) H H' (lx x' u))(n2:pR H2 x' u (Nl ow' N))(f:∀b v,H' b=some v->b∉N.as->H2 b=some v):Al A H2 x' u ow' M' O' Y' (Nl ow' N) m/\qU (lN x u N) H H2 (lN x' u (Nl ow' N)):=by
 have n:=a.n.fr st rfl;have c:=(a.nm.col a.lv gn nx.G).say;exact⟨⟨n.wh w f,xt,n.own o f,I,n2,c.1,c.2,a.fl.of λk j=> .inl (by unfold Own.t Own.s;rw[nx.S]),by rw[nx.G];exact a.gl,a.l1,by show(N.tk.map _).length<=_;rw[aa];exact a.l2⟩,st.lN.trans (qU.nN f)⟩
end
theorem pat{ow:Own}{M:Mem}{O Y:List (Nat×Int)}(I:In ow M O Y){k:Nat}(hk:k<ow.G.length):qh (ow.P.map tv) (k:Int)=some (tv (ow.p k)):=jI (by rw[ai];unfold Own.p;rw[ae,ab (by rw[I.lp];exact hk)];rfl)
theorem Q9{tc:TT}{t u:TS}{D:Ends}{σ:St}{H:Hp}(h:∀K:Bool->Hp->Prop,(∀H',jo H H'->K true H')->tc σ H K)(ht:∀H',jo H H'->t D σ H'):Lr tc t u D σ H:=h _ λH' s=>by rw[if_pos rfl];exact ht H' s
noncomputable def live (ow:Own):List Nat:=(bh ow.G.length).filter λk=>(ow.p k).isSome
def Dd(A:Ad)(H:Hp)(x:Ax)(u:Ow)(N:Nw)(m:Nat)(Q:Hp->Prop):Prop:=∀(H':Hp) (x':Ax) (u':Ow) (ow':Own) (M':Mem) (O' Y':List (Nat×Int)) (N':Nw),Al A H' x' u' ow' M' O' Y' N' m->u'.d=u.d->qU (lN x u N) H H' (lN x' u' N')->Q H'
def Ie(A:Ad):Sp:=λvs H Q _=>Y9 λ(x:Ax) (u:Ow) (ow:Own) (M:Mem) (O Y:List (Nat×Int)) (N:Nw) (m:Nat) (c:Int)=>C4 (vs=[.ref u.d,.int c]) (Al A H x u ow M O Y N m) (m<10) (Dd A H x u N (m+1) (Q (.bl true)))
theorem mQ:jg ["_law_own","_law_cell","_law_there","_law_more","_law_many","_law_k","_law_thing_here"] ["_law_own","_law_cell"] (i9 q0):=fsc
theorem Hm(T:Txt K mg A):CG P w K mg base true 16 "_law_deed" ["_law_own","_law_cell"] (Ie A):=by
 specialize T.vi.me mQ
 ·obtain⟨x,u,ow,M,O,Y,N,m,c,rfl,a,m10,q⟩:=h;refine⟨_,kY.run (iY (oF (i:=2) (fsc:=i9 q0) (N2:=["_law_own"]) (js:=[0]) mQ.nd rfl lo ⟨rfl,rfl,∅,∅,∅,∅,∅,∅,∅⟩ rfl rfl (by rfl) (kS rfl T.mP (iW (ji jJ (by rfl) T.kj ζl (iW (jb (iZ 0) i_) iX)) iX)) (λ_ _ _ _=>(l_ (je pe (jv jE (jb (iZ 1) i_) (iZ 0)) j7 (jy _)))) (λ_ _ _ _=>(iZ 0)))
   (iY (jr (i:=3) mQ.nd rfl lo (ja lE (iZ 1) i6))
   (iY (ju (je p_ (ja jU (iZ 1) i6) i6 (jy _)) (iY (ju (jS (jB (i5 (qY T).mono hr rfl hx (iW (iZ 0) iX)) (λ_=>rfl))) (i3 (jf lH)) jh)
   (iY (jc (i5 (Cf T).mono hr rfl hx (iW (iZ 0) iX)))
   (i3 (jf lH)))) jh)
   (iY (ju (je (pK (GV hr)) (ja jU (iZ 1) i6) i6 (jy _)) (iY (jr (i:=4) mQ.nd rfl lo (ji jJ (by rfl) T.kj ζl (iW (jb (iZ 0) i_) iX)))
   (iY (jc (i5 (A6 T).mono hr rfl hx (iW (iZ 0) (iW (iZ 3) iX))))
   (iY (ju (je Dr (ji jJ (by rfl) T.kj ζl (iW (jb (iZ 0) i_) iX)) (iZ 4) (jy _)) (i3 (jc (i5 (sQ T).mono hr rfl hx (iW (iZ 0) (iW (ja jU (iZ 3) (ji jJ (by rfl) T.kj ζl (iW (jb (iZ 0) i_) iX))) (iW (lY (iW i_ (iW (iZ 4) iX))) iX)))))) jh)
   (i3 (jf lH))))) jh)
   (iY (ju (je (pK (GV hr)) (iZ 2) (kh iX) (jy _)) (i3 (jf lH)) jh)
   (iY (jr (i:=5) mQ.nd rfl lo (jv jE (iZ 2) (ja jU (iZ 3) (ji jJ (by rfl) T.kj ζl (iW (iZ 2) iX)))))
   (iY (ju (je (pK (GV hr)) (ja jU (iZ 1) i6) i6 (jy _)) (iY (jc (nP aZ a_ kr (jb (iZ 0) i_) (iW (iZ 5) iX)))
   (i3 (jf (nM (pK (GV hr)) (jw (jd (jb (iZ 0) i_) rfl) T.mK (Hk T).mono hr hx (iW (jv jE (jb (iZ 0) i_) (iZ 5)) iX)) (ja lX (ji jJ (by rfl) T.kj ζl (iW (jb (iZ 0) i_) iX)) i6) (jy _))))) jh)
   (iY (ju (je (pK (GV hr)) (ja jU (iZ 1) i6) i6 (jy _)) (iY (jc (nP aZ a_ kr (jb (iZ 0) i_) (iW (kh (iW (iZ 5) (iW (ja lX (ja jU (iZ 3) i6) i6) (iW lH iX)))) iX)))
   (i3 (jf (nM (pK (GV hr)) (jw (jd (jb (iZ 0) i_) rfl) T.kA (ES T).mono hr hx (iW (jv jE (jb (iZ 0) i_) (iZ 5)) (iW (ja lX (ja jU (iZ 3) i6) i6) iX))) (ja lX (ji jJ (by rfl) T.kj ζl (iW (jb (iZ 0) i_) iX)) i6) (jy _))))) jh)
   (iY (jr (i:=6) mQ.nd rfl lo (lY (iW i_ (iW (jv jE (iZ 2) (ja jU (ja lE (iZ 3) i6) (ji jJ (by rfl) T.kj ζl (iW (iZ 2) iX)))) iX))))
   (iY (ju (je Dr (ja jU (iZ 3) i6) i6 (jy _)) (i3 (jr (i:=6) mQ.nd rfl lo (FY (iW j7 (iW (lY (iW i_ (iW (ja jU (iZ 3) i6) iX))) iX)) (ja lX (ja jU (iZ 3) i6) i6) (λ_ _=>rfl)))) jh)
   (iY (ju (je (pK (GV hr)) (ja jU (iZ 1) i6) i6 (jy _)) (i3 (jc (i5 (sQ T).mono hr rfl hx (iW (iZ 0) (iW (ja jU (ja lE (iZ 3) i6) (ji jJ (by rfl) T.kj ζl (iW (jb (iZ 0) i_) iX))) (iW (iZ 6) iX)))))) (i3 (ju (je Dr (ji jJ (by rfl) T.kj ζl (iW (jv jE (jb (iZ 0) i_) (iZ 5)) iX)) i6 (jy _)) (i3 (jc (i5 (Ce T).mono hr rfl hx (iW (iZ 0) (iW (iZ 5) (iW (ja jU (ja lE (iZ 3) i6) (ji jJ (by rfl) T.kj ζl (iW (jv jE (jb (iZ 0) i_) (iZ 5)) iX))) (iW (iZ 6) iX))))))) jh)))
   (i3 (jf lH))))))))))))),?_⟩
  show pE _ _ _ [⇑u.d,↥c,none,none,none,none,none] H;have Bz:=a.i.Bz;exists ∃lt,C3 (σ'=[⇑u.d,↥c,⇑lt,none,none,none,none]) (jo H H') (H' lt=some (.lst (nV (live ow))))
  ·simp?[a.o.dc,kZ,a.o.pl];refine⟨⋯,by rw[aa,a.i.lp];lia,AS (λi ys H'=>H=H'/\ys=nV ((bh i).filter λk=>(ow.p k).isSome)/\ys.length<=i) ⟨rfl,rfl,aq _⟩ (by rw[aa,aU,a.i.lp];exact aA Bz (by decide)) (λi ys H' h=>h.2.2) (λi ys H2 hi ⟨e2,ey,l2⟩ K1 hK=> ?_) λys H2 ⟨e2,ey,l2⟩ l3 hl3=> ?_⟩
   ·subst e2;rw[aa,aU,a.i.lp]at hi;have fs:((bh (i+1)).filter λk=>(ow.p k).isSome)=((bh i).filter λk=>(ow.p k).isSome)++if (ow.p i).isSome=true then [i] else []:=by
     rw[iJ,dk,dS,dv]
    have p1:=pat a.i hi
    cases ep:ow.p i with
    |none=>
     rw[ep]at p1 fs;simp?[a.o.dc,kZ,a.o.pl,bq,bg,p1,tv];exact hK _ _ ⟨rfl,by rw[fs,ey];show _=nV (_++[]);rw[aM],⋯⟩
    |some b=>
     rw[ep]at p1 fs;simp?[a.o.dc,kZ,a.o.pl,bq,bg,p1,tv];exact hK _ _ ⟨rfl,by rw[fs,ey];unfold nV;rw[aB];rfl,by rw[aj];exact cb l2⟩
   ·subst e2;rw[aa,aU,a.i.lp]at ey;exact hR _ _ ⟨l3,rfl,jo.upd hl3,by rw[i8,ey];rfl⟩
  ext _ H1 ⟨lt,rfl,s1,e1⟩;have a1:=a.same s1;exists σ'=[⇑u.d,↥c,⇑lt,↥(c/7),none,none,none]/\H1=H'
  ·simp?[];exact hR _ _ ⟨rfl,rfl⟩
  ext _ _ ⟨rfl,rfl⟩;have s01:=qU.same (L:=lN x u N) s1;by_cases c7:c%7<2
  ·refine q9 (λ_ _=>False) (λR _=> ?_) (λ_ _ z=>z.elim);refine sD (λK1 hK=>by simp?[c7];exact hK) ?_;simp?[];refine⟨x,u,ow,M,O,Y,rfl,a1.wh,a1.xt,a1.o,a1.i,a1.nk ⋯,λH2 x2 ow2 M2 F O2 Y2 w2 t2 o2 I2 nx gn st=>⟨true,rfl,?_⟩⟩;rw[if_neg (by intro z;cases z)]
   have n2:=a1.n.fr st rfl;have nm2:=a1.nm.col a1.lv gn nx.G;refine⟨x2,u,ow2,N,rfl,o2,n2,I2.lp,nm2.kt,by have:=a1.Yc;lia,by have:=a1.l2;lia,λH3 n3 f3=> ?_⟩;obtain⟨a3,st3⟩:=a1.VF w2 t2 o2 I2 nx gn st n3 f3;exact q H3 x2 u ow2 M2 O2 Y2 _ a3.mono rfl (s01.trans st3)
  refine jj (λσ' H'=>σ'=[⇑u.d,↥c,⇑lt,↥(c/7),none,none,none]/\H1=H') (λR hR=>uy (λK1 hK=>by simp?[c7];exact hK) (hR _ _ ⟨rfl,rfl⟩)) ?_;ext _ _ ⟨rfl,rfl⟩;by_cases c2:c%7=2
  ·refine q9 (λ_ _=>False) (λR _=> ?_) (λ_ _ z=>z.elim);refine sD (λK1 hK=>by simp?[c2];exact hK) ?_;refine jj (λσ' H'=>σ'=[⇑u.d,↥c,⇑lt,↥(c/7),↥ow.G.length,none,none]/\H1=H') (λR2 hR2=> ?_) ?_
   ·simp?[a1.o.dc,kZ,a1.o.pl];rw[aa,a.i.lp];exact hR2 _ _ ⟨rfl,rfl⟩
   ext _ _ ⟨rfl,rfl⟩;refine jj (λσ' H'=>Y5 λu2 ow2 M2 O2 Y2=>C5 (σ'=[⇑u2.d,↥c,⇑lt,↥(c/7),↥ow.G.length,none,none]) (Al A H' x u2 ow2 M2 O2 Y2 N (m+1)) (u2.d=u.d) ((ow2=ow∨∃a g n,ow2=ow.lay a g n)) (qU (lx x u) H1 H' (lx x u2))) (λR2 hR2=> ?_) ?_
   ·simp?[];exact⟨x,u,ow,M,O,Y,c/7,rfl,a1.wh,a1.o,a1.i,by have:=a.gl;lia,λH2 u2 ow2 M2 O2 Y2 w2 o2 I2 ed eO eM st=>hR2 _ _ ⟨u2,ow2,M2,O2,Y2,by rw[ed.1],a1.laid w2 o2 I2 ed.2 eO eM st,ed.1,eO,st⟩⟩
   ext _ H2 ⟨u2,ow2,M2,O2,Y2,rfl,a2,ed,eO,st⟩;have st2:=s01.trans st.lN;have pl:(ow2.P.map tv).length=ow2.G.length:=by rw[aa,a2.i.lp]
   rcases eO with rfl|⟨b,g,n,rfl⟩
   ·simp?[a2.o.dc,kZ,a2.o.pl,pl,Int.lt_irrefl];exact q H2 x u2 _ M2 O2 Y2 N a2 ed st2
   ·have gl:(ow.lay b g n).G.length=ow.G.length+1:=by show(ow.G++[g]).length=_;rw[aj];rfl
    obtain⟨vh,eh,th⟩:=a2.o.hd;have d4:=a2.i.d4;simp?[a2.o.dc,kZ,a2.o.pl,pl,Jx,eh];rw[if_pos (by rw[gl];lia)];refine⟨by rw[th.l];lia,λp hp=> ?_⟩;have s3:jo H2 (upd H2 p (.tup [.str (aI "cell"),.int ow.G.length])):=jo.upd hp;have e3:upd H2 p (.tup [.str (aI "cell"),.int ow.G.length]) p=some (.tup [.str (aI "cell"),.int ow.G.length]):=i8;generalize upd H2 p (.tup [.str (aI "cell"),.int ow.G.length])=H3 at*;have a3:=a2.same s3;have j0:=cX (c/7) (show(vh.length:Int)≠0 by rw[th.l];lia);have j1:=dH (c/7) (show(0:Int)<vh.length by rw[th.l];lia);have gd:Gd (ow.lay b g n) (.ce ow.G.length):=⟨by rw[gl];exact dW _,by show((ow.P++[some b]).getD _ none).isSome=true;rw[qw,a.i.lp,if_neg (bw _),if_pos rfl];rfl⟩;refine⟨x,u2,_,M2,O2,Y2,(c/7%vh.length).toNat,.ce ow.G.length,.ref p,by rw[cJ j0],a3.wh,a3.o,a3.i,by rw[←th.l];lia,⟨p,rfl,e3⟩,gd,λH4 w4 o4 k4=> ?_⟩;obtain⟨a4,st4⟩:=a3.held gd w4 o4 k4;exact q H4 x u2 _ _ O2 Y2 N a4 ed (st2.trans ((qU.same s3).trans st4))
  refine jj (λσ' H'=>σ'=[⇑u.d,↥c,⇑lt,↥(c/7),none,none,none]/\H1=H') (λR hR=>uy (λK1 hK=>by simp?[c2];exact hK) (hR _ _ ⟨rfl,rfl⟩)) ?_;ext _ _ ⟨rfl,rfl⟩;by_cases le:live ow=[]
  ·refine q9 (λ_ _=>False) (λR _=> ?_) (λ_ _ z=>z.elim);refine Q9 (λK1 hK=> ?_) λH2 s2=> ?_
   ·rw[le]at e1;simp?[];intro p hp;rw[i7 (i4 e1 hp),e1];exact hK _ (jo.upd hp)
   ·simp?[];exact q H2 x u ow M O Y N (a1.same s2).mono rfl (s01.trans (qU.same s2))
  refine jj (λσ' H'=>σ'=[⇑u.d,↥c,⇑lt,↥(c/7),none,none,none]/\jo H1 H') (λR hR=>OF (λK1 hK=> ?_) λH2 s2=>hR _ _ ⟨rfl,s2⟩) ?_
  ·simp?[];intro p hp;rw[i7 (i4 e1 hp),e1];dsimp only;rw[if_neg (by unfold nV;rw[aa];exact λz=>le (List.eq_nil_of_length_eq_zero z))];exact hK _ (jo.upd hp)
  ext _ H2 ⟨rfl,s2⟩;have a2:=a1.same s2;have e2:=s2 _ _ e1;have s02:=s01.trans (qU.same s2);have ll:0<(live ow).length:=List.length_pos_iff.mpr le;have nl:(nV (live ow)).length=(live ow).length:=by unfold nV;rw[aa]
  have pick:∀i:Int,∃k b,qh (nV (live ow)) (i%(live ow).length)=some (.int (k:Nat))/\k<ow.G.length/\ow.p k=some b:=λi=>by
   have i0:=cX i (show((live ow).length:Int)≠0 by lia);have i1:=dH i (show(0:Int)<(live ow).length by lia);obtain⟨j,ej⟩:∃j:Nat,i%(live ow).length=j:=⟨(i%(live ow).length).toNat,⋯⟩;rw[ej];have hj:j<(live ow).length:=by lia
   have mk:=List.mem_filter.mp (bc hj);obtain⟨b,eb⟩:=Option.isSome_iff_exists.mp mk.2;exact⟨(live ow)[j],b,jI (by unfold nV;rw[ai,ab hj];rfl),List.mem_range.mp mk.1,eb⟩
  obtain⟨k,b,ek,kl,eb⟩:=pick (c/7);exists σ'=[⇑u.d,↥c,⇑lt,↥(c/7),none,↥k,none]/\H2=H'
  ·simp?[e2,nl,ek];exact⟨⋯,hR _ _ ⟨rfl,rfl⟩⟩
  ext _ _ ⟨rfl,rfl⟩;have p1:=pat a.i kl;rw[eb]at p1;have bp:=a.i.pl (a.i.at kl eb);have b9:b<=9999:=by have:=a.i.fr.l2;have:=ow.z1 k;lia
  have om:=F4 a2.n;by_cases c3:c%7=3
  ·refine q9 (λ_ _=>False) (λR _=> ?_) (λ_ _ z=>z.elim);refine sD (λK1 hK=>by simp?[c3];exact hK) ?_;refine jj (λσ' H'=>σ'=[⇑u.d,↥c,⇑lt,↥(c/7),none,↥k,none]/\H'=upd H2 N.ln (.lst (nV (N.ns++[k])))) (λR2 hR2=> ?_) ?_
   ·simp?[a2.o.dc,om.1,a2.n.e1];refine⟨aT (show _<=10 by unfold nV;rw[aa];have:=a.l1;lia) (by decide),hR2 _ _ ⟨rfl,?_⟩⟩;unfold nV;rw[aB];rfl
   ext _ _ ⟨rfl,rfl⟩;have f3:∀b v,H2 b=some v->b∉N.as->upd H2 N.ln (.lst (nV (N.ns++[k]))) b=some v:=λb v e z=>by rw[i7 λy=>z (by rw[y];simp[Nw.as])];exact e
   have n3:=a2.n.WK (k:=k);have w3:=a2.n.wh a2.wh f3;have o3:=a2.n.own a2.o f3;have st3:=qU.nN (x:=x) (u:=u) f3;generalize upd H2 N.ln (.lst (nV (N.ns++[k])))=H3 at*;obtain⟨dr3,er3⟩:=w3.ro;obtain⟨dw3,ew3⟩:=w3.wk.ob;have om3:=F4 n3;have ol:M.os.length=N.ns.length:=by rw[a.nm.os,aa]
   simp?[o3.dc,Cj,kZ,o3.pl,p1,tv,er3,T.jX,T.kH,BL,ew3,Qg];refine⟨x.w,x.v,M.os,b,rfl,w3.wk,by rw[ol];have:=a.l1;lia,bp.2.2.1,b9,?_⟩;have w4:=w3.WK (os:=M.os++[some b]);have k4:Kx (mx x) H3 (upd H3 x.v (.lst ((M.os++[some b]).map tv))):=λb v e _ nb=>by rw[i7 λz=>nb (by rw[z];simp[mx])];exact e
   have n4:=n3.fr (qU.of (L:=lx x u) (k4.mono λb hb=>aQ _ hb)) rfl;have o4:=o3.go w3 k4;have st4:qU (lN x u {N with ns:=N.ns++[k]}) H3 (upd H3 x.v (.lst ((M.os++[some b]).map tv))) (lN x u {N with ns:=N.ns++[k]}):=(qU.of (L:=lx x u) (k4.mono λb hb=>aQ _ hb)).lN;have nm4:Nm ow {M with os:=M.os++[some b]} {N with ns:=N.ns++[k]}:=⟨by show M.os++_=(N.ns++[k]).map ow.p;rw[a.nm.os,aB,g9,eb],a.nm.ts,a.nm.sd,λk' mk=>by rcases List.mem_append.mp mk with mk|mk;exact a.nm.kn k' mk;rw[List.mem_singleton.mp mk];exact kl,a.nm.kt⟩;generalize upd H3 x.v (.lst ((M.os++[some b]).map tv))=H4 at*;simp?[o4.dc,om3.1,n4.e1];rw[show(decide ((M.os.length:Int)=((nV (N.ns++[k])).length:Int)-1))=true from decide_eq_true (by unfold nV;rw[aa,aj,ol];show _=((N.ns.length+1:Nat):Int)-1;lia)];have:=a.l1;exact q H4 x u ow _ O Y _ ⟨w4,a.xt,o4,a.i.tick,n4,nm4,a.lv,a.fl.mono (cO _),by have:=a.gl;lia,by show(N.ns++[k]).length<=_;rw[aj];exact cb this,by have:=a.l2;show N.tk.length<=_;lia⟩ rfl ((s02.trans st3).trans st4)
  refine jj (λσ' H'=>σ'=[⇑u.d,↥c,⇑lt,↥(c/7),none,↥k,none]/\H2=H') (λR hR=>uy (λK1 hK=>by simp?[c3];exact hK) (hR _ _ ⟨rfl,rfl⟩)) ?_;ext _ _ ⟨rfl,rfl⟩;by_cases c4:c%7=4
  ·refine q9 (λ_ _=>False) (λR _=> ?_) (λ_ _ z=>z.elim);refine sD (λK1 hK=>by simp?[c4];exact hK) ?_;refine jj (λσ' H'=>∃ra,C3 (σ'=[⇑u.d,↥c,⇑lt,↥(c/7),none,↥k,none]) (H2 ra=none) (H'=upd (upd H2 ra (.lst (NH (k,c/7%1000-500,true)))) N.lt (.lst ((N.rt++[ra]).map ξ)))) (λR2 hR2=> ?_) ?_
   ·simp?[a2.o.dc,om.2.1,a2.n.e2];intro ra hra;rw[i7 (i4 a2.n.e2 hra),a2.n.e2];refine⟨aT (show _<=10 by rw[aa,a.n.rl];have:=a.l2;lia) (by decide),hR2 _ _ ⟨ra,rfl,hra,?_⟩⟩;rw[aB];rfl
   ext _ _ ⟨ra,rfl,hra,rfl⟩;generalize hz:c/7%1000-500=z at*;have f3:∀b v,H2 b=some v->b∉N.as->upd (upd H2 ra (.lst (NH (k,z,true)))) N.lt (.lst ((N.rt++[ra]).map ξ)) b=some v:=λb v e n=>by rw[i7 λy=>n (by rw[y];simp[Nw.as]),i7 (i4 e hra)];exact e
   have nr:ra∉lx x u:=λy=>by
    rcases List.mem_append.mp y with y|y
    ·exact a2.wh.new hra y
    ·rcases List.mem_cons.mp y with y|y
     ·exact i4 a2.o.dc hra y.symm
     ·obtain⟨ys,e⟩:=a2.o.ll y;exact i4 e hra rfl
   have n3:=a2.n.Yq hra nr (t:=(k,z,true));have w3:=a2.n.wh a2.wh f3;have o3:=a2.n.own a2.o f3;have st3:qU (lN x u N) H2 (upd (upd H2 ra (.lst (NH (k,z,true)))) N.lt (.lst ((N.rt++[ra]).map ξ))) (lN x u {N with rt:=N.rt++[ra],tk:=N.tk++[(k,z,true)]}):=⟨(qU.nN (x:=x) (u:=u) f3).1,λb hb=>by
    have hb:b∈lx x u++(N.as++[ra]):=hb;rw[←cj]at hb;rcases List.mem_append.mp hb with hb|hb
    ·exact .inl hb
    ·exact .inr λv e=>by rw[List.mem_singleton.mp hb,hra]at e;cases e⟩
   generalize upd (upd H2 ra (.lst (NH (k,z,true)))) N.lt (.lst ((N.rt++[ra]).map ξ))=H3 at*;obtain⟨dr3,er3⟩:=w3.ro;obtain⟨es3,l3⟩:=w3.la;obtain⟨dl3,AV⟩:=l3.ob;have om3:=F4 n3;have tl:M.ts.length=N.tk.length:=by rw[a.nm.ts,aa]
   have l2:=a.l2;simp?[o3.dc,Cj,kZ,o3.pl,p1,tv,er3,T.jX,T.kG,BK,AV,OP,hz];refine⟨x.l,x.e,x.u,M.ts,M.sd,es3,b,z,rfl,l3,⋯,bp.2.2.1,b9,AK ⋯ ⋯,?_⟩;intro H4 es4 l4 o4';have w4:=w3.Ye l4 o4';have k4:Kx (mx x) H3 H4:=λb v e _ nb=>o4' _ _ (λy=>nb (by rw[y];simp[mx])) (λy=>nb (by rw[y];simp[mx])) e;have n4:=n3.fr (qU.of (L:=lx x u) (k4.mono λb hb=>aQ _ hb)) rfl;have o4:=o3.go w3 k4;have st4:qU (lN x u {N with rt:=N.rt++[ra],tk:=N.tk++[(k,z,true)]}) H3 H4 (lN x u {N with rt:=N.rt++[ra],tk:=N.tk++[(k,z,true)]}):=(qU.of (L:=lx x u) (k4.mono λb hb=>aQ _ hb)).lN;have lv4:Lv ow (N.tk++[(k,z,true)]):=λt mt y=>by
    rcases List.mem_append.mp mt with mt|mt
    ·exact a.lv t mt y
    ·rw[List.mem_singleton.mp mt];show(ow.p k).isSome=true;rw[eb];rfl
   have nm4:Nm ow {M with ts:=M.ts++[some (b,z)]} {N with rt:=N.rt++[ra],tk:=N.tk++[(k,z,true)]}:=⟨a.nm.os,by show M.ts++_=(N.tk++[_]).map (IC ow);rw[a.nm.ts,aB,g9,show IC ow (k,z,true)=some (b,z) by show(ow.p k).map _=_;rw[eb];rfl],by show M.sd=N.sd++Bl ow (N.tk++[_]);rw[lv4.Bl,a.nm.sd,a.lv.Bl],a.nm.kn,λt mt=>by rcases List.mem_append.mp mt with mt|mt;exact a.nm.kt t mt;rw[List.mem_singleton.mp mt];exact kl⟩;simp?[o4.dc,om3.2.1,n4.e2];rw[show(decide ((M.ts.length:Int)=(((N.rt++[ra]).map ξ).length:Int)-1))=true from decide_eq_true (by rw[aa,aj,a.n.rl,tl];show _=((N.tk.length+1:Nat):Int)-1;lia)];exact q H4 x u ow _ O Y _ ⟨w4,a.xt,o4,a.i.tick,n4,nm4,lv4,a.fl.mono (cO _),by have:=a.gl;lia,by have:=a.l1;show N.ns.length<=_;lia,by show(N.tk++[_]).length<=_;rw[aj];exact cb l2⟩ rfl ((s02.trans st3).trans st4)
  refine jj (λσ' H'=>σ'=[⇑u.d,↥c,⇑lt,↥(c/7),none,↥k,none]/\H2=H') (λR hR=>uy (λK1 hK=>by simp?[c4];exact hK) (hR _ _ ⟨rfl,rfl⟩)) ?_;ext _ _ ⟨rfl,rfl⟩;obtain⟨k2,b2,ek2,kl2,eb2⟩:=pick (c/7/3);exists ∃p,C3 (σ'=[⇑u.d,↥c,⇑lt,↥(c/7),none,↥k,⇑p]) (H2 p=none) (H'=upd H2 p (.tup [.str (aI "cell"),.int k2]))
  ·simp?[e2,nl,ek2];exact⟨⋯,λp hp=>hR _ _ ⟨p,rfl,hp,rfl⟩⟩
  ext _ _ ⟨p,rfl,hp,rfl⟩;have s3:jo H2 (upd H2 p (.tup [.str (aI "cell"),.int k2])):=jo.upd hp;have e3:upd H2 p (.tup [.str (aI "cell"),.int k2]) p=some (.tup [.str (aI "cell"),.int k2]):=i8;generalize upd H2 p (.tup [.str (aI "cell"),.int k2])=H3 at*;exists Y2 λt v=>C4 (σ'=[⇑u.d,↥c,⇑lt,↥(c/7),none,↥k,some v]) (jo H2 H') (Ki H' t v) (Gd ow t)
  ·by_cases c5:c/7%5>2
   ·refine sD (λK1 hK=>by simp?[show 2<c/7%5 from c5];exact hK) ?_;simp?[];intro p2 hp2 p3 hp3;rw[K4 hp3];have s4:jo H3 (upd H3 p2 (.tup [.str (aI "number"),.int (c/7%99)])):=jo.upd hp2;by_cases c53:c/7%5=3
    ·rw[show c/7%5-3=0 by lia];exact hR _ _ ⟨.no,_,rfl,s3.trans s4,rfl,bY⟩
    ·rw[show c/7%5-3=1 by lia];exact hR _ _ ⟨.nu (c/7%99),_,rfl,s3.trans s4,⟨p2,rfl,i8⟩,by show -1000000000000<=_/\_<=1000000000000;clear c5 bp hr;lia⟩
   ·refine uy (λK1 hK=>by simp?[show¬2<c/7%5 from c5];exact hK) ?_;exact hR _ _ ⟨.ce k2,_,rfl,s3,⟨p,rfl,e3⟩,kl2,by rw[eb2];rfl⟩
  ext _ H4 ⟨t,v,rfl,s4,tV,gd⟩;have a4:=a2.same s4;have s04:=s02.trans (qU.same s4);by_cases c6:c%7=5
  ·obtain⟨vh,eh,th⟩:=a4.o.hd;have d4:=a4.i.d4;have j0:=cX (c/7/7) (show(vh.length:Int)≠0 by rw[th.l];lia);have j1:=dH (c/7/7) (show(0:Int)<vh.length by rw[th.l];lia);simp?[c6,a4.o.dc,Jx,eh];refine⟨by rw[th.l];lia,?_⟩;refine⟨x,u,ow,M,O,Y,(c/7/7%vh.length).toNat,t,v,by rw[cJ j0],a4.wh,a4.o,a4.i,by rw[←th.l];lia,tV,gd,λH5 w5 o5 k5=> ?_⟩;obtain⟨a5,st5⟩:=a4.held gd w5 o5 k5;exact q H5 x u _ _ O Y N a5.mono rfl (s04.trans st5)
  ·obtain⟨ra,rv,r1,r2,r3,r4⟩:=a4.o.Lk (k:=k) (by rw[a.i.ls];exact kl);by_cases z:0<rv.length
   ·have j0:=cX (c/7/7) (show(rv.length:Int)≠0 by lia);have j1:=dH (c/7/7) (show(0:Int)<rv.length by lia);simp?[c6,a4.o.dc,uA,a4.o.sl,jI r2,r3,show(0:Int)<rv.length by lia];refine⟨x,u,ow,M,O,Y,k,(c/7/7%rv.length).toNat,b,t,v,by rw[cJ j0],a4.wh,a4.o,a4.i,a4.i.at kl eb,by rw[←r4.l];lia,tV,gd,λH5 ks w5 o5 nd5 m5 f5=> ?_⟩;obtain⟨a5,st5⟩:=a4.put m10 (a4.i.at kl eb) (by rw[←r4.l];lia) gd w5 o5 nd5 m5 f5;exact q H5 x u _ _ O Y N a5 rfl (s04.trans st5)
   ·simp?[c6,a4.o.dc,uA,a4.o.sl,jI r2,r3,show¬(0:Int)<rv.length by lia];exact q H4 x u ow M O Y N a4.mono rfl s04
def CV(K:af)(p:Addr):Sp:=λvs H Q _=>Y2 λ(a:Addr) (ns:List Int)=>C5 (vs=[.ref a]) (qS K H a ns) (ns.length<=63) (H p=some (.Co #[])) (∀H',Q (.bl true) H')
def UB(K:af)(A:Ad):Sp:=CV K A.jx
theorem VG{ns:List Int}:∃is:List Int,w_ (ns.map ι) (some 40) (some 50)=is.map ι/\is.length<=10:=by
 unfold w_;refine⟨_,by rw[←eS,←gI],?_⟩;rw[bE,dU];unfold HT.HA;simp only[aa];rw[if_neg (by decide),if_neg (by decide),show gY 50=50 from rfl,show gY 40=40 from rfl];lia
theorem Hr{p r:Addr}{u:Ow}{k:Str}{v:V}{mo:List (Key×V)}(e:u.more=mo)(h:putK (wt p r {u with more:=mo}) (.inr k) v=wt p r {u with more:=mo++[(.inr k,v)]}):putK (wt p r u) (.inr k) v=wt p r {u with more:=mo++[(.inr k,v)]}:=by
 subst e;exact h
theorem j3.Xi{cA cM cS cR cH cB cW cL:Addr}{H:Hp}{x:Ax}{M:Mem}{u:Ow}{w:Own}(o:j3 H x u w)(h:Wh cA cM cS cR cH cB cW cL H x M){l:Addr}(hl:H l=none){mo:List (Key×V)}:
  j3 (upd (upd H l (.lst [])) u.d (.dK (wt x.p x.r {u with more:=mo}))) x {u with more:=mo} w/\Wh cA cM cS cR cH cB cW cL (upd (upd H l (.lst [])) u.d (.dK (wt x.p x.r {u with more:=mo}))) x M/\(∀b v,H b=some v->b≠u.d->upd (upd H l (.lst [])) u.d (.dK (wt x.p x.r {u with more:=mo})) b=some v)/\upd (upd H l (.lst [])) u.d (.dK (wt x.p x.r {u with more:=mo})) l=some (.lst []):=by
 have f:∀b v,H b=some v->b≠u.d->upd (upd H l (.lst [])) u.d (.dK (wt x.p x.r {u with more:=mo})) b=some v:=λb v e n=>by rw[i7 n,i7 (i4 e hl)];exact e
 have th:∀{ts:List Th} {vs:List V},wz H ts vs->wz (upd (upd H l (.lst [])) u.d (.dK (wt x.p x.r {u with more:=mo}))) ts vs:=λ{ts vs} t=>t.kx (L:=[u.d]) (λb v e _ n=>f b v e λz=>n (by rw[z];exact List.mem_singleton.mpr rfl)) λa ha xs e=>by rw[List.mem_singleton.mp ha,o.dc]at e;cases e
 refine⟨⟨i8,f _ _ o.pl (jA o.pl o.dc),f _ _ o.ag (jA o.ag o.dc),f _ _ o.sl (jA o.sl o.dc),o.rl,λk a e=> ?_,?_,o.nd,o.nm⟩,h.fr λb v e z=>f b v e λy=> ?_,f,by rw[i7 (ah (i4 o.dc hl)),i8]⟩
 ·obtain⟨vs,e1,t1⟩:=o.sr k a e;exact⟨vs,f _ _ e1 (jA e1 o.dc),th t1⟩
 ·obtain⟨vs,e1,t1⟩:=o.hd;exact⟨vs,f _ _ e1 (jA e1 o.dc),th t1⟩
 ·rcases z with z|z
  ·rw[y]at z;exact o.nm _ (ax ..) z
  ·rw[y,o.dc]at e;cases e;exact eT (show true=false from z.2)
theorem Ld:jg ["_law_script","_law_own","_law_cell"] ["_law_script"] (i9 Ge):=fsc
theorem T2(T:Txt K mg A):mS P w K mg base (uv P w) true 17 A.IY A.LK ["_law_script"] (UB K A):=by
 refine T.Tr.NF Ld (λvs H Q E h=> ?_) (λcdv A' outer s H vs Q E hr hx h=> ?_)
 ·obtain⟨_,_,rfl,_⟩:=h;rfl
 ·obtain⟨a,ns,rfl,hS,l63,et,q⟩:=h;refine⟨_,kY.run (iY (jr (i:=1) Ld.nd rfl lo (i5 (EX T).mono hr rfl hx (iW (iZ 0) iX)))
   (iY (qx (wC hr) (iZ 1) i_ (kh iX) rfl)
   (iY (qx (wC hr) (iZ 1) i_ (kh iX) rfl)
   (iY (qx (wC hr) (iZ 1) i_ (kh iX) rfl)
   (iY (jY hx.own rfl (ka (sH L0 (iZ 0) (qy i6) (qy i6))) (jG (i:=2) Ld.nd rfl lo)
    (i3 (ju (k_ (nO (jS (jB (i5 (Hm T).mono hr rfl hx (iW (iZ 1) (iW (iZ 2) iX))) (λ_=>rfl))) (mY (jS (jB (i5 (A7 T).mono hr rfl hx (iW (iZ 1) iX)) (λ_=>rfl)))))) (i3 (jf lH)) jh)))
   (iY (ju (jS (jB (i5 (qY T).mono hr rfl hx (iW (iZ 1) iX)) (λ_=>rfl))) (i3 (jf lH)) jh)
   (iY (jc (i5 (Cf T).mono hr rfl hx (iW (iZ 1) iX)))
   (i3 (jf (i5 (A7 T).mono hr rfl hx (iW (iZ 1) iX))))))))))),?_⟩
  show pE _ _ _ [⇑a,none,none] H;exists Y6 λ(x:Ax) (u:Ow) (ow:Own) (M:Mem) (O Y:List (Nat×Int))=>Qm (σ'=[⇑a,⇑u.d,none]) (Wx A H' x M) (x.t=A.jx) (j3 H' x u ow) (In ow M O Y) (u.more=[]) ((M.os=[]/\M.ts=[]/\M.sd=[])) (Fl 0 ow) (ow.G.length<=10) (qS K H' a ns)
  ·simp?[];exact⟨a,ns,rfl,hS,l63,et,λH1 x u ow M O Y w1 xt o1 I1 um eM fl g10 hS1=>hR _ _ ⟨x,u,ow,M,O,Y,rfl,w1,xt,o1,I1,um,eM,fl,g10,hS1⟩⟩
  ext _ H1 ⟨x,u,ow,M,O,Y,rfl,w1,xt,o1,I1,um,eM,fl,g10,hS1⟩;exists ∃ln,C3 (σ'=[⇑a,⇑u.d,none]) (H1 ln=none) (H'=upd (upd H1 ln (.lst [])) u.d (.dK (wt x.p x.r {u with more:=[(.inr "names",.ref ln)]})))
  ·simp?[];intro ln hln;rw[i7 (i4 o1.dc hln),o1.dc];refine⟨aT (show _<=6 by unfold wt;rw[um];exact aq _) (by decide),hR _ _ ⟨ln,rfl,hln,?_⟩⟩;rw[Hr um (by kernel_rfl)];rfl
  ext _ _ ⟨ln,rfl,hln,rfl⟩;obtain⟨o2,w2,f2,e2⟩:=o1.Xi w1 hln (mo:=[(.inr "names",.ref ln)]);have nl2:=w1.new hln;generalize upd (upd H1 ln (.lst [])) u.d (.dK (wt x.p x.r {u with more:=[(.inr "names",.ref ln)]}))=H2 at*;exists ∃lt,C3 (σ'=[⇑a,⇑u.d,none]) (H2 lt=none) (H'=upd (upd H2 lt (.lst [])) u.d (.dK (wt x.p x.r {u with more:=[(.inr "names",.ref ln),(.inr "tickets",.ref lt)]})))
  ·simp?[];intro lt hlt;rw[i7 (i4 o2.dc hlt),o2.dc];refine⟨aT (show _<=7 from aq _) (by decide),hR _ _ ⟨lt,rfl,hlt,?_⟩⟩;rw[Hr (u:={u with more:=[(.inr "names",.ref ln)]}) rfl (by kernel_rfl)];rfl
  ext _ _ ⟨lt,rfl,hlt,rfl⟩;obtain⟨o3,w3,f3,e3⟩:=o2.Xi w2 hlt (mo:=[(.inr "names",.ref ln),(.inr "tickets",.ref lt)]);have nl3:=w2.new hlt;dsimp only at o3 w3 f3 e3;generalize upd (upd H2 lt (.lst [])) u.d (.dK (wt x.p x.r {u with more:=[(.inr "names",.ref ln),(.inr "tickets",.ref lt)]}))=H3 at*;exists ∃ld,C3 (σ'=[⇑a,⇑u.d,none]) (H3 ld=none) (H'=upd (upd H3 ld (.lst [])) u.d (.dK (wt x.p x.r {u with more:=[(.inr "names",.ref ln),(.inr "tickets",.ref lt),(.inr "said",.ref ld)]})))
  ·simp?[];intro ld hld;rw[i7 (i4 o3.dc hld),o3.dc];refine⟨aT (show _<=8 from aq _) (by decide),hR _ _ ⟨ld,rfl,hld,?_⟩⟩;rw[Hr (u:={u with more:=[(.inr "names",.ref ln),(.inr "tickets",.ref lt)]}) rfl (by kernel_rfl)];rfl
  ext _ _ ⟨ld,rfl,hld,rfl⟩;obtain⟨o4,w4,f4,e4⟩:=o3.Xi w3 hld (mo:=[(.inr "names",.ref ln),(.inr "tickets",.ref lt),(.inr "said",.ref ld)]);have nl4:=w3.new hld;dsimp only at o4 w4 f4 e4;generalize upd (upd H3 ld (.lst [])) u.d (.dK (wt x.p x.r {u with more:=[(.inr "names",.ref ln),(.inr "tickets",.ref lt),(.inr "said",.ref ld)]}))=H4 at*;have nd:∀{b:Addr} {xs:List V} {G:Hp} {kv:List (Key×V)},G b=some (.lst xs)->G u.d=some (.dK kv)->b≠u.d:=λe d=>jA e d;have n23:ln≠lt:=i4 e2 hlt;have e23:=f3 _ _ e2 (nd e2 o2.dc);have n24:ln≠ld:=i4 e23 hld;have n34:lt≠ld:=i4 e3 hld;have e24:=f4 _ _ e23 (nd e23 o3.dc);have e34:=f4 _ _ e3 (nd e3 o3.dc);have out:∀{l:Addr} {G:Hp} {mo:List (Key×V)},l∉mx x->j3 G x {u with more:=mo} ow->G l=none->l∉lx x u:=λ{l G mo} n o hn z=>by
   rcases List.mem_append.mp z with z|z
   ·exact n z
   ·rcases List.mem_cons.mp z with z|z
    ·exact i4 o.dc hn z.symm
    ·obtain⟨ys,e⟩:=o.ll z;exact i4 e hn rfl
  have o1':j3 H1 x {u with more:=[]} ow:=by rw[←um];exact o1
  have a4:Al A H4 x {u with more:=[(.inr "names",.ref ln),(.inr "tickets",.ref lt),(.inr "said",.ref ld)]} ow M O Y ⟨ln,lt,ld,[],[],[],[]⟩ 0:=⟨w4,xt,o4,I1,⟨rfl,e24,e34,e4,rfl,(λi a t z=>nomatch z),by simp[Nw.as,n23,n24,n34],λl m=>by
   have m:l∈ [ln,lt,ld]:=m;simp only[aP,aG,or_false]at m;rcases m with rfl|rfl|rfl
   ·exact out nl2 o1' hln
   ·exact out nl3 o2 hlt
   ·exact out nl4 o3 hld⟩,⟨eM.1,eM.2.1,eM.2.2,(λ_ z=>nomatch z),λ_ z=>nomatch z⟩,(λ_ z=>nomatch z),fl,g10,aq _,aq _⟩
  have hS4:=hS1.kx (H':=H4) λo v e=>f4 _ _ (f3 _ _ (f2 _ _ e (jA e o1.dc)) (by rintro rfl;rw[o1.dc]at e;cases e)) (by rintro rfl;rw[o1.dc]at e;cases e)
  obtain⟨u4,N4,ed4,a4⟩:∃(u4:Ow) (N4:Nw),u4.d=u.d/\Al A H4 x u4 ow M O Y N4 0:=by exact⟨{u with more:=[(.inr "names",.ref ln),(.inr "tickets",.ref lt),(.inr "said",.ref ld)]},_,rfl,a4⟩
  rw[←ed4];clear o1 o2 o3 o4 o1' w1 w2 w3 w4 f2 f3 f4 e2 e3 e4 e23 e24 e34 out nd;exists Y8 λv2 x u5 ow M O Y N=>σ'=[⇑a,⇑u5.d,v2]/\Al A H' x u5 ow M O Y N 10
  ·simp?[];refine⟨_,hS4.sq,λp hp=> ?_⟩;obtain⟨cs,ecs,cl⟩:=VG (ns:=ns);rw[ecs];have s5:jo H4 (upd H4 p (.lst (cs.map ι))):=jo.upd hp;have e5:upd H4 p (.lst (cs.map ι)) p=some (.lst (cs.map ι)):=i8;have np:p∉lN x u4 N4:=λz=>by
    rcases List.mem_append.mp z with z|z
    ·rcases List.mem_append.mp z with z|z
     ·exact a4.wh.new hp z
     ·rcases List.mem_cons.mp z with z|z
      ·exact i4 a4.o.dc hp z.symm
      ·obtain⟨ys,e⟩:=a4.o.ll z;exact i4 e hp rfl
    ·obtain⟨ys,e⟩:=a4.n.ll z;exact i4 e hp rfl
   generalize upd H4 p (.lst (cs.map ι))=H5 at*;refine⟨⟨_,kO.of e5⟩,ke.uT (xs:=cs.map ι) (λi σ H'=>Y8 λv2 x u5 ow M O Y N=>C4 (σ=[⇑a,⇑u5.d,v2]) (p∉lN x u5 N) (H' p=some (.lst (cs.map ι))) (Al A H' x u5 ow M O Y N i)) ⟨_,x,u4,ow,M,O,Y,N4,rfl,np,e5,a4.same s5⟩ (λi σ H' _ hz=>by obtain⟨_,_,_,_,_,_,_,_,_,_,e,_⟩:=hz;exact kO.of e) ?_ ?_⟩
   ·rintro i v σ H6 hv ⟨v2,x,u5,ow,M,O,Y,N,rfl,np6,e6,a6⟩ R2 hR2;obtain⟨hi,rfl,_⟩:=ints_get hv;simp?[];refine⟨x,u5,ow,M,O,Y,N,i,cs[i],rfl,a6,⋯,λH7 x7 u7 ow7 M7 O7 Y7 N7 a7 ed st=>⟨true,rfl,?_⟩⟩;rw[if_neg (by intro z;cases z)]
    have l1:=a7.l1;have l2:=a7.l2;refine⟨x7,u7,ow7,M7,O7,Y7,N7,by rw[ed],a7.wh,a7.o,a7.i,a7.n,a7.nm,a7.lv,⋯,⋯,λH8 s8=>⟨true,rfl,?_⟩⟩;rw[if_neg (by intro z;cases z)]
    obtain⟨e7,np7⟩:=st.keep e6 rfl np6;exact hR2 _ _ ⟨_,x7,u7,ow7,M7,O7,Y7,N7,by rw[ed],np7,s8 _ _ e7,a7.same s8⟩
   ·rintro σ H6 ⟨v2,x,u5,ow,M,O,Y,N,rfl,np6,e6,a6⟩;rw[aa]at a6;refine hR _ _ ⟨v2,x,u5,ow,M,O,Y,N,rfl,?_⟩;exact{a6 with fl:=a6.fl.mono cl,gl:=by have:=a6.gl;lia,l1:=by have:=a6.l1;lia,l2:=by have:=a6.l2;lia}
  ext _ H5 ⟨v2,x,u5,ow,M,O,Y,N,rfl,a5⟩;simp?[];refine⟨x,u5,ow,M,O,Y,rfl,a5.wh,a5.xt,a5.o,a5.i,a5.nk ⋯,λH6 x6 ow6 M6 F O6 Y6 w6 t6 o6 I6 nx gn st=>⟨true,rfl,?_⟩⟩;rw[if_neg (by intro z;cases z)]
  have n6:=a5.n.fr st rfl;have nm6:=a5.nm.col a5.lv gn nx.G;refine⟨x6,u5,ow6,N,rfl,o6,n6,I6.lp,nm6.kt,by have:=a5.Yc;lia,by have:=a5.l2;lia,λH7 n7 f7=> ?_⟩;obtain⟨a7,_⟩:=a5.VF w6 t6 o6 I6 nx gn st n7 f7;have l1:=a7.l1;have l2:=a7.l2;exact⟨x6,u5,ow6,M6,O6,Y6,_,rfl,a7.wh,a7.o,a7.i,a7.n,a7.nm,a7.lv,⋯,⋯,λH8 _=>q H8⟩
structure ID(K:af)(f:Addr)(x q:Str)(st:Stmt)(d:FuncData):Prop where
 ex:∃(oc:Value) (od:Option Addr) (kV dc pm:Value) (an:Option Addr) (cd ct:Value) (sl:Array (Option Value)),K.lookup f=some ⟨oc,od,.func (cQ x q (qi st) (mW st) (i9 st) .none kV dc pm an cd ct),sl⟩/\fw K cd q=true/\bC K (.ref f)=true/\d=cQ x q (qi st) (mW st) (i9 st) .none kV dc pm an cd ct
theorem ID.fn{K:af}{f:Addr}{x q:Str}{st:Stmt}{d:FuncData}(h:ID K f x q st d):EB K x q st f d:=by
 obtain⟨oc,od,kV,dc,pm,an,cd,ct,sl,l,e,k,rfl⟩:=h.ex;exact Ts (st:=st) l e k
theorem ID.kp{K:af}{f:Addr}{x q:Str}{st:Stmt}{d:FuncData}(h:ID K f x q st d):bC K (.ref f)=true:=by
 obtain⟨oc,od,kV,dc,pm,an,cd,ct,sl,l,e,k,rfl⟩:=h.ex;exact k
noncomputable def qg (K:af) (x:Str) (st:Stmt):Prop:=∃f d,aV K mainGlobals x=some (some (.ref f))/\ID K f x x st d
noncomputable def uH (K:af) (C:Addr) (x q:Str) (st:Stmt):Prop:=∃f d,aC K (.ref C) x=some (some (.ref f))/\cg K (.ref f)=true/\ID K f x q st d
section
variable{K:af}{x q:Str}{st:Stmt}{C:Addr}{ps:List Str}{h:Heap}{mg:Str->Option Value}
theorem EG.of(X:K.In h)(G:h.Ns mainGlobals mg)(D:qg K x st)(b:∀(kV doc pm:Value) (an:Option Addr) (cdv ct:Value) (us:List Value),us.length=ps.length->bindArgs (cQ x x (qi st) (mW st) (i9 st) .none kV doc pm an cdv ct) ⟨us,[]⟩=pure (ps.zip us)):EG K mg x st ps:=let ⟨f,d,g,l⟩:=D;⟨f,d,l.fn,l.fn.binds b,br X G g⟩
theorem EM.of(D:uH K C x q st)(b:∀(kV doc pm:Value) (an:Option Addr) (cdv ct:Value) (us:List Value),us.length=ps.length->bindArgs (cQ x q (qi st) (mW st) (i9 st) .none kV doc pm an cdv ct) ⟨us,[]⟩=pure (ps.zip us)):EM K C x q st ps:=let ⟨f,d,a,i,l⟩:=D;⟨f,d,l.fn,l.fn.binds b,⟨a,i,l.kp⟩⟩
end
theorem all_mk{l:fT}{w:World}{K:af}{h:Heap}{mg:Str->Option Value}{fa lW mG lU mH lz lT lS lV kR kW IY jm jq jD jP jW jF jH jR lI jx:Addr}  {t_NOTHING:Tok}{t_MOST_NUMBER:Tok}{t_MOST_PLACE:Tok}{t_MOST_SLOTS:Tok}{t_MOST_AGE:Tok}{t_MOST_WORDS:Tok}{t_LEAST_OLD_WORDS:Tok}{t_MOST_OLD_WORDS:Tok}{t_LEAST_YOUNG_WORDS:Tok}{t_MOST_YOUNG_WORDS:Tok}{t_MOST_HANDS:Tok}{nJ oq nH ou mR nG nE nI mh kL LK:FuncData}
  (X:K.In h) (G:h.Ns mainGlobals mg) (hfa:mg "law"=some (.ref fa))
  (Dl:aV K mainGlobals "Memory"=some (some (.ref jm)))
  (AW:aV K mainGlobals "Space"=some (some (.ref jq)))
  (GN:aV K mainGlobals "Areas"=some (some (.ref jD)))
  (Kr:aV K mainGlobals "Book"=some (some (.ref jP)))
  (GO:aV K mainGlobals "Hands"=some (some (.ref jW)))
  (GP:aV K mainGlobals "Lasts"=some (some (.ref jF)))
  (Ks:aV K mainGlobals "Weak"=some (some (.ref jH)))
  (GQ:aV K mainGlobals "Roots"=some (some (.ref jR)))
  (pg_Memory:bO K jm dQ=true)
  (hd_Memory:bS K jm=true)
  (po_Memory:bX K jm=true)
  (sa_Memory:aC K (.ref jm) "__setattr__"=some (some (.builtin "object.__setattr__")))
  (By:cx K jm=true)
  (kc_Memory:bC K (.ref jm)=true)
  (mB:aC K (.ref jm) "size"=some none)
  (kX:aC K (.ref jm) "words"=some none)
  (pg_Space:bO K jq dQ=true)
  (hd_Space:bS K jq=true)
  (po_Space:bX K jq=true)
  (sa_Space:aC K (.ref jq) "__setattr__"=some (some (.builtin "object.__setattr__")))
  (uV:cx K jq=true)
  (kc_Space:bC K (.ref jq)=true)
  (kI:aC K (.ref jq) "begin"=some none)
  (qk:aC K (.ref jq) "end"=some none)
  (lu:aC K (.ref jq) "top"=some none)
  (pg_Areas:bO K jD dQ=true)
  (hd_Areas:bS K jD=true)
  (po_Areas:bX K jD=true)
  (sa_Areas:aC K (.ref jD) "__setattr__"=some (some (.builtin "object.__setattr__")))
  (DG:cx K jD=true)
  (kc_Areas:bC K (.ref jD)=true)
  (jz:aC K (.ref jD) "memory"=some none)
  (kQ:aC K (.ref jD) "old"=some none)
  (jL:aC K (.ref jD) "young"=some none)
  (kE:aC K (.ref jD) "spare"=some none)
  (pg_Book:bO K jP dQ=true)
  (hd_Book:bS K jP=true)
  (po_Book:bX K jP=true)
  (sa_Book:aC K (.ref jP) "__setattr__"=some (some (.builtin "object.__setattr__")))
  (G_:cx K jP=true)
  (kc_Book:bC K (.ref jP)=true)
  (kM:aC K (.ref jP) "written"=some none)
  (pg_Hands:bO K jW dQ=true)
  (hd_Hands:bS K jW=true)
  (po_Hands:bX K jW=true)
  (sa_Hands:aC K (.ref jW) "__setattr__"=some (some (.builtin "object.__setattr__")))
  (DH:cx K jW=true)
  (kc_Hands:bC K (.ref jW)=true)
  (mz:aC K (.ref jW) "words"=some none)
  (pg_Lasts:bO K jF dQ=true)
  (hd_Lasts:bS K jF=true)
  (po_Lasts:bX K jF=true)
  (sa_Lasts:aC K (.ref jF) "__setattr__"=some (some (.builtin "object.__setattr__")))
  (DI:cx K jF=true)
  (kc_Lasts:bC K (.ref jF)=true)
  (jO:aC K (.ref jF) "waiting"=some none)
  (lJ:aC K (.ref jF) "spoken"=some none)
  (pg_Weak:bO K jH dQ=true)
  (hd_Weak:bS K jH=true)
  (po_Weak:bX K jH=true)
  (sa_Weak:aC K (.ref jH) "__setattr__"=some (some (.builtin "object.__setattr__")))
  (Ha:cx K jH=true)
  (kc_Weak:bC K (.ref jH)=true)
  (l9:aC K (.ref jH) "told"=some none)
  (pg_Roots:bO K jR dQ=true)
  (hd_Roots:bS K jR=true)
  (po_Roots:bX K jR=true)
  (sa_Roots:aC K (.ref jR) "__setattr__"=some (some (.builtin "object.__setattr__")))
  (DJ:cx K jR=true)
  (kc_Roots:bC K (.ref jR)=true)
  (lF:aC K (.ref jR) "hands"=some none)
  (lB:aC K (.ref jR) "book"=some none)
  (kH:aC K (.ref jR) "weaks"=some none)
  (kG:aC K (.ref jR) "lasts"=some none)
  (a_Space_init:aC K (.ref jq) "__init__"=some (some (.ref lW)))
  (i_Space_init:cg K (.ref lW)=true)
  (a_Book_init:aC K (.ref jP) "__init__"=some (some (.ref mG)))
  (i_Book_init:cg K (.ref mG)=true)
  (a_Lasts_init:aC K (.ref jF) "__init__"=some (some (.ref lU)))
  (i_Lasts_init:cg K (.ref lU)=true)
  (a_Weak_init:aC K (.ref jH) "__init__"=some (some (.ref mH)))
  (i_Weak_init:cg K (.ref mH)=true)
  (a_Memory_init:aC K (.ref jm) "__init__"=some (some (.ref lz)))
  (i_Memory_init:cg K (.ref lz)=true)
  (a_Hands_init:aC K (.ref jW) "__init__"=some (some (.ref lT)))
  (i_Hands_init:cg K (.ref lT)=true)
  (a_Areas_init:aC K (.ref jD) "__init__"=some (some (.ref lS)))
  (i_Areas_init:cg K (.ref lS)=true)
  (a_Roots_init:aC K (.ref jR) "__init__"=some (some (.ref lV)))
  (i_Roots_init:cg K (.ref lV)=true)
  (a_Roots_follow:aC K (.ref jR) "follow"=some (some (.ref kR)))
  (i_Roots_follow:cg K (.ref kR)=true)
  (pZ:aV K mainGlobals "collect_young"=some (some (.ref kW)))
  (g_law:aV K mainGlobals "law"=some (some (.ref IY)))
  (pI:aV K mainGlobals "NOTHING"=some (some (.int (-1) t_NOTHING)))
  (pQ:aV K mainGlobals "MOST_NUMBER"=some (some (.int (1000000000000) t_MOST_NUMBER)))
  (uo:aV K mainGlobals "MOST_PLACE"=some (some (.int (9999) t_MOST_PLACE)))
  (qq:aV K mainGlobals "MOST_SLOTS"=some (some (.int (8) t_MOST_SLOTS)))
  (pG:aV K mainGlobals "MOST_AGE"=some (some (.int (2) t_MOST_AGE)))
  (uq:aV K mainGlobals "MOST_WORDS"=some (some (.int (4000) t_MOST_WORDS)))
  (oU:aV K mainGlobals "LEAST_OLD_WORDS"=some (some (.int (4) t_LEAST_OLD_WORDS)))
  (pH:aV K mainGlobals "MOST_OLD_WORDS"=some (some (.int (2000) t_MOST_OLD_WORDS)))
  (nS:aV K mainGlobals "LEAST_YOUNG_WORDS"=some (some (.int (2) t_LEAST_YOUNG_WORDS)))
  (oj:aV K mainGlobals "MOST_YOUNG_WORDS"=some (some (.int (500) t_MOST_YOUNG_WORDS)))
  (uk:aV K mainGlobals "MOST_HANDS"=some (some (.int (6) t_MOST_HANDS)))
  (Hc:aV K mainGlobals "bool"=some none)
  (m9:aV K mainGlobals "enumerate"=some none)
  (Jq:aV K mainGlobals "int"=some none)
  (mN:aV K mainGlobals "isinstance"=some none)
  (kj:aV K mainGlobals "len"=some none)
  (BA:aV K mainGlobals "list"=some none)
  (mP:aV K mainGlobals "range"=some none)
  (sf:aV K mainGlobals "sorted"=some none)
  (Hd:aV K mainGlobals "tuple"=some none)
  (Md:aV K mainGlobals "zip"=some none)
  (An:qg K "is_whole" Az)
  (BG:qg K "_law_at" BN)
  (tw:qg K "_law_whole" tY)
  (tu:qg K "_law_thing" tX)
  (tj:qg K "_law_order" qo)
  (vt:qg K "is_within" vM)
  (vq:qg K "is_number" vL)
  (Am:qg K "is_place" Ay)
  (tG:qg K "want_slots" uc)
  (BI:qg K "is_head" BP)
  (KZ:qg K "fits" K6)
  (rG:qg K "want_number" rS)
  (tF:qg K "want_place" ub)
  (K0:qg K "kind" K7)
  (rE:qg K "number_word" rQ)
  (tD:qg K "place_word" t_)
  (Hx:qg K "worth" HD)
  (vp:qg K "head_word" vK)
  (rC:qg K "head_number" rO)
  (rD:qg K "is_of_young" rP)
  (vo:qg K "_law_word" vJ)
  (Pw:qg K "lay" PC)
  (Ao:qg K "slots_of" AA)
  (DX:qg K "age_of" D0)
  (K3:qg K "send" K9)
  (BJ:qg K "sent_to" BQ)
  (Ai:qg K "_law_put" Au)
  (vj:qg K "_law_held" vH)
  (Aq:qg K "words_of" AB)
  (KY:qg K "aged" K5)
  (rF:qg K "slot_places" rR)
  (Hw:qg K "moved" HC)
  (BH:qg K "goal_of" BO)
  (rB:qg K "_law_stands" pM)
  (DY:qg K "copied" D1)
  (tE:qg K "renew_book" ua)
  (tB:qg K "copy_young" tZ)
  (vn:qg K "_law_went" pX)
  (K2:qg K "meet" K8)
  (vk:qg K "_law_laid" vI)
  (vg:qg K "_law_book" vG)
  (Aj:qg K "_law_say" Av)
  (vv:qg K "meet_slot" vN)
  (tf:qg K "_law_built" tW)
  (vm:qg K "_law_told" pW)
  (Ak:qg K "copy_met" Aw)
  (pz:qg K "_law_collected" mC)
  (vi:qg K "_law_deed" q0)
  (sY:uH K jq "room" "Space.room" tS)
  (s9:uH K jq "used" "Space.used" tU)
  (rA:uH K jq "empty" "Space.empty" rN)
  (sS:uH K jD "flip" "Areas.flip" tH)
  (rh:uH K jP "places" "Book.places" rH)
  (sT:uH K jP "clear" "Book.clear" tJ)
  (va:uH K jW "row" "Hands.row" vz)
  (qc:uH K jF "pending" "Lasts.pending" n9)
  (sX:uH K jF "said" "Lasts.said" tP)
  (s_:uH K jH "names" "Weak.names" qm)
  (sZ:uH K jq "take" "Space.take" tT)
  (nj:uH K jF "want_pending" "Lasts.want_pending" nA)
  (nQ:uH K jm "want_place" "Memory.want_place" nR)
  (mT:uH K jm "want_stretch" "Memory.want_stretch" mU)
  (vc:uH K jq "has" "Space.has" vB)
  (oM:uH K jW "want_hand" "Hands.want_hand" oP)
  (vb:uH K jF "say" "Lasts.say" vA)
  (BF:uH K jH "at" "Weak.at" BM)
  (rn:uH K jm "read" "Memory.read" rL)
  (rj:uH K jm "copy" "Memory.copy" rJ)
  (nz:uH K jH "want_standing" "Weak.want_standing" nB)
  (qJ:uH K jm "write" "Memory.write" qK)
  (sU:uH K jP "write" "Book.write" tK)
  (Ag:uH K jP "has" "Book.has" Ar)
  (u_:uH K jW "put" "Hands.put" vy)
  (sV:uH K jF "give" "Lasts.give" tM)
  (sW:uH K jF "move" "Lasts.move" tO)
  (vf:uH K jH "name" "Weak.name" vF)
  (ve:uH K jH "move" "Weak.move" vE)
  (vd:uH K jH "gone" "Weak.gone" vC)
  (Ah:uH K jP "rub" "Book.rub" As)
  (rp:uH K jq "cells" "Space.cells" rM)
  (pw:uH K jD "lay_into" "Areas.lay_into" pB)
  (oK:uH K jD "lay_young" "Areas.lay_young" oN)
  (qb:uH K jD "lay_old" "Areas.lay_old" qd)
  (l_Space_init:ID K lW "__init__" "Space.__init__" tR nJ)
  (l_Book_init:ID K mG "__init__" "Book.__init__" vx oq)
  (l_Lasts_init:ID K lU "__init__" "Lasts.__init__" tN nH)
  (l_Weak_init:ID K mH "__init__" "Weak.__init__" vD ou)
  (l_Memory_init:ID K lz "__init__" "Memory.__init__" rK mR)
  (l_Hands_init:ID K lT "__init__" "Hands.__init__" tL nG)
  (l_Areas_init:ID K lS "__init__" "Areas.__init__" tI nE)
  (l_Roots_init:ID K lV "__init__" "Roots.__init__" tQ nI)
  (l_Roots_follow:ID K kR "follow" "Roots.follow" qL mh)
  (l_collect_young:ID K kW "collect_young" "collect_young" lL kL)
  (l_law:ID K IY "law" "law" Ge LK)
  (pj:kL.code= .ref lI)
  (o_:df K lI jx=true)
  (sJ:cF K (.type "int") (.type "int")=some true)
  (qV:cF K (.type "int") (.type "bool")=some false)
  (qF:cF K (.type "tuple") (.type "tuple")=some true)
  :∃fd:FuncData,(∀(s:Shared) (v:Value),BindsTo s fd ⟨[v],[]⟩ [("_law_script",v)])/\∀base:Heap,K.In base->base.Ns mainGlobals mg->mS l.prog w K mg base (uv l.prog w) true 17 fa fd ["_law_script"] (CV K jx):=by
 have e:=hfa.symm.trans (br X G g_law)
 cases e
 obtain⟨oc,od,kV,dc,pm,an,cd,ct,sl,_,_,_,rfl⟩:=id l_law.ex
 let A:Ad:=⟨lW,nJ,mG,oq,lU,nH,mH,ou,lz,mR,lT,nG,lS,nE,lV,nI,kR,mh,kW,kL,fa,(cQ "law" "law" (qi Ge) (mW Ge) (i9 Ge) .none kV dc pm an cd ct),lI,jx,jm,jq,jD,jP,jW,jF,jH,jR⟩
 have T:Txt K mg A:=⟨.of X G An λ_ _ _ _ _ _=>uO λ_=>rfl,
  l_Space_init.fn,
  l_Space_init.fn.binds (ps:=["self","begin","end"]) λ_ _ _ _ _ _=>AV λ_ _ _=>rfl,
  .of sY λ_ _ _ _ _ _=>uO λ_=>rfl,
  .of s9 λ_ _ _ _ _ _=>uO λ_=>rfl,
  .of rA λ_ _ _ _ _ _=>uO λ_=>rfl,
  .of sS λ_ _ _ _ _ _=>uO λ_=>rfl,
  l_Book_init.fn,
  l_Book_init.fn.binds (ps:=["self"]) λ_ _ _ _ _ _=>uO λ_=>rfl,
  .of rh λ_ _ _ _ _ _=>uO λ_=>rfl,
  .of sT λ_ _ _ _ _ _=>uO λ_=>rfl,
  .of va λ_ _ _ _ _ _=>uO λ_=>rfl,
  l_Lasts_init.fn,
  l_Lasts_init.fn.binds (ps:=["self"]) λ_ _ _ _ _ _=>uO λ_=>rfl,
  .of qc λ_ _ _ _ _ _=>uO λ_=>rfl,
  .of sX λ_ _ _ _ _ _=>uO λ_=>rfl,
  l_Weak_init.fn,
  l_Weak_init.fn.binds (ps:=["self"]) λ_ _ _ _ _ _=>uO λ_=>rfl,
  .of s_ λ_ _ _ _ _ _=>uO λ_=>rfl,
  .of X G BG λ_ _ _ _ _ _=>rY λ_ _=>rfl,
  .of X G tw λ_ _ _ _ _ _=>uO λ_=>rfl,
  .of X G tu λ_ _ _ _ _ _=>rY λ_ _=>rfl,
  .of X G tj λ_ _ _ _ _ _=>uO λ_=>rfl,
  .of X G vt λ_ _ _ _ _ _=>AV λ_ _ _=>rfl,
  .of sZ λ_ _ _ _ _ _=>rY λ_ _=>rfl,
  .of nj λ_ _ _ _ _ _=>rY λ_ _=>rfl,
  .of X G vq λ_ _ _ _ _ _=>uO λ_=>rfl,
  .of X G Am λ_ _ _ _ _ _=>uO λ_=>rfl,
  .of X G tG λ_ _ _ _ _ _=>uO λ_=>rfl,
  .of X G BI λ_ _ _ _ _ _=>uO λ_=>rfl,
  .of X G KZ λ_ _ _ _ _ _=>AV λ_ _ _=>rfl,
  l_Memory_init.fn,
  l_Memory_init.fn.binds (ps:=["self","size"]) λ_ _ _ _ _ _=>rY λ_ _=>rfl,
  .of nQ λ_ _ _ _ _ _=>rY λ_ _=>rfl,
  .of mT λ_ _ _ _ _ _=>AV λ_ _ _=>rfl,
  .of vc λ_ _ _ _ _ _=>rY λ_ _=>rfl,
  l_Hands_init.fn,
  l_Hands_init.fn.binds (ps:=["self","many"]) λ_ _ _ _ _ _=>rY λ_ _=>rfl,
  .of oM λ_ _ _ _ _ _=>rY λ_ _=>rfl,
  .of vb λ_ _ _ _ _ _=>rY λ_ _=>rfl,
  .of BF λ_ _ _ _ _ _=>rY λ_ _=>rfl,
  .of X G rG λ_ _ _ _ _ _=>uO λ_=>rfl,
  .of X G tF λ_ _ _ _ _ _=>uO λ_=>rfl,
  .of X G K0 λ_ _ _ _ _ _=>uO λ_=>rfl,
  .of rn λ_ _ _ _ _ _=>rY λ_ _=>rfl,
  .of rj λ_ _ _ _ _ _=>UZ λ_ _ _ _=>rfl,
  .of nz λ_ _ _ _ _ _=>rY λ_ _=>rfl,
  .of X G rE λ_ _ _ _ _ _=>uO λ_=>rfl,
  .of X G tD λ_ _ _ _ _ _=>uO λ_=>rfl,
  .of X G Hx λ_ _ _ _ _ _=>uO λ_=>rfl,
  .of qJ λ_ _ _ _ _ _=>AV λ_ _ _=>rfl,
  l_Areas_init.fn,
  l_Areas_init.fn.binds (ps:=["self","old_words","young_words"]) λ_ _ _ _ _ _=>AV λ_ _ _=>rfl,
  .of sU λ_ _ _ _ _ _=>rY λ_ _=>rfl,
  .of Ag λ_ _ _ _ _ _=>rY λ_ _=>rfl,
  .of u_ λ_ _ _ _ _ _=>AV λ_ _ _=>rfl,
  .of sV λ_ _ _ _ _ _=>AV λ_ _ _=>rfl,
  .of sW λ_ _ _ _ _ _=>AV λ_ _ _=>rfl,
  .of vf λ_ _ _ _ _ _=>rY λ_ _=>rfl,
  .of ve λ_ _ _ _ _ _=>AV λ_ _ _=>rfl,
  .of vd λ_ _ _ _ _ _=>rY λ_ _=>rfl,
  l_Roots_init.fn,
  l_Roots_init.fn.binds (ps:=["self","many"]) λ_ _ _ _ _ _=>rY λ_ _=>rfl,
  .of X G vp λ_ _ _ _ _ _=>rY λ_ _=>rfl,
  .of X G rC λ_ _ _ _ _ _=>rY λ_ _=>rfl,
  .of X G rD λ_ _ _ _ _ _=>rY λ_ _=>rfl,
  .of Ah λ_ _ _ _ _ _=>rY λ_ _=>rfl,
  .of X G vo λ_ _ _ _ _ _=>rY λ_ _=>rfl,
  .of X G Pw λ_ _ _ _ _ _=>AV λ_ _ _=>rfl,
  .of X G Ao λ_ _ _ _ _ _=>rY λ_ _=>rfl,
  .of X G DX λ_ _ _ _ _ _=>rY λ_ _=>rfl,
  .of X G K3 λ_ _ _ _ _ _=>AV λ_ _ _=>rfl,
  .of X G BJ λ_ _ _ _ _ _=>rY λ_ _=>rfl,
  .of X G Ai λ_ _ _ _ _ _=>UZ λ_ _ _ _=>rfl,
  .of X G vj λ_ _ _ _ _ _=>AV λ_ _ _=>rfl,
  .of X G Aq λ_ _ _ _ _ _=>rY λ_ _=>rfl,
  .of X G KY λ_ _ _ _ _ _=>AV λ_ _ _=>rfl,
  .of X G rF λ_ _ _ _ _ _=>rY λ_ _=>rfl,
  .of X G Hw λ_ _ _ _ _ _=>rY λ_ _=>rfl,
  .of X G BH λ_ _ _ _ _ _=>rY λ_ _=>rfl,
  .of X G rB λ_ _ _ _ _ _=>uO λ_=>rfl,
  .of X G DY λ_ _ _ _ _ _=>UZ λ_ _ _ _=>rfl,
  .of X G tE λ_ _ _ _ _ _=>AV λ_ _ _=>rfl,
  .of rp λ_ _ _ _ _ _=>rY λ_ _=>rfl,
  .of pw λ_ _ _ _ _ _=>UZ λ_ _ _ _=>rfl,
  .of X G tB λ_ _ _ _ _ _=>rY λ_ _=>rfl,
  .of oK λ_ _ _ _ _ _=>rY λ_ _=>rfl,
  .of qb λ_ _ _ _ _ _=>rY λ_ _=>rfl,
  .of X G vn λ_ _ _ _ _ _=>AV λ_ _ _=>rfl,
  .of X G K2 λ_ _ _ _ _ _=>AV λ_ _ _=>rfl,
  .of X G vk λ_ _ _ _ _ _=>rY λ_ _=>rfl,
  .of X G vg λ_ _ _ _ _ _=>uO λ_=>rfl,
  .of X G Aj λ_ _ _ _ _ _=>uO λ_=>rfl,
  .of X G vv λ_ _ _ _ _ _=>AV λ_ _ _=>rfl,
  l_Roots_follow.fn,
  l_Roots_follow.fn.binds (ps:=["self","goal_of"]) λ_ _ _ _ _ _=>rY λ_ _=>rfl,
  ⟨a_Roots_follow,i_Roots_follow,l_Roots_follow.kp⟩,
  .of X G tf λ_ _ _ _ _ _=>uO λ_=>rfl,
  .of X G vm λ_ _ _ _ _ _=>uO λ_=>rfl,
  .of X G Ak λ_ _ _ _ _ _=>rY λ_ _=>rfl,
  l_collect_young.fn,
  l_collect_young.fn.binds (ps:=["areas","roots"]) λ_ _ _ _ _ _=>rY λ_ _=>rfl,
  pj,
  o_,
  br X G pZ,
  .of X G pz λ_ _ _ _ _ _=>uO λ_=>rfl,
  .of X G vi λ_ _ _ _ _ _=>rY λ_ _=>rfl,
  l_law.fn,
  br X G Dl,
  ⟨pg_Memory,hd_Memory,po_Memory,sa_Memory⟩,
  ⟨By,a_Memory_init,i_Memory_init,kc_Memory⟩,
  mB,
  kX,
  br X G AW,
  ⟨pg_Space,hd_Space,po_Space,sa_Space⟩,
  ⟨uV,a_Space_init,i_Space_init,kc_Space⟩,
  kI,
  qk,
  lu,
  br X G GN,
  ⟨pg_Areas,hd_Areas,po_Areas,sa_Areas⟩,
  ⟨DG,a_Areas_init,i_Areas_init,kc_Areas⟩,
  jz,
  kQ,
  jL,
  kE,
  br X G Kr,
  ⟨pg_Book,hd_Book,po_Book,sa_Book⟩,
  ⟨G_,a_Book_init,i_Book_init,kc_Book⟩,
  kM,
  br X G GO,
  ⟨pg_Hands,hd_Hands,po_Hands,sa_Hands⟩,
  ⟨DH,a_Hands_init,i_Hands_init,kc_Hands⟩,
  mz,
  br X G GP,
  ⟨pg_Lasts,hd_Lasts,po_Lasts,sa_Lasts⟩,
  ⟨DI,a_Lasts_init,i_Lasts_init,kc_Lasts⟩,
  jO,
  lJ,
  br X G Ks,
  ⟨pg_Weak,hd_Weak,po_Weak,sa_Weak⟩,
  ⟨Ha,a_Weak_init,i_Weak_init,kc_Weak⟩,
  l9,
  br X G GQ,
  ⟨pg_Roots,hd_Roots,po_Roots,sa_Roots⟩,
  ⟨DJ,a_Roots_init,i_Roots_init,kc_Roots⟩,
  lF,
  lB,
  kH,
  kG,
  ⟨_,br X G pI,⟨_,rfl⟩⟩,
  ⟨_,br X G pQ,⟨_,rfl⟩⟩,
  ⟨_,br X G uo,⟨_,rfl⟩⟩,
  ⟨_,br X G qq,⟨_,rfl⟩⟩,
  ⟨_,br X G pG,⟨_,rfl⟩⟩,
  ⟨_,br X G uq,⟨_,rfl⟩⟩,
  ⟨_,br X G oU,⟨_,rfl⟩⟩,
  ⟨_,br X G pH,⟨_,rfl⟩⟩,
  ⟨_,br X G nS,⟨_,rfl⟩⟩,
  ⟨_,br X G oj,⟨_,rfl⟩⟩,
  ⟨_,br X G uk,⟨_,rfl⟩⟩,
  sJ,
  qV,
  qF,
  bV X G Hc,
  bV X G m9,
  bV X G Jq,
  bV X G mN,
  bV X G kj,
  bV X G BA,
  bV X G mP,
  bV X G sf,
  bV X G Hd,
  bV X G Md⟩
 exact⟨_,λs v=> .of_eq rfl,λbase _ _=>T2 T⟩
theorem walk{l:fT}{q:Program}{loose:List Str}{XP:(Str->Option Value)->Heap->Prop}{d:DefRec}{K:Params->af}{as:List Addr}{e:∀P,as=(K P).map (·.1)}{jx:Addr}(hn:l.most=some 63)(hdf:d.params.defaults=[])
  (hK_collect_young:∀w:World,(K w.params).lookup jx=none) (hc_collect_young:∀w:World,∃c,df (K w.params) c jx=true)
  (F:∀(w:World) (mg:Str->Option Value) (fa:Addr) (h:Heap),(K w.params).In h->h.Ns mainGlobals mg->mg d.name=some (.ref fa)->
   ∃fd:FuncData,(∀(s:Shared) (u:Value),BindsTo s fd ⟨[u],[]⟩ [("_law_script",u)])/\∀base:Heap,(K w.params).In base->base.Ns mainGlobals mg->mS l.prog w (K w.params) mg base (uv l.prog w) true 17 fa fd ["_law_script"] (CV (K w.params) jx)):
  iS q loose XP (PySem.W.kmHook K as e [jx]).says l.row.toRowW d [] (λf vs=>iM f vs):=
 Internal.Qc (ts:=[jx]) (n:=63) (k:=17) (x:="_law_script") (ca:=true) (CX:=λw=>uv l.prog w) (sp:=λw=>CV (K w.params) jx) hn (by decide) hdf ⟨λ_=>rfl,by decide,by decide⟩ (λ_ _ Y=>PySem.W.km_in_of Y) (λ_ _ Y=>PySem.W.km_tabs_of Y)
  (λw=>List.forall_mem_cons.mpr ⟨hK_collect_young w,λ_ z=>nomatch z⟩) (λw=>List.forall_mem_cons.mpr ⟨hc_collect_young w,λ_ z=>nomatch z⟩) F (λ_ _ a ns hl hO hS=>⟨a,ns,rfl,XE hO hS,hl,hO.2 _ (ax ..),λ_=>rfl⟩)
  λ_ _ _ _ _ y=>by obtain⟨_,_,_,_,_,_,_,_,_,_,_,_,z⟩:=y;exact z
end
end Internal.K13
namespace PySem.W.Fast
local macro_rules|`(command|universe $u*)=>do return Lean.mkNullNode (←u.mapM λx=>do return (←`(command|theorem $x :True:=⟨⟩)).raw)
universe tw2096168235050651880 tw13371264613457289814 tw11332523760441641639 tw18026831664709754893 tw11631521109045212238 tw17744366795809350843 tw16072090793667863690 tw4956241637906876191 tw16474571435730208416 tw14949043721729575972 tw11902635377382657427 tw2769731639327815661 tw18118443892398337803 tw964466446605243069 tw10450062128343608945 tw14561664637966563130 tw15742846063250210921 tw15021203675404248508 tw15028512091477710931 tw494437166657704520 tw10742028440864256074 tw2794139462979308114 tw16243583362402514491 tw1988461330362968614 tw13602957364460100241 tw17252560707436115251 tw319421746998272822 tw51872684619289902 tw7153152788205579274 tw1519183846283064530 tw14188269557318155193 tw15925935286853101131 tw14586179223997521244 tw1500623833055599717 tw10485607541452827210 tw765960087735181281 tw17405605294487449801 tw5413107429713088996 tw7590333990669971673 tw14070645431511220807 tw11693920180617583151 tw4625044772262911208 tw18364803013926599202 tw16587294848018897714 tw4694287256743940520 tw1074504602282332985 tw12678238994134553562 tw12461602891399607318 tw3227642969474210574 tw2361581961625607476 tw18242721941664809484 tw446505708953950499 tw9769686814598357667 tw644817547633217838 tw2863398799342244269 tw5492354658337871917 tw1084312123751590322 tw6262108734737769183 tw12639239765164607358 tw14947683327309540960 tw18166011547408558857 tw11437014149679498757 tw10353951591927058303 tw9805962073803700278 tw5081591762361458432 tw14124790733212989032 tw9824123192887015901 tw2627205782329747974 tw13986023226479374351 tw3596341449901174510 tw17443207657279380212 tw424095061232374048 tw8722424482641446635 tw11752500550310943217 tw2281075587461048051 tw5825558647063140766 tw12403956050669584580 tw16203154787055561155 tw17679042084699640139 tw11230842684843340690 tw3957731649797747200 tw17309992645641780645 tw14766920499156495332 tw10137868127727968140 tw13265282392647706173 tw17451897330127468908 tw753047941566791720 tw3413805359193834802 tw6131981718152715725 tw5582031216391238890 tw393885721999741079 tw9355577675764371876 tw11475347056722862950 tw7710296456403298344 tw8119920058152629195 tw15834926816163359579 tw1222546451387882392 tw3663448618253773572 tw2436303875871796519 tw10491667726378029215 tw15149654828617716125 tw17554940840305267486 tw8889074556672509480 tw971586919145584081 tw15894387477348158419 tw3553782017811442024 tw3820620056346375616 tw5522771239555214199 tw10858802391696201976 tw11478825732663947588 tw6235652928067254031 tw15732486858143969852 tw17470240791276889274 tw2034328094383747008 tw4113885310058125449 tw3180685066610375920 tw5749646610140353017 tw2705275623822326705 tw4647811277939057845 tw5073558263045925538 tw14821679079868994483 tw3518144951669093771 tw1667145245515811009 tw18372402721107514922 tw10124661971978416312 tw12487994094262556736 tw1401394236785754652 tw4048763577482651906 tw2152496832602233890 tw5099678275593747821 tw2481574979591227018 tw9862142691501957547 tw5681191701672072257 tw7966649950680040534 tw11376288135825919656 tw1643056092136443469 tw2082992901312768097 tw6124780440740896647 tw17288832889970560877 tw14467180406339853577 tw259390511909735264 tw16813006613895053311 tw9750039722641939210 tw12832391030181166157 tw13921002070193089972 tw10878815309018789187 tw15835999494345093501 tw16918871534738782777 tw15256939403546951962 tw10743557738959905167 tw2204114215978032131 tw3403502065048197888 tw6935595630180035345 tw6514193074665642953 tw618865980487850048 tw6197945385677868467 tw5368594182284386592 tw9765481327376620090 tw18132491627102868479 tw720658199205273294 tw18197449449978921886 tw5227182933506751593 tw667715366429482358 tw12502129748689575954 tw17597540719289269924 tw10545842863446547354 tw7200286214351482412 tw4363897867038833391 tw15185938745273616074 tw1033121698706511877 tw17159266302620885856 tw11146497986701421471 tw5465970867675423571 tw7365923544251258630 tw10049870791356459611 tw6179015778736719679 tw14241073922095346285 tw6139885202914508586 tw7298152332131063465 tw8518229318173323378 tw14310477274952829588 tw15776367940016300543 tw6431696920354628156 tw8102253729109150358 tw4392726073015260319 tw1593568707809159155 tw14219369205576907712 tw14631117663279309349 tw7105069878321639638 tw8440685777708874585 tw8332047756046612848 tw6713108605576430590 tw11464230070097682934 tw16862223071401464522 tw6146404875138578226 tw2592397419252349099 tw12856544306189946159 tw839195582045124355 tw11937656770566331740 tw4267548070280166898 tw9630335364264315043 tw14122020323717733899 tw6674516487730850986 tw10239051458854876921 tw698141679480313092 tw15882245701439299216 tw14516962160976183918 tw16724625217255900538 tw11020618986666274237 tw864971351175339784 tw5441371835807450353 tw11848042384375710764 tw4232545636779230764 tw15376542685747292055 tw7597593389845683419 tw17447174480209849624 tw13974207319315577652 tw14106954811071062073 tw2793571968035644852 tw8793960302584559736 tw8227533824058178499 tw12126131775203441356 tw11124225114113285662 tw10514810947592638143 tw16930918269995041297 tw11193815930547175130 tw6736633197064849724 tw8211226861072895870 tw9186500793446074692 tw17470892736272576099 tw6193610353063308155 tw10277745989244002755 tw10290793031624588016 tw17970166206537112464 tw14964268667962916014 tw6634160946497382136 tw8053500243753013812 tw17156592217433519490 tw14666188825414460575 tw1055017450728484227 tw16418637719345821907 tw2841447548731468844 tw5870038003676728970 tw4938706883649108939 tw6870210222817139114 tw12855600618434086264 tw11815689849065114598 tw5265795257639092601 tw2726254312741610200 tw8637358154948224338 tw14606888463281154335 tw13252009212242440349 tw1669515871945114846 tw3933518689505708792 tw11777385048893779529 tw16356864364609572617 tw6581815459096191701 tw7143650411238667075 tw5159910732661127428 tw11940715575862630797 tw12462525919796536161 tw2112187173687679705 tw1465077127913888833 tw16885222732647329197 tw16203749365651014316 tw10954127755590608921 tw17798659029764859832 tw15787661704597684601 tw1055038693466588928 tw17306707275253560122 tw10624607813543548723 tw9207915440445864083 tw7716764446951248335 tw14081726581951740031 tw13595070857210204321 tw274634763656756603 tw5698914672793885920 tw4975748062657323828 tw9958143081086637290 tw13062562428435856134 tw2918121242567440468 tw16844232727121773576 tw14587898256680432061 tw16397813453962871667 tw1861874111698663760 tw12522119270867067448 tw5669366640614558191 tw9273489158743757171 tw3830638210033737455 tw3251023241621763651 tw7304597034094043991 tw7211673603315919730 tw7151028044837243995 tw17088668477659283121 tw3140894865817405146 tw9083186386623046922 tw7160703199083087466 tw16125785487629153306 tw9885965044039966766 tw9072532591607291002 tw11686930908543487563 tw6875185105866405278 tw13863616221750434357 tw4272778698400570996 tw7059095332534839160 tw3594130709620644120 tw13318244667858297329 tw17314860406887692925 tw15301881417291982941 tw4405009849300669535 tw6377846745291165715 tw15406683556159983788 tw13951639085110265674 tw6454091501275727829 tw15788785257826878911 tw14650900891501053937 tw12853947874788842859 tw13920766736007830919 tw4948235135453433740 tw3785668002665483905 tw14454794094114768677 tw15464833841325046137 tw1634918256311171491 tw1614625613594338435 tw470530040521186455 tw11102854000140862620 tw18414846633417937607 tw4879426455841738118 tw17240801541282628884 tw16500441425962793026 tw1531787562601035250 tw17566758308626677570 tw16732389826916384031 tw1141218662891984092 tw8705543488569568675 tw14940435795352914222 tw17109956429589224025 tw5442394685777159967 tw9051754001266976955 tw16996009814875311530 tw15255112752904408953 tw11419797505017002946 tw5992400826726901788 tw2082676212044624791 tw13632885483823854392 tw1444839405213281973 tw5222561462553928383 tw9745916805294497239 tw12515346311703370835 tw17834008338361638748 tw6580036532116674386 tw3273151705390984117 tw7820455879472790753 tw17724979158144676426 tw15438904812843308103 tw14694480467452976182 tw15958159470736462565 tw8225938821774369093 tw5762883706217026533 tw2045417944694282072 tw14364666787998218388 tw9692510764745910749 tw8613309564804521491 tw18212851272996401978 tw17604752175579744451 tw12070798350056608989 tw17524226298133458117 tw1453405630931115832 tw14306327608396303737 tw5349809801630469280 tw46769629648322649 tw3109566652460315491 tw10396330223480691760 tw13979244434928016589 tw13130959234184447530 tw4064610721960057782 tw17291882244445154795 tw1146955625879153469 tw17974591414619987656 tw6186533699012948715 tw6168271899859644078 tw12647534153998612548 tw10375007750882665658 tw1336096748533662680 tw8452066647895861615 tw17815311109559049810 tw12763290014470129396 tw3360930332425620457 tw7171014991363906255 tw13276941458858605365 tw17244877172672258296 tw4039809792814775966 tw16634646988842774364 tw7645060820372297429 tw10536397329092072613 tw7240355852759401767 tw5142337643286332353 tw11162353059768468904 tw16522540983053542873 tw726075069579092554 tw16777617162470239062 tw2271653278222469344 tw1384106342037409101 tw2845633828770259799 tw15222323978221677515 tw12609556150435056261 tw4428351769317230828 tw15978674993301512485 tw12793135210759246474 tw1209933022365875110 tw16458232644695478934 tw17850030223410006533 tw8569352649710293812 tw7285921300361121260 tw14044550323996390629 tw9238869827539989852 tw8088107397139340541 tw9050420171092542998 tw13671856612874572840 tw18005313667280368966 tw9712903747851824552 tw551931530353320112 tw7189845457472532332 tw3564213102717628220 tw3899460498420703423 tw2057333004366020103 tw1386069880030097719 tw5980092104707840440 tw18127955944637498142 tw13171207520505545748 tw10003123223943943261 tw9040455917277857591 tw2883026399986683464 tw8517035996807393505 tw17524002905772286130 tw4153773798401968814 tw1984454027930191142 tw15629557995603493626 tw974893717859122814 tw6557808840222013837 tw4134599310438286158 tw11414991471578674996 tw17319525162985041016 tw8147118985024388951 tw9120060536985159292 tw6457135025311562831 tw2459956710881620106 tw14959930389942822077 tw16796747323546027374 tw12509230946296986503 tw14131556310559836565 tw10104377412400096129 tw4287644105014726432 tw10884560475271469580 tw5858916311888175622 tw1329134505271191326 tw7609865589572756650 tw6651107570900771685 tw14627587757918776767 tw8769465770985023172 tw3826117756484585824 tw345011701307943813 tw10784947028263084888 tw1355355377737981533 tw13579510001730592770 tw4617929361998578921 tw2312709996246307666 tw5308558794749536445 tw15623659886677049539 tw12885007333435643424 tw8983571224930845110 tw16621101052066244359 tw15171703212212176379 tw2004420101898774358 tw13059858527667694908 tw10500559693822538187 tw4641002241862216163 tw14886026806817434930 tw13442531090593225700 tw2742470113708844109 tw2608132960313786142 tw12529907376971835806 tw5957366179314782615 tw17765796689073573516 tw15262229874053581089 tw2545445579476911984 tw7768639398808272514 tw14165440937325954288 tw4363820212809565056 tw10676196349918071578 tw16124287345397459820 tw7341452474163229637 tw1466579574807255146 tw9645534346663328551 tw6060955594079570782 tw3969790175288809946 tw12419604765053818525 tw13018419662672355213 tw3360276433456740360 tw14494073120817015083 tw4546150295472229931 tw12778296242970121790 tw7495871514696166702 tw10905128809924747421 tw5046690758108594066 tw8515994216480724564 tw15892702041252188991 tw1102001845178516850 tw11305180042305767946 tw7234776865216789717 tw17485712824278439033 tw2564824424236261293 tw15462930921935728780 tw10217267202611497027 tw15343781553591633100 tw3386181664943126495 tw5750370487185322031 tw9070330835926861832 tw12983824091170589311 tw6478271210495009447 tw11241792664744516641 tw2472270475126244994 tw13213644574057764263 tw12081476271150187874 tw1849870052720975114 tw4581537126114686203 tw4246240928986022823 tw7391508296263769741 tw13824840735825276422 tw7378275982286406590 tw5570561249426349023 tw12659837609465357313 tw10347526006494014543 tw14090759209438666020 tw13062606355669548480 tw6916370044175478811 tw1638194432509260941 tw72449581603084401 tw1992804845282706748 tw8411857702486758805 tw1740289510243854016 tw7105342346495834310 tw14335948605367030609 tw10660000033103660191 tw17554667291309993160 tw2911205643067419094 tw9242844953788565067 tw15255934273863345774 tw14158255972859736332 tw9205181782922588642 tw17202596311516574051 tw6587890220685099306 tw5776236561581759343 tw2409279661535984453 tw18188358439049218862 tw616351480770949419 tw9352299887465482392 tw10996999936537515988 tw1317457571463126990 tw4270957023568271965 tw11929684483222960246 tw7258806666018370089 tw7880881577036271248 tw7006859922292958557 tw8858365497101524644 tw18132142262751493407 tw6534429550414542596 tw131613649438111260 tw9144276029374332909 tw4807255947794115347 tw8952507713189429556 tw13449868817772641779 tw16316605282044815060 tw6549432842592645947 tw13101917048407307629 tw2318987962010931787 tw6033819775094885693 tw6506554456911764480 tw1659137756687780187 tw18378285575799463245 tw5595474956035110689 tw4339020144443753492 tw3383336474982689615 tw462844660828003082 tw956863837824499600 tw16099127860501067416 tw2752283945190817651 tw12374985186153226122 tw12383728370008205395 tw6269177927606862321 tw300396628442666399 tw9693944347299859721 tw6776522711979426543 tw15661475846050973149 tw17523286466402856035 tw10471580088168022508 tw13361489039369800820 tw12460777919418219762 tw10735310948251289786 tw295402349515455979 tw760635342905140391 tw12895569710139097039 tw15680495310568642383 tw6567235381082445199 tw7711407318329236966 tw11777477486968817450 tw15126558887464702560 tw16133900486307257848 tw15091458153565890499 tw9744808561080578862 tw9700551053167798095 tw15620301661655467134 tw17102658759459395396 tw16416734011714454219 tw1758117792060835063 tw11536102728571776201 tw1818697681247083012 tw10965854955933993426 tw12296915526730666582 tw17880221628385339905 tw6874940432117419924 tw14009105284380617336 tw5012260726247913590 tw1539859251019117808 tw7193527713572360841 tw1707641286889023429 tw4900921454213698082 tw15036042530935883589 tw10101591200777362923 tw17584353836298356968 tw15017631122826951203 tw16680516117818725775 tw14601924389626094344 tw12050548559728783050 tw6997569835022791681 tw9576897143739750546 tw10733495782743240967 tw5178993435166081670 tw7301845941204717889 tw13813371569705975795 tw5255241932204211861 tw13218572009886047484 tw11506755082387948485 tw3610644759957039958 tw8055633214436704176 tw4892673582734553936 tw1825074116683247962 tw783478086188418409 tw5730654027875367556 tw6405422020120098579 tw18359117989369436526 tw9583486868096387527 tw5410430681969809591 tw18180870446447583178 tw1564206656286809181 tw8351303987988751259 tw14367157347834723 tw11186947572164251868 tw16421786431400876580 tw18266154762772997292 tw8845860002645661786 tw2899751419707899483 tw5670193835315339516 tw1728414702906139471 tw12031789982999232234 tw10861425802923939774 tw15483965740588167035 tw15663225134944285765 tw14919613993390468415 tw8081492683264412866 tw13147735854280046328 tw17011241810793963030 tw6466804706189956806 tw13284277880406852480 tw1922431254783923380 tw12342126788059551757 tw17123584113448897523 tw16233127165052182724 tw15699771692387100930 tw6034379247597434263 tw11091555796861167868 tw13439072689357068009 tw12261469255488529729 tw15460844055909802768 tw16517384963034180479 tw362521984009315352 tw4638135128857156958 tw4327938043557805113 tw14092097687959873629 tw17162713079732981642 tw15055802025326126232 tw18324236933831210329 tw4465409982542763226 tw12695001861464664493 tw9070039364854837002 tw10134484408675851716 tw15094933844526451276 tw1045107834007610149 tw6675841466673701845 tw12505388941550473311 tw3323343517778312621 tw8708849910850921336 tw2279398524712198224 tw9267964802485744335 tw2195117679604252120 tw5358866827567787857 tw406347900245210751 tw13098543787998350558 tw4290341449235657706 tw488105745516343395 tw3277100401907653116 tw15509756480132141930 tw10187734477604691156 tw4722936224939449114 tw17808906641833656810 tw818386152004585932 tw5767867342563225406 tw15169079345457415679 tw9653210797623714718 tw10012935981118978271 tw7867674196654250789 tw16979285233521766911 tw8121525517524705269 tw330968605297027489 tw7453093896198035739 tw1678083449411790426 tw8033172416576243496 tw4176482395272499275 tw2344200126813886303 tw12814290065731700076 tw15550215777472486208 tw9641155903614508453 tw7084718008511225210 tw15206120948634831254 tw6612318668594346146 tw1981250678275354035 tw16730194735827168212 tw15145935864172981644 tw422845503033088648 tw3592946850028203442 tw4152025242975902752 tw9376230868640827291 tw8628884862004020791 tw16058370876702956458 tw1224307384479629122 tw10745488131396461342 tw12663895386524409645 tw15676813122246206850 tw17515503211029396793 tw1456953928166445406 tw18105296642248211173 tw656319704268098106 tw6474351322271571715 tw553340387812225233 tw11462965061839508794 tw2726054702730780178 tw5957169455934019462 tw13638140010947011815 tw13468249026826215820 tw16625644199795862808 tw18321067663357697871 tw7579541359125581890 tw17870364377863344393 tw2021867377660133541 tw14898636170739232433 tw1402536041615679507 tw10929272176257287396 tw10872311021290878447 tw4592112032870622613 tw6857643898312541223 tw17803221441250495251 tw4091294141233526823 tw14317038484118072731 tw2789678405409231758 tw13495698635573950929 tw12130943937689449386 tw17316777573468917545 tw2211453425344912167 tw1932853212306910253 tw6705824784217383449 tw17903968688689182569 tw13948019105393203797 tw18056032806515308449 tw6877419820712770514 tw2151960867229859714 tw18264758561565464950 tw3589771537913463198 tw12425596404079908816 tw2811033335029128193 tw10508292015036255440 tw12567321780810855294 tw14719251642143126208 tw7628354728689853578 tw9442809428832714244 tw3779876303024081284 tw16109368529901894649 tw10501809478556450972 tw1004452299874386587 tw14369180051922189559 tw2663213957738519809 tw1925115055404796229 tw12631393677939772919 tw16031525700810724296 tw17640090322728432729 tw5256002479963090073 tw9951352801669780261 tw7473532957678469061 tw18337999568832247059 tw5453342924427119347 tw6394532894081256278 tw8493616429654170899 tw15792238443620695460 tw6432205594377877312 tw11725743001127571799 tw158970453941211331 tw11661052178480076735 tw11634790155229479644 tw2953732877801606555 tw15947114898363894270 tw3056788863192709388 tw4303281298662638572 tw10295736407679504471 tw10691341050182996603 tw10358834074971738348 tw12948845389434587961 tw7607101295360201222 tw10419466788040041467 tw12461076107116343981 tw15288017755335086626 tw12493424073039483786 tw408958382749149766 tw5262009862319763205 tw2944318275545560598 tw17040139534956510978 tw3215851586039834806 tw5408142195728798291 tw15601789454200095922 tw5035434173170616395 tw18013623686131156656 tw5129223410530229684 tw17831232983897784996 tw16452726348421665332 tw130838289175784693 tw12867463554182080320 tw11624269709538124676 tw850759687336263768 tw10919465440628737962 tw8208547513027862951 tw12646973429046588145 tw8509851802622211529 tw1923462445766871266 tw10088216081100213011 tw15417182480995562115 tw8844861424037018189 tw6458092690256421504 tw8403401478804473921 tw11628084701613577515 tw13717708891097888573 tw18143941982818140644 tw14454717776884089478 tw752174030055839923 tw14344719027092027323 tw5953065473228498124 tw16206226052364402818 tw17238861867563154548 tw13639999046788891542 tw14085586932870902104 tw12908959185815951132 tw11148249542070132450 tw13908856860401449269 tw1173069932199813565 tw15028573470609900094 tw8549855108333007532 tw5274090781433996909 tw5364005739758392943 tw17331665216726431583 tw18027625626915064021 tw17276970496282943742 tw9399514688616686167 tw13286142387717744562 tw317976882416731892 tw6691851496397768306 tw14317683551799956661 tw5891515392457021584 tw2666403744303816077 tw10738578740078863881 tw11620539671225003332 tw17242022093202533021 tw3601483417984035305
end PySem.W.Fast
end
open PySem PySem.W PyProof.Rows
set_option maxRecDepth 100000 in
set_option maxHeartbeats 0 in
theorem PySem.Challenge.cw_cellkeep_k13_whole_young_book_and_names_holds : PySem.Challenge.rw_cellkeep_k13_whole_young_book_and_names.Holds := by
 w_on; o_law; k_head; (case hw => w_witness2)
 k_fill
 refine Internal.K13.walk (l := PySem.Challenge.rw_cellkeep_k13_whole_young_book_and_names) rfl rfl (fun _ => ?hK) (fun _ => ?hC) ?F
 case hK => kernel_rfl
 case hC => first | exact ⟨309, by kernel_rfl⟩
 case F =>
  intro w mg fa h KX G hmg;refine' Internal.K13.all_mk KX G hmg ?za ?zb ?zc ?zd ?ze ?zf ?zg ?zh ?zi ?zj ?zk ?zl ?zm ?zn ?zo ?zp ?zq ?zr ?zs ?zt ?zu ?zv ?zw ?zx ?zy ?zz ?zA ?zB ?zC ?zD ?zE ?zF ?zG ?zH ?zI ?zJ ?zK ?zL ?zM ?zN ?zO ?zP ?zQ ?zR ?zS ?zT ?zU ?zV ?zW ?zX ?zY ?zZ ?z0 ?z1 ?z2 ?z3 ?z4 ?z5 ?z6 ?z7 ?z8 ?z9 ?ya ?yb ?yc ?yd ?ye ?yf ?yg ?yh ?yi ?yj ?yk ?yl ?ym ?yn ?yo ?yp ?yq ?yr ?ys ?yt ?yu ?yv ?yw ?yx ?yy ?yz ?yA ?yB ?yC ?yD ?yE ?yF ?yG ?yH ?yI ?yJ ?yK ?yL ?yM ?yN ?yO ?yP ?yQ ?yR ?yS ?yT ?yU ?yV ?yW ?yX ?yY ?yZ ?y0 ?y1 ?y2 ?y3 ?y4 ?y5 ?y6 ?y7 ?y8 ?y9 ?xa ?xb ?xc ?xd ?xe ?xf ?xg ?xh ?xi ?xj ?xk ?xl ?xm ?xn ?xo ?xp ?xq ?xr ?xs ?xt ?xu ?xv ?xw ?xx ?xy ?xz ?xA ?xB ?xC ?xD ?xE ?xF ?xG ?xH ?xI ?xJ ?xK ?xL ?xM ?xN ?xO ?xP ?xQ ?xR ?xS ?xT ?xU ?xV ?xW ?xX ?xY ?xZ ?x0 ?x1 ?x2 ?x3 ?x4 ?x5 ?x6 ?x7 ?x8 ?x9 ?Za ?Zb ?Zc ?Zd ?Ze ?Zf ?Zg ?Zh ?Zi ?Zj ?Zk ?Zl ?Zm ?Zn ?Zo ?Zp ?Zq ?Zr ?Zs ?Zt ?Zu ?Zv ?Zw ?Zx ?Zy ?Zz ?ZA ?ZB
  case za|zb|zc|zd|ze|zf|zg|zh|zi|zj|zk|zl|zm|zn|zo|zp|zq|zr|zs|zt|zu|zv|zw|zx|zy|zz|zA|zB|zC|zD|zE|zF|zG|zH|zI|zJ|zK|zL|zM|zN|zO|zP|zQ|zR|zS|zT|zU|zV|zW|zX|zY|zZ|z0|z1|z2|z3|z4|z5|z6|z7|z8|z9|ya|yb|yc|yd|ye|yf|yg|yh|yi|yj|yk|yl|ym|yn|yo|yp|yq|yr|ys|yt|yu|yv|yw|yx|yy|yz|yA|yB|yC|yD|yE|yF|yG|yH|yI|yJ|yK|yL|yM|yN|yO|yP|yQ|yR|yS|yT|yU|yV|yW|yX|yY|yZ|y0 => k_is
  case y1|y2|y3|y4|y5|y6|y7|y8|y9|xa|xb|xc|xd|xe|xf|xg|xh|xi|xj|xk|xl|xm|xn|xo|xp|xq|xr|xs|xt|xu|xv|xw|xx|xy|xz|xA|xB|xC|xD|xE|xF|xG|xH|xI|xJ|xK|xL|xM => exact ⟨_, _, by k_is, ⟨⟨_, _, _, _, _, _, _, _, _, by k_is, by k_is, by k_is, rfl⟩⟩⟩
  case xN|xO|xP|xQ|xR|xS|xT|xU|xV|xW|xX|xY|xZ|x0|x1|x2|x3|x4|x5|x6|x7|x8|x9|Za|Zb|Zc|Zd|Ze|Zf|Zg|Zh|Zi|Zj|Zk|Zl => exact ⟨_, _, by k_is, by k_is, ⟨⟨_, _, _, _, _, _, _, _, _, by k_is, by k_is, by k_is, rfl⟩⟩⟩
  case Zm|Zn|Zo|Zp|Zq|Zr|Zs|Zt|Zu|Zv|Zw => exact ⟨⟨_, _, _, _, _, _, _, _, _, by k_is, by k_is, by k_is, rfl⟩⟩
  case Zx => rfl
  case Zy => kernel_rfl
  case Zz|ZA|ZB => kit_is
