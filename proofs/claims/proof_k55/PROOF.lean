import PyProof.Rows.All
import Wide.All
import OpenK.AllK
import Wide.FinOn
import Lean
import PyProof.EqAt
import PyProof.EqKinds
import PyProof.TupleCall
import PyProof.NeData
import PyProof.P3In
import PyProof.ZipIter
import PyProof.EnumIter
import PyProof.EnumFor
import PyProof.EnumMake
import PyProof.TupleIter
import KE.KRevIter
import PyProof.ListRange
import PyProof.ConsumeWalk
import PyProof.WalkInts
import PyProof.SeqI3
import PyProof.P3Eq
import PyProof.TupleKey
import PyProof.DictRoadsH
import PyProof.FactsAll.NoneType_1
import PyProof.Rows.RowHeap
import PyProof.DictIter
import PyProof.DictWalks
import PyProof.Rows.TupDisplay
import PyProof.DictKinds
import PyProof.TupleOfSeq
import PyProof.Rows.RuleN_abs
import KE.KLam
import KE.KNestM
import KE.KDictOf
import PyProof.AttrMiss
import PySem.Challenge.RW_roundfall_k55_whole_soon_is_sharp
set_option Elab.async false
set_option linter.all false
set_option maxRecDepth 100000
local macro_rules|`(tactic|nofun)=>`(tactic|decide +kernel)
open Option renaming some->Ga,none->Gb
theorem Gc{p:Prop}[Decidable p](h:p):decide p=true:=decide_eq_true h
theorem Gd{p:Prop}[Decidable p](h:¬p):decide p=false:=decide_eq_false h
theorem Ge{c:Prop}{h:Decidable c}(k:c){α}{t e:α}:ite c t e=t:=if_pos k
theorem Gf{c:Prop}{h:Decidable c}(k:¬c){α}{t e:α}:ite c t e=e:=if_neg k
open PySem renaming wpAny_bind->gk,wpAny_pure->gm
open PySem renaming Value->Gg,Shared->Gh,FuncData->Gi,Addr->Gj
open PySem.W renaming Frag->ja,mg_none_of->j6,nsIn->kb,emptyDict->kT,fnOf->kW,kla_obj->k6,keepIn->ue,kmHook->ug,kas_sort->uy,instObj->uD,envX->vx,codeHd_of_K->vA,codeIn->vN,mg_of->vY,kas_ask->v7,kla_fn->qo,methodObj->qu,codeHdIn->qH,cellsFrom_some->qM,KasT->qP,OpenLaw->qX,lookIn->Jg,tabObj->Jk,WalkO->Jt,callWith_K->Jw,kitx_dict->JK,plainGet->JU
open List renaming length_map->jb,range->je,mem_cons_self->jf,getD_eq_getElem?_getD->jg,getElem?_eq_getElem->ji,mem_cons_of_mem->jj,mem_singleton->jk,mem_range->jl,size_toArray->jo,getElem?_eq_some_iff->jp,length_append->jr,mem_cons->ju,mem_map->jv,getElem?_map->jA,length_cons->jB,length_range->jG,filter_cons_of_pos->jH,map_cons->jI,all_eq_true->jJ,mem_append_right->jK,mem_filter->jL,mem_append->jM,contains_iff_mem->jN,filter_cons_of_neg->jQ,getElem?_set_ne->jR,getElem?_set_self->jT,map_map->jU,map_congr_left->jW,filterMap_cons_none->jY,map_append->jZ,mem_of_getElem?->j7,length_singleton->kf,append_nil->kg,nodup_cons->kh,filterMap_cons_some->ko,getElem?_eq_none->kr,length_filter_le->ku,lookup_cons->ky,range_succ->kz,find?_cons_of_neg->kA,find?_cons_of_pos->kD,filter_append->kE,length_reverse->kG,mem_of_mem_tail->kI,append_assoc->kP,getElem?_append_right->kU,nodup_nil->kY,getElem?_range->kZ,filter_sublist->k5,getElem?_append_left->k7,length_tail->uc,nodup_append->uj,filter_congr->uo,getElem_mem->uz,getElem?_eq_none_iff->uB,reverse_cons->uE,range_eq_range'->uF,getLast?_append->uG,getElem?_replicate->uK,not_mem_nil->uM,any_eq_true->uN,nodup_range->uO,mem_filterMap->uT,length_pos_of_mem->uW,find?_eq_none->uY,filter_eq_nil_iff->uZ,find?_cons->u8,foldl_cons->u9,length_nil->va,filter_map->vb,filterMap_append->vf,foldl_append->vg,getLast?_map->vh,mem_of_getLast?->vo,foldl_nil->vq,length_take->vt,mem_reverse->vy,length_erase_of_mem->vF,getElem?_cons_succ->vI,toArray->vQ,getElem?_toArray->vS,getLast?_reverse->vT,length_drop->vU,cons_append->vV,any_cons->vW,mem_append_left->v0,pairwise_append->v5,filterMap_cons->qa,getElem_of_mem->qd,mem_map_of_mem->qe,contains_cons->qp,drop_eq_getElem_cons->qq,range'->qw,range'_succ->qJ,getLast?_cons_cons->qL,drop_eq_nil_of_le->qO,take_of_length_le->qU,pairwise_lt_range->qV,of_mem_zip->qW,length_replicate->Ja,getElem?_reverse->Jd,singleton_append->Jf,tail_cons->Jn,Pairwise->Ju,head?_reverse->JC,pairwise_cons->JD,map_nil->JI,map->JO,all_map->JR,getElem_inj->JT,filter_cons->JW,take_length->JX,map_reverse->JZ,forIn_cons->J0,filter_nil->J1
open PySem.PyData renaming int->jc,tuple->jX,bool->j8,depthAll->kx,canLayAll0->kN,eqv->kR,none->uf,list->uQ,eqvAll->qz,canLay0->Jj,keyHash->J5
open PySem.Heap renaming get?_push_of_some->jd,lt_size->jm,get?_push_size->jy,get?_update_other->kX,get?_update_self->uA,size_push->vn,SameBut->vJ
open Nat renaming le_refl->jh,lt_of_lt_of_le->jz,ne_of_lt->jE,le_trans->jF,zero_le->jO,lt_irrefl->j0,lt_succ_self->k8,succ_ne_zero->ua,le_of_lt->uv,le_succ->uP,ne_of_gt->uS,pow_le_pow_right->vp,lt_succ_of_lt->vP,add_assoc->vX,zero_add->qf,sub_self->qh,succ->qC,lt_trans->qN,not_lt_zero->qY,min_eq_left->qZ,add_mul->Jo,mul_le_mul_right->Jp,mul_le_mul->Jq,le_of_eq->JH,le_succ_of_le->JL,sub_zero->JP
open Option renaming bind_some->jn,map_some->v9,isSome_iff_exists->qy,bind_eq_some_iff->qI,map_eq_some_iff->qS,none->Ji,filter_some->JE,isSome_map->JJ,getD_none->JV
open Bool renaming false_ne_true->jq,and_eq_true->jx,eq_iff_iff->jS,or_eq_true->kj,not_eq_true->kB,true_and->kC,false_eq_true->kH,not_eq_true'->kQ,true_or->ud,false_or->vd,false_and->vk,or_false->vC,and_false->qm,eq_false_iff->qx,not_true->qA,and_eq_true_iff->Jr,or_true->JQ
open PySem renaming Spec->jw,mem_of_lookup->kF,call->Jx,Fin->JY,getD_mem->J2,mem_getD->J3
open PySem.Str renaming ofString->jC
open Option.some renaming inj->jD
open PySem.Builtin.Range renaming rangeSize->jP,small->qc
open Classical renaming byContradiction->jV,propDecidable->vH
open PySem.Builtin.List renaming listExtendWith->j5,listLengthHint->kS,listSameRef->uI,listItems->uX,listTooLong->vD,listUpdate->qF
open PySem.NameKind renaming free->j9,cell->vE
open Int renaming toNat_natCast->ka,le_refl->ux,zero_add->qg,natCast_zero->qE,le_trans->qQ,emod_lt_of_pos->JF
open PySem.Obj renaming mapSeq->ki,data_mapFields->Jz
open PySem.Value renaming none->km,ref->kJ,bool->uR,type->vj,isInt->vZ,int->qi,isInt_shape->JG
open Array renaming length_toList->kw,mem_toList_iff->vm,getElem?_toList->vR,toArray_toList->v4,append_assoc->Jv,forIn_toList->Jy,size_append->JM
open Or renaming inr->kK,inl->k9
open PySem.Builtin.Tuple renaming tupleHashOf->kL,tupleExact->uH,tupleItemsOf->ql
open PySem.Builtin.Int renaming intBits->kM
open Ne renaming symm->ui
open PySem.Heap.SameBut renaming update->ur
open PySem.Builtin.Slice renaming slicePlaces->uC,sliceAdjust->vz,sliceApplied->qk
open PySem.Builtin renaming bitAnd->uJ,bitXor->vK,bitOr->Js
open PySem.Calls renaming spliced_cons->uU,callWith_builtin->uV,evalArgs_plain->u7,spliced_nil->vM,Name_function_global->qj,call_function_entry->qr
open List.Nodup renaming sublist->u6
open PySem.F renaming slot_dict_get->ve,args_tuple_add_2->vB,entry_tuple_add->vG,slot_tuple_add->vO,slot_list_extend->qB,plainAttrs_list->qD,plainAttrs_dict->qG,entry_dict_get->qT,type_dict_get->Je
open PySem.Builtin.Dict_items renaming ownsTuple->v6
open PySem.Builtin.ObjectAttr renaming inOwnDict->v8,dataDescriptor?->JA,noSuchAttribute->JB,ownThenClass->JS,ownDict->J4,find->J7
open PySem.Builtin.Dict renaming updateFrom->qK,showsAll->Jb
open Nat.succ renaming inj->qR
open PySem.W.Looks renaming of_pure->Jc
open PySem.Around renaming frames_deeper->Jh,under_plainId->Jl
open PySem.PyData.int renaming inj->Jm
open PySem.Builtin.ObjectAttr.Found renaming missing->JN
open List.cons renaming inj->J6
noncomputable section
namespace L2
open PySem PySem.Spec PyProof.Rows
abbrev lV:=Sum Int Str
def EG:lV->Gg->Bool
 | .inl k,v=>vZ k v
 | .inr x,v=>Value.isStrOf x v
def UD (w:World):lV->Int
 | .inl k=>hashInt k
 | .inr x=>hashStr w x
theorem mr:∀ {k:lV} {v:Gg},EG k v=true->(∃ i t,k=Sum.inl i/\v=qi i t)\/(∃ x t,k=Sum.inr x/\v=Value.str x t)
 | .inl i,v,h=>by
  obtain⟨t,e⟩:=JG (k:=i) (v:=v) h;exact .inl ⟨i,t,rfl,e⟩
 | .inr x,v,h=>by
  obtain⟨t,e⟩:=Value.isStrOf_shape (x:=x) (v:=v) h;exact .inr ⟨x,t,rfl,e⟩
theorem GW (a b:Int):decide ((Sum.inl a:lV)=Sum.inl b)=(a==b):=by
 by_cases e:a=b
 .subst e;simp
 .have h:¬(Sum.inl a:lV)=Sum.inl b:=λq=>e (Sum.inl.inj q);rw[Gd h];exact(beq_eq_false_iff_ne.mpr e).symm
theorem KR (a b:Str):decide ((Sum.inr a:lV)=Sum.inr b)=decide (a=b):=by
 by_cases e:a=b
 .subst e;simp
 .have h:¬(Sum.inr a:lV)=Sum.inr b:=λq=>e (Sum.inr.inj q);rw[Gd h,Gd e]
theorem IP (a:Int)(b:Str):decide ((Sum.inl a:lV)=Sum.inr b)=false:=Gd (λq=>nomatch q)
theorem KM (a:Str)(b:Int):decide ((Sum.inr a:lV)=Sum.inl b)=false:=Gd (λq=>nomatch q)
def yn (prog:Program)(w:World):PySem.KeyKind prog w lV where
 is:=EG
 hash:=UD w
 inj:=λv a b ha hb=>by
  rcases mr ha with ⟨i,t,rfl,rfl⟩|⟨x,t,rfl,rfl⟩
  .rcases mr hb with ⟨j,u,rfl,e⟩|⟨y,u,rfl,e⟩
   .injection e with e1 _;rw[e1]
   .exact nomatch e
  .rcases mr hb with ⟨j,u,rfl,e⟩|⟨y,u,rfl,e⟩
   .exact nomatch e
   .injection e with e1 _;rw[e1]
 byValue:=λk v h=>by
  rcases mr h with ⟨i,t,rfl,rfl⟩|⟨x,t,rfl,rfl⟩<;>rfl
 pyHash:=λhv h=>by
  rcases mr hv with ⟨i,t,rfl,rfl⟩|⟨x,t,rfl,rfl⟩
  .exact wpAny_pyHash_int h
  .exact wpAny_pyHash_str h
 eqBool:=λhu hv h=>by
  rcases mr hu with ⟨i,t,rfl,rfl⟩|⟨x,t,rfl,rfl⟩
  .rcases mr hv with ⟨j,u,rfl,rfl⟩|⟨y,u,rfl,rfl⟩
   .rw[GW] at h;exact wpAny_eqBool_int h
   .rw[IP] at h;exact SeqAt.EqAt.int_str i t y u _ _ _ _ h
  .rcases mr hv with ⟨j,u,rfl,rfl⟩|⟨y,u,rfl,rfl⟩
   .rw[KM] at h;exact SeqAt.EqAt.str_int x t j u _ _ _ _ h
   .rw[KR] at h;exact wpAny_eqBool_str h
 «strs»:=λk x t v h=>by
  rcases mr h with ⟨i,u,rfl,e⟩|⟨y,u,rfl,e⟩
  .exact nomatch e
  .injection e with e1 _
   subst e1;cases v<;>rfl
inductive V where
 | non|bl (b:Bool)|int (i:Int)|str (x:Str)|byt (b:Array UInt8)|flt (b:UInt64)|ref (a:Gj)|ty (n:String)
 deriving DecidableEq
def ia:V->Gg->Prop
 | .non,u=>u=km
 | .bl b,u=>u=uR b
 | .int i,u=>∃ t,u=qi i t
 | .str x,u=>∃ t,u=Value.str x t
 | .byt b,u=>∃ t,u=Value.bytes b t
 | .flt b,u=>∃ t,u=Value.float b t
 | .ref a,u=>u=kJ a
 | .ty n,u=>u=vj n
abbrev hV:List V->List Gg->Prop:=Paired ia
theorem hV.length {xs:List V}{us:List Gg}(r:hV xs us):xs.length=us.length:=Paired.length r
theorem hV.get:∀ {xs:List V} {us:List Gg} {i:Nat} {x:V},hV xs us->xs[i]?=Ga x->∃ u,us[i]?=Ga u/\ia x u
 | _,_,_,_,.nil,e=>by simp at e
 | _,_,0,_,.cons r _,e=>by simp at e;subst e;exact⟨_,rfl,r⟩
 | _,_,i+1,x,.cons _ t,e=>by
  obtain⟨u,h1,h2⟩:=hV.get (i:=i) (x:=x) t (by simpa using e);exact⟨u,by simpa using h1,h2⟩
theorem hV.set {x:V}{u:Gg}(r:ia x u):∀ {xs:List V} {us:List Gg} (i:Nat),hV xs us->hV (xs.set i x) (us.set i u)
 | _,_,_,.nil=>.nil
 | _,_,0,.cons _ t=>.cons r t
 | _,_,i+1,.cons q t=>.cons q (hV.set r i t)
theorem hV.append:∀ {xs ys:List V} {us ws:List Gg},hV xs us->hV ys ws->hV (xs++ys) (us++ws)
 | _,_,_,_,.nil,s=>s
 | _,_,_,_,.cons r t,s=>.cons r (hV.append t s)
theorem hV.take:∀ {xs:List V} {us:List Gg} (n:Nat),hV xs us->hV (xs.take n) (us.take n)
 | _,_,0,_=>.nil
 | _,_,_+1,.nil=>.nil
 | _,_,n+1,.cons r t=>.cons r (hV.take n t)
theorem hV.drop:∀ {xs:List V} {us:List Gg} (n:Nat),hV xs us->hV (xs.drop n) (us.drop n)
 | _,_,0,r=>r
 | _,_,_+1,.nil=>.nil
 | _,_,n+1,.cons _ t=>hV.drop n t
theorem hV.none_of:∀ {xs:List V} {us:List Gg} {i:Nat},hV xs us->xs[i]?=Gb->us[i]?=Gb:=λ{xs us i} r e=>by
 have h1:=r.length;have h2:xs.length<=i:=uB.mp e;exact uB.mpr (by omega)
def rL:Option V->Option Gg->Prop
 | some v,Ga u=>ia v u
 | none,Gb=>True
 | _,_=>False
def KV {κ:Type}:List (κ×V)->List (κ×Gg)->Prop:=Paired λ(p:κ×V) (q:κ×Gg)=>p.1=q.1/\ia p.2 q.2
def kV:lV->V
 | .inl i=>.int i
 | .inr x=>.str x
inductive HO where
 | lst (xs:List V)
 | tup (xs:List V)
 | dK (kvs:List (lV×V))|dT (kvs:List (List lV×V))
 | set (S:Int->Bool) (n:Nat)
 | ins (C dx:Gj) (fs:List (Str×V))
 | own (x:Gj)
 | xd (fs:List (Str×V))
 | met (f x:Gj)
 | rng (lo hi:Int)
 | frz (o:Obj) (u:HO)
 | tbl (ps:Array Gg)
 | ext (φ:Heap->Prop)
abbrev Hp:=Gj->Option HO
def upd (H:Hp)(a:Gj)(o:HO):Hp:=λb=>if b=a then Ga o else H b
theorem gU {H:Hp}{a:Gj}{o:HO}:upd H a o a=Ga o:=by unfold upd;rw[Ge rfl]
theorem gF {H:Hp}{a b:Gj}{o:HO}(h:b≠a):upd H a o b=H b:=by unfold upd;rw[Gf h]
theorem lK {H:Hp}{a b:Gj}{o:HO}(h:H a=Ga o)(h':H b=Gb):a≠b:=by
 intro e;subst e;rw[h] at h';cases h'
section
variable (P:Program)(w:World)
def mK (H:Hp)(h:Heap)(a:Gj):HO->Prop
 | .lst xs=>xs.length<=sizeLine/\∃ (its:List Gg) (n:Nat),hV xs its/\h.get? a=Ga { cls:=.type "list",data:=.seq its.toArray n }
 | .tup xs=>xs.length<=sizeLine/\∃ its:List Gg,hV xs its/\IsTup h a its.toArray
 | .dK kvs=>kvs.length<=sizeLine/\(a==sysModules)=false/\∃ vs,KV kvs vs/\h.DictOf (yn P w) a vs
 | .dT kvs=>kvs.length<=sizeLine/\(a==sysModules)=false/\∃ xs:List (List lV×Gj×Gg),
   Paired (λ(p:List lV×V) (q:List lV×Gj×Gg)=>p.1=q.1/\H q.2.1=Ga (.tup (p.1.map kV))/\ia p.2 q.2.2) kvs xs /\
   ∃ o es ep,h.get? a=Ga o/\o.ExactDict/\o.data=.dict es ep/\es.toList=xs.map (entryOfKey (tupleKind (yn P w)))/\(xs.map (·.1)).Nodup
 | .set S n=>h.SetOf (intKind P w) a S n
 | .ins C dx fs=>H dx=Ga (.own a)/\fs.length<=1000/\dx≠a/\h.get? a=Ga (uD C dx) /\
   ∃ mA,h.Ns1 dx mA/\(∀ f,rL (fs.lookup f) (mA f))/\PySem.Within mA (fs.map (·.1))
 | .own _=>∃ o,h.get? a=Ga o
 | .xd fs=>∃ mA,h.Ns1 a mA/\∀ f,rL (fs.lookup f) (mA f)
 | .rng lo hi=>∃ t u v,h.get? a=Ga { cls:=.type "range",data:=.fields #[.int lo t,.int hi u,.int 1 v] }
 | .frz o u=>h.get? a=Ga o/\mK H h a u
 | .tbl ps=>h.get? a=Ga { cls:=.none,data:=.fields ps }
 | .met f x=>h.get? a=Ga (qu (.ref f) (.ref x))
 | .ext φ=>φ h/\(∃ o,h.get? a=Ga o)/\∀ h1 h2:Heap,φ h1->(∀ o,h1.get? a=Ga o->h2.get? a=Ga o)->φ h2
def HOk (H:Hp)(h:Heap):Prop:=∀ a o,H a=Ga o->mK P w H h a o
end
section
variable {P:Program}{w:World}{H H':Hp}{h h':Heap}{a:Gj}{o:HO}
theorem mK.lt (x:mK P w H h a o):a<h.objs.size:=by
 cases o with
 | lst xs=>obtain⟨_,_,_,_,e⟩:=x;exact jm e
 | tup xs=>obtain⟨_,_,_,p⟩:=x;exact p.lt
 | dK kvs=>obtain⟨_,_,_,_,o,_,_,e,_⟩:=x;exact jm e
 | dT kvs=>obtain⟨_,_,_,_,o,_,_,e,_⟩:=x;exact jm e
 | set S n=>obtain⟨o,_,_,_,e,_⟩:=x;exact jm e
 | ins C dx fs=>obtain⟨_,_,_,e,_⟩:=x;exact jm e
 | own y=>obtain⟨_,e⟩:=x;exact jm e
 | xd fs=>obtain⟨_,⟨_,_,_,e,_⟩,_⟩:=x;exact jm e
 | rng lo hi=>obtain⟨_,_,_,e⟩:=x;exact jm e
 | frz ob u=>obtain⟨e,_⟩:=x;exact jm e
 | tbl ps=>exact jm (show h.get? a=Ga _ from x)
 | met f y=>exact jm (show h.get? a=Ga _ from x)
 | ext φ=>obtain⟨_,⟨_,e⟩,_⟩:=x;exact jm e
theorem Paired.mapP {α β:Type}{F G:α->β->Prop}:∀ {l₁:List α} {l₂:List β},Paired F l₁ l₂->(∀ a b,F a b->G a b)->Paired G l₁ l₂
 | _,_,.nil,_=>.nil
 | _,_,.cons r t,f=>.cons (f _ _ r) (Paired.mapP t f)
theorem mK.stay (x:mK P w H h a o)(k:∀ b u,(b=a\/H b=Ga (.own a))->h.get? b=Ga u->h'.get? b=Ga u)
  (ho:∀ b,H b=Ga (.own a)->H' b=Ga (.own a)) (ht:∀ b xs,H b=Ga (.tup xs)->H' b=Ga (.tup xs)):mK P w H' h' a o:=by
 induction o with
 | lst xs=>obtain⟨z,its,n,r,e⟩:=x;exact⟨z,its,n,r,k _ _ (.inl rfl) e⟩
 | tup xs=>obtain⟨z,its,r,ob,e,c⟩:=x;exact⟨z,its,r,ob,k _ _ (.inl rfl) e,c⟩
 | dK kvs=>obtain⟨z,y,vs,r,ob,es,ep,e,c⟩:=x;exact⟨z,y,vs,r,ob,es,ep,k _ _ (.inl rfl) e,c⟩
 | dT kvs =>
  obtain⟨z,y,xs,r,ob,es,ep,e,c⟩:=x;exact⟨z,y,xs,Paired.mapP r λp q z=>⟨z.1,ht _ _ z.2.1,z.2.2⟩,ob,es,ep,k _ _ (.inl rfl) e,c⟩
 | set S n=>obtain⟨ob,es,ep,t,e,c⟩:=x;exact⟨ob,es,ep,t,k _ _ (.inl rfl) e,c⟩
 | ins C dx fs =>
  obtain⟨d,z,ne,e,mA,⟨od,es,ep,e2,c⟩,r⟩:=x;exact⟨ho _ d,z,ne,k _ _ (.inl rfl) e,mA,⟨od,es,ep,k _ _ (.inr d) e2,c⟩,r⟩
 | own y=>obtain⟨ob,e⟩:=x;exact⟨ob,k _ _ (.inl rfl) e⟩
 | xd fs=>obtain⟨mA,⟨od,es,ep,e,c⟩,r⟩:=x;exact⟨mA,⟨od,es,ep,k _ _ (.inl rfl) e,c⟩,r⟩
 | rng lo hi=>obtain⟨t,u,v,e⟩:=x;exact⟨t,u,v,k _ _ (.inl rfl) e⟩
 | frz ob u ih=>obtain⟨e,q⟩:=x;exact⟨k _ _ (.inl rfl) e,ih q⟩
 | tbl ps =>
  have e:h.get? a=Ga { cls:=.none,data:=.fields ps }:=x;show h'.get? a=Ga { cls:=.none,data:=.fields ps };exact k a _ (.inl rfl) e
 | met f y =>
  have e:h.get? a=Ga (qu (.ref f) (.ref y)):=x;show h'.get? a=Ga (qu (.ref f) (.ref y));exact k a _ (.inl rfl) e
 | ext φ=>obtain⟨p,⟨o,e⟩,st⟩:=x;exact⟨st _ _ p λo q=>k _ _ (.inl rfl) q,⟨o,k _ _ (.inl rfl) e⟩,st⟩
theorem HOk.lt (x:HOk P w H h)(e:H a=Ga o):a<h.objs.size:=(x a o e).lt
theorem HOk.fresh (x:HOk P w H h)(e:h.objs.size<=a):H a=Gb:=by
 cases q:H a with
 | none=>rfl
 | some u=>exact absurd (jz (x.lt q) e) (j0 _)
theorem HOk.kept (x:HOk P w H h)(k:∀ b u,h.get? b=Ga u->h'.get? b=Ga u):HOk P w H h':=λa o e =>
 (x a o e).stay (λb u _ q=>k b u q) (λ_ q=>q) λ_ _ q=>q
theorem HOk.laid (x:HOk P w H h)(k:∀ b u,h.get? b=Ga u->h'.get? b=Ga u)(hp:h.objs.size<=a)(new:mK P w (upd H a o) h' a o):HOk P w (upd H a o) h':=λb u e=>by
 have hn:=x.fresh hp;by_cases hb:b=a
 .subst hb;rw[gU] at e;cases e;exact new
 .rw[gF hb] at e;exact(x b u e).stay (λc v _ q=>k c v q) (λc q=>by rw[gF (lK q hn)];exact q) λc xs q=>by rw[gF (lK q hn)];exact q
end
def Rd (H:Hp)(a:Gj)(u:HO):Prop:=H a=Ga u\/∃ o,H a=Ga (.frz o u)
theorem Rd.of {H:Hp}{a:Gj}{u:HO}(h:H a=Ga u):Rd H a u:=.inl h
theorem Rd.ok {P:Program}{w:World}{H:Hp}{h:Heap}{a:Gj}{u:HO}(r:Rd H a u)(x:HOk P w H h):mK P w H h a u:=by
 rcases r with r|⟨o,r⟩
 .exact x a u r
 .obtain⟨_,q⟩:=x a _ r;exact q
def CI:Option HO->Prop
 | some (.lst _)=>True
 | some (.dK _)=>True
 | some (.dT _)=>True
 | some (.set _ _)=>True
 | some (.ins _ _ _)=>True
 | some (.ext _)=>True
 | _=>False
section
variable {P:Program}{w:World}{H:Hp}{h h':Heap}{x e:Gj}{o':HO}
theorem HOk.write (ok:HOk P w H h)(mu:CI (H x))(he:e=x\/H e=Ga (.own x))(k:∀ b u,b≠e->h.get? b=Ga u->h'.get? b=Ga u)(heo:∃ u,h'.get? e=Ga u)
  (new:mK P w (upd H x o') h' x o'):HOk P w (upd H x o') h':=λb u q=>by
 have nown:∀ c y,H c=Ga (.own y)->c≠x:=λc y r z=>by subst z;rw[r] at mu;exact mu
 have ntup:∀ c xs,H c=Ga (.tup xs)->c≠x:=λc xs r z=>by subst z;rw[r] at mu;exact mu
 by_cases hb:b=x
 .subst hb;rw[gU] at q;cases q;exact new
 .rw[gF hb] at q;by_cases hbe:b=e
  .have q':H b=Ga (.own x):=by
    rcases he with z|z
    .exact absurd (hbe.trans z) hb
    .rw[hbe];exact z
   rw[q] at q';cases q';obtain⟨v,hv⟩:=heo;exact⟨v,by rw[hbe];exact hv⟩
  .refine(ok b u q).stay (λc v hc r=>k c v ?_ r) (λc r=>by rw[gF (nown c b r)];exact r) λc xs r=>by rw[gF (ntup c xs r)];exact r
   rcases hc with rfl|hc
   .exact hbe
   .rintro rfl;rcases he with z|z
    .exact nown c b hc z
    .rw[hc] at z;cases z;exact hb rfl
end
structure Un (fs ex:List Gj)(H H':Hp)(h h':Heap):Prop where
 keep:∀ b o,h.get? b=Ga o->H b=Gb->b∉fs->b∉ex->h'.get? b=Ga o
 slot:∀ b o,h.get? b=Ga o->H b=Gb->b∈fs->b∉ex->∃ sl,h'.get? b=Ga { o with slots:=sl }
 free:∀ b o,h.get? b=Ga o->H b=Gb->b∉ex->H' b=Gb
 there:∀ b o,h.get? b=Ga o->b∉ex->∃ o',h'.get? b=Ga o'
 tups:∀ b xs,H b=Ga (.tup xs)->H' b=Ga (.tup xs)
 frzs:∀ b o u,H b=Ga (.frz o u)->H' b=Ga (.frz o u)
 tbls:∀ b ps,H b=Ga (.tbl ps)->∃ more,H' b=Ga (.tbl (ps++more))
section
variable {fs fs' ex ex':List Gj}{H H1 H2:Hp}{h h1 h2 h':Heap}{a x e:Gj}{o:HO}
theorem Un.any (u:Un fs ex H H1 h h1){b:Gj}{ob:Obj}(q:h.get? b=Ga ob)(n:H b=Gb)(hx:b∉ex):∃ sl,h1.get? b=Ga { ob with slots:=sl }:=by
 by_cases hb:b∈fs
 .exact u.slot b ob q n hb hx
 .exact⟨ob.slots,u.keep b ob q n hb hx⟩
theorem Un.trans (a:Un fs ex H H1 h h1)(b:Un fs ex H1 H2 h1 h2):Un fs ex H H2 h h2 where
 keep:=λc ob q n hc hx=>b.keep c ob (a.keep c ob q n hc hx) (a.free c ob q n hx) hc hx
 slot:=λc ob q n hc hx=>by
  obtain⟨sl,e1⟩:=a.slot c ob q n hc hx;obtain⟨sl',e2⟩:=b.slot c _ e1 (a.free c ob q n hx) hc hx;exact⟨sl',e2⟩
 free:=λc ob q n hx=>by
  obtain⟨o',e1⟩:=a.there c ob q hx;exact b.free c o' e1 (a.free c ob q n hx) hx
 there:=λc ob q hx=>by
  obtain⟨o',e1⟩:=a.there c ob q hx;exact b.there c o' e1 hx
 tups:=λc xs q=>b.tups c xs (a.tups c xs q)
 frzs:=λc ob xs q=>b.frzs c ob xs (a.frzs c ob xs q)
 tbls:=λc ps q=>by
  obtain⟨m1,e1⟩:=a.tbls c ps q;obtain⟨m2,e2⟩:=b.tbls c _ e1;exact⟨m1++m2,by rw[e2,Jv]⟩
theorem Un.kept (k:∀ b u,h.get? b=Ga u->h'.get? b=Ga u):Un fs ex H H h h' :=
 ⟨λb ob q _ _ _=>k b ob q,λb ob q _ _ _=>⟨ob.slots,k b ob q⟩,λ_ _ _ n _=>n,λb ob q _=>⟨ob,k b ob q⟩,λ_ _ q=>q,λ_ _ _ q=>q,λ_ ps q=>⟨#[],by rw[q];simp⟩⟩
theorem Un.refl:Un fs ex H H h h:=Un.kept λ_ _ q=>q
theorem Un.laid (k:∀ b u,h.get? b=Ga u->h'.get? b=Ga u)(hp:h.objs.size<=a)(hn:H a=Gb):Un fs ex H (upd H a o) h h' where
 keep:=λb u q _ _ _=>k b u q
 slot:=λb u q _ _ _=>⟨u.slots,k b u q⟩
 free:=λb u q n _=>by rw[gF (jE (jz (jm q) hp))];exact n
 there:=λb u q _=>⟨u,k b u q⟩
 tups:=λb xs q=>by rw[gF (lK q hn)];exact q
 frzs:=λb u xs q=>by rw[gF (lK q hn)];exact q
 tbls:=λb ps q=>⟨#[],by rw[gF (lK q hn),q];simp⟩
theorem Un.write (mu:CI (H x))(he:e=x\/H e=Ga (.own x))(k:∀ b u,b≠e->h.get? b=Ga u->h'.get? b=Ga u)(heo:∃ u,h'.get? e=Ga u):Un fs ex H (upd H x o) h h':=by
 have hx:∀ b,H b=Gb->b≠x:=λb n z=>by subst z;rw[n] at mu;exact mu
 have hb:∀ b,H b=Gb->b≠e:=λb n z=>by
  subst z;rcases he with r|r
  .exact hx b n r
  .rw[n] at r;cases r
 have hm:∀ b u,H b=Ga u->¬CI (Ga u)->b≠x:=λb u q nm z=>by subst z;rw[q] at mu;exact nm mu
 refine⟨λb u q n _ _=>k b u (hb b n) q,λb u q n _ _=>⟨u.slots,k b u (hb b n) q⟩,λb u q n _=>by rw[gF (hx b n)];exact n,λb u q _=>?_,
  λb xs q=>by rw[gF (hm b _ q λz=>z)];exact q,λb u xs q=>by rw[gF (hm b _ q λz=>z)];exact q,λb ps q=>⟨#[],by rw[gF (hm b _ q λz=>z),q];simp⟩⟩
 by_cases hbe:b=e
 .subst hbe;exact heo
 .exact⟨u,k b u hbe q⟩
theorem Un.mono (u:Un fs ex H H1 h h1)(hs:∀ b∈fs,b∈fs')(hx:∀ b∈ex,b∈ex'):Un fs' ex' H H1 h h1 :=
 ⟨λb ob q n hb he=>u.keep b ob q n (λz=>hb (hs b z)) λz=>he (hx b z),λ_ _ q n _ he=>u.any q n λz=>he (hx _ z),λb ob q n he=>u.free b ob q n λz=>he (hx b z),λb ob q he=>u.there b ob q λz=>he (hx b z),u.tups,u.frzs,u.tbls⟩
end
def DU (h:Heap)(H:Hp):List Gj:=(je h.objs.size).filter λa=>(H a).isSome
def pf (h:Heap)(H:Hp):Heap:=PySem.W.hideAll h (DU h H)
theorem zg (h:Heap)(H:Hp):(pf h H).objs.size=h.objs.size:=PySem.W.hideAll_size _ _
theorem zC {h:Heap}{H:Hp}{b:Gj}{o:Obj}(e:h.get? b=Ga o)(n:H b=Gb):(pf h H).get? b=Ga o :=
 PySem.W.hideAll_get _ e λhm=>by
  have q:(H b).isSome=true:=(jL.mp hm).2;rw[n] at q;simp at q
theorem AL {h:Heap}{H:Hp}{b:Gj}{o:Obj}(e:(pf h H).get? b=Ga o):h.get? b=Ga o/\H b=Gb:=by
 have e':h.get? b=Ga o:=PySem.W.of_hideAll (DU h H) e;refine⟨e',?_⟩;cases q:H b with
 | none=>rfl
 | some x =>
  have hm:b∈DU h H:=jL.mpr ⟨jl.mpr (jm e'),by simp[q]⟩;have z:(pf h H).get? b=Gb:=PySem.W.hideAll_none (DU h H) hm;rw[z] at e;cases e
def FZ (g h:Heap)(L:Gj):List (Gj×Obj):=(je h.objs.size).filterMap λa=>if a=L\/(g.get? a).isSome=true then Gb else(h.get? a).map λo=>(a,o)
def rest (g h:Heap)(L d:Gj):List (Gj×Obj):=(FZ g h L).filter λp=>decide (p.1≠d)
structure Mod (K:ja)(mg:Str->Option Gg)(base:Heap):Prop where
 kin:K.In base
 glob:base.Ns mainGlobals mg
 blt:∃ mb,base.Ns builtinsNs mb/\∀ x:Str,x≠"__name__"->mb x=bootBuiltins x
 nolimit:base.NoLimit
structure Cx where
 prog:Program
 w:World
 K:ja
 mg:Str->Option Gg
 base:Heap
 A:Around
 N:List Str
 s₀:Gh
 H₀:Hp
 env:Env
 outer:List Env
 stack:List Env
 ex:List Gj
 fn:Str->Bool
 calm:Bool
 pn:List (Gj×Obj)
 xe:Gg->Gh->Prop
def rq (l:List Env):List Gj:=l.filterMap (·.frame)
abbrev Cx.fs (X:Cx):List Gj:=rq X.outer
def wb (sc:Scope)(x:Str):Prop:=sc.names.lookup x=Ga .local\/sc.names.lookup x=Ga .cell\/sc.names.lookup x=Ga .free
def wB (sc:Scope)(x:Str):Prop:=sc.names.lookup x=Ga .local\/sc.names.lookup x=Ga .cell
def Uc (ψ:Env)(h:Heap)(m:Str->Option Gg)(x:Str)(u:Gg):Prop :=
 (ψ.kindOf x=Ga .local/\m x=Ga u)\/((ψ.kindOf x=Ga .cell\/ψ.kindOf x=Ga .free)/\∃ c,ψ.cells.lookup x=Ga c/\h.IsCell c (Ga u))
structure Cx.Ok (X:Cx):Prop where
 mod:Mod X.K X.mg X.base
 kind:X.env.scope.kind=.function
 glob:X.env.globals=mainGlobals
 blt:X.env.builtins=builtinsNs
 above:X.s₀.heap.objs.size<=X.env.locals
 inj:∀ x y c,X.env.cells.lookup x=Ga c->X.env.cells.lookup y=Ga c->x=y
 has:∀ x,(X.env.kindOf x=Ga .cell\/X.env.kindOf x=Ga .free)->∃ c,X.env.cells.lookup x=Ga c
 cab:∀ x c,X.fn x=true->X.env.cells.lookup x=Ga c->X.s₀.heap.objs.size<=c
 hd:X.calm=true->X.A.handled=Gb
 frames:X.A.frames=Ga X.stack
 stk:X.stack=X.outer\/(X.stack=X.env::X.outer/\X.env.frame=Ga X.env.locals)
 exf:∀ b∈X.ex,b≠X.env.locals/\∀ x c,X.env.cells.lookup x=Ga c->c≠b
 bs:∀ b o,X.base.get? b=Ga o->X.s₀.heap.get? b=Ga o/\X.H₀ b=Gb
 bsz:X.base.objs.size<=X.s₀.heap.objs.size
 noex:∀ b o,X.base.get? b=Ga o->b∉X.ex
 exfs:∀ b∈X.ex,b∉X.fs
 funs:X.s₀.heap.FunFrames X.base X.outer
 frf:∀ b∈X.fs,X.H₀ b=Gb
structure gA (X:Cx)(ω:List (Gj×Obj))(σ:List (Option V))(H:Hp)(s:Gh):Prop where
 ok:X.Ok
 os:s.os=X.s₀.os
 bare:AllBare s.gens
 base:Un X.fs X.ex X.H₀ H X.s₀.heap s.heap
 loc:∃ m,s.heap.Ns X.env.locals m/\∀ (i:Nat) (x:Str) (v:V),X.N[i]?=Ga x->σ[i]?=Ga (Ga v)->wb X.env.scope x->∃ u,ia v u/\Uc X.env s.heap m x u
 cell:∀ x c,X.env.cells.lookup x=Ga c->∃ v,s.heap.IsCell c v
 free:H X.env.locals=Gb
 freeC:∀ x c,X.env.cells.lookup x=Ga c->H c=Gb
 pin:∀ p∈X.pn++ω,s.heap.get? p.1=Ga p.2/\H p.1=Gb/\p.1≠X.env.locals/\p.1∉X.fs/\∀ v,p.2.data≠.cell v
 hok:HOk X.prog X.w H s.heap
 len:σ.length=X.N.length
section
variable {X:Cx}{ω:List (Gj×Obj)}{σ:List (Option V)}{H H':Hp}{s:Gh}{h':Heap}
theorem Cx.Ok.nofr (ok:X.Ok){b:Gj}{o:Obj}(e:X.base.get? b=Ga o):b∉X.fs:=λhb=>by
 have:=(ok.funs.mem hb).1;rw[e] at this;cases this
theorem gA.bs (I:gA X ω σ H s):∀ b o,X.base.get? b=Ga o->s.heap.get? b=Ga o/\H b=Gb:=λb o e =>
 ⟨I.base.keep b o (I.ok.bs b o e).1 (I.ok.bs b o e).2 (I.ok.nofr e) (I.ok.noex b o e),I.base.free b o (I.ok.bs b o e).1 (I.ok.bs b o e).2 (I.ok.noex b o e)⟩
theorem gA.bk (I:gA X ω σ H s):∀ b o,X.base.get? b=Ga o->s.heap.get? b=Ga o:=λb o e=>(I.bs b o e).1
theorem gA.mod (I:gA X ω σ H s):Mod X.K X.mg X.base:=I.ok.mod
theorem gA.kIn (I:gA X ω σ H s):X.K.In s.heap:=I.ok.mod.kin.keeps I.bk
theorem gA.nolimit (I:gA X ω σ H s):s.heap.NoLimit:=I.ok.mod.nolimit.keeps I.bk
theorem gA.fr (I:gA X ω σ H s):∃ m,Fr X.base X.env.locals s.heap m :=
 let ⟨m,hn,_⟩:=I.loc
 ⟨m,hn,I.bk,jF I.ok.bsz I.ok.above⟩
theorem gA.lt (I:gA X ω σ H s):X.env.locals<s.heap.objs.size:=let ⟨_,hn,_⟩:=I.loc;hn.lt
theorem gA.sz (I:gA X ω σ H s):X.s₀.heap.objs.size<=s.heap.objs.size:=jF I.ok.above (uv I.lt)
theorem gA.nofs (I:gA X ω σ H s){a:Gj}(h:s.heap.objs.size<=a):a∉X.fs:=λhb=>by
 obtain⟨_,o,ho,_⟩:=I.ok.funs.mem hb;exact absurd (jz (jm ho) (jF I.sz h)) (j0 _)
theorem gA.cne (I:gA X ω σ H s):∀ x c,X.env.cells.lookup x=Ga c->c≠X.env.locals:=λx c e z=>by
 obtain⟨v,o,ho,hd⟩:=I.cell x c e;obtain⟨m,⟨o',es,ep,ho',hd',_⟩,_⟩:=I.loc;rw[z,ho'] at ho;cases ho;rw[hd'] at hd;cases hd
theorem gA.funs (I:gA X ω σ H s):s.heap.FunFrames X.base X.outer:=by
 have all:∀ (l:List Env),(∀ b∈rq l,b∈X.fs)->X.s₀.heap.FunFrames X.base l->s.heap.FunFrames X.base l:=by
  intro l;induction l with
  | nil=>intro _ _;trivial
  | cons ψ r ih =>
   intro hs hl;obtain⟨hk,⟨L,o,hf,hn,ho,hd⟩,hr⟩:=hl;have hL:L∈X.fs:=hs L (by unfold rq;rw[qa,hf];exact jf);obtain⟨sl,e⟩:=I.base.slot L o ho (I.ok.frf L hL) hL λz=>I.ok.exfs L z hL;exact⟨hk,⟨L,_,hf,hn,e,hd⟩,ih (λb hb=>hs b (by unfold rq;rw[qa,hf];exact jj _ hb)) hr⟩
 exact all X.outer (λ_ hb=>hb) I.ok.funs
theorem gA.stack (I:gA X ω σ H s):s.heap.FunFrames X.base X.stack:=by
 rcases I.ok.stk with e|⟨e,hf⟩
 .rw[e];exact I.funs
 .rw[e];obtain⟨m,hn,_⟩:=I.loc;refine .cons (by rw[I.ok.kind];decide) hf hn ?_ I.funs;exact Heap.get?_none_of_le (jF I.ok.bsz I.ok.above)
theorem gA.stkSub (I:gA X ω σ H s):∀ b∈rq X.stack,b∈X.env.locals::X.fs:=λb hb=>by
 rcases I.ok.stk with e|⟨e,hf⟩
 .rw[e] at hb;exact jj _ hb
 .rw[e] at hb;unfold rq at hb;rw[qa,hf] at hb;exact hb
theorem gA.stkFree (I:gA X ω σ H s):∀ b∈rq X.stack,H b=Gb:=λb hb=>by
 rcases ju.mp (I.stkSub b hb) with e|hb
 .rw[e];exact I.free
 .obtain⟨_,o,ho,_⟩:=I.ok.funs.mem hb;exact I.base.free b o ho (I.ok.frf b hb) λz=>I.ok.exfs b z hb
theorem gA.step {g':Array GenState}{t':Nat}{d':Drawn}{ch:List Gj}(I:gA X ω σ H s)
  (hch:∀ b∈ch,(b∈X.ex\/X.s₀.heap.objs.size<=b)/\b≠X.env.locals/\(∀ x c,X.env.cells.lookup x=Ga c->c≠b)/\∀ p∈X.pn++ω,p.1≠b)
  (keep:∀ b o,b≠X.env.locals->b∉X.fs->b∉ch->s.heap.get? b=Ga o->H b=Gb->h'.get? b=Ga o)
  (slot:∀ b o,b≠X.env.locals->b∈X.fs->b∉ch->s.heap.get? b=Ga o->H b=Gb->∃ sl,h'.get? b=Ga { o with slots:=sl }) (free:∀ b o,b∉ch->s.heap.get? b=Ga o->H b=Gb->H' b=Gb)
  (there:∀ b o,b∉ch->s.heap.get? b=Ga o->∃ o',h'.get? b=Ga o')
  (tups:∀ b xs,H b=Ga (.tup xs)->H' b=Ga (.tup xs)) (frzs:∀ b o u,H b=Ga (.frz o u)->H' b=Ga (.frz o u)) (tbls:∀ b ps,H b=Ga (.tbl ps)->∃ more,H' b=Ga (.tbl (ps++more)))
  (ns:∀ m,s.heap.Ns X.env.locals m->h'.Ns X.env.locals m) (hok:HOk X.prog X.w H' h') (hg:AllBare g') :
  gA X ω σ H' { s with heap:=h',gens:=g',drawn:=d',toks:=t' }:=by
 have neL:∀ b o,X.s₀.heap.get? b=Ga o->b≠X.env.locals:=λb o e=>jE (jz (jm e) I.ok.above);have neC:∀ b o,X.s₀.heap.get? b=Ga o->b∉X.ex->b∉ch:=λb o e hx hb=>by
  rcases(hch b hb).1 with z|z
  .exact hx z
  .exact absurd (jz (jm e) z) (j0 _)
 have cellK:∀ x c,X.env.cells.lookup x=Ga c->∀ v,s.heap.IsCell c v->h'.IsCell c v:=λx c e v ⟨o,ho,hd⟩=>by
  have nch:c∉ch:=λz=>(hch c z).2.2.1 x c e rfl;by_cases hc:c∈X.fs
  .obtain⟨sl,q⟩:=slot c o (I.cne x c e) hc nch ho (I.freeC x c e);exact⟨_,q,hd⟩
  .exact⟨o,keep c o (I.cne x c e) hc nch ho (I.freeC x c e),hd⟩
 refine⟨I.ok,I.os,hg,⟨λb o e n hb hx=>?_,λb o e n hb hx=>?_,λb o e n hx=>?_,λb o e hx=>?_,λb xs e=>tups b xs (I.base.tups b xs e),λb o xs e=>frzs b o xs (I.base.frzs b o xs e),λb ps e=>?_⟩,?_,λx c e=>?_,?_,λx c e=>?_,λp hp=>?_,hok,I.len⟩
 .exact keep b o (neL b o e) hb (neC b o e hx) (I.base.keep b o e n hb hx) (I.base.free b o e n hx)
 .obtain⟨sl,e1⟩:=I.base.slot b o e n hb hx;obtain⟨sl',e2⟩:=slot b _ (neL b o e) hb (neC b o e hx) e1 (I.base.free b o e n hx);exact⟨sl',e2⟩
 .obtain⟨o',e1⟩:=I.base.there b o e hx;exact free b o' (neC b o e hx) e1 (I.base.free b o e n hx)
 .obtain⟨o',e1⟩:=I.base.there b o e hx;exact there b o' (neC b o e hx) e1
 .obtain⟨m1,e1⟩:=I.base.tbls b ps e;obtain⟨m2,e2⟩:=tbls b _ e1;exact⟨m1++m2,by rw[e2,Jv]⟩
 .obtain⟨m,hn,hl⟩:=I.loc;refine⟨m,ns m hn,λi x v e1 e2 e3=>?_⟩;obtain⟨u,r,l⟩:=hl i x v e1 e2 e3;refine⟨u,r,?_⟩;rcases l with l|⟨k,c,e,z⟩
  .exact .inl l
  .exact .inr ⟨k,c,e,cellK x c e _ z⟩
 .obtain⟨v,z⟩:=I.cell x c e;exact⟨v,cellK x c e v z⟩
 .obtain⟨m,⟨o,_,_,ho,_⟩,_⟩:=I.loc;exact free _ o (λz=>(hch _ z).2.1 rfl) ho I.free
 .obtain⟨v,o,ho,hd⟩:=I.cell x c e;exact free c o (λz=>(hch c z).2.2.1 x c e rfl) ho (I.freeC x c e)
 .obtain⟨e,n,ne,nf,d⟩:=I.pin p hp;have nch:p.1∉ch:=λz=>(hch p.1 z).2.2.2 p hp rfl;exact⟨keep p.1 p.2 ne nf nch e n,free p.1 p.2 nch e n,ne,nf,d⟩
theorem gA.un {t':Nat}(I:gA X ω σ H s)(u:Un X.fs [] H H' s.heap h')(hok:HOk X.prog X.w H' h'):gA X ω σ H' { s with heap:=h',toks:=t' }:=by
 obtain⟨m,⟨o,es,ep,ho,r⟩,_⟩:=id I.loc;obtain⟨sl,hL⟩:=u.any ho I.free (by simp);exact I.step (g':=s.gens) (d':=s.drawn) (ch:=[]) (λ_ z=>nomatch z) (λb o _ hb _ e n=>u.keep b o e n hb (by simp)) (λb o _ hb _ e n=>u.slot b o e n hb (by simp)) (λb o _ e n=>u.free b o e n (by simp)) (λb o _ e=>u.there b o e (by simp)) u.tups u.frzs u.tbls (λm' hm=>by
  obtain⟨o',es',ep',ho',r'⟩:=hm;rw[ho] at ho';cases ho';exact⟨_,es',ep',hL,r'⟩) hok I.bare
theorem gA.call {g':Array GenState}{t':Nat}{d':Drawn}{ch:List Gj}(I:gA X ω σ H s)(u:Un (rq X.stack) ch H H' s.heap h')(hok:HOk X.prog X.w H' h')(hg:AllBare g')
  (hch:∀ b∈ch,(b∈X.ex\/X.s₀.heap.objs.size<=b)/\b≠X.env.locals/\(∀ x c,X.env.cells.lookup x=Ga c->c≠b)/\∀ p∈X.pn++ω,p.1≠b) :
  gA X ω σ H' { s with heap:=h',gens:=g',drawn:=d',toks:=t' }:=by
 obtain⟨m,⟨o,es,ep,ho,r⟩,_⟩:=id I.loc;obtain⟨sl,hL⟩:=u.any ho I.free λz=>(hch _ z).2.1 rfl;exact I.step (ch:=ch) hch (λb o hL hb hc e n=>u.keep b o e n (λz=>(ju.mp (I.stkSub b z)).elim hL hb) hc) (λb o _ _ hc e n=>u.any e n hc) (λb o hc e n=>u.free b o e n hc) (λb o hc e=>u.there b o e hc) u.tups u.frzs u.tbls (λm' hm=>by
  obtain⟨o',es',ep',ho',r'⟩:=hm;rw[ho] at ho';cases ho';exact⟨_,es',ep',hL,r'⟩) hok hg
theorem gA.turned {t':Nat}{it:Gj}(I:gA X ω σ H s)(k:∀ b o,b≠it->s.heap.get? b=Ga o->h'.get? b=Ga o)(hn:H it=Gb)(hL:it≠X.env.locals)
  (h1:it∈X.ex\/X.s₀.heap.objs.size<=it) (h2:∀ x c,X.env.cells.lookup x=Ga c->c≠it) (h3:∀ p∈X.pn++ω,p.1≠it):gA X ω σ H { s with heap:=h',toks:=t' }:=by
 have nit:∀ b u,H b=Ga u->b≠it:=λb u e z=>by rw[z,hn] at e;cases e
 refine I.step (g':=s.gens) (d':=s.drawn) (ch:=[it]) (λb hb=>?_) (λb o _ _ hc e _=>k b o (λz=>hc (by simp[z])) e) (λb o _ _ hc e _=>⟨o.slots,k b o (λz=>hc (by simp[z])) e⟩) (λ_ _ _ _ n=>n)
  (λb o hc e=>⟨o,k b o (λz=>hc (by simp[z])) e⟩) (λ_ _ e=>e) (λ_ _ _ e=>e) (λb ps e=>⟨#[],by rw[e];simp⟩) (λm hm=>?_) (λb u e=>?_) I.bare
 .have e:b=it:=by simpa using hb
  subst e;exact⟨h1,hL,h2,h3⟩
 .obtain⟨o,es,ep,ho,r⟩:=hm;exact⟨o,es,ep,k _ o (ui hL) ho,r⟩
 .refine(I.hok b u e).stay (λc v hc q=>k c v ?_ q) (λ_ q=>q) λ_ _ q=>q;rcases hc with z|z
  .rw[z];exact nit b u e
  .exact nit c _ z
theorem gA.tok (I:gA X ω σ H s)(t:Nat):gA X ω σ H { s with toks:=t }:=I.un (h':=s.heap) (t':=t) Un.refl I.hok
theorem gA.kept {t':Nat}(I:gA X ω σ H s)(k:∀ b u,s.heap.get? b=Ga u->h'.get? b=Ga u):gA X ω σ H { s with heap:=h',toks:=t' }:=I.un (Un.kept k) (I.hok.kept k)
theorem gA.laid {a:Gj}{o:HO}{t':Nat}(I:gA X ω σ H s)(k:∀ b u,s.heap.get? b=Ga u->h'.get? b=Ga u)(hp:s.heap.objs.size<=a)(new:mK X.prog X.w (upd H a o) h' a o) :
  gA X ω σ (upd H a o) { s with heap:=h',toks:=t' }:=I.un (Un.laid k hp (I.hok.fresh hp)) (I.hok.laid k hp new)
theorem gA.write {x e:Gj}{o:HO}{t':Nat}(I:gA X ω σ H s)(mu:CI (H x))(he:e=x\/H e=Ga (.own x))(k:∀ b u,b≠e->s.heap.get? b=Ga u->h'.get? b=Ga u)(heo:∃ u,h'.get? e=Ga u)
  (new:mK X.prog X.w (upd H x o) h' x o):gA X ω σ (upd H x o) { s with heap:=h',toks:=t' }:=I.un (Un.write mu he k heo) (I.hok.write mu he k heo new)
theorem gA.pins_of {pins':List (Gj×Obj)}(I:gA X ω σ H s)(h:∀ p∈pins',s.heap.get? p.1=Ga p.2/\H p.1=Gb/\p.1≠X.env.locals/\p.1∉X.fs/\∀ v,p.2.data≠.cell v):gA X pins' σ H s :=
 ⟨I.ok,I.os,I.bare,I.base,I.loc,I.cell,I.free,I.freeC,λp hp=>(jM.mp hp).elim (λz=>I.pin p (v0 _ z)) (h p),I.hok,I.len⟩
theorem zT {N:List Str}(hN:N.Nodup){i j:Nat}{x:Str}(a:N[i]?=Ga x)(b:N[j]?=Ga x):i=j:=by
 obtain⟨h1,e1⟩:=jp.mp a;obtain⟨h2,e2⟩:=jp.mp b;exact(JT hN).mp (e1.trans e2.symm)
theorem yK {M:Model}{A:Around}{E:Gg->Gh->Prop}{i:Nat}{x:Str}{v:V}{u:Gg}{Q:Unit->Gh->Prop}(I:gA X ω σ H s)(hN:X.N.Nodup)(hi:X.N[i]?=Ga x)(hx:wB X.env.scope x)(r:ia v u)
  (h:∀ s',gA X ω (σ.set i (Ga v)) H s'->(∃ a,vJ a s.heap s'.heap/\(a=X.env.locals\/X.env.cells.lookup x=Ga a))->Q () s') (hf:X.fn x=true\/X.env.scope.names.lookup x=Ga .local:=by first|exact .inl rfl|exact .inr rfl|assumption):wpAny M A (storeName X.env x u) Q E s:=by
 obtain⟨m,hn,hl⟩:=id I.loc;have hcls:(X.env.scope.kind==.class||(X.env.scope.kind==.module&&X.env.locals !=X.env.globals))=false:=by rw[I.ok.kind];rfl
 have hiσ:i<σ.length:=by rw[I.len];exact(jp.mp hi).1
 have cne:=I.cne;have tracked:∀ {a:Gj} {h':Heap},(∃ o,s.heap.get? a=Ga o/\H a=Gb)->vJ a s.heap h'->HOk X.prog X.w H h':=λ{a h'} ha hs b ob e=>by
  obtain⟨_,_,hfree⟩:=ha;refine(I.hok b ob e).stay (λc w' hc q=>(hs.2 c ?_).trans q) (λ_ q=>q) λ_ _ q=>q;rintro rfl;rcases hc with rfl|hc
  .rw[hfree] at e;cases e
  .rw[hfree] at hc;cases hc
 rcases hx with hk|hk
 .refine wpAny_storeName_local hk hn (λh' hn' hs=>?_) hcls;obtain⟨oL,_,_,hoL,_⟩:=id hn;refine h _ ⟨I.ok,I.os,I.bare,⟨λb o e n hb hx=>?_,λb o e n hb hx=>?_,I.base.free,λb o e hx=>?_,I.base.tups,I.base.frzs,I.base.tbls⟩,⟨_,hn',λj y v' e1 e2 e3=>?_⟩,λy c e=>?_,I.free,I.freeC,λp hp=>?_,tracked ⟨oL,hoL,I.free⟩ hs,by simpa using I.len⟩ ⟨_,hs,.inl rfl⟩
  .exact(hs.2 b (jE (jz (jm e) I.ok.above))).trans (I.base.keep b o e n hb hx)
  .obtain⟨sl,e1⟩:=I.base.slot b o e n hb hx;exact⟨sl,(hs.2 b (jE (jz (jm e) I.ok.above))).trans e1⟩
  .obtain⟨o',e1⟩:=I.base.there b o e hx;exact⟨o',(hs.2 b (jE (jz (jm e) I.ok.above))).trans e1⟩
  .by_cases hj:j=i
   .subst hj;rw[hi] at e1;cases e1;rw[jT hiσ] at e2;cases e2;exact⟨u,r,.inl ⟨hk,by simp⟩⟩
   .rw[jR (ui hj)] at e2;obtain⟨u',r',q⟩:=hl j y v' e1 e2 e3;refine⟨u',r',?_⟩;rcases q with ⟨k,e⟩|⟨k,c,e,z⟩
    .refine .inl ⟨k,?_⟩;have:y≠x:=λe=>hj (zT hN e1 (e▸hi));simp[this,e]
    .exact .inr ⟨k,c,e,z.sameBut hs (cne y c e)⟩
  .obtain⟨w',z⟩:=I.cell y c e;exact⟨w',z.sameBut hs (cne y c e)⟩
  .obtain⟨e,n,ne,nf,d⟩:=I.pin p hp;exact⟨(hs.2 p.1 ne).trans e,n,ne,nf,d⟩
 .have hfn:X.fn x=true:=by
   rcases hf with z|z
   .exact z
   .rw[z] at hk;cases hk
  obtain⟨c,hc⟩:=I.ok.has x (.inl hk);obtain⟨w',z⟩:=I.cell x c hc;refine wpAny_storeName_cell I.ok.kind hk hc z (λh' hc' hs=>?_);obtain⟨oc,hoc,hocd⟩:=id z;refine h { s with heap:=h' } ⟨I.ok,I.os,I.bare,⟨λb o e n hb hx=>?_,λb o e n hb hx=>?_,I.base.free,λb o e hx=>?_,I.base.tups,I.base.frzs,I.base.tbls⟩,⟨m,hn.sameBut hs (ui (cne x c hc)),λj y v' e1 e2 e3=>?_⟩,λy c' e=>?_,I.free,I.freeC,λp hp=>?_,tracked ⟨oc,hoc,I.freeC x c hc⟩ hs,by simpa using I.len⟩ ⟨c,hs,.inr hc⟩
  .exact(hs.2 b (jE (jz (jm e) (I.ok.cab x c hfn hc)))).trans (I.base.keep b o e n hb hx)
  .obtain⟨sl,e1⟩:=I.base.slot b o e n hb hx;exact⟨sl,(hs.2 b (jE (jz (jm e) (I.ok.cab x c hfn hc)))).trans e1⟩
  .obtain⟨o',e1⟩:=I.base.there b o e hx;exact⟨o',(hs.2 b (jE (jz (jm e) (I.ok.cab x c hfn hc)))).trans e1⟩
  .by_cases hj:j=i
   .subst hj;rw[hi] at e1;cases e1;rw[jT hiσ] at e2;cases e2;exact⟨u,r,.inr ⟨.inl hk,c,hc,hc'⟩⟩
   .rw[jR (ui hj)] at e2;obtain⟨u',r',q⟩:=hl j y v' e1 e2 e3;refine⟨u',r',?_⟩;rcases q with q|⟨k,c',e,z'⟩
    .exact .inl q
    .refine .inr ⟨k,c',e,z'.sameBut hs ?_⟩;rintro rfl;exact hj (zT hN e1 (I.ok.inj _ _ _ e hc▸hi))
  .by_cases hcc:c'=c
   .subst hcc;exact⟨_,hc'⟩
   .obtain⟨w2,z2⟩:=I.cell y c' e;exact⟨w2,z2.sameBut hs hcc⟩
  .obtain⟨e,n,ne,nf,d⟩:=I.pin p hp;refine⟨(hs.2 p.1 ?_).trans e,n,ne,nf,d⟩;intro q;rw[q,hoc] at e;have q':oc=p.2:=jD e;exact d w' (by rw[<- q'];exact hocd)
theorem zy {M:Model}{A:Around}{E:Gg->Gh->Prop}{i:Nat}{x:Str}{v:V}{u:Gg}{Q:Unit->Gh->Prop}(I:gA X ω σ H s)(hN:X.N.Nodup)(hi:X.N[i]?=Ga x)(hx:wB X.env.scope x)(r:ia v u)
  (h:∀ s',gA X ω (σ.set i (Ga v)) H s'->Q () s') (hf:X.fn x=true\/X.env.scope.names.lookup x=Ga .local:=by first|exact .inl rfl|exact .inr rfl|assumption):wpAny M A (storeName X.env x u) Q E s :=
 yK I hN hi hx r (λs' I' _=>h s' I') hf
theorem gA.call' {s':Gh}{ch:List Gj}(I:gA X ω σ H s)(ho:s'.os=s.os)(u:Un (rq X.stack) ch H H' s.heap s'.heap)(hok:HOk X.prog X.w H' s'.heap)(hg:AllBare s'.gens)
  (hch:∀ b∈ch,(b∈X.ex\/X.s₀.heap.objs.size<=b)/\b≠X.env.locals/\(∀ x c,X.env.cells.lookup x=Ga c->c≠b)/\∀ p∈X.pn++ω,p.1≠b):gA X ω σ H' s':=by
 obtain⟨h',g',d',t',o'⟩:=s';have e:o'=s.os:=ho;subst e;exact I.call (g':=g') (t':=t') (d':=d') u hok hg hch
end
abbrev XK:=Gg->Option Gj->Hp->Prop
abbrev St:=List (Option V)
abbrev VK:=V->Hp->Prop
abbrev TE:=St->Hp->VK->Prop
abbrev TT:=St->Hp->(Bool->Hp->Prop)->Prop
abbrev TA:=St->Hp->(List V->Hp->Prop)->Prop
structure xf where
 nx:St->Hp->Prop
 rt:VK
 bk:St->Hp->Prop:=λ_ _=>False
 ct:St->Hp->Prop:=λ_ _=>False
abbrev TS:=xf->St->Hp->Prop
def EP (X:Cx)(ω:List (Gj×Obj))(σ:St)(Q:VK)(u:Gg)(s':Gh):Prop:=∃ v H',gA X ω σ H' s'/\ia v u/\Q v H'
def TP (X:Cx)(ω:List (Gj×Obj))(σ:St)(Q:Bool->Hp->Prop)(b:Bool)(s':Gh):Prop:=∃ H',gA X ω σ H' s'/\Q b H'
def AP (X:Cx)(ω:List (Gj×Obj))(σ:St)(Q:List V->Hp->Prop)(us:List Gg)(s':Gh):Prop:=∃ vs H',gA X ω σ H' s'/\hV vs us/\Q vs H'
def SP (X:Cx)(ω:List (Gj×Obj))(D:xf)(f:Flow)(s':Gh):Prop :=
 match f with
 | .next=>∃ σ' H',gA X ω σ' H' s'/\D.nx σ' H'
 | .brk=>∃ σ' H',gA X ω σ' H' s'/\D.bk σ' H'
 | .cont=>∃ σ' H',gA X ω σ' H' s'/\D.ct σ' H'
 | .ret u=>∃ v σ' H',gA X ω σ' H' s'/\ia v u/\D.rt v H'
def PE (X:Cx)(e:Expr)(t:TE):Prop :=
 ∀ (ω:List (Gj×Obj)) (s:Gh) (σ:St) (H:Hp) (Q:VK),gA X ω σ H s->t σ H Q->wpAny (model X.prog X.w) X.A (eval e X.env) (EP X ω σ Q) X.xe s
def PT (X:Cx)(e:Expr)(t:TT):Prop :=
 ∀ (ω:List (Gj×Obj)) (s:Gh) (σ:St) (H:Hp) (Q:Bool->Hp->Prop),gA X ω σ H s->t σ H Q->wpAny (model X.prog X.w) X.A (isTrue e X.env (eval e X.env)) (TP X ω σ Q) X.xe s
def PW (X:Cx)(e:Expr)(t:TT):Prop :=
 ∀ (whole:Sem Gg) (ω:List (Gj×Obj)) (s:Gh) (σ:St) (H:Hp) (Q:Bool->Hp->Prop),gA X ω σ H s->t σ H Q->wpAny (model X.prog X.w) X.A (isTrue e X.env whole) (TP X ω σ Q) X.xe s
theorem PW.pt {X:Cx}{e:Expr}{t:TT}(h:PW X e t):PT X e t:=h _
def PA (X:Cx)(es:List Expr)(t:TA):Prop :=
 ∀ (pos:Pos) (ω:List (Gj×Obj)) (s:Gh) (σ:St) (H:Hp) (Q:List V->Hp->Prop),gA X ω σ H s->t σ H Q->wpAny (model X.prog X.w) X.A (spliced (backTo pos (starEach es X.env))) (AP X ω σ Q) X.xe s
def PS (X:Cx)(st:Stmt)(t:TS):Prop :=
 ∀ (ω:List (Gj×Obj)) (s:Gh) (σ:St) (H:Hp) (D:xf),gA X ω σ H s->t D σ H->wpAny (model X.prog X.w) X.A (exec st X.env) (SP X ω D) X.xe s
def pZ (X:Cx)(st:List Stmt)(t:TS):Prop :=
 ∀ (ω:List (Gj×Obj)) (s:Gh) (σ:St) (H:Hp) (D:xf),gA X ω σ H s->t D σ H->wpAny (model X.prog X.w) X.A (execs st X.env) (SP X ω D) X.xe s
theorem iq {α:Type}{t:Sem α}{Q Q':α->Gh->Prop}{M:Model}{A:Around}{E:Gg->Gh->Prop}{s:Gh}(h:wpAny M A t Q E s)(hQ:∀ a s,Q a s->Q' a s):wpAny M A t Q' E s:=wpAny_mono h hQ λ_ _ x=>x
section
variable {X:Cx}
theorem gL {a b:Expr}{ta tb:TE}(ha:PE X a ta)(hb:PE X b tb){ω:List (Gj×Obj)}{s:Gh}{σ:St}{H:Hp}{R:V->V->Hp->Prop}(I:gA X ω σ H s)(h:ta σ H λx H1=>tb σ H1 λy H2=>R x y H2)
  {α:Type} {Q:α->Gh->Prop} {f:Gg->Gg->Sem α}
  (hf:∀ v u s2 x y H2,gA X ω σ H2 s2->ia x v->ia y u->R x y H2->wpAny (model X.prog X.w) X.A (f v u) Q X.xe s2) :
  wpAny (model X.prog X.w) X.A (eval a X.env) (λv s₁=>wpAny (model X.prog X.w) X.A (eval b X.env) (λu s₂=>wpAny (model X.prog X.w) X.A (f v u) Q X.xe s₂) X.xe s₁) X.xe s:=by
 refine iq (ha ω s σ H _ I h) λv s1 ⟨x,H1,I1,r1,q1⟩=>?_;refine iq (hb ω s1 σ H1 _ I1 q1) λu s2 ⟨y,H2,I2,r2,q2⟩=>?_;exact hf v u s2 x y H2 I2 r1 r2 q2
def TF (i:Nat):TE:=λσ H Q=>∃ v,σ[i]?=Ga (Ga v)/\Q v H
def tC (v:V):TE:=λ_ H Q=>Q v H
theorem pp {i:Nat}{x:Str}{pos:Pos}(hN:X.N[i]?=Ga x)(hv:wb X.env.scope x)(hd:(x==("__debug__":Str))=false:=by decide)(hcd:(x==("__classdict__":Str))=false:=by decide):PE X (.Name x pos) (TF i):=by
 intro ω s σ H Q I h;obtain⟨v,e,h⟩:=h;obtain⟨m,hn,hl⟩:=I.loc;obtain⟨u,r,l⟩:=hl i x v hN e hv;have fin:EP X ω σ Q u s:=⟨v,H,I,r,h⟩;rcases l with ⟨hk,hm⟩|⟨hk,c,hc,hcell⟩
 .exact wpAny_Name (wpAny_loadName_local I.ok.kind hk hn hm fin) hd
 .rcases hk with hk|hk
  .exact wpAny_Name (wpAny_loadName_cell I.ok.kind hk hc hcell fin) hd
  .exact wpAny_Name (wpAny_loadName_free I.ok.kind hk hc hcell fin hcd) hd
theorem Hc {i j pos}:PE X (.Constant (.int i) j pos) (tC (.int i)):=λ_ _ _ H _ I h=>wpAny_Constant_int ⟨.int i,H,I.tok _,⟨_,rfl⟩,h⟩
theorem DN {b j pos}:PE X (.Constant (.bool b) j pos) (tC (.bl b)):=λ_ _ _ H _ I h=>Constant_bool ⟨.bl b,H,I,rfl,h⟩
theorem IM {j pos}:PE X (.Constant .none j pos) (tC .non):=λ_ _ _ H _ I h=>Constant_none ⟨.non,H,I,rfl,h⟩
theorem Lc {x j pos}:PE X (.Constant (.str x) j pos) (tC (.str x)):=λ_ _ _ H _ I h=>Calls.Constant_str ⟨.str x,H,I.tok _,⟨_,rfl⟩,h⟩
def Gl (X:Cx)(x:Str):Prop:=X.env.kindOf x=Ga .globalImplicit
theorem ya {E:Gg->Gh->Prop}{ω:List (Gj×Obj)}{s:Gh}{σ:St}{H:Hp}{x:Str}{u:Gg}{pos:Pos}{Q:Gg->Gh->Prop}(I:gA X ω σ H s)(hg:Gl X x)(hm:X.mg x=Ga u)(h:Q u s)
  (hd:(x==("__debug__":Str))=false:=by decide):wpAny (model X.prog X.w) X.A (eval (.Name x pos) X.env) Q E s :=
 qj I.ok.kind hg (Calls.loadGlobal_global (by rw[I.ok.glob];exact I.mod.glob.keeps I.bk) hm h) hd
theorem pS {E:Gg->Gh->Prop}{ω:List (Gj×Obj)}{s:Gh}{σ:St}{H:Hp}{x:Str}{u:Gg}{pos:Pos}{Q:Gg->Gh->Prop}(I:gA X ω σ H s)(hg:Gl X x)(hm:X.mg x=Gb)(hv:bootBuiltins x=Ga u)(h:Q u s)
  (hn:x≠"__name__":=by decide) (hd:(x==("__debug__":Str))=false:=by decide):wpAny (model X.prog X.w) X.A (eval (.Name x pos) X.env) Q E s:=by
 obtain⟨mb,h1,h2⟩:=I.mod.blt;exact qj I.ok.kind hg (Calls.loadGlobal_builtin (by rw[I.ok.glob];exact I.mod.glob.keeps I.bk) hm (by rw[I.ok.blt];exact h1.keeps I.bk) ((h2 x hn).trans hv) h) hd
theorem FJ {x:Str}{v:V}{u:Gg}{pos:Pos}(hg:Gl X x)(hm:X.mg x=Ga u)(r:ia v u)(hd:(x==("__debug__":Str))=false:=by decide):PE X (.Name x pos) (tC v) :=
 λ_ _ _ H _ I h=>ya I hg hm ⟨v,H,I,r,h⟩ hd
variable {a b:Expr}{ta tb:TE}{pos:Pos}
variable {tA tB':TT}{rest:List Expr}
def Up (t u:TT):TT:=λσ H Q=>t σ H λc H1=>if c=true then u σ H1 Q else Q false H1
def tOr (t u:TT):TT:=λσ H Q=>t σ H λc H1=>if c=true then Q true H1 else u σ H1 Q
def Ui (t:TT):TT:=λσ H Q=>t σ H λc H1=>Q (!c) H1
theorem FY (ha:PT X a tA):PW X (.BoolOp .And [a] pos) tA:=by
 intro wh ω s σ H Q I h;refine isTrue_and (iq (ha ω s σ H Q I h) λc s1 e=>?_);cases c with
 | true=>exact isTrue_and_nil e
 | false=>exact e
theorem HK (ha:PT X a tA):PW X (.BoolOp .Or [a] pos) tA:=by
 intro wh ω s σ H Q I h;refine isTrue_or (iq (ha ω s σ H Q I h) λc s1 e=>?_);cases c with
 | false=>exact isTrue_or_nil e
 | true=>exact e
theorem KQ (ha:PT X a tA)(hb:PW X (.BoolOp .And (b::rest) pos) tB'):PW X (.BoolOp .And (a::b::rest) pos) (Up tA tB'):=by
 intro wh ω s σ H Q I h;refine isTrue_and (iq (ha ω s σ H _ I h) λc s1 ⟨H1,I1,q1⟩=>?_);cases c with
 | true=>exact hb wh ω s1 σ H1 Q I1 q1
 | false=>exact⟨H1,I1,q1⟩
theorem NV (ha:PT X a tA)(hb:PW X (.BoolOp .Or (b::rest) pos) tB'):PW X (.BoolOp .Or (a::b::rest) pos) (tOr tA tB'):=by
 intro wh ω s σ H Q I h;refine isTrue_or (iq (ha ω s σ H _ I h) λc s1 ⟨H1,I1,q1⟩=>?_);cases c with
 | true=>exact⟨H1,I1,q1⟩
 | false=>exact hb wh ω s1 σ H1 Q I1 q1
theorem GE (ha:PT X a tA):PT X (.UnaryOp .Not a pos) (Ui tA):=by
 intro ω s σ H Q I h;exact isTrue_not (ha ω s σ H (λc H1=>Q (!c) H1) I h)
def Oc (ta tb:TE):TE:=λσ H Q=>ta σ H λx H1=>∃ c,x=.bl c/\if c=true then tb σ H1 Q else Q (.bl false) H1
def Ut (ta tb:TE):TE:=λσ H Q=>ta σ H λx H1=>∃ c,x=.bl c/\if c=true then Q (.bl true) H1 else tb σ H1 Q
def NP (ta:TE):TE:=λσ H Q=>ta σ H λx H1=>∃ c,x=.bl c/\Q (.bl (!c)) H1
theorem LJ {op}{t:TE}(h:PE X a t):PE X (.BoolOp op [a] pos) t:=λω s σ H Q I hw=>BoolOp_one (h ω s σ H Q I hw)
theorem LU (ha:PE X a ta)(hb:PE X (.BoolOp .And (b::rest) pos) tb):PE X (.BoolOp .And (a::b::rest) pos) (Oc ta tb):=by
 intro ω s σ H Q I h;refine BoolOp_and (iq (ha ω s σ H _ I h) λv s1 ⟨x,H1,I1,r1,q1⟩=>?_);obtain⟨c,rfl,q1⟩:=q1;cases r1;refine wpAny_truthy_bool ?_;cases c with
 | true=>exact hb ω s1 σ H1 Q I1 q1
 | false=>exact⟨.bl false,H1,I1,rfl,q1⟩
theorem NO (ha:PE X a ta)(hb:PE X (.BoolOp .Or (b::rest) pos) tb):PE X (.BoolOp .Or (a::b::rest) pos) (Ut ta tb):=by
 intro ω s σ H Q I h;refine BoolOp_or (iq (ha ω s σ H _ I h) λv s1 ⟨x,H1,I1,r1,q1⟩=>?_);obtain⟨c,rfl,q1⟩:=q1;cases r1;refine wpAny_truthy_bool ?_;cases c with
 | false=>exact hb ω s1 σ H1 Q I1 q1
 | true=>exact⟨.bl true,H1,I1,rfl,q1⟩
theorem KD (ha:PE X a ta):PE X (.UnaryOp .Not a pos) (NP ta):=by
 intro ω s σ H Q I h;refine UnaryOp_ (iq (ha ω s σ H _ I h) λv s1 ⟨x,H1,I1,r1,q1⟩=>?_);obtain⟨c,rfl,q1⟩:=q1;cases r1;exact not_of (wpAny_truthy_bool ⟨.bl (!c),H1,I1,rfl,q1⟩)
def Xl (t:TT)(ta tb:TE):TE:=λσ H Q=>t σ H λc H1=>if c=true then ta σ H1 Q else tb σ H1 Q
theorem Dn {c:Expr}(hc:PT X c tA)(ha:PE X a ta)(hb:PE X b tb):PE X (.IfExp c a b pos) (Xl tA ta tb):=by
 intro ω s σ H Q I h;refine wpAny_IfExp (iq (hc ω s σ H _ I h) λd s1 ⟨H1,I1,q1⟩=>?_);cases d with
 | true=>exact ha ω s1 σ H1 Q I1 q1
 | false=>exact hb ω s1 σ H1 Q I1 q1
end
def lr (K:ja)(H:Hp)(a:Gj)(xs:List V):Prop :=
 Rd H a (.lst xs) \/
  ∃ (o:Obj) (its:Array Gg) (n:Nat),K.lookup a=Ga o/\o.cls=.type "list"/\o.dict=Gb/\o.data=.seq its n/\its.size<=sizeLine/\hV xs its.toList
def mV (K:ja)(H:Hp)(a:Gj)(xs:List V):Prop :=
 Rd H a (.tup xs) \/
  ∃ (o:Obj) (its:Array Gg) (n:Nat),K.lookup a=Ga o/\o.cls=.type "tuple"/\o.data=.seq its n/\its.size<=sizeLine/\hV xs its.toList
def Uo:Gg->Option V
 | .none=>Ga .non
 | .bool b=>Ga (.bl b)
 | .int i _=>Ga (.int i)
 | .str x _=>Ga (.str x)
 | .bytes b _=>Ga (.byt b)
 | .float b _=>Ga (.flt b)
 | .ref a=>Ga (.ref a)
 | .type n=>Ga (.ty n)
 | _=>Gb
theorem ia.abs {x:V}{u:Gg}(r:ia x u):Uo u=Ga x:=by
 cases x with
 | non=>cases r;rfl
 | bl _=>cases r;rfl
 | int _=>obtain⟨t,rfl⟩:=r;rfl
 | str _=>obtain⟨t,rfl⟩:=r;rfl
 | byt _=>obtain⟨t,rfl⟩:=r;rfl
 | flt _=>obtain⟨t,rfl⟩:=r;rfl
 | ref _=>cases r;rfl
 | ty _=>cases r;rfl
theorem ia.inj {x y:V}{u:Gg}(r:ia x u)(q:ia y u):x=y:=jD (r.abs.symm.trans q.abs)
theorem hV.inj:∀ {xs ys:List V} {us:List Gg},hV xs us->hV ys us->xs=ys
 | _,_,_,.nil,.nil=>rfl
 | _,_,_,.cons r t,.cons r' t'=>by rw[r.inj r',hV.inj t t']
section
variable {X:Cx}{ω:List (Gj×Obj)}{σ:St}{H:Hp}{s:Gh}{a:Gj}{xs ys:List V}
theorem lr.of {K:ja}(h:H a=Ga (.lst xs)):lr K H a xs:=.inl (.inl h)
theorem mV.of {K:ja}(h:H a=Ga (.tup xs)):mV K H a xs:=.inl (.inl h)
theorem gA.list (I:gA X ω σ H s)(h:lr X.K H a xs):∃ its:List Gg,hV xs its/\PlainL s.heap a its.toArray/\xs.length<=sizeLine:=by
 rcases h with h|⟨o,its,n,hk,hc,hd,hs,hz,r⟩
 .obtain⟨z,its,n,r,e⟩:=h.ok I.hok;exact⟨its,r,⟨_,n,e,rfl,rfl,rfl⟩,z⟩
 .refine⟨its.toList,r,⟨o,n,I.kIn a o hk,hc,hd,by simpa using hs⟩,?_⟩;have e:=r.length;simp only[kw] at e;omega
theorem gA.tuple (I:gA X ω σ H s)(h:mV X.K H a xs):∃ its:List Gg,hV xs its/\IsTup s.heap a its.toArray/\xs.length<=sizeLine:=by
 rcases h with h|⟨o,its,n,hk,hc,hs,hz,r⟩
 .obtain⟨z,its,r,p⟩:=h.ok I.hok;exact⟨its,r,p,z⟩
 .refine⟨its.toList,r,⟨o,I.kIn a o hk,hc,n,by simpa using hs⟩,?_⟩;have e:=r.length;simp only[kw] at e;omega
theorem gA.list_inj (I:gA X ω σ H s)(h:lr X.K H a xs)(h':lr X.K H a ys):xs=ys:=by
 obtain⟨its,r,⟨o,n,e,_,_,d⟩,_⟩:=I.list h;obtain⟨its',r',⟨o',n',e',_,_,d'⟩,_⟩:=I.list h';rw[e] at e';cases e';rw[d] at d'
 injection d' with d1 _
 have:its=its':=by simpa using congrArg Array.toList d1
 subst this;exact r.inj r'
theorem gA.tuple_inj (I:gA X ω σ H s)(h:mV X.K H a xs)(h':mV X.K H a ys):xs=ys:=by
 obtain⟨its,r,⟨o,e,_,n,d⟩,_⟩:=I.tuple h;obtain⟨its',r',⟨o',e',_,n',d'⟩,_⟩:=I.tuple h';rw[e] at e';cases e';rw[d] at d'
 injection d' with d1 _
 have:its=its':=by simpa using congrArg Array.toList d1
 subst this;exact r.inj r'
end
abbrev Cx.wish (X:Cx)(E:Gg->Gh->Prop):Cx:={ X with xe:=E }
abbrev Cx.nox (X:Cx):Cx:=X.wish λ_ _=>False
theorem Cx.Ok.wish {X:Cx}(ok:X.Ok)(E:Gg->Gh->Prop):(X.wish E).Ok :=
 ⟨ok.mod,ok.kind,ok.glob,ok.blt,ok.above,ok.inj,ok.has,ok.cab,ok.hd,ok.frames,ok.stk,ok.exf,ok.bs,ok.bsz,ok.noex,ok.exfs,ok.funs,ok.frf⟩
theorem Cx.Ok.unwish {X:Cx}{E:Gg->Gh->Prop}(ok:(X.wish E).Ok):X.Ok :=
 ⟨ok.mod,ok.kind,ok.glob,ok.blt,ok.above,ok.inj,ok.has,ok.cab,ok.hd,ok.frames,ok.stk,ok.exf,ok.bs,ok.bsz,ok.noex,ok.exfs,ok.funs,ok.frf⟩
section
variable {X:Cx}{ω:List (Gj×Obj)}{σ:St}{H:Hp}{s:Gh}{E:Gg->Gh->Prop}
theorem gA.wish (I:gA X ω σ H s)(E:Gg->Gh->Prop):gA (X.wish E) ω σ H s:=⟨I.ok.wish E,I.os,I.bare,I.base,I.loc,I.cell,I.free,I.freeC,I.pin,I.hok,I.len⟩
theorem gA.unwish (I:gA (X.wish E) ω σ H s):gA X ω σ H s:=⟨I.ok.unwish,I.os,I.bare,I.base,I.loc,I.cell,I.free,I.freeC,I.pin,I.hok,I.len⟩
theorem SP.unwish {D:xf}{f:Flow}{s':Gh}(h:SP (X.wish E) ω D f s'):SP X ω D f s':=by
 cases f with
 | next=>obtain⟨σ',H',I,q⟩:=h;exact⟨σ',H',I.unwish,q⟩
 | brk=>obtain⟨σ',H',I,q⟩:=h;exact⟨σ',H',I.unwish,q⟩
 | cont=>obtain⟨σ',H',I,q⟩:=h;exact⟨σ',H',I.unwish,q⟩
 | ret u=>obtain⟨v,σ',H',I,r,q⟩:=h;exact⟨v,σ',H',I.unwish,r,q⟩
theorem PE.nox {e:Expr}{t:TE}(h:PE X.nox e t):PE X e t:=λω s σ H Q I hw =>
 wpAny_mono (h ω s σ H Q (I.wish _) hw) (λ_ _ ⟨v,H',I',r,q⟩=>⟨v,H',I'.unwish,r,q⟩) λ_ _ z=>False.elim z
theorem PT.nox {e:Expr}{t:TT}(h:PT X.nox e t):PT X e t:=λω s σ H Q I hw =>
 wpAny_mono (h ω s σ H Q (I.wish _) hw) (λ_ _ ⟨H',I',q⟩=>⟨H',I'.unwish,q⟩) λ_ _ z=>False.elim z
theorem pZ.nox {st:List Stmt}{t:TS}(h:pZ X.nox st t):pZ X st t:=λω s σ H D I hw =>
 wpAny_mono (h ω s σ H D (I.wish _) hw) (λ_ _ q=>q.unwish) λ_ _ z=>False.elim z
end
section
variable {X:Cx}{st:Stmt}{rest:List Stmt}{t u:TS}{e:Expr}{te:TE}{pos:Pos}
def NX:TS:=λD σ H=>D.nx σ H
def Um (t u:TS):TS:=λD σ H=>t { D with nx:=u D } σ H
theorem Gm:pZ X [] NX:=λ_ _ σ H _ I h=>wpAny_execs_nil ⟨σ,H,I,h⟩
theorem Df (h1:PS X st t)(h2:pZ X rest u):pZ X (st::rest) (Um t u):=by
 intro ω s σ H D I h;refine wpAny_execs_cons (iq (h1 ω s σ H { D with nx:=u D } I h) λf s1 q=>?_);cases f with
 | next =>
  obtain⟨σ',H',I',q⟩:=q;exact h2 ω s1 σ' H' D I' q
 | ret v=>exact q
 | brk=>exact q
 | cont=>exact q
theorem Gs (h1:PS X st t):pZ X [st] t:=by
 intro ω s σ H D I h;refine wpAny_execs_cons (iq (h1 ω s σ H D I h) λf s1 q=>?_);cases f with
 | next=>exact wpAny_execs_nil q
 | ret v=>exact q
 | brk=>exact q
 | cont=>exact q
theorem gA.quiet {ω:List (Gj×Obj)}{σ:St}{H:Hp}{s:Gh}(I:gA X ω σ H s):interactive X.env=false:=by simp[interactive,I.ok.kind]
def NW (te:TE):TS:=λD σ H=>te σ H λ_ H1=>D.nx σ H1
theorem AN (he:PE X e te)(hs:swapsWith e Gb pos.line X.env=pure false:=by rfl):PS X (.Expr e pos) (NW te):=by
 intro ω s σ H D I h;exact wpAny_Expr_any (iq (he ω s σ H _ I h) λv s1 ⟨x,H1,I1,r1,q1⟩=>⟨σ,H1,I1,q1⟩) I.quiet hs
def TR (te:TE):TS:=λD σ H=>te σ H D.rt
theorem zN (he:PE X e te):PS X (.Return (Ga e) pos) (TR te):=by
 intro ω s σ H D I h;exact wpAny_Return_some (iq (he ω s σ H _ I h) λv s1 ⟨x,H1,I1,r1,q1⟩=>⟨x,σ,H1,I1,r1,q1⟩)
def Ub (c:TT)(t u:TS):TS:=λD σ H=>c σ H λb H1=>if b=true then t D σ H1 else u D σ H1
theorem NY {c:Expr}{a b:List Stmt}{tc:TT}(hc:PT X c tc)(ha:pZ X a t)(hb:pZ X b u):PS X (.If c a b pos) (Ub tc t u):=by
 intro ω s σ H D I h;refine wpAny_If (iq (hc ω s σ H _ I h) λd s1 ⟨H1,I1,q1⟩=>?_);cases d with
 | true=>exact ha ω s1 σ H1 D I1 q1
 | false=>exact hb ω s1 σ H1 D I1 q1
end
abbrev TG:=V->St->Hp->(St->Hp->Prop)->Prop
abbrev xF:=List V->St->Hp->(St->Hp->Prop)->Prop
def PG (X:Cx)(target:Expr)(t:TG):Prop :=
 ∀ (ω:List (Gj×Obj)) (s:Gh) (σ:St) (H:Hp) (v:V) (u:Gg) (Q:St->Hp->Prop),gA X ω σ H s->ia v u->t v σ H Q ->
  wpAny (model X.prog X.w) X.A (assign target X.env u) (λ_ s'=>∃ σ' H',gA X ω σ' H' s'/\Q σ' H') X.xe s
def zr (X:Cx)(ts:List Expr)(t:xF):Prop :=
 ∀ (ω:List (Gj×Obj)) (s:Gh) (σ:St) (H:Hp) (vs:List V) (us:List Gg) (Q:St->Hp->Prop),gA X ω σ H s->hV vs us->t vs σ H Q ->
  wpAny (model X.prog X.w) X.A (assignInOrder ((assignEach ts X.env).map (·.2)) us) (λ_ s'=>∃ σ' H',gA X ω σ' H' s'/\Q σ' H') X.xe s
abbrev Bo:=V->V->V->Hp->(Hp->Prop)->Prop
def MO (X:Cx)(t:Bo):Prop :=
 ∀ (ω:List (Gj×Obj)) (s:Gh) (σ:St) (H:Hp) (o i v:V) (ov iv u:Gg) (Q:Hp->Prop),gA X ω σ H s->ia o ov->ia i iv->ia v u->t o i v H Q ->
  wpAny (model X.prog X.w) X.A (setItem ov iv u) (λ_ s'=>∃ H',gA X ω σ H' s'/\Q H') X.xe s
section
variable {X:Cx}{pos:Pos}
def ER (i:Nat):TG:=λv σ H Q=>Q (σ.set i (Ga v)) H
theorem FR {i:Nat}{x:Str}(hN:X.N.Nodup)(hi:X.N[i]?=Ga x)(hx:wB X.env.scope x)(hf:X.fn x=true\/X.env.scope.names.lookup x=Ga .local:=by first|exact .inl rfl|exact .inr rfl|assumption):PG X (.Name x pos) (ER i):=by
 intro ω s σ H v u Q I r h;exact wpAny_assign_Name (zy I hN hi hx r (λs' I'=>⟨_,H,I',h⟩) hf)
def Us:xF:=λvs σ H Q=>vs=[]/\Q σ H
def NS (t:TG)(u:xF):xF:=λvs σ H Q=>∃ v r,vs=v::r/\t v σ H λσ' H'=>u r σ' H' Q
theorem FW:zr X [] Us:=by
 intro ω s σ H vs us Q I r h;obtain⟨e,h⟩:=h;subst e;cases r;exact assignInOrder_nil ⟨σ,H,I,h⟩
theorem Dg {e:Expr}{es:List Expr}{t:TG}{u:xF}(h1:PG X e t)(h2:zr X es u)
  (hs:(assignEach (e::es) X.env).map (·.2)=assign e X.env::(assignEach es X.env).map (·.2):=by rfl):zr X (e::es) (NS t u):=by
 intro ω s σ H vs us Q I r h;obtain⟨v,vr,e1,h⟩:=h;subst e1;cases r with
 | cons r rr =>
  rw[hs];refine assignInOrder_cons (iq (h1 ω s σ H _ _ _ I r h) λ_ s1 ⟨σ1,H1,I1,q1⟩=>?_);exact h2 ω s1 σ1 H1 _ _ Q I1 rr q1
def UF (K:ja)(n:Nat)(t:xF):TG:=λv σ H Q=>∃ a xs,v=.ref a/\mV K H a xs/\xs.length=n/\t xs σ H Q
theorem Ih {es:List Expr}{k:Nat}{t:xF}{n:Nat}(hc:X.calm=true)(h:zr X es t)
  (hn:(assignEach es X.env).length=n:=by rfl) (hst:(assignEach es X.env).findIdx? (·.1)=Gb:=by rfl):PG X (.Tuple es k pos) (UF X.K n t):=by
 intro ω s σ H v u Q I r hw;obtain⟨a,xs,e1,hq,hl,hw⟩:=hw;subst e1;cases r;obtain⟨its,rv,ht,hz⟩:=I.tuple hq;refine assign_Tuple_tuple (I.ok.hd hc) ht (by simp[hn,<- hl,rv.length]) hst λh' hx=>?_;have I1:gA X ω σ H { s with heap:=h' }:=I.kept (t':=s.toks) λb o e=>hx b o (jE (jm e)) e;exact h ω _ σ H xs _ Q I1 (by simpa using rv) hw
def TU (to ti:TE)(t:Bo):TG:=λv σ H Q=>to σ H λo H1=>ti σ H1 λi H2=>t o i v H2 λH3=>Q σ H3
theorem Nv {o i:Expr}{to ti:TE}{t:Bo}(ho:PE X o to)(hi:PE X i ti)(hs:MO X t)
  (ha:∀ v,assign (.Subscript o i pos) X.env v=(do
   let ov <- holding [v] (eval o X.env)
   let iv <- holding [v,ov] (eval i X.env)
   standAt pos
   holding [v,ov,iv] (setItem ov iv v)
   release [v,ov,iv] []):=by intro _;rfl):PG X (.Subscript o i pos) (TU to ti t):=by
 intro ω s σ H v u Q I r h;rw[ha];refine gk (wpAny_holding (iq (ho ω s σ H _ I h) λov s1 ⟨x,H1,I1,r1,q1⟩=>?_));refine gk (wpAny_holding (iq (hi ω s1 σ H1 _ I1 q1) λiv s2 ⟨y,H2,I2,r2,q2⟩=>?_));refine gk (wpAny_standAt (gk (wpAny_holding (iq (hs ω s2 σ H2 x y v ov iv u _ I2 r1 r2 r q2) λ_ s3 ⟨H3,I3,q3⟩=>?_))));exact wpAny_release ⟨σ,H3,I3,q3⟩
def KF (te:TE)(g:TG):TS:=λD σ H=>te σ H λx H1=>g x σ H1 D.nx
theorem Ct {tg e:Expr}{te:TE}{g:TG}(he:PE X e te)(hg:PG X tg g)(hs:swapsWithSole [tg] e pos.line X.env=pure false:=by rfl)(hw:swappedStores [tg] e X.env=pure Gb:=by rfl)
  (h1:(assignEach [tg] X.env).map (·.2)=[assign tg X.env]:=by rfl):PS X (.Assign [tg] e pos) (KF te g):=by
 intro ω s σ H D I h;refine wpAny_Assign_stores (iq (he ω s σ H _ I h) λv s1 ⟨x,H1,I1,r1,q1⟩=>?_) hs hw;rw[h1];exact iq (hg ω s1 σ H1 x v _ I1 r1 q1) λ_ s2 q=>q
theorem xM {i:Nat}{x:Str}{e:Expr}{te:TE}{pos':Pos}(hN:X.N.Nodup)(hi:X.N[i]?=Ga x)(hx:wB X.env.scope x)(he:PE X e te)(hs:swapsWith e (Ga (.Name x pos')) pos.line X.env=pure false:=by rfl)(hf:X.fn x=true\/X.env.scope.names.lookup x=Ga .local:=by first|exact .inl rfl|exact .inr rfl|assumption) :
  PS X (.Assign [.Name x pos'] e pos) (KF te (ER i)):=by
 intro ω s σ H D I h;refine wpAny_Assign_Name (iq (he ω s σ H _ I h) λv s1 ⟨y,H1,I1,r1,q1⟩=>?_) hs;exact zy I1 hN hi hx r1 (λs2 I2=>⟨_,H1,I2,q1⟩) hf
end
section
variable {X:Cx}{pos:Pos}
def MG (c:TT)(tb:TS):TS:=λD σ H=>∃ W:Nat->St->Hp->Prop,(∃ m,W m σ H)/\∀ m σ H,W m σ H ->
 c σ H λb H1=>if b=true then ∃ N:St->Hp->Prop,(∀ σ' H',N σ' H'->∃ m',m'<m/\W m' σ' H')/\tb { D with nx:=N,ct:=N,bk:=D.nx } σ H1 else D.nx σ H1
theorem Dw {c:Expr}{body:List Stmt}{tc:TT}{tb:TS}(hp:PassesOwn (model X.prog X.w) X.A X.env X.xe)(hc:PT X c tc)(hb:pZ X body tb):PS X (.While c body [] pos) (MG tc tb):=by
 intro ω s σ H D I h;obtain⟨W,⟨m0,w0⟩,turn⟩:=h;refine wpAny_While (codeAny_whileLoop (λn s'=>∃ σ' H',gA X ω σ' H' s'/\W n σ' H') ?_ m0 ⟨σ,H,I,w0⟩);rintro n s1 ⟨σ1,H1,I1,w1⟩;refine wpAny_passesOwn hp (iq (hc ω s1 σ1 H1 _ I1 (turn n σ1 H1 w1)) λb s2 ⟨H2,I2,q2⟩=>?_);cases b with
 | true =>
  obtain⟨N,hN,q2⟩:=q2;rw[Ge rfl];refine wpAny_passesOwn hp (iq (hb ω s2 σ1 H2 _ I2 q2) λf s3 q3=>?_);cases f with
  | next =>
   obtain⟨σ3,H3,I3,n3⟩:=q3;obtain⟨m',hm,w3⟩:=hN σ3 H3 n3;exact⟨m',hm,σ3,H3,I3,w3⟩
  | cont =>
   obtain⟨σ3,H3,I3,n3⟩:=q3;obtain⟨m',hm,w3⟩:=hN σ3 H3 n3;exact⟨m',hm,σ3,H3,I3,w3⟩
  | brk=>exact q3
  | ret v=>exact q3
 | false =>
  rw[Gf jq];exact wpAny_execs_nil ⟨σ1,H2,I2,q2⟩
end
structure It where
 go:Nat->Hp->Prop
 yld:Nat->Hp->V->Hp->Prop
 stop:Nat->Hp->Prop
def wc (X:Cx)(ω:List (Gj×Obj))(H:Hp)(b:Gj):Prop :=
 H b=Gb/\b≠X.env.locals/\b∉X.fs/\(b∈X.ex\/X.s₀.heap.objs.size<=b)/\(∀ x c,X.env.cells.lookup x=Ga c->c≠b)/\∀ p∈X.pn++ω,p.1≠b
theorem gA.fpOk {X:Cx}{ω:List (Gj×Obj)}{σ:St}{H H':Hp}{s:Gh}{b:Gj}(I:gA X ω σ H s)(hb:s.heap.objs.size<=b)(hn:H' b=Gb):wc X ω H' b:=by
 refine⟨hn,uS (jz I.lt hb),I.nofs hb,.inr (jF I.sz hb),λx c e z=>?_,λp hp z=>?_⟩
 .obtain⟨v,q⟩:=I.cell x c e;exact absurd (jz q.lt (by rw[z];exact hb)) (j0 _)
 .exact absurd (jz (jm (I.pin p hp).1) (by rw[z];exact hb)) (j0 _)
structure yt (P:Program)(w:World)(K:ja)(tg:Expr)(J:It)(fp:List Gj)(it:Gj)(tn:Nat->Heap->Prop):Prop where
 mem:it∈fp
 obj:∀ i h,tn i h->∀ b∈fp,∃ o,h.get? b=Ga o/\∀ v,o.data≠.cell v
 keep:∀ i h h',tn i h->(∀ b∈fp,∀ o,h.get? b=Ga o->h'.get? b=Ga o)->tn i h'
 item:∀ (X:Cx),X.prog=P->X.w=w->X.K=K->X.calm=true->∀ (i:Nat) (ω:List (Gj×Obj)) (s:Gh) (σ:St) (H:Hp) (E:Gg->Gh->Prop),gA X ω σ H s->(∀ b∈fp,wc X ω H b)->tn i s.heap->J.go i H ->
  wpAny (model P w) X.A (pyNext (.ref it)) (λr s1=>∃ u,r=Ga u /\
   wpAny (model P w) X.A (letOwnedTupleGo tg (.ref it) u) (λ_ s2=>∃ x H',gA X ω σ H' s2/\ia x u/\J.yld i H x H'/\tn (i+1) s2.heap/\∀ b∈fp,H' b=Gb) E s1) E s
 done:∀ (X:Cx),X.prog=P->X.w=w->X.K=K->X.calm=true->∀ (i:Nat) (ω:List (Gj×Obj)) (s:Gh) (σ:St) (H:Hp) (E:Gg->Gh->Prop),gA X ω σ H s->(∀ b∈fp,wc X ω H b)->tn i s.heap->J.stop i H ->
  wpAny (model P w) X.A (pyNext (.ref it)) (λr s1=>r=Gb/\gA X ω σ H s1) E s
 self:∀ (A:Around) (i:Nat) (s:Gh) (Q:Gg->Gh->Prop) (E:Gg->Gh->Prop),tn i s.heap->Q (.ref it) s->wpAny (model P w) A (pyIter (.ref it)) Q E s
abbrev TI:=St->Hp->(It->Hp->Prop)->Prop
def PX (X:Cx)(ω:List (Gj×Obj))(σ:St)(tg:Expr)(R:It->Hp->Prop)(itv:Gg)(s2:Gh):Prop :=
 ∃ (it:Gj) (fp:List Gj) (tn:Nat->Heap->Prop) (J:It) (H':Hp),itv=.ref it/\gA X ω σ H' s2/\yt X.prog X.w X.K tg J fp it tn/\tn 0 s2.heap/\(∀ b∈fp,wc X ω H' b)/\R J H'
def PI (X:Cx)(tg iter:Expr)(wi:TI):Prop :=
 ∀ (ω:List (Gj×Obj)) (s:Gh) (σ:St) (H:Hp) (R:It->Hp->Prop),gA X ω σ H s->wi σ H R ->
  wpAny (model X.prog X.w) X.A (eval iter X.env) (λv s1=>wpAny (model X.prog X.w) X.A (pyIter v) (PX X ω σ tg R) X.xe s1) X.xe s
theorem zk {M:Model}{A:Around}{E:Gg->Gh->Prop}{s:Gh}{tg:Expr}{it:Gj}{u:Gg}{o:Obj}{n:String}{vs:Array Gg}{Q:Unit->Gh->Prop}(ho:s.heap.get? it=Ga o)(hc:o.cls=.type n)(hd:o.data=.fields vs)
  (hn:["enumerate","zip","dict_itemiterator","dict_reverseitemiterator","odict_iterator","itertools.zip_longest","itertools.pairwise"].contains n=false) (hQ:Q () s):wpAny M A (letOwnedTupleGo tg (.ref it) u) Q E s:=by
 unfold letOwnedTupleGo;cases tg<;>first
  | exact gm hQ
  | (cases u<;>first
    | exact gm hQ
    | (refine gk (wpAny_load ho ?_)
       rw[hc,hd];show wpAny M A (if (["enumerate","zip","dict_itemiterator","dict_reverseitemiterator","odict_iterator","itertools.zip_longest","itertools.pairwise"].contains n&&vs[0]?==Ga (rawInt _))=true then _ else _) Q E s;rw[Gf (by intro h;rw[hn,vk] at h;cases h)];exact gm hQ))
def KS (K:ja)(a:Gj):It :=
 ⟨λi H=>∃ xs x,lr K H a xs/\xs[i]?=Ga x,λi H x H'=>H'=H/\∀ xs,lr K H a xs->xs[i]?=Ga x,λi H=>∃ xs,lr K H a xs/\xs.length<=i⟩
def Hl (K:ja)(a:Gj):It :=
 ⟨λi H=>∃ xs x,mV K H a xs/\xs[i]?=Ga x,λi H x H'=>H'=H/\∀ xs,mV K H a xs->xs[i]?=Ga x,λi H=>∃ xs,mV K H a xs/\xs.length<=i⟩
def CN (lo:Int)(n:Nat):It:=⟨λi _=>i<n,λi H x H'=>H'=H/\x=.int (lo+i),λi _=>n<=i⟩
theorem Cu {P:Program}{w:World}{K:ja}{tg:Expr}(a it:Gj):yt P w K tg (KS K a) [it] it (λi h=>h.IsListIter it a i) where
 mem:=by simp
 obj:=λi h st b hb=>by
  have e:b=it:=by simpa using hb
  subst e;obtain⟨o,e,c,d⟩:=st;exact⟨o,e,λv z=>by rw[d] at z;cases z⟩
 keep:=λi h h' st k=>st.at λo e=>k it (by simp) o e
 item:=by
  intro X hP hw hK hc i ω s σ H E I hf st hg;subst hP hw hK;obtain⟨xs,x,hq,hx⟩:=hg;obtain⟨its,rv,p,hz⟩:=I.list hq;obtain⟨u,hu,ru⟩:=rv.get hx;obtain⟨f0,f1,f2,f3,f4,f5⟩:=hf it (by simp);refine wpAny_pyNext_list_item st p.isList (x:=u) (by simpa using hu) λh' st' sb=>?_;have I1:gA X ω σ H { s with heap:=h' }:=I.turned (t':=s.toks) (λb o hb e=>(sb.2 b hb).trans e) f0 f1 f3 f4 f5;obtain⟨o,e,c,d⟩:=id st';exact⟨u,rfl,zk (s:={ s with heap:=h' }) e c d (by decide) ⟨x,H,I1,ru,⟨rfl,λys hy=>by rw[I.list_inj hy hq];exact hx⟩,st',λb hb=>(hf b hb).1⟩⟩
 done:=by
  intro X hP hw hK hc i ω s σ H E I hf st hg;subst hP hw hK;obtain⟨xs,hq,hx⟩:=hg;obtain⟨its,rv,p,hz⟩:=I.list hq;obtain⟨f0,f1,f2,f3,f4,f5⟩:=hf it (by simp);have hl:=rv.length;exact wpAny_pyNext_list_end (I.ok.hd hc) st p.isList (by simp;omega) λh' eb=>⟨rfl,I.turned (t':=s.toks) (λb o hb e=>eb b o hb e) f0 f1 f3 f4 f5⟩
 self:=λ_ _ _ _ _ st h=>wpAny_pyIter_listiter st h
theorem Bw {P:Program}{w:World}{K:ja}{tg:Expr}(a it:Gj):yt P w K tg (Hl K a) [it] it (λi h=>h.IsTupleIter it a i) where
 mem:=by simp
 obj:=λi h st b hb=>by
  have e:b=it:=by simpa using hb
  subst e;obtain⟨o,e,c,d⟩:=st;exact⟨o,e,λv z=>by rw[d] at z;cases z⟩
 keep:=λi h h' st k=>st.at λo e=>k it (by simp) o e
 item:=by
  intro X hP hw hK hc i ω s σ H E I hf st hg;subst hP hw hK;obtain⟨xs,x,hq,hx⟩:=hg;obtain⟨its,rv,p,hz⟩:=I.tuple hq;obtain⟨u,hu,ru⟩:=rv.get hx;obtain⟨f0,f1,f2,f3,f4,f5⟩:=hf it (by simp);refine wpAny_pyNext_tuple_item st (show s.heap.IsTuple a its.toArray from p) (x:=u) (by simpa using hu) λh' st' sb=>?_;have I1:gA X ω σ H { s with heap:=h' }:=I.turned (t':=s.toks) (λb o hb e=>(sb.2 b hb).trans e) f0 f1 f3 f4 f5;obtain⟨o,e,c,d⟩:=id st';exact⟨u,rfl,zk (s:={ s with heap:=h' }) e c d (by decide) ⟨x,H,I1,ru,⟨rfl,λys hy=>by rw[I.tuple_inj hy hq];exact hx⟩,st',λb hb=>(hf b hb).1⟩⟩
 done:=by
  intro X hP hw hK hc i ω s σ H E I hf st hg;subst hP hw hK;obtain⟨xs,hq,hx⟩:=hg;obtain⟨its,rv,p,hz⟩:=I.tuple hq;obtain⟨f0,f1,f2,f3,f4,f5⟩:=hf it (by simp);have hl:=rv.length;exact wpAny_pyNext_tuple_end (I.ok.hd hc) st (show s.heap.IsTuple a its.toArray from p) (by simp;omega) λh' eb=>⟨rfl,I.turned (t':=s.toks) (λb o hb e=>eb b o hb e) f0 f1 f3 f4 f5⟩
 self:=λ_ _ _ _ _ st h=>wpAny_pyIter_tupleiter st h
theorem Bt {P:Program}{w:World}{K:ja}{tg:Expr}(it:Gj)(lo:Int)(n:Nat):yt P w K tg (CN lo n) [it] it (λi h=>IsRangeIter h it (lo+(i:Nat)*1) ((n:Int)-(i:Nat)) 1) where
 mem:=by simp
 obj:=λi h st b hb=>by
  have e:b=it:=by simpa using hb
  subst e;exact⟨_,st,λv z=>by
   have z':Data.fields _=Data.cell v:=z;cases z'⟩
 keep:=λi h h' st k=>k it (by simp) _ st
 item:=by
  intro X hP hw hK hc i ω s σ H E I hf st hg;subst hP hw hK;obtain⟨f0,f1,f2,f3,f4,f5⟩:=hf it (by simp);have W:=Walks.range (prog:=X.prog) (w:=X.w) (I.ok.hd hc) it lo 1 n;refine W.item i s _ _ hg st λv h' tk hv st' kk=>?_;obtain⟨t,rfl⟩:=hv;have I1:gA X ω σ H { s with heap:=h',toks:=tk }:=I.turned (λb o hb e=>kk b o (by simpa using hb) e) f0 f1 f3 f4 f5;refine⟨_,rfl,zk (s:={ s with heap:=h',toks:=tk }) (n:="range_iterator") st' rfl rfl (by decide) ⟨.int (lo+i),H,I1,⟨t,?_⟩,⟨rfl,rfl⟩,st',λb hb=>(hf b hb).1⟩⟩;rw[Int.mul_one]
 done:=by
  intro X hP hw hK hc i ω s σ H E I hf st hg;subst hP hw hK;obtain⟨f0,f1,f2,f3,f4,f5⟩:=hf it (by simp);exact wpAny_pyNext_range_end (I.ok.hd hc) st (by have:n<=i:=hg;omega) λh' eb=>⟨rfl,I.turned (t':=s.toks) (λb o hb e=>eb b o hb e) f0 f1 f3 f4 f5⟩
 self:=λ_ _ _ _ _ st h=>wpAny_pyIter_rangeiter st h
section
variable {X:Cx}{tg:Expr}
theorem zE {ω:List (Gj×Obj)}{σ:St}{H:Hp}{s:Gh}{R:It->Hp->Prop}{E:Gg->Gh->Prop}{lo hi:Int}{t u v:Tok}{tk:Nat}(I:gA X ω σ H s)(h1:-(2^62)<=lo)(h2:lo<2^62)(h3:-(2^62)<=hi)(h4:hi<2^62)
  (q:R (CN lo (hi-lo).toNat) H):wpAny (model X.prog X.w) X.A (pyIter (.ref s.heap.objs.size)) (PX X ω σ tg R) E { s with heap:=s.heap.push { cls:=.type "range",data:=.fields #[.int lo t,.int hi u,.int 1 v] },toks:=tk }:=by
 refine wpAny_pyIter_range (IsRange.new ..) (small_one h1 h2 h3 h4) ?_;have I1:gA X ω σ H { s with heap:=s.heap.push { cls:=.type "range",data:=.fields #[.int lo t,.int hi u,.int 1 v] },toks:=tk }:=I.kept λb o e=>jd _ e;refine⟨(s.heap.push { cls:=.type "range",data:=.fields #[.int lo t,.int hi u,.int 1 v] }).objs.size,[(s.heap.push { cls:=.type "range",data:=.fields #[.int lo t,.int hi u,.int 1 v] }).objs.size],_,_,H,rfl,
  I1.kept (t':=tk) λb o e=>jd _ e,Bt _ lo (hi-lo).toNat,?_,λb hb=>?_,q⟩
 .have e1:lo+((0:Nat):Int)*1=lo:=by simp
  have e2:(((hi-lo).toNat:Nat):Int)-((0:Nat):Int)=jP lo hi 1:=by rw[rangeSize_one];split<;>omega
  show IsRangeIter _ _ (lo+((0:Nat):Int)*1) ((((hi-lo).toNat:Nat):Int)-((0:Nat):Int)) 1;rw[e1,e2];exact jy _ rfl
 .have e:b=(s.heap.push { cls:=.type "range",data:=.fields #[.int lo t,.int hi u,.int 1 v] }).objs.size:=by simpa using hb
  subst e;exact I1.fpOk (jh _) (I1.hok.fresh (jh _))
def NZ (ta:TA):TI:=λσ H R=>ta σ H λvs H1=>∃ j:Int,vs=[.int j]/\-(2^62)<=j/\j<2^62/\R (CN 0 j.toNat) H1
def NR (ta:TA):TI:=λσ H R=>ta σ H λvs H1=>∃ i j:Int,vs=[.int i,.int j]/\(-(2^62)<=i/\i<2^62/\-(2^62)<=j/\j<2^62)/\R (CN i (j-i).toNat) H1
theorem BP {a:Expr}{ta:TA}{p pos:Pos}(hg:Gl X "range")(hm:X.mg "range"=Gb)(ha:PA X [a] ta)(hs:starEach [a] X.env=[(false,eval a X.env)]:=by rfl):PI X tg (.Call (.Name "range" p) [a] [] pos) (NZ ta):=by
 intro ω s σ H R I h;refine Call_ (pS I hg hm boot_range (PyProof.Rows.callWith_type1 (iq (ha pos ω s σ H _ I h) λus s1 ⟨vs,H1,I1,r1,q1⟩=>?_) hs rfl));obtain⟨j,e,q1,q2,q⟩:=q1;subst e;cases r1 with
 | cons r rr =>
  cases rr;obtain⟨t,rfl⟩:=r;exact call_range_1 (zE I1 (by omega) (by omega) q1 q2 (by simpa using q))
theorem BV {a b:Expr}{ta:TA}{p pos:Pos}(hg:Gl X "range")(hm:X.mg "range"=Gb)(ha:PA X [a,b] ta)(hs:starEach [a,b] X.env=[(false,eval a X.env),(false,eval b X.env)]:=by rfl)(hs2:starEach [b] X.env=[(false,eval b X.env)]:=by rfl) :
  PI X tg (.Call (.Name "range" p) [a,b] [] pos) (NR ta):=by
 intro ω s σ H R I h;refine Call_ (pS I hg hm boot_range (PyProof.Rows.callWith_type1 (iq (ha pos ω s σ H _ I h) λus s1 ⟨vs,H1,I1,r1,q1⟩=>?_) (by rw[hs,hs2]) (by rw[hs2];rfl)));obtain⟨i,j,e,⟨q1,q2,q3,q4⟩,q⟩:=q1;subst e;cases r1 with
 | cons r rr =>
  cases rr with
  | cons r' rr =>
   cases rr;obtain⟨t,rfl⟩:=r;obtain⟨t',rfl⟩:=r';exact call_range_2 (zE I1 q1 q2 q3 q4 q)
def UG (wi:TI)(g:TG)(tb:TS):TS:=λD σ H=>wi σ H λJ H1=>∃ W:Nat->Nat->St->Hp->Prop,(∃ m,W 0 m σ H1)/\∀ i m σ H,W i m σ H ->
 (J.stop i H/\D.nx σ H)\/(J.go i H/\∃ N:St->Hp->Prop,(∀ σ' H',N σ' H'->∃ m',m'<m/\W (i+1) m' σ' H')/\∀ x H',J.yld i H x H'->g x σ H' λσ2 H2=>tb { D with nx:=N,ct:=N,bk:=D.nx } σ2 H2)
def ss (fp:List Gj)(h:Heap):List (Gj×Obj):=fp.filterMap λb=>(h.get? b).map λo=>(b,o)
theorem rA {fp:List Gj}{h:Heap}{b:Gj}{o:Obj}(hb:b∈fp)(e:h.get? b=Ga o):(b,o)∈ss fp h:=uT.mpr ⟨b,hb,by rw[e];rfl⟩
theorem Cm {fp:List Gj}{h:Heap}{p:Gj×Obj}(hp:p∈ss fp h):p.1∈fp/\h.get? p.1=Ga p.2:=by
 obtain⟨b,hb,e⟩:=uT.mp hp;cases q:h.get? b with
 | none=>rw[q] at e;cases e
 | some o =>
  rw[q] at e;have e':(b,o)=p:=jD e;subst e';exact⟨hb,q⟩
theorem gA.pinned {ω:List (Gj×Obj)}{σ:St}{H:Hp}{s:Gh}{fp:List Gj}(I:gA X ω σ H s)(hf:∀ b∈fp,wc X ω H b)(ho:∀ b∈fp,∃ o,s.heap.get? b=Ga o/\∀ v,o.data≠.cell v):gA X (ω++ss fp s.heap) σ H s :=
 I.pins_of λp hp=>(jM.mp hp).elim (λz=>I.pin p (jK _ z)) λz=>by
  obtain⟨hb,e⟩:=Cm z;obtain⟨f0,f1,f2,_⟩:=hf p.1 hb;obtain⟨o,e',d⟩:=ho p.1 hb;rw[e] at e';cases e';exact⟨e,f0,f1,f2,d⟩
theorem gA.unpinned {ω pl:List (Gj×Obj)}{σ:St}{H:Hp}{s:Gh}(I:gA X (ω++pl) σ H s):gA X ω σ H s:=I.pins_of λp hp=>I.pin p (jK _ (v0 _ hp))
theorem ND {iter:Expr}{body:List Stmt}{wi:TI}{g:TG}{tb:TS}{pos:Pos}(hp:PassesOwn (model X.prog X.w) X.A X.env X.xe)(hc:X.calm=true)(hi:PI X tg iter wi)(hg:PG X tg g)(hb:pZ X body tb)
  (hs:∀ x,foldedSetIterable iter X.env x=pure x:=by intro _;rfl):PS X (.For tg iter body [] pos) (UG wi g tb):=by
 intro ω s σ H D I h;refine wpAny_For (iq (hi ω s σ H _ I h) λv s1 h1=>iq h1 λitv s2 h2=>?_) hs;obtain⟨it,fp,tn,J,H2,e,I2,T,st2,f2,W,⟨m0,w0⟩,turn⟩:=h2;subst e;have stat:∀ {H':Hp},(∀ b∈fp,H' b=Gb)->∀ b∈fp,wc X ω H' b:=λhn b hb=>⟨hn b hb,(f2 b hb).2⟩;refine codeAny_forLoop_any (λn s'=>∃ i σ' H',gA X ω σ' H' s'/\tn i s'.heap/\(∀ b∈fp,H' b=Gb)/\W i n σ' H') ?_ m0 ⟨0,σ,H2,I2,st2,λb hb=>(f2 b hb).1,w0⟩;rintro n s3 ⟨i,σ3,H3,I3,st3,fr3,w3⟩;rcases turn i n σ3 H3 w3 with ⟨stop,qn⟩|⟨go,N,hN,step⟩
 .refine wpAny_passesOwn hp (iq (T.done X rfl rfl rfl hc i ω s3 σ3 H3 X.xe I3 (stat fr3) st3 stop) λr s4 ⟨hr,I4⟩=>?_);subst hr;exact wpAny_execs_nil ⟨σ3,H3,I4,qn⟩
 .refine wpAny_passesOwn hp (iq (T.item X rfl rfl rfl hc i ω s3 σ3 H3 X.xe I3 (stat fr3) st3 go) λr s4 ⟨u,hr,h4⟩=>?_);subst hr;refine wpAny_passesOwn hp (iq h4 λ_ s5 ⟨x,H5,I5,r5,y5,st5,fr5⟩=>?_);have I5':=I5.pinned (stat fr5) (T.obj _ _ st5);refine wpAny_passesOwn hp (iq (hg _ s5 σ3 H5 x u _ I5' r5 (step x H5 y5)) λ_ s6 ⟨σ6,H6,I6,q6⟩=>?_);refine wpAny_passesOwn hp (iq (hb _ s6 σ6 H6 _ I6 q6) λf s7 q7=>?_);have again:∀ {σ7:St} {H7:Hp},gA X (ω++ss fp s5.heap) σ7 H7 s7->N σ7 H7->∃ m,m<n/\∃ i σ' H',gA X ω σ' H' s7/\tn i s7.heap/\(∀ b∈fp,H' b=Gb)/\W i m σ' H':=λ{σ7 H7} I7 n7=>by
   obtain⟨m',hm,w7⟩:=hN σ7 H7 n7;refine⟨m',hm,i+1,σ7,H7,I7.unpinned,T.keep _ _ _ st5 λb hb o e=>(I7.pin (b,o) (jK _ (jK _ (rA hb e)))).1,λb hb=>?_,w7⟩;obtain⟨o,e,d⟩:=T.obj _ _ st5 b hb;exact(I7.pin (b,o) (jK _ (jK _ (rA hb e)))).2.1
  cases f with
  | next=>obtain⟨σ7,H7,I7,n7⟩:=q7;exact again I7 n7
  | cont=>obtain⟨σ7,H7,I7,n7⟩:=q7;exact again I7 n7
  | brk=>obtain⟨σ7,H7,I7,q7⟩:=q7;exact⟨σ7,H7,I7.unpinned,q7⟩
  | ret v=>obtain⟨x7,σ7,H7,I7,r7,q7⟩:=q7;exact⟨x7,σ7,H7,I7.unpinned,r7,q7⟩
end
abbrev R2:=V->V->Hp->VK->Prop
def lI (X:Cx)(f:Gg->Gg->Sem Gg)(r:R2):Prop :=
 ∀ (ω:List (Gj×Obj)) (s:Gh) (σ:St) (H:Hp) (x y:V) (v u:Gg) (Q:VK),gA X ω σ H s->ia x v->ia y u->r x y H Q ->
  wpAny (model X.prog X.w) X.A (f v u) (EP X ω σ Q) X.xe s
def Kg (X:Cx)(f:Gg->Sem Gg)(r:V->Hp->VK->Prop):Prop :=
 ∀ (ω:List (Gj×Obj)) (s:Gh) (σ:St) (H:Hp) (x:V) (v:Gg) (Q:VK),gA X ω σ H s->ia x v->r x H Q ->
  wpAny (model X.prog X.w) X.A (f v) (EP X ω σ Q) X.xe s
def mh (X:Cx)(f:Gg)(r:List V->Hp->VK->Prop):Prop :=
 ∀ (ω:List (Gj×Obj)) (s:Gh) (σ:St) (H:Hp) (xs:List V) (us:List Gg) (Q:VK),gA X ω σ H s->hV xs us->r xs H Q ->
  wpAny (model X.prog X.w) X.A (call f us) (EP X ω σ Q) X.xe s
def Ud (X:Cx)(r:V->Hp->(Bool->Hp->Prop)->Prop):Prop :=
 ∀ (ω:List (Gj×Obj)) (s:Gh) (σ:St) (H:Hp) (x:V) (v:Gg) (Q:Bool->Hp->Prop),gA X ω σ H s->ia x v->r x H Q ->
  wpAny (model X.prog X.w) X.A (truthy v) (TP X ω σ Q) X.xe s
def CJ (r:R2)(ta tb:TE):TE:=λσ H Q=>ta σ H λx H1=>tb σ H1 λy H2=>r x y H2 Q
def ZC (r:V->Hp->VK->Prop)(ta:TE):TE:=λσ H Q=>ta σ H λx H1=>r x H1 Q
def rI (C:Int->Int->Prop)(g:Int->Int->V):R2:=λx y H Q=>∃ i j,x=.int i/\y=.int j/\C i j/\Q (g i j) H
def sV (g:Int->Int->V):R2:=λx y H Q=>∃ i j,x=.int i/\y=.int j/\Q (g i j) H
def rU (g:Int->V):V->Hp->VK->Prop:=λx H Q=>∃ i,x=.int i/\Q (g i) H
section
variable {X:Cx}{a b c:Expr}{ta tb tc:TE}{pos:Pos}
theorem Dj (ha:PE X a ta)(hb:PE X b tb){ω:List (Gj×Obj)}{s:Gh}{σ:St}{H:Hp}{R:V->V->Hp->Prop}(I:gA X ω σ H s)
  (h:ta σ H λx H1=>tb σ H1 λy H2=>R x y H2) {Q:Gg->Gh->Prop} {f:Gg->Gg->Sem Gg}
  (hf:∀ v u s2 x y H2,gA X ω σ H2 s2->ia x v->ia y u->R x y H2->wpAny (model X.prog X.w) X.A (f v u) Q X.xe s2) :
  wpAny (model X.prog X.w) X.A (eval a X.env) (λv s₁=>wpAny (model X.prog X.w) X.A (eval b X.env) (λu s₂=>wpAny (model X.prog X.w) X.A (f v u) Q X.xe s₂) X.xe s₁) X.xe s:=by
 refine iq (ha ω s σ H _ I h) λv s1 ⟨x,H1,I1,r1,q1⟩=>?_;refine iq (hb ω s1 σ H1 _ I1 q1) λu s2 ⟨y,H2,I2,r2,q2⟩=>?_;exact hf v u s2 x y H2 I2 r1 r2 q2
theorem On {op:Operator}{r:R2}(ho:lI X (binaryOp op) r)(ha:PE X a ta)(hb:PE X b tb):PE X (.BinOp a op b pos) (CJ r ta tb):=by
 intro ω s σ H Q I h;exact wpAny_BinOp (Dj ha hb I h λv u s2 x y H2 I2 rx ry q=>ho ω s2 σ H2 x y v u Q I2 rx ry q)
theorem Om {op:UnaryOp}{r:V->Hp->VK->Prop}(ho:Kg X (unaryOp op) r)(ha:PE X a ta):PE X (.UnaryOp op a pos) (ZC r ta):=by
 intro ω s σ H Q I h;exact UnaryOp_ (iq (ha ω s σ H _ I h) λv s1 ⟨x,H1,I1,r1,q1⟩=>ho ω s1 σ H1 x v Q I1 r1 q1)
theorem Fq {f:Gg->Gg->Sem Gg}{C:Int->Int->Prop}{g:Int->Int->Int}
  (rule:∀ (i j:Int) (t u:Tok) (s:Gh) (Q:Gg->Gh->Prop) (E:Gg->Gh->Prop),C i j->Q (.int (g i j) s.toks) { s with toks:=s.toks+1 }->wpAny (model X.prog X.w) X.A (f (.int i t) (.int j u)) Q E s) :
  lI X f (rI C λi j=>.int (g i j)):=by
 intro ω s σ H x y v u Q I rx ry h;obtain⟨i,j,rfl,rfl,hc,q⟩:=h;obtain⟨t,rfl⟩:=rx;obtain⟨t',rfl⟩:=ry;exact rule i j t t' s _ _ hc ⟨.int (g i j),H,I.tok _,⟨_,rfl⟩,q⟩
theorem Ad {f:Gg->Gg->Sem Gg}{g:Int->Int->Int}
  (rule:∀ (i j:Int) (t u:Tok) (s:Gh) (Q:Gg->Gh->Prop) (E:Gg->Gh->Prop),Q (.int (g i j) s.toks) { s with toks:=s.toks+1 }->wpAny (model X.prog X.w) X.A (f (.int i t) (.int j u)) Q E s) :
  lI X f (sV λi j=>.int (g i j)):=by
 intro ω s σ H x y v u Q I rx ry h;obtain⟨i,j,rfl,rfl,q⟩:=h;obtain⟨t,rfl⟩:=rx;obtain⟨t',rfl⟩:=ry;exact rule i j t t' s _ _ ⟨.int (g i j),H,I.tok _,⟨_,rfl⟩,q⟩
theorem Bg {f:Gg->Gg->Sem Gg}{g:Int->Int->Bool}
  (rule:∀ (i j:Int) (t u:Tok) (s:Gh) (Q:Gg->Gh->Prop) (E:Gg->Gh->Prop),Q (.bool (g i j)) s->wpAny (model X.prog X.w) X.A (f (.int i t) (.int j u)) Q E s) :
  lI X f (sV λi j=>.bl (g i j)):=by
 intro ω s σ H x y v u Q I rx ry h;obtain⟨i,j,rfl,rfl,q⟩:=h;obtain⟨t,rfl⟩:=rx;obtain⟨t',rfl⟩:=ry;exact rule i j t t' s _ _ ⟨.bl (g i j),H,I,rfl,q⟩
def Lg (i j:Int):Prop:=0<j/\j<1073741824
def MZ (i j:Int):Prop:=0<=j/\j<=1000000/\i.natAbs<2^64
def Bx (i j:Int):Prop:=(-(2^64)<i/\i<2^64)\/(-(2^64)<j/\j<2^64)
theorem Bx.ok {i j:Int}(h:Bx i j):IntMulOk i j:=by
 rcases h with ⟨h1,h2⟩|⟨h1,h2⟩
 .exact .of_left (intBits_le_64 h1 h2)
 .exact .of_right (intBits_le_64 h1 h2)
theorem LM:lI X (binaryOp .Add) (sV λi j=>.int (i+j)):=Ad λ_ _ _ _ _ _ _ q=>add_int q
theorem Lk:lI X (binaryOp .Sub) (sV λi j=>.int (i-j)):=Ad λ_ _ _ _ _ _ _ q=>sub_int q
theorem Iv:lI X (binaryOp .Mult) (rI Bx λi j=>.int (i*j)):=Fq λ_ _ _ _ _ _ _ hc q=>mul_int q hc.ok
theorem Gu:lI X (binaryOp .FloorDiv) (rI Lg λi j=>.int (i/j)):=Fq λi j _ _ _ _ _ hc q=>by
 have h1:(0:Int)<j:=hc.1;have h2:j<1073741824:=hc.2;exact floordiv_int (by omega) (by rw[Int.fdiv_eq_ediv_of_nonneg i (by omega)];exact q) (.inl (PyProof.noPylong_small (by omega)))
theorem Lh:lI X (binaryOp .Mod) (rI (λ_ j=>0<j) λi j=>.int (i%j)):=Fq λi j _ _ _ _ _ hc q=>by
 have h1:(0:Int)<j:=hc;exact mod_int' (by omega) (by rw[Int.fmod_eq_emod_of_nonneg i (by omega)];exact q)
theorem ML:lI X (binaryOp .Pow) (rI MZ λi j=>.int (i^j.toNat)):=Fq λ_ _ _ _ _ _ _ hc q=>pow_int_small hc.1 hc.2.1 hc.2.2 q
theorem HY:lI X (binaryOp .BitAnd) (sV λi j=>.int (uJ i j)):=Ad λ_ _ _ _ _ _ _ q=>and_int q
theorem Oi:lI X (binaryOp .BitOr) (sV λi j=>.int (Js i j)):=Ad λ_ _ _ _ _ _ _ q=>or_int q
theorem Kk:lI X (binaryOp .BitXor) (sV λi j=>.int (vK i j)):=Ad λ_ _ _ _ _ _ _ q=>xor_int q
theorem unI {f:Gg->Sem Gg}{g:Int->Int}
  (rule:∀ (i:Int) (t:Tok) (s:Gh) (Q:Gg->Gh->Prop) (E:Gg->Gh->Prop),Q (.int (g i) s.toks) { s with toks:=s.toks+1 }->wpAny (model X.prog X.w) X.A (f (.int i t)) Q E s) :
  Kg X f (rU λi=>.int (g i)):=by
 intro ω s σ H x v Q I rx h;obtain⟨i,rfl,q⟩:=h;obtain⟨t,rfl⟩:=rx;exact rule i t s _ _ ⟨.int (g i),H,I.tok _,⟨_,rfl⟩,q⟩
theorem HA:Kg X (unaryOp .USub) (rU λi=>.int (-i)):=unI λ_ _ _ _ _ q=>neg_int q
end
section
variable {X:Cx}{a b c:Expr}{ta tb tc:TE}{pos:Pos}
theorem zo:lI X (compareOp .Lt) (sV λi j=>.bl (decide (i<j))):=Bg λ_ _ _ _ _ _ _ q=>lt_int q
theorem wA:lI X (compareOp .LtE) (sV λi j=>.bl (decide (i<=j))):=Bg λ_ _ _ _ _ _ _ q=>le_int q
theorem EI:lI X (compareOp .Gt) (sV λi j=>.bl (decide (j<i))):=Bg λ_ _ _ _ _ _ _ q=>gt_int q
theorem DR:lI X (compareOp .GtE) (sV λi j=>.bl (decide (j<=i))):=Bg λ_ _ _ _ _ _ _ q=>ge_int q
theorem lI.or {f:Gg->Gg->Sem Gg}{r r':R2}(h:lI X f r)(h':lI X f r'):lI X f (λx y H Q=>r x y H Q\/r' x y H Q):=by
 intro ω s σ H x y v u Q I rx ry q;rcases q with q|q
 .exact h ω s σ H x y v u Q I rx ry q
 .exact h' ω s σ H x y v u Q I rx ry q
theorem CZ (b:Expr){op:CmpOp}(h:op≠.In:=by decide)(h2:op≠.NotIn:=by decide):behindInMarks op b=false:=by
 have e1:(op==CmpOp.In)=false:=by cases op<;>first|rfl|exact absurd rfl h
 have e2:(op==CmpOp.NotIn)=false:=by cases op<;>first|rfl|exact absurd rfl h2
 cases b<;>simp[behindInMarks,e1,e2]
theorem FX {op:CmpOp}{r:R2}(ho:lI X (compareOp op) r)(ha:PE X a ta)(hb:PE X b tb)(hm:behindInMarks op b=false):PE X (.Compare a [op] [b] pos) (CJ r ta tb):=by
 intro ω s σ H Q I h;exact wpAny_Compare1 (Dj ha hb I h λv u s2 x y H2 I2 rx ry q=>ho ω s2 σ H2 x y v u Q I2 rx ry q) hm
def Eg (t:TE):TT:=λσ H Q=>t σ H λx H'=>∃ k,x=.bl k/\Q k H'
theorem Go {op:CmpOp}{r:R2}(ho:lI X (compareOp op) r)(ha:PE X a ta)(hb:PE X b tb)(hm:behindInMarks op b=false):PT X (.Compare a [op] [b] pos) (Eg (CJ r ta tb)):=by
 intro ω s σ H Q I h;refine wpAny_isTrue_Compare1 (iq (ha ω s σ H _ I h) λv s1 ⟨x,H1,I1,r1,q1⟩=>iq (hb ω s1 σ H1 _ I1 q1) λu s2 ⟨y,H2,I2,r2,q2⟩ =>
  iq (ho ω s2 σ H2 x y v u _ I2 r1 r2 q2) λc s3 ⟨z,H3,I3,r3,k,e,q3⟩=>?_) hm
 subst e;cases r3;exact wpAny_truthy_bool ⟨H3,I3,q3⟩
def Cp (r r':R2)(ta tb tc:TE):TE:=λσ H Q=>ta σ H λx H1=>tb σ H1 λy H2=>r x y H2 λz H3=>∃ k,z=.bl k /\
 (if k=true then tc σ H3 λw' H4=>r' y w' H4 Q else Q (.bl false) H3)
theorem Dl {op op':CmpOp}{r r':R2}(ho:lI X (compareOp op) r)(ho':lI X (compareOp op') r')(ha:PE X a ta)(hb:PE X b tb)(hc:PE X c tc)
  (hm:lastMarks [op,op'] [b,c]=false:=by with_unfolding_all rfl):PE X (.Compare a [op,op'] [b,c] pos) (Cp r r' ta tb tc):=by
 intro ω s σ H Q I h;refine Compare_chain (iq (ha ω s σ H _ I h) λv s1 ⟨x,H1,I1,r1,q1⟩=>chain_link (iq (hb ω s1 σ H1 _ I1 q1) λu s2 ⟨y,H2,I2,r2,q2⟩ =>
  iq (ho ω s2 σ H2 x y v u _ I2 r1 r2 q2) λd s3 ⟨z,H3,I3,r3,k,e,q3⟩=>?_)) hm
 subst e;cases r3;refine wpAny_truthy_bool ?_;cases k with
 | false=>exact ite_ff ⟨.bl false,H3,I3,rfl,q3⟩
 | true=>exact ite_tt (chain_last (iq (hc ω s3 σ H3 _ I3 q3) λw' s4 ⟨z',H4,I4,r4,q4⟩=>ho' ω s4 σ H4 y z' u w' Q I4 r2 r4 q4))
theorem Dm {op op':CmpOp}{r r':R2}(ho:lI X (compareOp op) r)(ho':lI X (compareOp op') r')(ha:PE X a ta)(hb:PE X b tb)(hc:PE X c tc)
  (hm:lastMarks [op,op'] [b,c]=false:=by with_unfolding_all rfl):PT X (.Compare a [op,op'] [b,c] pos) (Eg (Cp r r' ta tb tc)):=by
 intro ω s σ H Q I h;refine isTrue_chain (iq (ha ω s σ H _ I h) λv s1 ⟨x,H1,I1,r1,q1⟩=>test_link (iq (hb ω s1 σ H1 _ I1 q1) λu s2 ⟨y,H2,I2,r2,q2⟩ =>
  iq (ho ω s2 σ H2 x y v u _ I2 r1 r2 q2) λd s3 ⟨z,H3,I3,r3,k,e,q3⟩=>?_)) hm
 subst e;cases r3;refine wpAny_truthy_bool ?_;cases k with
 | false =>
  obtain⟨k',e',q'⟩:=q3;cases e';exact ite_ff ⟨H3,I3,q'⟩
 | true =>
  refine ite_tt (test_last (iq (hc ω s3 σ H3 _ I3 q3) λw' s4 ⟨z',H4,I4,r4,q4⟩=>iq (ho' ω s4 σ H4 y z' u w' _ I4 r2 r4 q4) λd' s5 ⟨z2,H5,I5,r5,k2,e2,q5⟩=>?_));subst e2;cases r5;exact wpAny_truthy_bool ⟨H5,I5,q5⟩
def Dz (K:ja)(x:V)(H:Hp)(k:Bool):Prop :=
 match x with
 | .non=>k=false
 | .bl b=>k=b
 | .int i=>k=(i !=0)
 | .str y=>y.length<=sizeLine/\k=((y.length:Int) !=0)
 | .byt y=>y.size<=sizeLine/\k=((y.size:Int) !=0)
 | .ref p=>(∃ xs,lr K H p xs/\k=!xs.isEmpty)\/(∃ xs,mV K H p xs/\k=!xs.isEmpty)\/∃ kvs,H p=Ga (.dK kvs)/\k=!kvs.isEmpty
 | _=>False
theorem Bn {κ:Type}{kvs:List (κ×V)}{vs:List (κ×Gg)}(r:KV kvs vs):(!vs.isEmpty)=!kvs.isEmpty:=by
 cases r<;>rfl
theorem xz {xs:List V}{its:List Gg}(r:hV xs its):(!its.toArray.isEmpty)=!xs.isEmpty:=by
 cases r<;>simp
theorem wa:(sizeLine:Nat)<2^63:=by rw[sizeLine_eq];decide
theorem MW:Ud X (λx H Q=>∃ k,Dz X.K x H k/\Q k H):=by
 intro ω s σ H x v Q I rx h;obtain⟨k,e,q⟩:=h;have hl:=wa;have hs:sizeLine=16777216:=sizeLine_eq;cases x with
 | non =>
  cases rx;have e':k=false:=e;subst e';exact truthy_none ⟨H,I,q⟩
 | bl b =>
  cases rx;have e':k=b:=e;subst e';exact wpAny_truthy_bool ⟨H,I,q⟩
 | int i =>
  obtain⟨t,rfl⟩:=rx;have e':k=(i !=0):=e;subst e';exact PySem.P.truthy_int ⟨H,I,q⟩
 | str y =>
  obtain⟨t,rfl⟩:=rx;obtain⟨hy,e'⟩:y.length<=sizeLine/\k=((y.length:Int) !=0):=e;subst e';exact PySem.P.truthy_str (by omega) ⟨H,I.tok _,q⟩
 | byt y =>
  obtain⟨t,rfl⟩:=rx;obtain⟨hy,e'⟩:y.size<=sizeLine/\k=((y.size:Int) !=0):=e;subst e';exact PySem.W.truthy_bytes (by omega) ⟨H,I.tok _,q⟩
 | ref p =>
  cases rx;have e':(∃ xs,lr X.K H p xs/\k=!xs.isEmpty)\/(∃ xs,mV X.K H p xs/\k=!xs.isEmpty)\/∃ kvs,H p=Ga (.dK kvs)/\k=!kvs.isEmpty:=e;rcases e' with ⟨xs,hx,e'⟩|⟨xs,hx,e'⟩|⟨kvs,hx,e'⟩
  .subst e';obtain⟨its,r,pl,hz⟩:=I.list hx;have hlen:=r.length;exact wpAny_truthy_list pl.isList (by simp only[jo];omega) ⟨H,I.tok _,by rw[xz r];exact q⟩
  .subst e';obtain⟨its,r,pl,hz⟩:=I.tuple hx;have hlen:=r.length;exact truthy_tuple pl (by simp only[jo];omega) ⟨H,I.tok _,by rw[xz r];exact q⟩
  .subst e';obtain⟨hz,hS,vs,r,m⟩:kvs.length<=sizeLine/\(p==sysModules)=false/\∃ vs,KV kvs vs/\s.heap.DictOf (yn X.prog X.w) p vs:=I.hok p _ hx;have hlen:kvs.length=vs.length:=Paired.length r;exact wpAny_truthy_dict hS m (by omega) ⟨H,I.tok _,by rw[Bn r];exact q⟩
 | _=>exact(show False from e).elim
theorem Dy (ha:PE X a ta)(he:∀ whole,isTrue a X.env whole=(do let v <- whole;standAt a.pos;holding [v] (truthy v))) :
  PT X a (λσ H Q=>ta σ H λx H'=>∃ k,Dz X.K x H' k/\Q k H'):=by
 intro ω s σ H Q I h;exact isTrue_plain (iq (ha ω s σ H _ I h) λv s1 ⟨x,H1,I1,r1,q1⟩=>MW ω s1 σ H1 x v Q I1 r1 q1) (he _)
theorem Bi:lI X (binaryOp .Add) (λx y H Q=>∃ i j,x=.str i/\y=.str j/\i.length+j.length<=sizeLine/\Q (.str (i++j)) H):=by
 intro ω s σ H x y v u Q I rx ry h;obtain⟨i,j,rfl,rfl,hz,q⟩:=h;obtain⟨t,rfl⟩:=rx;obtain⟨t',rfl⟩:=ry;exact add_str (λt' tk=>⟨.str (i++j),H,I.tok _,⟨_,rfl⟩,q⟩) hz
theorem vals1 {x:V}{us:List Gg}(r:hV [x] us):∃ u,us=[u]/\ia x u:=by
 cases r with
 | cons r1 r2=>cases r2;exact⟨_,rfl,r1⟩
theorem Ey {x y:V}{us:List Gg}(r:hV [x,y] us):∃ u w',us=[u,w']/\ia x u/\ia y w':=by
 cases r with
 | cons r1 r2 =>
  cases r2 with
  | cons r3 r4=>cases r4;exact⟨_,_,rfl,r1,r3⟩
theorem BO (hc:X.calm=true):mh X (.builtin "min") (λxs H Q=>∃ i j,xs=[.int i,.int j]/\Q (.int (if j<i then j else i)) H):=by
 intro ω s σ H xs us Q I r h;obtain⟨i,j,rfl,q⟩:=h;obtain⟨u,w',rfl,⟨t,rfl⟩,⟨t',rfl⟩⟩:=Ey r;refine min_two_ints (I.ok.hd hc) λh' tk k=>⟨_,H,I.kept k,?_,q⟩;by_cases hj:j<i
 .rw[Ge hj,Ge hj];exact⟨_,rfl⟩
 .rw[Gf hj,Gf hj];exact⟨_,rfl⟩
end
structure Iq (h:Heap)(x dx C:Gj)(mA:Str->Option Gg):Prop where
 obj:h.get? x=Ga (uD C dx)
 ns:h.Ns1 dx mA
 ne:dx≠x
theorem CM {h:Heap}{dx:Gj}{mA:Str->Option Gg}(n:h.Ns1 dx mA):∃ od,h.get? dx=Ga od/\∀ name,Jg name od=Ga (mA name):=by
 obtain⟨o,es,ep,ho,hd,hk,_,hm⟩:=n;refine⟨o,ho,λname=>?_⟩;have e:=hm name;unfold nsFind findBy at e;rw[<- Array.find?_toList] at e;unfold Jg;rw[hd];dsimp only;split
 .rename_i y q;rw[q] at e;exact congrArg Ga e
 .rename_i q;rw[q] at e;have a:es.toList.any (·.refKey)=false:=by
   rw[List.any_eq_false];intro y hy;obtain⟨z,t,hkey⟩:=hk y (vm.mp hy);simp[DictEntry.refKey,hkey]
  have a':¬es.toList.any (·.refKey)=true:=by rw[a];exact jq
  rw[Gf a'];exact congrArg Ga e
theorem Iq.look {h:Heap}{x dx C:Gj}{mA:Str->Option Gg}(I:Iq h x dx C mA):∃ od,PySem.W.InstAt h x (uD C dx) C (Ga od)/\∀ name,Jg name od=Ga (mA name) :=
 let ⟨od,ho,hl⟩:=CM I.ns
 ⟨od,⟨I.obj,rfl,rfl,ho⟩,hl⟩
section
variable {prog:Program}{w:World}{A:Around}{E:Gg->Gh->Prop}{s:Gh}{K:ja}{x dx C f:Gj}{mA:Str->Option Gg}{name:Str}{v:Gg}
end
def ym (f:Str)(v:V):List (Str×V)->List (Str×V)
 | []=>[(f,v)]
 | (g,x)::r=>if g=f then(g,v)::r else(g,x)::ym f v r
theorem rL.some_of {v:V}{o:Option Gg}(r:rL (Ga v) o):∃ u,o=Ga u/\ia v u:=by
 cases o with
 | none=>exact(show False from r).elim
 | some u=>exact⟨u,rfl,r⟩
section
variable {P:Program}{w:World}{H H':Hp}{h h':Heap}{a C dx:Gj}{fs fs':List (Str×V)}
end
structure RO (K:ja)(C:Gj):Prop where
 pg:JU K C Str.empty=true
 hd:PySem.W.hasDictIn K C=true
 po:PySem.W.plainOver K C=true
 sa:PySem.W.findIn K (.ref C) "__setattr__"=Ga (Ga (.builtin "object.__setattr__"))
theorem RO.get {K:ja}{C:Gj}(c:RO K C)(f:Str):JU K C f=true:=c.pg
section
variable {X:Cx}{ω:List (Gj×Obj)}{σ:St}{H:Hp}{s:Gh}{a C dx:Gj}{fs:List (Str×V)}{f:Str}{v:V}{A:Around}{E:Gg->Gh->Prop}
theorem gA.made (I:gA X ω σ H s):gA X ω σ (upd (upd H s.heap.objs.size (.own (s.heap.objs.size+1))) (s.heap.objs.size+1) (.ins C s.heap.objs.size []))
  { s with heap:=(s.heap.push kT).push (uD C s.heap.objs.size) }:=by
 have e1:(s.heap.push kT).get? s.heap.objs.size=Ga kT:=jy s.heap rfl;have e2:((s.heap.push kT).push (uD C s.heap.objs.size)).get? (s.heap.objs.size+1)=Ga (uD C s.heap.objs.size):=by
  have:=jy (s.heap.push kT) (o:=uD C s.heap.objs.size) rfl
  rwa [vn] at this
 have e3:(s.heap.push kT).Ns s.heap.objs.size (λ_=>Gb):=⟨kT,#[],_,e1,rfl,(λe he=>absurd he (by simp)),λ_=>rfl⟩;have I1:=I.laid (a:=s.heap.objs.size) (o:=.own (s.heap.objs.size+1)) (h':=s.heap.push kT) (t':=s.toks) (λb u q=>jd _ q) (jh _) ⟨_,e1⟩;refine I1.laid (a:=s.heap.objs.size+1) (o:=.ins C s.heap.objs.size []) (t':=s.toks) (λb u q=>jd _ q) (JH (vn _ _)) ?_;have ne:s.heap.objs.size≠s.heap.objs.size+1:=jE (k8 _);refine⟨by rw[gF ne,gU],jO _,ne,e2,λ_=>Gb,(Heap.Ns1.of_empty e3).at λo q=>jd _ q,λ_=>True.intro,λy hy=>absurd rfl hy⟩
end
section
variable {X:Cx}{o e value:Expr}{f:Str}{pos pos' tpos:Pos}{ta tv:TE}
end
section
variable {X:Cx}{ω:List (Gj×Obj)}{σ:St}{H:Hp}{s:Gh}{A:Around}{E:Gg->Gh->Prop}{Q:Gg->Gh->Prop}{c:Gg}{b:Bool}
end
structure lu (k:Nat)(A:Around):Prop where
 hd:A.handled=Gb
 dp:A.depth+3*k+5<recursionLimit
 un:A.units+16*k+200<cLine
theorem lu.mono {j k:Nat}{A:Around}(r:lu k A)(h:j<=k):lu j A:=⟨r.hd,by have:=r.dp;omega,by have:=r.un;omega⟩
theorem lu.deeper {k:Nat}{A:Around}(r:lu (k+1) A)(ψ:Env):lu k (A.deeper ψ) :=
 ⟨r.hd,by have:=r.dp;show A.depth+1+3*k+5<_;omega,by have:=r.un;show A.units+3+16*k+200<_;omega⟩
theorem lu.depth {k:Nat}{A:Around}(r:lu k A):A.depth<recursionLimit:=by have:=r.dp;omega
def Iz:TA:=λ_ H Q=>Q [] H
def DM (ta:TE)(tr:TA):TA:=λσ H Q=>ta σ H λx H1=>tr σ H1 λxs H2=>Q (x::xs) H2
section
variable {X:Cx}{e:Expr}{es:List Expr}{te:TE}{t:TA}{pos:Pos}
theorem nV:PA X [] Iz:=λ_ _ _ _ H Q I h=>vM ⟨[],H,I,.nil,h⟩
theorem lF (ha:PE X e te)(hr:PA X es t)(hs:starEach (e::es) X.env=(false,eval e X.env)::starEach es X.env:=by rfl):PA X (e::es) (DM te t):=by
 intro pos ω s σ H Q I h;rw[hs];show wpAny _ _ (spliced ((false,eval e X.env)::backTo pos (starEach es X.env))) _ _ s;refine uU (iq (ha ω s σ H _ I h) λu s1 ⟨x,H1,I1,r1,q1⟩=>?_);exact iq (hr pos ω s1 σ H1 _ I1 q1) λus s2 ⟨xs,H2,I2,r2,q2⟩=>⟨x::xs,H2,I2,.cons r1 r2,q2⟩
def Uf (t:TA):TE:=λσ H Q=>t σ H λxs H1=>xs.length<=sizeLine/\∀ p,H1 p=Gb->Q (.ref p) (upd H1 p (.tup xs))
def Tr (t:TA):TE:=λσ H Q=>t σ H λxs H1=>xs.length<=sizeLine/\∀ p,H1 p=Gb->Q (.ref p) (upd H1 p (.lst xs))
theorem Mb {x1}(h:PA X es t):PE X (.Tuple es x1 pos) (Uf t):=by
 intro ω s σ H Q I hq;refine wpAny_Tuple_spliced (iq (h pos ω s σ H _ I hq) λus s1 ⟨xs,H1,I1,r,z,q⟩=>⟨by rw[<- r.length];exact z,?_⟩);have hf:H1 s1.heap.objs.size=Gb:=I1.hok.fresh (jh _);refine⟨.ref s1.heap.objs.size,upd H1 s1.heap.objs.size (.tup xs),I1.laid (t':=s1.toks) (λb u e=>jd _ e) (jh _) ?_,rfl,q _ hf⟩;exact⟨z,us,r,⟨_,jy _ rfl,rfl,_,rfl⟩⟩
theorem LF (h:PA X es t):PE X (.List es pos) (Tr t):=by
 intro ω s σ H Q I hq;refine wpAny_List_spliced (iq (h pos ω s σ H _ I hq) λus s1 ⟨xs,H1,I1,r,z,q⟩=>⟨by rw[<- r.length];exact z,?_⟩);have hf:H1 s1.heap.objs.size=Gb:=I1.hok.fresh (jh _);refine⟨.ref s1.heap.objs.size,upd H1 s1.heap.objs.size (.lst xs),I1.laid (t':=s1.toks) (λb u e=>jd _ e) (jh _) ?_,rfl,q _ hf⟩;exact⟨z,us,0,r,jy _ rfl⟩
end
abbrev Sp:=List V->Hp->VK->XK->Prop
abbrev rP:=List Env->Hp->Gh->XK->Gg->Gh->Prop
structure sd (P:Program)(w:World)(K:ja)(mg:Str->Option Gg)(base:Heap)(A:Around)(outer:List Env)(s:Gh)(H:Hp):Prop where
 frames:A.frames=Ga outer
 mod:Mod K mg base
 bs:∀ b o,base.get? b=Ga o->s.heap.get? b=Ga o/\H b=Gb
 bsz:base.objs.size<=s.heap.objs.size
 funs:s.heap.FunFrames base outer
 frf:∀ b∈rq outer,H b=Gb
 hok:HOk P w H s.heap
 bare:AllBare s.gens
def CE (outer:List Env)(P:Program)(w:World)(H:Hp)(s:Gh)(Q:VK)(u:Gg)(s':Gh):Prop :=
 ∃ v H',s'.os=s.os/\AllBare s'.gens/\Un (rq outer) [] H H' s.heap s'.heap/\HOk P w H' s'.heap/\ia v u/\Q v H'
def CR (CX:rP)(outer:List Env)(P:Program)(w:World)(H:Hp)(s:Gh)(Q:VK)(E:XK)(r:Result)(s':Gh):Prop :=
 match r with
 | .ok (.ret u)=>CE outer P w H s Q u s'
 | .ok _=>False
 | .error e=>CX outer H s E e s'
structure gN (P:Program)(w:World)(K:ja)(mg:Str->Option Gg)(base:Heap)(CX:rP)(k:Nat)(f:Gj)(fd:Gi)(ps:List Str)(sp:Sp):Prop where
 len:∀ vs H Q E,sp vs H Q E->vs.length=ps.length
 run:∀ (A:Around) (outer:List Env) (s:Gh) (H:Hp) (args:Args) (us:List Gg) (vs:List V) (Q:VK) (E:XK),lu k A->sd P w K mg base A outer s H->BindsTo s fd args (ps.zip us)->hV vs us->sp vs H Q E ->
  codeAny (model P w) A (.call (.ref f) args) (CR CX outer P w H s Q E) s
theorem gN.mono {P:Program}{w:World}{K:ja}{mg:Str->Option Gg}{base:Heap}{CX:rP}{j k:Nat}{f:Gj}{fd:Gi}{ps:List Str}{sp:Sp}(F:gN P w K mg base CX j f fd ps sp)(h:j<=k) :
  gN P w K mg base CX k f fd ps sp:=⟨F.len,λA outer s H args us vs Q E hr=>F.run A outer s H args us vs Q E (hr.mono h)⟩
theorem gN.imp {P:Program}{w:World}{K:ja}{mg:Str->Option Gg}{base:Heap}{CX:rP}{k:Nat}{f:Gj}{fd:Gi}{ps:List Str}{sp sp':Sp}(F:gN P w K mg base CX k f fd ps sp)
  (h:∀ vs H Q E,sp' vs H Q E->sp vs H Q E):gN P w K mg base CX k f fd ps sp' :=
 ⟨λvs H Q E q=>F.len vs H Q E (h _ _ _ _ q),λA outer s H args us vs Q E hr he hb hv hs=>F.run A outer s H args us vs Q E hr he hb hv (h _ _ _ _ hs)⟩
section
variable {X:Cx}{ω:List (Gj×Obj)}{σ:St}{H:Hp}{s s':Gh}
theorem gA.env0 (I:gA X ω σ H s):sd X.prog X.w X.K X.mg X.base X.A X.stack s H :=
 ⟨I.ok.frames,I.ok.mod,I.bs,jF I.ok.bsz I.sz,I.stack,I.stkFree,I.hok,I.bare⟩
theorem gA.after {Q:VK}{u:Gg}(I:gA X ω σ H s)(h:CE X.stack X.prog X.w H s Q u s'):EP X ω σ Q u s':=by
 obtain⟨v,H',os,bare,un,hok,r,q⟩:=h;obtain⟨hh,g,d,t,os'⟩:=s';obtain rfl:os'=s.os:=os;exact⟨v,H',I.call (h':=hh) (g':=g) (d':=d) (t':=t) (ch:=[]) un hok bare (λb z=>absurd z (by simp)),r,q⟩
end
def Oa (sp:Sp)(dvs:List V)(E:XK)(t:TA):TE:=λσ H Q=>t σ H λvs H1=>sp (vs++dvs) H1 Q E
def pN (K:ja)(fd:Gi)(ps:List Str)(ds:List Gg):Prop :=
 ∀ (s:Gh) (us:List Gg),K.In s.heap->(us++ds).length=ps.length->BindsTo s fd ⟨us,[]⟩ (ps.zip (us++ds))
theorem pN.all {K:ja}{fd:Gi}{ps:List Str}(h:∀ us:List Gg,us.length=ps.length->bindArgs fd ⟨us,[]⟩=pure (ps.zip us)):pN K fd ps []:=λs us _ hl=>by
 rw[kg] at hl ⊢;exact .of_eq (h us hl)
def Ae (CX:rP)(X:Cx)(E:XK):Prop:=∀ (ω:List (Gj×Obj)) (σ:St) (H:Hp) (s:Gh) (e:Gg) (s':Gh),gA X ω σ H s->CX X.stack H s E e s'->X.xe e s'
section
variable {X:Cx}{CX:rP}{k:Nat}{f C:Gj}{fd:Gi}{ps:List Str}{sp:Sp}{dvs:List V}{ds:List Gg}{E:XK}{x m:Str}{p pos apos:Pos}{e o:Expr}{es:List Expr}{ta:TE}{t:TA}
theorem NH {ω:List (Gj×Obj)}{σ:St}{H:Hp}{s:Gh}{Q:VK}{us:List Gg}{vs:List V}(F:gN X.prog X.w X.K X.mg X.base CX k f fd ps sp)(hr:lu k X.A)(hb:pN X.K fd ps ds)(hd:hV dvs ds)(hx:Ae CX X E)
  (I:gA X ω σ H s) (r:hV vs us) (h:sp (vs++dvs) H Q E):wpAny (model X.prog X.w) X.A (call (.ref f) us) (EP X ω σ Q) X.xe s:=by
 have r2:hV (vs++dvs) (us++ds):=r.append hd;have hl:(us++ds).length=ps.length:=by rw[<- r2.length];exact F.len _ _ _ _ h
 refine wpAny_call (codeAny_mono (F.run X.A X.stack s H ⟨us,[]⟩ (us++ds) (vs++dvs) Q E hr I.env0 (hb s us I.kIn hl) r2 h) λr s' hq=>?_);cases r with
 | error e=>exact hx ω σ H s e s' I hq
 | ok fl =>
  cases fl with
  | ret u=>exact I.after hq
  | next=>exact False.elim hq
  | brk=>exact False.elim hq
  | cont=>exact False.elim hq
theorem yp (F:gN X.prog X.w X.K X.mg X.base CX k f fd ps sp)(hr:lu k X.A)(hg:Gl X x)(hm:X.mg x=Ga (.ref f))(hk:ue X.K (.ref f)=true)(hb:pN X.K fd ps ds)(hd:hV dvs ds)(hx:Ae CX X E)
  (ha:PA X (e::es) t) (hdb:(x==("__debug__":Str))=false:=by decide) (he:starEach (e::es) X.env=(false,eval e X.env)::starEach es X.env:=by rfl) (hpl:(backTo pos (starEach es X.env)).any (·.1)=false:=by rfl) :
  PE X (.Call (.Name x p) (e::es) [] pos) (Oa sp dvs E t):=by
 intro ω s σ H Q I h;refine wpAny_Call_Name_kw (ya I hg hm ?_ hdb);refine Jw (h₀:=X.base) I.ok.mod.kin hk (iq (ha pos ω s σ H _ I h) λus s1 ⟨vs,H1,I1,r,q⟩=>⟨I1.kIn,?_⟩) he hpl;exact NH F hr hb hd hx I1 r q
end
section
variable {X:Cx}{CX:rP}{k:Nat}{f C:Gj}{fd:Gi}{ps ks:List Str}{sp:Sp}{E:XK}{x m:Str}{p pos apos kpos:Pos}{e o:Expr}{es:List Expr}{kws:List Keyword}{te ta:TE}{t tk:TA}{nm:Option Str}
variable {g:List Gg->List Gg->List Gg}{gV:List V->List V->List V}
end
structure gB (N P:List Str)(sc:Scope):Prop where
 kind:sc.kind=.function
 co:sc.isCoroutine=false
 gen:sc.isGenerator=false
 nd:N.Nodup
 pre:N.take P.length=P
 par:∀ x∈P,sc.names.lookup x=Ga .local\/sc.names.lookup x=Ga .cell
 nofree:∀ y∈sc.names,y.2≠.free
theorem yQ {kindOf:Str->Option NameKind}{x:Str}:∀ {binds:List (Str×Gg)} {m:Str->Option Gg},(∀ v,(x,v)∉binds)->bindL kindOf binds m x=m x
 | [],_,_=>rfl
 | (n,v)::r,m,h=>by
  unfold bindL;rw[yQ λw hw=>h w (jj _ hw)];split
  .have:x≠n:=by rintro rfl;exact h v jf
   simp[this]
  .rfl
theorem yY {kindOf:Str->Option NameKind}{x:Str}:∀ {binds:List (Str×Gg)} {m:Str->Option Gg},(∀ v,(x,v)∉binds)->bindC kindOf binds m x=m x
 | [],_,_=>rfl
 | (n,v)::r,m,h=>by
  unfold bindC;rw[yY λw hw=>h w (jj _ hw)];split
  .rfl
  .have:x≠n:=by rintro rfl;exact h v jf
   simp[this]
theorem yN {kindOf:Str->Option NameKind}{x:Str}{v:Gg}:∀ {P:List Str} {vs:List Gg} {i:Nat} {m:Str->Option Gg},P.Nodup->P[i]?=Ga x->vs[i]?=Ga v->kindOf x=Ga .local ->
  bindL kindOf (P.zip vs) m x=Ga v
 | [],_,_,_,_,h,_,_=>by simp at h
 | _::_,[],_,_,_,_,h,_=>by simp at h
 | p::P,w::vs,0,m,nd,h1,h2,hk=>by
  simp at h1 h2;subst h1;subst h2;show bindL kindOf ((p,w)::P.zip vs) m p=_;unfold bindL;rw[yQ λv hv=>(kh.mp nd).1 (qW hv).1,Ge hk];simp
 | p::P,w::vs,i+1,m,nd,h1,h2,hk=>by
  show bindL kindOf ((p,w)::P.zip vs) m x=_;unfold bindL;exact yN (i:=i) (kh.mp nd).2 (by simpa using h1) (by simpa using h2) hk
theorem yA {kindOf:Str->Option NameKind}{x:Str}{v:Gg}:∀ {P:List Str} {vs:List Gg} {i:Nat} {m:Str->Option Gg},P.Nodup->P[i]?=Ga x->vs[i]?=Ga v->kindOf x≠Ga .local ->
  bindC kindOf (P.zip vs) m x=Ga v
 | [],_,_,_,_,h,_,_=>by simp at h
 | _::_,[],_,_,_,_,h,_=>by simp at h
 | p::P,w::vs,0,m,nd,h1,h2,hk=>by
  simp at h1 h2;subst h1;subst h2;show bindC kindOf ((p,w)::P.zip vs) m p=_;unfold bindC;rw[yY λv hv=>(kh.mp nd).1 (qW hv).1,Gf hk];simp
 | p::P,w::vs,i+1,m,nd,h1,h2,hk=>by
  show bindC kindOf ((p,w)::P.zip vs) m x=_;unfold bindC;exact yA (i:=i) (kh.mp nd).2 (by simpa using h1) (by simpa using h2) hk
def start (N:List Str)(vs:List V):St:=vs.map Ga++List.replicate (N.length-vs.length) Gb
def pK (CX:rP)(P:Program)(w:World)(K:ja)(mg:Str->Option Gg)(base:Heap)(N:List Str)(qual:Str)(scope:Scope)(f:Gj)(cd:Gg)(A:Around)(outer:List Env)(s:Gh)(H:Hp)(E:XK):Cx where
 prog:=P
 w:=w
 K:=K
 mg:=mg
 base:=base
 A:=A.deeper (envOfC qual scope s.heap.objs.size f cd)
 N:=N
 s₀:=s
 H₀:=H
 env:=envOfC qual scope s.heap.objs.size f cd
 outer:=outer
 stack:=envOfC qual scope s.heap.objs.size f cd::outer
 ex:=[]
 calm:=true
 fn:=λ_=>true
 pn:=[]
 xe:=λe s'=>wpAny (model P w) (A.deeper (envOfC qual scope s.heap.objs.size f cd)) (leaving (envOfC qual scope s.heap.objs.size f cd) e) (λ_ s''=>CX outer H s E e s'') (λe' s''=>CX outer H s E e' s'') s'
theorem zG {sc:Scope}{n:Nat}{x:Str}(h:sc.names.lookup x=Ga .cell):∃ c,(cellsFrom n sc.names []).lookup x=Ga c:=by
 have q:=qM sc.names n [] (.inl h);exact qy.mp q
theorem CQ {CX:rP}{P:Program}{w:World}{K:ja}{mg:Str->Option Gg}{base:Heap}{N ps:List Str}{qual:Str}{scope:Scope}{f:Gj}{cd:Gg}{A:Around}{outer:List Env}{s s1:Gh}{H:Hp}{E:XK}{us:List Gg}{vs:List V}
  (S:gB N ps scope) (hd:A.handled=Gb) (e0:sd P w K mg base A outer s H) (hl:vs.length=ps.length) (r:hV vs us)
  (x:InCallC s s.heap.objs.size (bindL (envOfC qual scope s.heap.objs.size f cd).kindOf (ps.zip us) λ_=>Gb) (cellsFrom (s.heap.objs.size+1) scope.names []) (bindC (envOfC qual scope s.heap.objs.size f cd).kindOf (ps.zip us) λ_=>Gb) s1) :
  gA (pK CX P w K mg base N qual scope f cd A outer s H E) [] (start N vs) H s1:=by
 have hpl:ps.length<=N.length:=by have:=congrArg List.length S.pre;rw[vt] at this;omega
 obtain⟨h1,tk,rfl,hk⟩:=x.done;have noA:∀ b:Gj,b∉(pK CX P w K mg base N qual scope f cd A outer s H E).ex:=λb z=>absurd (show b∈([]:List Gj) from z) (by simp);refine⟨⟨e0.mod,S.kind,rfl,rfl,jh _,λy z c h1 h2=>?_,λy hy=>?_,λy c _ h=>?_,λ_=>hd,Jh e0.frames,.inr ⟨rfl,rfl⟩,λb z=>absurd z (noA b),e0.bs,e0.bsz,λb _ _=>noA b,λb z=>absurd z (noA b),e0.funs,e0.frf⟩,
  rfl,e0.bare,Un.kept hk,⟨_,x.toInCall.ns,λi y v h1 h2 h3=>?_⟩,λy c h=>⟨_,x.cell y c h⟩,e0.hok.fresh (jh _),λy c h=>?_,λp hp=>absurd (show p∈([]:List (Gj×Obj)) from hp) (by simp),e0.hok.kept hk,?_⟩
 .exact name_of_addr x.apart (kF h1) (kF h2)
 .have hy:scope.names.lookup y=Ga .cell\/scope.names.lookup y=Ga .free:=hy;rcases hy with hy|hy
  .exact zG hy
  .exact absurd rfl (S.nofree _ (kF hy))
 .exact uv (x.above y c (kF h))
 .have hi:i<vs.length:=by
   unfold start at h2;by_cases hi:i<vs.length
   .exact hi
   .rw[kU (by simpa using hi)] at h2;rw[uK] at h2;split at h2<;>cases h2
  have ha:vs[i]?=Ga v:=by
   unfold start at h2;rw[k7 (by simpa using hi),jA] at h2;cases e:vs[i]? with
   | none=>rw[e] at h2;cases h2
   | some a=>rw[e] at h2;cases h2;rfl
  obtain⟨u,hu,rv⟩:=r.get ha;have hp:ps[i]?=Ga y:=by
   rw[<- S.pre,List.getElem?_take_of_lt (by omega)];exact h1
  have ndP:ps.Nodup:=by rw[<- S.pre];exact S.nd.sublist (List.take_sublist _ _)
  refine⟨u,rv,?_⟩;rcases S.par y (j7 hp) with k|k
  .exact .inl ⟨k,yN ndP hp hu k⟩
  .obtain⟨c,e⟩:=zG (n:=s.heap.objs.size+1) k;refine .inr ⟨.inl k,c,e,?_⟩;have q:=x.cell y c e;rw[yA ndP hp hu (by show scope.names.lookup y≠_;rw[k];decide)] at q;exact q
 .exact e0.hok.fresh (uv (x.above y c (kF h)))
 .unfold start;show _=N.length;rw[jr,jb,Ja];omega
theorem Fh {CX:rP}{P:Program}{w:World}{K:ja}{mg:Str->Option Gg}{base:Heap}{k:Nat}{f:Gj}{name qual:Str}{params:Arguments}{body:List Stmt}{scope:Scope}{dV kV doc pm cdv ct oc:Gg}{an od:Option Gj}
  {osl:Array (Option Gg)} {N ps:List Str} {sp:Sp} (lk:K.lookup f=Ga ⟨oc,od,.func (kW name qual params body scope dV kV doc pm an cdv ct),osl⟩) (hcd:vN K cdv qual=true) (S:gB N ps scope)
  (len:∀ vs H Q E,sp vs H Q E->vs.length=ps.length)
  (hbody:∀ (A:Around) (outer:List Env) (s:Gh) (H:Hp) (vs:List V) (Q:VK) (E:XK),lu k (A.deeper (envOfC qual scope s.heap.objs.size f cdv))->sp vs H Q E ->
   ∃ t,pZ (pK CX P w K mg base N qual scope f cdv A outer s H E) body t/\t { nx:=λ_ H'=>Q .non H',rt:=Q } (start N vs) H) :
  gN P w K mg base CX (k+1) f (kW name qual params body scope dV kV doc pm an cdv ct) ps sp:=by
 refine⟨len,λA outer s H args us vs Q E hr e0 hb r hsp=>?_⟩;have hl:=len _ _ _ _ hsp;have KX:K.In s.heap:=e0.mod.kin.keeps λb o e=>(e0.bs b o e).1;have lim:s.heap.NoLimit:=e0.mod.nolimit.keeps λb o e=>(e0.bs b o e).1;have hkind:∀ y∈ps.zip us,scope.names.lookup y.1=Ga .local\/(scope.names.lookup y.1=Ga .cell/\((cellsFrom (s.heap.objs.size+1) scope.names []).lookup y.1).isSome=true):=λ⟨n,v⟩ hy=>by
  rcases S.par n (qW hy).1 with q|q
  .exact .inl q
  .exact .inr ⟨q,qM _ _ _ (.inl q)⟩
 refine codeAny_call_function hr.depth (KX _ _ lk) rfl S.co S.gen rfl (PySem.W.codeRec_of KX hcd) (hb _ _ _ _ ?_);refine wpAny_newFunctionEnv_cells S.kind hkind λψ he s1 x=>?_;subst he;refine⟨lim.keeps x.toInCall.keep,codeAny_func ?_⟩;obtain⟨t,ht,hq⟩:=hbody A outer s H vs Q E (hr.deeper _) hsp;have I:gA (pK CX P w K mg base N qual scope f cdv A outer s H E) [] (start N vs) H s1:=CQ S hr.hd e0 hl r x;refine wpAny_mono (ht [] s1 (start N vs) H _ I hq) (λfl s' hs=>?_) λe s' hs=>hs;have fin:∀ {σ':St} {H':Hp} {v:V} {u:Gg},gA (pK CX P w K mg base N qual scope f cdv A outer s H E) [] σ' H' s'->ia v u->Q v H'->CE outer P w H s Q u s' :=
  λ{σ' H' v u} J rv q=>⟨v,H',J.os,J.bare,J.base,J.hok,rv,q⟩
 cases fl with
 | ret u =>
  obtain⟨v,σ',H',J,rv,q⟩:=hs;exact fin J rv q
 | next =>
  obtain⟨σ',H',J,q⟩:=hs;exact fin (v:=V.non) (u:=km) J rfl q
 | brk =>
  obtain⟨_,_,_,q⟩:=hs;exact False.elim q
 | cont =>
  obtain⟨_,_,_,q⟩:=hs;exact False.elim q
section
variable {X:Cx}{x:Str}{p pos:Pos}{e:Expr}{es:List Expr}{t:TA}{id T:String}{r:List V->Hp->VK->Prop}
def Ov (r:List V->Hp->VK->Prop)(t:TA):TE:=λσ H Q=>t σ H λvs H1=>r vs H1 Q
theorem wW (hc:mh X (.builtin id) r)(hg:Gl X x)(hm:X.mg x=Gb)(hv:bootBuiltins x=Ga (.builtin id))(ha:PA X (e::es) t)(hn:x≠"__name__":=by decide)(hdb:(x==("__debug__":Str))=false:=by decide)
  (he:starEach (e::es) X.env=(false,eval e X.env)::starEach es X.env:=by rfl) (hpl:(backTo pos (starEach es X.env)).any (·.1)=false:=by rfl):PE X (.Call (.Name x p) (e::es) [] pos) (Ov r t):=by
 intro ω s σ H Q I h;refine wpAny_Call_Name_kw (pS I hg hm hv ?_ hn hdb);exact PyProof.Rows.callWith_builtin1 (iq (ha pos ω s σ H _ I h) λus s1 ⟨vs,H1,I1,r1,q1⟩=>hc ω s1 σ H1 vs us Q I1 r1 q1) he hpl
theorem CD (hc:mh X (.type T) r)(hg:Gl X x)(hm:X.mg x=Gb)(hv:bootBuiltins x=Ga (.type T))(ha:PA X (e::es) t)(hn:x≠"__name__":=by decide)(hdb:(x==("__debug__":Str))=false:=by decide)
  (he:starEach (e::es) X.env=(false,eval e X.env)::starEach es X.env:=by rfl) (hpl:(backTo pos (starEach es X.env)).any (·.1)=false:=by rfl):PE X (.Call (.Name x p) (e::es) [] pos) (Ov r t):=by
 intro ω s σ H Q I h;refine wpAny_Call_Name_kw (pS I hg hm hv ?_ hn hdb);exact PyProof.Rows.callWith_type1 (iq (ha pos ω s σ H _ I h) λus s1 ⟨vs,H1,I1,r1,q1⟩=>hc ω s1 σ H1 vs us Q I1 r1 q1) he hpl
end
end L2
namespace HT
open PySem PyProof.Rows
section
open PySem.SeqAt
open PySem.AutoSeq1 (wpAny_loadPart')
open PySem.MeetsSeq PySem.MeetsSeq2 PySem.MeetsSeq3
end
section
variable {prog:Program}{w:World}{A:Around}{E:Gg->Gh->Prop}{s:Gh}
theorem cat_tup {t b:Gj}{vs ws:List Gg}{Q:Gg->Gh->Prop}(ht:IsTup s.heap t vs.toArray)(hb:IsTup s.heap b ws.toArray)(hv:vs≠[])
  (h1:ws=[]->Q (.ref t) s) (h2:ws≠[]->Q (.ref s.heap.objs.size) { s with heap:=s.heap.push { cls:=.type "tuple",data:=.seq (vs++ws).toArray } })
  (hsz:vs.length+ws.length<=sizeLine):wpAny (model prog w) A (binaryOp .Add (.ref t) (.ref b)) Q E s:=by
 obtain⟨⟨cls,dd,data,sl⟩,ho,hc,n,hd⟩:=id ht;obtain⟨⟨cls2,dd2,data2,sl2⟩,ho2,hc2,n2,hd2⟩:=id hb;simp only at hc hd hc2 hd2;subst hc hd hc2 hd2;have e:vs.toArray++ws.toArray=(vs++ws).toArray:=by simp
 by_cases hw:ws=[]
 .exact concat_meets ⟨_,ho,rfl⟩ ⟨_,ho2,rfl⟩ noFill_tuple_add seq_tuple_add vO vG (vB _ _)
   (tuple_addW1 t b vs.toArray ws.toArray n n2 dd dd2 sl sl2 (by simpa using hv) (by simp[hw])) ⟨ho,ho2,h1 hw⟩
 .refine concat_meets ⟨_,ho,rfl⟩ ⟨_,ho2,rfl⟩ noFill_tuple_add seq_tuple_add vO vG (vB _ _)
   (tuple_addW2 t b vs.toArray ws.toArray n n2 dd dd2 sl sl2 (by simpa using hv) (by simpa using hw) (by rw[jo,jo];exact hsz)) ⟨ho,ho2,?_⟩
  rw[e];exact h2 hw
def sIx (n d:Nat):Option Int->Nat
 | none=>d
 | some v=>if v<0 then(v+(n:Int)).toNat else min v.toNat n
theorem sIx_none (n d:Nat):sIx n d Gb=d:=rfl
theorem sIx_nat (n d k:Nat):sIx n d (Ga (k:Int))=min k n:=by
 show(if (k:Int)<0 then((k:Int)+(n:Int)).toNat else min (k:Int).toNat n)=min k n;rw[Gf (by omega),ka]
theorem Ip (n d:Nat)(hd:d<=n)(o:Option Int):sIx n d o<=n:=by
 cases o with
 | none=>exact hd
 | some v =>
  show(if v<0 then(v+(n:Int)).toNat else min v.toNat n)<=n;by_cases hv:v<0
  .rw[Ge hv];omega
  .rw[Gf hv];exact Nat.min_le_right _ _
theorem AG (v:Int)(n d:Nat):(if v<0 then max (v+(n:Int)) 0 else min v (n:Int))=((sIx n d (Ga v):Nat):Int):=by
 show(if v<0 then max (v+(n:Int)) 0 else min v (n:Int))=(((if v<0 then(v+(n:Int)).toNat else min v.toNat n):Nat):Int);by_cases hv:v<0
 .simp only[Ge hv];omega
 .simp only[Gf hv];omega
theorem Bm (lo hi:Option Int)(n:Nat):vz lo hi 1 (n:Int)=(((sIx n 0 lo:Nat):Int),((sIx n n hi:Nat):Int)):=by
 have h1:¬((1:Int)<0):=by omega
 unfold vz;simp only[h1,if_false];refine Prod.ext ?_ ?_
 .cases lo with
  | none=>rfl
  | some v=>exact AG v n 0
 .cases hi with
  | none=>rfl
  | some v=>exact AG v n n
theorem Br (i j:Nat):uC (i:Int) (j:Int) 1=j-i:=by
 unfold uC;have h1:(1:Int)>0:=by omega
 simp only[h1,if_true,Int.ediv_one];split<;>omega
theorem xQ {v:Gg}{o:Option Int}{Q:Option Int->Gh->Prop}(p:IsPart v o)(h:Q o s):wpAny (model prog w) A (Builtin.Slice.slicePartIndex v) Q E s:=by
 cases p with
 | none=>exact slicePart_none h
 | int i t=>exact slicePart_int h
theorem wT {sl:Gj}{vl vu:Gg}{lo hi:Option Int}{n:Nat}{Q:Int×Int×Nat->Gh->Prop}(hs:s.heap.IsSliceOf sl vl vu .none)(pl:IsPart vl lo)(pu:IsPart vu hi)
  (h:Q (((sIx n 0 lo:Nat):Int),1,sIx n n hi-sIx n 0 lo) s):wpAny (model prog w) A (qk (.ref sl) (pure (n:Int))) Q E s:=by
 obtain⟨os,hos,hcs,hds⟩:=id hs;unfold qk Builtin.Slice.sliceFields;refine gk (gk (wpAny_field hos hds (x:=vl) rfl (gk (wpAny_field hos hds (x:=vu) rfl (gk (wpAny_field hos hds (x:=.none) rfl (gm ?_)))))));refine gk (slicePart_none ?_);show wpAny _ _ (if ((1:Int)==0)=true then _ else _) _ _ s;rw[Gf (by decide)];refine gk (xQ pl (gk (xQ pu (gk (gm ?_)))));show wpAny _ _ (match vz lo hi 1 (n:Int) with|(lo,hi)=>pure (lo,(1:Int),uC lo hi 1)) _ _ s;rw[Bm lo hi n];show wpAny _ _ (pure (((sIx n 0 lo:Nat):Int),(1:Int),uC ((sIx n 0 lo:Nat):Int) ((sIx n n hi:Nat):Int) 1)) _ _ s;rw[Br];exact gm h
theorem Dx (xs:Array Gg)(i k:Nat):((je k).filterMap λ(m:Nat)=>xs[((i:Int)+(m:Int)*1).toNat]?).toArray=((xs.toList.drop i).take k).toArray:=by
 have e:(λ(m:Nat)=>xs[((i:Int)+(m:Int)*1).toNat]?)=λm=>xs[i+m]?:=by
  funext m
  have:((i:Int)+(m:Int)*1).toNat=i+m:=by omega
  rw[this]
 rw[e];have:=pick_run xs i k;rw[List.filterMap_map] at this;have e2:((λx=>xs[x]?)∘λx=>i+x)=λm=>xs[i+m]?:=rfl;rw[e2] at this;rw[this]
theorem getItem_tuple_cut {t sl:Gj}{items:Array Gg}{vl vu:Gg}{lo hi:Option Int}{Q:Gg->Gh->Prop}(ht:IsTup s.heap t items)(hs:s.heap.IsSliceOf sl vl vu .none)(pl:IsPart vl lo)(pu:IsPart vu hi)
  (hw:¬(sIx items.size 0 lo=0/\sIx items.size items.size hi=items.size))
  (h:Q (.ref s.heap.objs.size) { s with heap:=s.heap.push { cls:=.type "tuple",data:=.seq ((items.toList.drop (sIx items.size 0 lo)).take (sIx items.size items.size hi-sIx items.size 0 lo)).toArray } })
  (hsz:items.size<=sizeLine):wpAny (model prog w) A (getItem (.ref t) (.ref sl)) Q E s:=by
 have htake:sizeOk (.seq ((items.toList.drop (sIx items.size 0 lo)).take (sIx items.size items.size hi-sIx items.size 0 lo)).toArray):=by
  show((items.toList.drop (sIx items.size 0 lo)).take (sIx items.size items.size hi-sIx items.size 0 lo)).toArray.size<=sizeLine;rw[jo,vt,vU,kw];omega
 have hj:sIx items.size items.size hi<=items.size:=Ip _ _ (jh _) hi;obtain⟨os,hos,hcs,hds⟩:=id hs;have hTs:s.TypeIs (.ref sl) "slice":=⟨os,hos,hcs⟩;unfold getItem
 try with_reducible refine wpAny_holding ?_
 first|refine gk (gm ?_)|skip
 refine gk (wpAny_sequenceKey ht.typeIs (by decide) ?_);refine gk (wpAny_callSpecial?_slot (name:=jC "__getitem__") ht.typeIs PyProof.Rows.slot_tuple_getitem
  (wpAny_call_entry PyProof.Rows.slot_tuple_getitem ht.typeIs entry_tuple_getitem ?_ (args_tuple_getitem _ _)))
 show wpAny _ _ (ql (.ref t) >>= _) _ _ s;refine gk (tupleItemsOf_ ht ?_);refine gk (wpAny_typeOf hTs ?_);rw[Ge (by decide)];refine gk (wT hs pl pu ?_);have hno:¬((((sIx items.size 0 lo:Nat):Int)==0&&(1:Int)==1&&(sIx items.size items.size hi-sIx items.size 0 lo)==items.size)=true):=by
  intro q;rw[jx,jx] at q;have q1:((sIx items.size 0 lo:Nat):Int)=0:=eq_of_beq q.1.1;have q2:sIx items.size items.size hi-sIx items.size 0 lo=items.size:=eq_of_beq q.2;exact hw ⟨by omega,by omega⟩
 show wpAny _ _ (if (((sIx items.size 0 lo:Nat):Int)==0&&(1:Int)==1&&(sIx items.size items.size hi-sIx items.size 0 lo)==items.size)=true then _ else _) _ _ s;rw[Gf hno,Dx]
 first
  | exact gk (m:=uH _) (wpAny_newObj_type (gm ⟨_,rfl,gm h⟩) htake)
  | exact gk (m:=uH _) (wpAny_newObj_type (gk (gm (gm ⟨_,rfl,gm h⟩))) htake)
  | exact gk (gk (m:=uH _) (wpAny_newObj_type (gm (gm ⟨_,rfl,gm h⟩)) htake))
  | exact gk (gk (m:=uH _) (wpAny_newObj_type (gm ⟨_,rfl,gm h⟩) htake))
end
end HT
namespace L2
open PySem PySem.Spec PyProof.Rows
abbrev TO:=St->Hp->(Option Int->Hp->Prop)->Prop
def PO (X:Cx)(e:Option Expr)(t:TO):Prop :=
 ∀ (ω:List (Gj×Obj)) (s:Gh) (σ:St) (H:Hp) (Q:Option Int->Hp->Prop),gA X ω σ H s->t σ H Q ->
  wpAny (model X.prog X.w) X.A (evalPart e X.env) (λu s'=>∃ o H',gA X ω σ H' s'/\IsPart u o/\Q o H') X.xe s
def FM:TO:=λ_ H Q=>Q Gb H
def Oh (t:TE):TO:=λσ H Q=>t σ H λx H1=>∃ i,x=.int i/\Q (Ga i) H1
theorem sQ {ns:List Int}:∀ {us:List Gg},hV (ns.map V.int) us->IntsAre us ns:=by
 induction ns with
 | nil=>intro us r;rw[JI] at r;cases r;exact .nil
 | cons n ns ih =>
  intro us r;rw[jI] at r;cases r with
  | cons r1 r2 =>
   obtain⟨t,e⟩:=r1;subst e;exact .cons n t (ih r2)
section
variable {X:Cx}{e:Expr}{te:TE}{lo hi:Option Expr}{tl th:TO}{pos p2:Pos}
theorem FQ:PO X Gb FM:=by
 intro ω s σ H Q I h;rw[evalPart_none];exact gm ⟨Gb,H,I,.none,h⟩
theorem FN (h:PE X e te):PO X (Ga e) (Oh te):=by
 intro ω s σ H Q I hw;rw[evalPart_some];refine iq (h ω s σ H _ I hw) λu s1 ⟨x,H1,I1,r1,q1⟩=>?_;obtain⟨i,rfl,q⟩:=q1;obtain⟨t,rfl⟩:=r1;exact⟨Ga i,H1,I1,.int i t,q⟩
def Am (X:Cx)(r:V->Option Int->Option Int->Hp->VK->Prop):Prop :=
 ∀ (ω:List (Gj×Obj)) (s:Gh) (σ:St) (H:Hp) (x:V) (v vl vu:Gg) (lo hi:Option Int) (sl:Gj) (Q:VK),gA X ω σ H s->ia x v->s.heap.IsSliceOf sl vl vu .none->IsPart vl lo->IsPart vu hi->r x lo hi H Q ->
  ∃ T id,typeLookup (.type T) "__getitem__"=pure (Ga (.builtin id))/\s.TypeIs v T/\wpAny (model X.prog X.w) X.A (getItem v (.ref sl)) (EP X ω σ Q) X.xe s
theorem Am.or {r r':V->Option Int->Option Int->Hp->VK->Prop}(h:Am X r)(h':Am X r'):Am X (λx lo hi H Q=>r x lo hi H Q\/r' x lo hi H Q):=by
 intro ω s σ H x v vl vu lo hi sl Q I rx hs pl pu q;rcases q with q|q
 .exact h ω s σ H x v vl vu lo hi sl Q I rx hs pl pu q
 .exact h' ω s σ H x v vl vu lo hi sl Q I rx hs pl pu q
def Wd (r:V->Option Int->Option Int->Hp->VK->Prop)(te:TE)(tl th:TO):TE:=λσ H Q=>te σ H λx H1=>tl σ H1 λl H2=>th σ H2 λu H3=>r x l u H3 Q
theorem Dv {r:V->Option Int->Option Int->Hp->VK->Prop}(hr:Am X r)(he:PE X e te)(hl:PO X lo tl)(hu:PO X hi th):PE X (.Subscript e (.Slice lo hi Gb p2) pos) (Wd r te tl th):=by
 intro ω s σ H Q I h;refine Subscript_ (iq (he ω s σ H _ I h) λv s1 ⟨x,H1,I1,r1,q1⟩=>?_);refine wpAny_Slice (iq (hl ω s1 σ H1 _ I1 q1) λvl s2 ⟨l,H2,I2,pl,q2⟩=>iq (hu ω s2 σ H2 _ I2 q2) λvu s3 ⟨u,H3,I3,pu,q3⟩=>?_);rw[evalPart_none];refine gm ?_;have I4:gA X ω σ H3 { s3 with heap:=s3.heap.push { cls:=.type "slice",data:=.fields #[vl,vu,.none] } }:=I3.kept (t':=s3.toks) λb ob q=>jd _ q;obtain⟨T,id,hT,ht,hg⟩:=hr ω { s3 with heap:=s3.heap.push { cls:=.type "slice",data:=.fields #[vl,vu,.none] } } σ H3 x v vl vu l u s3.heap.objs.size Q I4 r1 (Heap.IsSliceOf.new ..) pl pu q3;show wpAny (model X.prog X.w) X.A (subscriptTail e (.Slice lo hi Gb p2) v (.ref s3.heap.objs.size)) (EP X ω σ Q) X.xe { s3 with heap:=s3.heap.push { cls:=.type "slice",data:=.fields #[vl,vu,.none] } };exact tail_any (ops:=[.ref s3.heap.objs.size,v]) ht hT hg (by with_unfolding_all rfl)
def sg (xs:List V)(lo hi:Option Int):List V:=(xs.drop (HT.sIx xs.length 0 lo)).take (HT.sIx xs.length xs.length hi-HT.sIx xs.length 0 lo)
theorem wJ (xs:List V)(lo hi:Option Int):(sg xs lo hi).length<=xs.length:=by
 unfold sg;rw[vt,vU];omega
def Uv (K:ja):V->Option Int->Option Int->Hp->VK->Prop:=λx lo hi H Q=>∃ a xs,x=.ref a/\mV K H a xs /\
 ¬(HT.sIx xs.length 0 lo=0/\HT.sIx xs.length xs.length hi=xs.length)/\∀ p,H p=Gb->Q (.ref p) (upd H p (.tup (sg xs lo hi)))
theorem Kf:Am X (Uv X.K):=by
 intro ω s σ H x v vl vu lo hi sl Q I rx hs pl pu h;obtain⟨a,xs,rfl,hx,hw,q⟩:=h;cases rx;obtain⟨its,r,ht,hz⟩:=I.tuple hx;have hlen:its.toArray.size=xs.length:=by rw[jo];exact r.length.symm
 refine⟨"tuple",_,PyProof.Rows.slot_tuple_getitem.lookup,ht.typeIs,?_⟩;refine HT.getItem_tuple_cut ht hs pl pu (by rw[hlen];exact hw) ?_ (by rw[hlen];exact hz);rw[hlen];refine⟨.ref s.heap.objs.size,_,I.laid (t':=s.toks) (o:=.tup (sg xs lo hi)) (λb ob q=>jd _ q) (jh _) ?_,rfl,q _ (I.hok.fresh (jh _))⟩;exact⟨jF (wJ xs lo hi) hz,_,(r.drop (HT.sIx xs.length 0 lo)).take (HT.sIx xs.length xs.length hi-HT.sIx xs.length 0 lo),IsTup.new _ _⟩
def Og (K:ja):R2:=λx y H Q=>∃ a b xs ys,x=.ref a/\y=.ref b/\mV K H a xs/\mV K H b ys/\xs≠[]/\xs.length+ys.length<=sizeLine /\
 (ys=[]->Q (.ref a) H)/\(ys≠[]->∀ p,H p=Gb->Q (.ref p) (upd H p (.tup (xs++ys))))
theorem hV.nil_iff {xs:List V}{us:List Gg}(r:hV xs us):us=[]↔xs=[]:=by
 cases r with
 | nil=>simp
 | cons _ _=>simp
theorem FU:lI X (binaryOp .Add) (Og X.K):=by
 intro ω s σ H x y v u Q I rx ry h;obtain⟨a,b,xs,ys,rfl,rfl,ha,hb,hx,hz,q1,q2⟩:=h;cases rx;cases ry;obtain⟨its,r1,p1,_⟩:=I.tuple ha;obtain⟨its2,r2,p2,_⟩:=I.tuple hb;refine HT.cat_tup p1 p2 (λz=>hx (r1.nil_iff.mp z)) (λz=>⟨.ref a,H,I,rfl,q1 (r2.nil_iff.mp z)⟩) (λz=>?_) (by rw[<- r1.length,<- r2.length];exact hz);refine⟨.ref s.heap.objs.size,_,I.laid (t':=s.toks) (o:=.tup (xs++ys)) (λb ob q=>jd _ q) (jh _) ?_,rfl,q2 (λw=>z (r2.nil_iff.mpr w)) _ (I.hok.fresh (jh _))⟩;exact⟨by rw[jr];exact hz,_,r1.append r2,IsTup.new _ _⟩
end
def ixN (n:Nat)(i:Int):Option Nat:=if 0<=i then(if i<n then Ga i.toNat else Gb) else if -(n:Int)<=i then Ga (i+n).toNat else Gb
def atI {α:Type}(xs:List α)(i:Int):Option α:=(ixN xs.length i).bind λj=>xs[j]?
theorem Gv {n:Nat}{i:Int}{j:Nat}(h:ixN n i=Ga j):seqIndex? i n=Ga j/\j<n/\-(n:Int)<=i/\i<n:=by
 unfold ixN at h;by_cases h0:0<=i
 .rw[Ge h0] at h;by_cases h1:i<n
  .rw[Ge h1] at h;have e:i.toNat=j:=jD h;exact⟨by rw[seqIndex_of h0 h1,e],by omega,by omega,h1⟩
  .rw[Gf h1] at h;cases h
 .rw[Gf h0] at h;by_cases h1:-(n:Int)<=i
  .rw[Ge h1] at h;have e:(i+n).toNat=j:=jD h;exact⟨by rw[seqIndex_neg (by omega) h1,e],by omega,h1,by omega⟩
  .rw[Gf h1] at h;cases h
theorem yc {α:Type}{xs:List α}{i:Int}{v:α}(h:atI xs i=Ga v):∃ j,seqIndex? i xs.length=Ga j/\xs[j]?=Ga v/\j<xs.length/\-(xs.length:Int)<=i/\i<xs.length:=by
 unfold atI at h;cases e:ixN xs.length i with
 | none=>rw[e] at h;cases h
 | some j =>
  rw[e] at h;obtain⟨h1,h2,h3,h4⟩:=Gv e;exact⟨j,h1,h,h2,h3,h4⟩
theorem atI_nat {α:Type}{xs:List α}{j:Nat}{v:α}(h:xs[j]?=Ga v):atI xs (j:Int)=Ga v:=by
 have hj:j<xs.length:=(jp.mp h).1;have e:ixN xs.length (j:Int)=Ga j:=by
  unfold ixN;rw[Ge (by omega),Ge (by omega)];simp
 unfold atI;rw[e];exact h
theorem atI_last {α:Type}(xs:List α)(v:α):atI (xs++[v]) (-1)=Ga v:=by
 have hl:(xs++[v]).length=xs.length+1:=by simp
 have e:ixN (xs++[v]).length (-1)=Ga xs.length:=by
  unfold ixN;rw[hl,Gf (by decide),Ge (by omega)]
  congr 1
  omega
 unfold atI;rw[e];show(xs++[v])[xs.length]?=Ga v;simp
def ye (b:Expr):Prop:=∀ o i,subscripted b false o i=operate [o,i] (getItem o i)
def xJ (X:Cx)(r:R2):Prop :=
 ∀ (value slice:Expr) (ω:List (Gj×Obj)) (s:Gh) (σ:St) (H:Hp) (x y:V) (v u:Gg) (Q:VK),gA X ω σ H s->ia x v->ia y u->r x y H Q ->
  subscripted slice false v u=operate [v,u] (getItem v u)->wpAny (model X.prog X.w) X.A (subscriptTail value slice v u) (EP X ω σ Q) X.xe s
def yM (X:Cx)(id:String)(r:V->List V->Hp->VK->Prop):Prop :=
 ∀ (ω:List (Gj×Obj)) (s:Gh) (σ:St) (H:Hp) (x:V) (xs:List V) (v:Gg) (us:List Gg) (Q:VK),gA X ω σ H s->ia x v->hV xs us->r x xs H Q ->
  wpAny (model X.prog X.w) X.A (call (.builtin id) (v::us)) (EP X ω σ Q) X.xe s
section
variable {X:Cx}{a b:Expr}{ta tb:TE}{pos:Pos}
theorem xJ.or {r r':R2}(h:xJ X r)(h':xJ X r'):xJ X (λx y H Q=>r x y H Q\/r' x y H Q):=by
 intro value slice ω s σ H x y v u Q I rx ry q hs;rcases q with q|q
 .exact h value slice ω s σ H x y v u Q I rx ry q hs
 .exact h' value slice ω s σ H x y v u Q I rx ry q hs
theorem yM.or {id:String}{r r':V->List V->Hp->VK->Prop}(h:yM X id r)(h':yM X id r'):yM X id (λx xs H Q=>r x xs H Q\/r' x xs H Q):=by
 intro ω s σ H x xs v us Q I rx rs q;rcases q with q|q
 .exact h ω s σ H x xs v us Q I rx rs q
 .exact h' ω s σ H x xs v us Q I rx rs q
theorem FF {r:R2}(hr:xJ X r)(ha:PE X a ta)(hb:PE X b tb)(hs:ye b):PE X (.Subscript a b pos) (CJ r ta tb):=by
 intro ω s σ H Q I h;exact Subscript_ (Dj ha hb I h λv u s2 x y H2 I2 rx ry q=>hr a b ω s2 σ H2 x y v u Q I2 rx ry q (hs _ _))
def Hi (K:ja):R2:=λx y H Q=>∃ p xs i v,x=.ref p/\y=.int i/\lr K H p xs/\atI xs i=Ga v/\Q v H
def IY (K:ja):R2:=λx y H Q=>∃ p xs i v,x=.ref p/\y=.int i/\mV K H p xs/\atI xs i=Ga v/\Q v H
def Nn:R2:=λx y H Q=>∃ z i c,x=.str z/\y=.int i/\z.length<=sizeLine/\atI z.cps.toList i=Ga c/\Q (.str ⟨#[c]⟩) H
theorem AR:xJ X (Hi X.K):=by
 intro value slice ω s σ H x y v u Q I rx ry h hs;obtain⟨p,xs,i,z,rfl,rfl,hq,he,q⟩:=h;cases rx;obtain⟨t,rfl⟩:=ry;obtain⟨its,r,pl,hz⟩:=I.list hq;obtain⟨j,h1,h2,h3,h4,h5⟩:=yc he;obtain⟨w,ew,rw'⟩:=r.get h2;have hl:=r.length;have hn:=wa;have fin:EP X ω σ Q w s:=⟨z,H,I,rw',q⟩;by_cases h0:0<=i
 .have hj:i.toNat=j:=by
   rw[seqIndex_of h0 h5] at h1;exact jD h1
  exact item_listR pl.isList h0 (by omega) (by rw[hj];simpa using ew) fin hs
 .have hj:(i+(its.toArray.size:Int)).toNat=j:=by
   rw[seqIndex_neg (by omega) h4] at h1;rw[jo,<- hl];exact jD h1
  exact subscriptTail_builtinR (x:=w) pl.isList.typeIs slot_list_getitem.lookup
   (wpAny_getItem_list_neg (Q:=λr s'=>r=w/\EP X ω σ Q r s') pl.isList (by omega) (by rw[jo]<;>omega) (by omega) (by rw[hj];simpa using ew) ⟨rfl,fin⟩) hs
theorem IJ:xJ X (IY X.K):=by
 intro value slice ω s σ H x y v u Q I rx ry h hs;obtain⟨p,xs,i,z,rfl,rfl,hq,he,q⟩:=h;cases rx;obtain⟨t,rfl⟩:=ry;obtain⟨its,r,pl,hz⟩:=I.tuple hq;obtain⟨j,h1,h2,h3,h4,h5⟩:=yc he;obtain⟨w,ew,rw'⟩:=r.get h2;have hl:=r.length;have hn:=wa;have fin:EP X ω σ Q w s:=⟨z,H,I,rw',q⟩;exact subscriptTail_builtinR (x:=w) pl.typeIs slot_tuple_getitem.lookup
  (getItem_tuple (j:=j) (Q:=λr s'=>r=w/\EP X ω σ Q r s') pl (by omega) (by omega) (by rw[jo,<- hl];exact h1) (by simpa using ew) ⟨rfl,fin⟩) hs
theorem LN:xJ X Nn:=by
 intro value slice ω s σ H x y v u Q I rx ry h hs;obtain⟨z,i,c,rfl,rfl,hz,he,q⟩:=h;obtain⟨t,rfl⟩:=rx;obtain⟨t',rfl⟩:=ry;obtain⟨j,h1,h2,h3,h4,h5⟩:=yc he;have hl:z.cps.toList.length=z.length:=by simp[Str.length]
 rw[hl] at h1 h4 h5;have hn:=wa;exact tail_any (typeIs_str s z t) slot_str_getitem.lookup (getItem_str (c:=c) (by
  have e1:decide (i < -(2^63:Int))=false:=Gd (by omega);have e2:decide (i≥2^63)=false:=Gd (by omega);rw[e1,e2,vC]) (by rw[h1];simpa using h2) ⟨.str ⟨#[c]⟩,H,I.tok _,⟨_,rfl⟩,q⟩) hs
def Pp (K:ja):R2:=λx y H Q=>Hi K x y H Q\/IY K x y H Q\/Nn x y H Q
theorem KU:xJ X (Pp X.K):=AR.or (IJ.or LN)
theorem gA.lst {ω:List (Gj×Obj)}{σ:St}{H:Hp}{s:Gh}{p:Gj}{xs:List V}(I:gA X ω σ H s)(h:H p=Ga (.lst xs)) :
  ∃ (its:List Gg) (n:Nat),hV xs its/\s.heap.get? p=Ga { cls:=.type "list",data:=.seq its.toArray n }/\xs.length<=sizeLine:=by
 obtain⟨z,its,n,r,e⟩:=I.hok p _ h;exact⟨its,n,r,e,z⟩
theorem zU (lo hi:Option Int)(n:Nat):(sliceBounds lo hi Gb n).1=((HT.sIx n 0 lo:Nat):Int)/\(sliceBounds lo hi Gb n).2.1=((HT.sIx n n hi:Nat):Int)/\(sliceBounds lo hi Gb n).2.2=1:=by
 refine⟨?_,?_,rfl⟩
 .cases lo with
  | none=>simp[sliceBounds,HT.sIx]
  | some i =>
   simp only[sliceBounds,HT.sIx,JV,show(1:Int)>0 by decide,if_true];by_cases h:i<0
   .simp only[h,if_true]<;>omega
   .simp only[h,if_false]<;>omega
 .cases hi with
  | none=>simp[sliceBounds,HT.sIx]
  | some i =>
   simp only[sliceBounds,HT.sIx,JV,show(1:Int)>0 by decide,if_true];by_cases h:i<0
   .simp only[h,if_true]<;>omega
   .simp only[h,if_false]<;>omega
theorem zi (its:List Gg)(lo hi:Option Int):slicePick its.toArray lo hi Gb=((its.drop (HT.sIx its.length 0 lo)).take (HT.sIx its.length its.length hi-HT.sIx its.length 0 lo)).toArray:=by
 obtain⟨h1,h2,h3⟩:=zU lo hi its.toArray.size;unfold slicePick;rw[h1,h2,h3];simp only[sliceRange_one,pick_run,jo]<;>rfl
def Tv (K:ja):V->Option Int->Option Int->Hp->VK->Prop:=λx lo hi H Q=>∃ a xs,x=.ref a/\lr K H a xs/\∀ p,H p=Gb->Q (.ref p) (upd H p (.lst (sg xs lo hi)))
theorem Gq:Am X (Tv X.K):=by
 intro ω s σ H x v vl vu lo hi sl Q I rx hs pl pu h;obtain⟨a,xs,rfl,hx,q⟩:=h;cases rx;obtain⟨its,r,ht,hz⟩:=I.list hx;have hlen:=r.length;refine⟨"list",_,slot_list_getitem.lookup,ht.isList.typeIs,?_⟩;refine wpAny_getItem_list_slice ht.isList hs pl pu .none (by simp) ?_ (by rw[jo]<;>omega);rw[zi,<- hlen];refine⟨.ref s.heap.objs.size,_,I.laid (t':=s.toks) (o:=.lst (sg xs lo hi)) (λb ob q=>jd _ q) (jh _) ?_,rfl,q _ (I.hok.fresh (jh _))⟩;exact⟨jF (wJ xs lo hi) hz,_,0,(r.drop (HT.sIx xs.length 0 lo)).take (HT.sIx xs.length xs.length hi-HT.sIx xs.length 0 lo),jy _ rfl⟩
theorem zS:mh X (.builtin "len") (λxs H Q=>∃ p ys,xs=[.ref p]/\(lr X.K H p ys\/mV X.K H p ys)/\Q (.int ys.length) H):=by
 intro ω s σ H xs us Q I r h;obtain⟨p,ys,rfl,hq,q⟩:=h;obtain⟨u,rfl,rx⟩:=vals1 r;cases rx;have hn:=wa;rcases hq with hq|hq
 .obtain⟨its,r',pl,hz⟩:=I.list hq;have hlen:=r'.length;exact Calls.call_len_list pl.isList (by simp only[jo]<;>omega) ⟨.int ys.length,H,I.tok _,⟨s.toks+1,by rw[jo,hlen]⟩,q⟩
 .obtain⟨its,r',pl,hz⟩:=I.tuple hq;have hlen:=r'.length;exact len_tuple pl (by simp only[jo]<;>omega) ⟨.int ys.length,H,I.tok _,⟨s.toks+1,by rw[jo,hlen]⟩,q⟩
theorem mh.or {f:Gg}{r r':List V->Hp->VK->Prop}(h:mh X f r)(h':mh X f r'):mh X f (λxs H Q=>r xs H Q\/r' xs H Q):=by
 intro ω s σ H xs us Q I rs q;rcases q with q|q
 .exact h ω s σ H xs us Q I rs q
 .exact h' ω s σ H xs us Q I rs q
theorem zj:mh X (.type "tuple") (λxs H Q=>∃ p ys,xs=[.ref p]/\((lr X.K H p ys/\∀ l,H l=Gb->Q (.ref l) (upd H l (.tup ys)))\/(mV X.K H p ys/\Q (.ref p) H))):=by
 intro ω s σ H xs us Q I r h;obtain⟨p,ys,rfl,h⟩:=h;obtain⟨u,rfl,rx⟩:=vals1 r;cases rx;rcases h with ⟨hq,q⟩|⟨hq,q⟩
 .obtain⟨its,r',pl,hz⟩:=I.list hq;have hlen:=r'.length;refine call_tuple_list pl.isList (λh' kp=>?_) (by simp only[jo]<;>omega);have I1:gA X ω σ H { s with heap:=h' }:=I.kept (t':=s.toks) kp;have I2:gA X ω σ (upd H h'.objs.size (.tup ys)) { s with heap:=h'.push { cls:=.type "tuple",data:=.seq its.toArray } } :=
   I1.laid (t':=s.toks) (λb o e=>jd _ e) (jh _) (show mK X.prog X.w _ _ _ (.tup ys) from⟨hz,its,r',IsTup.new _ _⟩)
  exact⟨.ref h'.objs.size,_,I2,rfl,q _ (I1.hok.fresh (jh _))⟩
 .obtain⟨its,r',pl,hz⟩:=I.tuple hq;exact call_tuple_same pl ⟨.ref p,H,I,rfl,q⟩
def KB (K:ja)(T:String)(x:V)(H:Hp):Prop:=match x with
 | .str _=>T="str"
 | .int _=>T="int"
 | .ref p=>(T="list"/\∃ xs,lr K H p xs)\/(T="tuple"/\∃ o,K.lookup p=Ga o/\o.cls=.type "tuple"/\o.dict=Gb) \/
   (T="dict"/\((∃ kvs,H p=Ga (.dK kvs))\/∃ kvs,H p=Ga (.dT kvs)))\/(T="set"/\∃ S n,H p=Ga (.set S n))
 | _=>False
theorem CT {ω:List (Gj×Obj)}{σ:St}{H:Hp}{s:Gh}{T:String}{x:V}{v:Gg}(I:gA X ω σ H s)(r:ia x v)(ty:KB X.K T x H) :
  s.TypeIs v T/\∀ a,v=.ref a->∃ ob,s.heap.get? a=Ga ob/\ob.dict=Gb:=by
 cases x with
 | str z =>
  obtain⟨t,rfl⟩:=r;cases(show T="str" from ty);exact⟨typeIs_str s z t,λ_ e=>nomatch e⟩
 | int i =>
  obtain⟨t,rfl⟩:=r;cases(show T="int" from ty);exact⟨typeIs_int s i t,λ_ e=>nomatch e⟩
 | ref p =>
  cases r;rcases ty with ⟨rfl,xs,hq⟩|⟨rfl,o,hk,hc,hd⟩|⟨rfl,hk⟩|⟨rfl,S,n,hk⟩
  .obtain⟨its,_,pl,_⟩:=I.list hq;refine⟨pl.isList.typeIs,λa e=>?_⟩;cases e;obtain⟨o,n,e,c,hd,_⟩:=pl;exact⟨o,e,hd⟩
  .refine⟨⟨o,I.kIn p o hk,hc⟩,λa e=>?_⟩;cases e;exact⟨o,I.kIn _ o hk,hd⟩
  .have z:∃ o,s.heap.get? p=Ga o/\o.ExactDict:=by
    rcases hk with ⟨kvs,hk⟩|⟨kvs,hk⟩
    .obtain⟨_,_,_,_,o,_,_,e,ex,_⟩:=I.hok p _ hk;exact⟨o,e,ex⟩
    .obtain⟨_,_,_,_,o,_,_,e,ex,_⟩:=I.hok p _ hk;exact⟨o,e,ex⟩
   obtain⟨o,e,ex⟩:=z;refine⟨⟨o,e,ex.1⟩,λa e2=>?_⟩;cases e2;exact⟨o,e,ex.2.1⟩
  .obtain⟨o,_,_,_,e,ex,_⟩:=I.hok p _ hk;refine⟨⟨o,e,ex.1⟩,λa e2=>?_⟩;cases e2;exact⟨o,e,ex.2.1⟩
 | _=>exact False.elim ty
def Uy (K:ja)(T:String)(r:V->List V->Hp->VK->Prop)(to:TE):TE:=λσ H Q=>to σ H λx H1=>KB K T x H1/\r x [] H1 Q
def Yw (K:ja)(T:String)(r:V->List V->Hp->VK->Prop)(to:TE)(t:TA):TE:=λσ H Q=>to σ H λx H1=>KB K T x H1/\t σ H1 λxs H2=>r x xs H2 Q
variable {o e:Expr}{es:List Expr}{to:TE}{t:TA}{name:Str}{apos cpos:Pos}{T id:String}{r:V->List V->Hp->VK->Prop}
theorem Lr (pa:PlainAttrs T)(slot:Slot T name id)(hty:typeOf (.builtin id)=pure (.type "method_descriptor"))(hm:yM X id r)(ho:PE X o to)
  (hbase:attributeBase o name X.env (eval o X.env)=eval o X.env:=by rfl) (hline:(apos.endLine==cpos.line)=true:=by rfl):PE X (.Call (.Attribute o name apos) [] [] cpos) (Uy X.K T r to):=by
 intro ω s σ H Q I h;refine wpAny_Call_method0_late hbase hline (iq (ho ω s σ H _ I h) λv s1 ⟨x,H1,I1,r1,ty,q1⟩=>?_);obtain⟨h1,h2⟩:=CT I1 r1 ty;exact⟨T,id,pa,slot,hty,h1,h2,uV rfl (PySem.evalArgs_none (hm ω s1 σ H1 x [] v [] Q I1 r1 .nil q1))⟩
theorem DH (pa:PlainAttrs T)(slot:Slot T name id)(hty:typeOf (.builtin id)=pure (.type "method_descriptor"))(hm:yM X id r)(ho:PE X o to)(ha:PA X (e::es) t)
  (hbase:attributeBase o name X.env (eval o X.env)=eval o X.env:=by rfl)
  (hfew:((backTo cpos (starEach (e::es) X.env)).all (λx=>!x.1)&&(backToKw cpos (keywordEach [] X.env)).all (λx=>x.1.isSome)
   && decide ((e::es).length+([]:List Keyword).length+(if ([]:List Keyword).isEmpty then 0 else 1)<30))=true:=by rfl)
  (hline:(apos.endLine==cpos.line)=true:=by rfl) (hs:starEach (e::es) X.env=(false,eval e X.env)::starEach es X.env:=by rfl) (hplain:(backTo cpos (starEach es X.env)).any (·.1)=false:=by rfl) :
  PE X (.Call (.Attribute o name apos) (e::es) [] cpos) (Yw X.K T r to t):=by
 intro ω s σ H Q I h;refine wpAny_Call_method_late hbase hfew hline rfl (iq (ho ω s σ H _ I h) λv s1 ⟨x,H1,I1,r1,ty,q1⟩=>?_);obtain⟨h1,h2⟩:=CT I1 r1 ty;refine⟨T,id,pa,slot,hty,h1,h2,?_⟩;have hA:=ha cpos ω s1 σ H1 _ I1 q1;rw[hs] at hA ⊢;refine uV (by show(false||(backTo cpos (starEach es X.env)).any (·.1))=false;rw[hplain]<;>rfl) (u7 ?_);exact iq hA λus s2 ⟨vs,H2,I2,r2,q2⟩=>hm ω s2 σ H2 x vs v us Q I2 r1 r2 q2
end
def MtM (X:Cx)(id:String)(r:V->List V->Hp->VK->Prop):Prop :=
 ∀ (ω:List (Gj×Obj)) (s:Gh) (σ:St) (H:Hp) (x:V) (xs:List V) (v:Gg) (us:List Gg) (Q:VK),gA X ω σ H s->ia x v->hV xs us->r x xs H Q ->
  wpAny (model X.prog X.w) X.A (call (.builtin id) (v::us)) (EP X ω σ Q) X.xe s
theorem hV.one:∀ {x:V} {us:List Gg},hV [x] us->∃ u,us=[u]/\ia x u
 | _,_,.cons r .nil=>⟨_,rfl,r⟩
theorem hV.zero:∀ {us:List Gg},hV [] us->us=[]
 | _,.nil=>rfl
theorem hV.reverse {xs:List V}{us:List Gg}(h:hV xs us):hV xs.reverse us.reverse:=by
 induction h with
 | nil=>exact .nil
 | cons r t ih=>rw[uE,uE];exact hV.append ih (.cons r .nil)
section
variable {X:Cx}{ω:List (Gj×Obj)}{σ:St}{H:Hp}{s:Gh}{l b:Gj}{xs ys zs:List V}
theorem gA.lset {its its':List Gg}{n:Nat}{f:Array Gg->Array Gg}{t':Nat}(I:gA X ω σ H s)(hH:H l=Ga (.lst xs))
  (e:s.heap.get? l=Ga { cls:=.type "list",data:=.seq its.toArray n }) (hf:f its.toArray=its'.toArray) (hv:hV ys its') (hz:ys.length<=sizeLine) :
  gA X ω σ (upd H l (.lst ys)) { s with heap:=s.heap.update l (ki f),toks:=t' }:=by
 have q:=PySem.IsL.update e f;rw[hf] at q;refine I.write (x:=l) (e:=l) (by rw[hH];exact trivial) (.inl rfl) (λb' u hb hu=>(kX s.heap (ki f) (ui hb)).trans hu) ⟨_,q⟩ ?_;exact⟨hz,its',_,hv,q⟩
theorem gA.lnew {its:List Gg}{t':Nat}(I:gA X ω σ H s)(hv:hV ys its)(hz:ys.length<=sizeLine) :
  gA X ω σ (upd H s.heap.objs.size (.lst ys)) { s with heap:=s.heap.push { cls:=.type "list",data:=.seq its.toArray },toks:=t' } :=
 I.laid (λ_ _ q=>jd _ q) (jh _) ⟨hz,its,0,hv,jy _ rfl⟩
theorem gA.fresh (I:gA X ω σ H s):H s.heap.objs.size=Gb:=I.hok.fresh (jh _)
theorem gA.lstM (I:gA X ω σ H s)(hH:H l=Ga (.lst xs)):xs.length<=sizeLine/\∃ (its:List Gg) (n:Nat),hV xs its/\xs.length=its.length/\s.heap.get? l=Ga { cls:=.type "list",data:=.seq its.toArray n }:=by
 obtain⟨z,its,n,r,e⟩:=I.hok l _ hH;exact⟨z,its,n,r,r.length,e⟩
theorem Dk {n:Nat}(h:n<=sizeLine):vD n=false:=by
 unfold vD;exact Gd (by omega)
end
section
variable {X:Cx}
def Gp:V->List V->Hp->VK->Prop:=λx vs H Q=>∃ l xs y,x=.ref l/\vs=[y]/\H l=Ga (.lst xs)/\xs.length<sizeLine/\Q .non (upd H l (.lst (xs++[y])))
theorem yx:MtM X "list.append" Gp:=by
 intro ω s σ H x vs v us Q I rx rv h;obtain⟨l,xs,y,rfl,rfl,hH,hz,q⟩:=h;cases rx;obtain⟨u,rfl,ru⟩:=rv.one;obtain⟨z,its,n,r,hl,e⟩:=I.lstM hH;refine call_meets F.slot_list_append ⟨_,e,rfl⟩ F.entry_list_append (F.args_list_append_2 _ _) (PySem.list_append l its.toArray n u (by rw[jo];omega)) ⟨e,?_⟩;refine⟨.non,_,I.lset (its':=its++[u]) hH e (by simp) (r.append (.cons ru .nil)) ?_,rfl,q⟩;rw[jr,kf];omega
end
section
variable {prog:Program}{w:World}{A:Around}{E:Gg->Gh->Prop}{s:Gh}
end
section
variable {X:Cx}
end
end L2
namespace Att
open PySem PySem.W PySem.Calls PyProof.Rows
theorem xN {P:Params}{h:Heap}:∀ (ns:List Int) (vs:List Gg),WellAll P h vs (ns.map WData.int)->IntsAre vs ns:=by
 intro ns;induction ns with
 | nil =>
  intro vs w;rw[JI] at w;cases w;exact .nil
 | cons n ns ih =>
  intro vs w;rw[jI] at w;cases w with
  | cons a b =>
   cases a;exact .cons _ _ (ih _ b)
theorem CB {l:OpenLaw}{n:Nat}(hn:l.most=Ga n){P:Params}{h:Heap}{args:List WData}{vals:List Gg}
  (hpre:l.row.toRowW.claim.pre args=true) (hwl:WellAll P h vals args) :
  ∃ a vs ns,vals=[kJ a]/\args=[WData.list (ns.map WData.int)]/\h.get? a=Ga { cls:=.type "list",data:=.seq vs.toArray }/\IntsAre vs ns/\ns.length<=n:=by
 have hsh:WShape.hasAll [] args [.list .int]=true:=(pre_splitW hpre).1;have hc:l.pre.holds [] { args:=args }=true:=(pre_splitW hpre).2;obtain⟨d,r,rfl,h1,h2⟩:=hasAllW_cons hsh;obtain rfl:=hasAllW_nil h2;obtain⟨xs,rfl,h3⟩:=hasW_list h1;obtain⟨ns,rfl⟩:=items_int h3;have hlen:ns.length<=n:=by
  unfold OpenLaw.pre at hc;have h4:(WTm.not (.lt (.lit (.int (n:Int))) (.len (.arg 0)))).holds [] { args:=[.list (ns.map .int)] }=true:=by
   have h4:=(holds_andW hc).1;rw[hn] at h4;exact h4
  have h5:=condW_of h4 (w_not (w_lt w_lit (w_len_list (w_arg rfl))));rw[jb] at h5;refine Nat.le_of_not_lt λq=>?_;have q':(n:Int)<((ns.length:Nat):Int):=by omega
  first
   | (rw[Gc q'] at h5;exact absurd h5 (by decide))
   | (simp at h5;omega)
 cases hwl with
 | cons w1 w2 =>
  cases w2;cases w1 with
  | list ho hall=>exact⟨_,_,ns,rfl,rfl,ho,xN ns _ hall,hlen⟩
theorem Cy (l:OpenLaw)(args:List WData):l.row.toRowW.claim.post args (.bool true) args=true :=
 postW_of (r:=l.row.toRowW) (X:=(true==true))
  (show WShape.has [] (.bool true) .bool=true by first|rfl|decide|simp[WShape.has,WShape.arms,WShape.armsAll])
  (show(WTm.eq .res (.lit (.bool true))).value [] { args:=args,res:=Ga (.bool true),after:=args }=Ga (.bool (true==true)) from w_eq_bool (w_res rfl) w_lit) rfl
theorem attach_call {l:OpenLaw}{n:Nat}{q:Program}{loose:List Str}{XP:(Str->Option Gg)->Heap->Prop}{YP:World->Heap->Prop}{d:DefRec}
  (hn:l.most=Ga n) (hdf:d.params.defaults=[])
  (call:∀ (w:World) (s₀ s₁:Gh) (mg mb:Str->Option Gg) (fa:Gj) (o:Obj) (pm cd doc:Gg) (a:Gj) (vs:List Gg) (ns:List Int),
   Ground q loose [] XP w s₀ mg mb s₁.heap->YP w s₁.heap ->
   s₁.heap.get? fa=Ga o->o.data=.func (docDef d.name d.params d.body d.scope pm cd doc)->s₁.heap.CodeRec cd d.name->mg d.name=Ga (.ref fa) ->
   s₁.heap.get? a=Ga { cls:=.type "list",data:=.seq vs.toArray }->IntsAre vs ns->ns.length<=n->s₁.gens=#[] ->
   codeAny (model l.prog w) callerA (.call (.ref fa) ⟨[.ref a],[]⟩) (λr s'=>r=.ok (.ret (.bool true))/\OldK s₁.heap s'.heap/\s'.os=s₁.os/\AllBare s'.gens) s₁) :
  WalkO q loose XP YP l.row.toRowW d [] (λf vs=>Jx f vs):=by
 intro w s₀ s₁ mg mb G Y fa o pm cd doc dV kV ho hd hcd hD hmg hg args vals as hpre hlay hrd hwl hlo;obtain rfl:dV=.none:=Dflts.none hD hdf;obtain rfl:kV=.none:=Dflts.noKw hD;obtain⟨a,vs,ns,rfl,rfl,hobj,hints,hlen⟩:=CB hn hpre hwl;refine enter_call (codeAny_mono (call w s₀ s₁ mg mb fa o pm cd doc a vs ns G Y ho (fd_plain hd) hcd hmg hobj hints hlen hg) λr s' hq=>?_);obtain⟨rfl,h2,h3,h4⟩:=hq;exact⟨.inl ⟨.bool true,.bool true,[],rfl,λ_=>rfl,.bool true,Cy l _,λ_=>⟨List.Pairwise.nil,λ_ hm=>(nomatch hm)⟩⟩,h2,h3,h4⟩
section
variable {prog:Program}{w:World}{A:Around}{E:Gg->Gh->Prop}{s:Gh}{K:Frag}
end
end Att
namespace L2
open PySem PySem.Spec PyProof.Rows
theorem wf:∀ {vs:List Gg} {ns:List Int},IntsAre vs ns->hV (ns.map V.int) vs
 | _,_,.nil=>.nil
 | _,_,.cons n t h=>.cons ⟨t,rfl⟩ (wf h)
def Bj (H:Hp):Prop:=∀ b,H b=Gb\/∃ o xs,H b=Ga (.frz o (.lst xs))
theorem Dr {P:Program}{w:World}{K:ja}{mg mb:Str->Option Gg}{CX:rP}{k:Nat}{fa a:Gj}{fd:Gi}{x:Str}{sp:Sp}{s₁:Gh}{vs:List Gg}{ns:List Int}
  (KX:K.In s₁.heap) (hns:s₁.heap.Ns mainGlobals mg) (hb:s₁.heap.Ns builtinsNs mb) (hbb:∀ x:Str,x≠"__name__"->mb x=bootBuiltins x) (hlim:s₁.heap.NoLimit) (hg:s₁.gens=#[])
  (ha:s₁.heap.get? a=Ga { cls:=.type "list",data:=.seq vs.toArray }) (hi:IntsAre vs ns) (hl:ns.length<=sizeLine) (hr:lu k callerA)
  (F:∀ base:Heap,K.In base->base.Ns mainGlobals mg->gN P w K mg base CX k fa fd [x] sp) (hbind:∀ (s:Gh) (u:Gg),BindsTo s fd ⟨[u],[]⟩ [(x,u)])
  (hsp:∀ H:Hp,Bj H->lr K H a (ns.map V.int)->sp [.ref a] H (λv _=>v=.bl true) λ_ _ _=>False)
  (hCX:∀ H e s',CX [] H s₁ (λ_ _ _=>False) e s'->False) :
  codeAny (model P w) callerA (.call (.ref fa) ⟨[.ref a],[]⟩) (λr s'=>r=.ok (.ret (.bool true))/\OldK s₁.heap s'.heap/\s'.os=s₁.os/\AllBare s'.gens) s₁:=by
 have rv:=wf hi;have lenV:=hi.length;have core:∀ H:Hp,Bj H->lr K H a (ns.map V.int)->HOk P w H s₁.heap->(∀ b,H b≠Gb->b=a)->(H a≠Gb->K.lookup a=Gb) ->
   codeAny (model P w) callerA (.call (.ref fa) ⟨[.ref a],[]⟩) (λr s'=>r=.ok (.ret (.bool true))/\OldK s₁.heap s'.heap/\s'.os=s₁.os/\AllBare s'.gens) s₁:=by
  intro H hO hS hok hA hK;have base_of:∀ {b:Gj} {o:Obj},s₁.heap.get? b=Ga o->H b=Gb->(pf s₁.heap H).get? b=Ga o:=λe n=>zC e n;have noA:∀ {b:Gj} {o:Obj} {es:Array DictEntry} {ep:Nat},s₁.heap.get? b=Ga o->o.data=.dict es ep->H b=Gb:=λ{b o es ep} e d=>by
   cases q:H b with
   | none=>rfl
   | some u =>
    have e':b=a:=hA b (by rw[q];simp);subst e';rw[ha] at e;cases e;have d':Data.seq vs.toArray _=Data.dict es ep:=d;cases d'
  have nsK:∀ {b:Gj} {m:Str->Option Gg},s₁.heap.Ns b m->(pf s₁.heap H).Ns b m:=λ{b m} ⟨o,es,ep,e,d,r⟩=>⟨o,es,ep,base_of e (noA e d),d,r⟩;have hKb:K.In (pf s₁.heap H):=λb o e=>base_of (KX b o e) (by
   cases q:H b with
   | none=>rfl
   | some u =>
    have e':b=a:=hA b (by rw[q];simp);subst e';rw[hK (by rw[q];simp)] at e;cases e)
  have hM:Mod K mg (pf s₁.heap H):=⟨hKb,nsK hns,⟨mb,nsK hb,hbb⟩,let ⟨mc,h1,h2⟩:=hlim;⟨mc,nsK h1,h2⟩⟩;have e0:sd P w K mg (pf s₁.heap H) callerA [] s₁ H:=⟨rfl,hM,λb o e=>AL e,JH (zg _ _),trivial,λb hb=>absurd (show b∈([]:List Gj) from hb) (by simp),hok,.of_eq hg⟩;refine codeAny_mono ((F _ hKb (nsK hns)).run callerA [] s₁ H ⟨[.ref a],[]⟩ [.ref a] [.ref a] _ _ hr e0 (hbind s₁ (.ref a)) (.cons rfl .nil) (hsp H hO hS)) λr s' h=>?_;cases r with
  | error e=>exact(hCX H e s' h).elim
  | ok fl =>
   cases fl with
   | next=>exact False.elim h
   | brk=>exact False.elim h
   | cont=>exact False.elim h
   | ret u =>
    obtain⟨v,H',os,bare,un,hok',r',q⟩:=h;have q':v=.bl true:=q;subst q';obtain rfl:u=uR true:=r';refine⟨rfl,OldK.of_keep λb o e=>?_,os,bare⟩;cases q:H b with
    | none=>exact un.keep b o e q (by intro z;exact absurd (show b∈([]:List Gj) from z) (by simp)) (by simp)
    | some u =>
     rcases hO b with z|⟨ob,xs,z⟩
     .rw[q] at z;cases z
     .have z2:=un.frzs b ob _ z;obtain⟨e1,_⟩:=hok b _ z;obtain⟨e2,_⟩:=hok' b _ z2;rw[e] at e1;cases e1;exact e2
 cases hk:K.lookup a with
 | some o =>
  have e:=KX a o hk;rw[ha] at e;cases e;refine core (λ_=>Gb) (λ_=>.inl rfl) (.inr ⟨_,vs.toArray,_,hk,rfl,rfl,rfl,by rw[jo,lenV];exact hl,by simpa using rv⟩) (λb u z=>by have z':(Gb:Option HO)=Ga u:=z;cases z') (λb z=>absurd rfl z) λz=>absurd rfl z
 | none =>
  refine core (λb=>if b=a then Ga (.frz { cls:=.type "list",data:=.seq vs.toArray } (.lst (ns.map V.int))) else Gb) (λb=>?_) (.inl (.inr ⟨{ cls:=.type "list",data:=.seq vs.toArray },Ge rfl⟩)) (λb u z=>?_) (λb z=>?_) λ_=>hk
  .by_cases hb:b=a
   .exact .inr ⟨_,_,Ge hb⟩
   .exact .inl (Gf hb)
  .by_cases hb:b=a
   .have z':=(Ge hb).symm.trans z;cases z';subst hb;exact⟨ha,by rw[jb];exact hl,vs,_,rv,ha⟩
   .have z':=(Gf hb).symm.trans z;cases z'
  .by_cases hb:b=a
   .exact hb
   .exact absurd (Gf hb) z
theorem Gk {l:qX}{n k:Nat}{q:Program}{loose:List Str}{XP:(Str->Option Gg)->Heap->Prop}{YP:World->Heap->Prop}{d:DefRec}{K:Params->ja}{CX:World->rP}{sp:World->Sp}{x:Str}
  (hn:l.most=Ga n) (hn2:n<=sizeLine) (hdf:d.params.defaults=[]) (hr:lu k callerA)
  (hY:∀ (w:World) (h:Heap),YP w h->(K w.params).In h)
  (F:∀ (w:World) (mg:Str->Option Gg) (fa:Gj) (h:Heap),(K w.params).In h->h.Ns mainGlobals mg->mg d.name=Ga (.ref fa) ->
   ∃ fd:Gi,(∀ (s:Gh) (u:Gg),BindsTo s fd ⟨[u],[]⟩ [(x,u)]) /\
    ∀ base:Heap,(K w.params).In base->base.Ns mainGlobals mg->gN l.prog w (K w.params) mg base (CX w) k fa fd [x] (sp w))
  (hsp:∀ (w:World) (H:Hp) (a:Gj) (ns:List Int),ns.length<=n->Bj H->lr (K w.params) H a (ns.map V.int)->sp w [.ref a] H (λv _=>v=.bl true) λ_ _ _=>False)
  (hCX:∀ (w:World) (H:Hp) (s:Gh) (e:Gg) (s':Gh),CX w [] H s (λ_ _ _=>False) e s'->False) :
  Jt q loose XP YP l.row.toRowW d [] (λf vs=>Jx f vs):=by
 refine Att.attach_call hn hdf λw s₀ s₁ mg mb fa o pm cd doc a vs ns G Y ho hd hcd hmg hobj hints hlen hg=>?_;have KX:=hY w _ Y;obtain⟨fd,hb,hF⟩:=F w mg fa _ KX G.T.g hmg;exact Dr KX G.T.g G.T.b G.T.builtins G.T.nolimit hg hobj hints (jF hlen hn2) hr hF hb (λH hO hS=>hsp w H a ns hlen hO hS) λH e s'=>hCX w H s₁ e s'
theorem TW {l:qX}{n k:Nat}{q:Program}{loose:List Str}{XP:(Str->Option Gg)->Heap->Prop}{YP:World->Heap->Prop}{d:DefRec}{K:Params->ja}{CX:rP}{sp:ja->Sp}{x:Str}
  (hn:l.most=Ga n) (hn2:n<=sizeLine) (hdf:d.params.defaults=[]) (hr:lu k callerA)
  (hY:∀ (w:World) (h:Heap),YP w h->(K w.params).In h)
  (F:∀ (w:World) (mg:Str->Option Gg) (fa:Gj) (h:Heap),(K w.params).In h->h.Ns mainGlobals mg->mg d.name=Ga (.ref fa) ->
   ∃ fd:Gi,(∀ (s:Gh) (u:Gg),BindsTo s fd ⟨[u],[]⟩ [(x,u)]) /\
    ∀ base:Heap,(K w.params).In base->base.Ns mainGlobals mg->gN l.prog w (K w.params) mg base CX k fa fd [x] (sp (K w.params)))
  (hsp:∀ (K:ja) (H:Hp) (a:Gj) (ns:List Int),ns.length<=n->Bj H->lr K H a (ns.map V.int)->sp K [.ref a] H (λv _=>v=.bl true) λ_ _ _=>False)
  (hCX:∀ (H:Hp) (s:Gh) (e:Gg) (s':Gh),CX [] H s (λ_ _ _=>False) e s'->False) :
  Jt q loose XP YP l.row.toRowW d [] (λf vs=>Jx f vs) :=
 Gk (K:=K) (CX:=λ_=>CX) (sp:=λw=>sp (K w.params)) hn hn2 hdf hr hY F (λw H a ns h1 h2 h3=>hsp (K w.params) H a ns h1 h2 h3) λ_ H s e s'=>hCX H s e s'
def nD (s:Stmt):Arguments:=match s with
 | .FunctionDef _ a _ _ _ _ _ _ _ _=>a
 | _=>{ posonlyargs:=[],args:=[],vararg:=Gb,kwonlyargs:=[],kw_defaults:=[],kwarg:=Gb,defaults:=[] }
def lE (s:Stmt):List Stmt:=match s with
 | .FunctionDef _ _ b _ _ _ _ _ _ _=>b
 | _=>[]
def gs (s:Stmt):Scope:=match s with
 | .FunctionDef _ _ _ _ _ _ sc _ _ _=>sc
 | _=>{ kind:=.function,names:=[],isGenerator:=false,isCoroutine:=false }
abbrev hG:rP:=λ_ _ _ _ _ _=>False
abbrev E0:XK:=λ_ _ _=>False
theorem BE {X:Cx}:Ae hG X E0:=λ_ _ _ _ _ _ _ h=>h.elim
structure sC (K:ja)(x qual:Str)(st:Stmt)(f:Gj)(fd:Gi):Prop where
 ex:∃ (oc:Gg) (od:Option Gj) (kV doc pm:Gg) (an:Option Gj) (cdv ct:Gg) (osl:Array (Option Gg)),
  fd=kW x qual (nD st) (lE st) (gs st) .none kV doc pm an cdv ct/\K.lookup f=Ga ⟨oc,od,.func fd,osl⟩/\vN K cdv qual=true
 kp:ue K (.ref f)=true
section
variable {P:Program}{w:World}{K:ja}{mg:Str->Option Gg}{base:Heap}
theorem sC.ok {x qual:Str}{st:Stmt}{f:Gj}{fd:Gi}{N ps:List Str}{k:Nat}{sp:Sp}(F:sC K x qual st f fd)(S:gB N ps (gs st))(len:∀ vs H Q E,sp vs H Q E->vs.length=ps.length)
  (hbody:∀ (cdv:Gg) (A:Around) (outer:List Env) (s:Gh) (H:Hp) (vs:List V) (Q:VK) (E:XK),lu k (A.deeper (envOfC qual (gs st) s.heap.objs.size f cdv))->sp vs H Q E ->
   ∃ t,pZ (pK hG P w K mg base N qual (gs st) f cdv A outer s H E).nox (lE st) t/\t { nx:=λ_ H'=>Q .non H',rt:=Q } (start N vs) H):gN P w K mg base hG (k+1) f fd ps sp:=by
 obtain⟨oc,od,kV,doc,pm,an,cdv,ct,osl,rfl,lk,hcd⟩:=F.ex;refine Fh lk hcd S len λA outer s H vs Q E hr hsp=>?_;obtain⟨t,h,q⟩:=hbody cdv A outer s H vs Q E hr hsp;exact⟨t,h.nox,q⟩
theorem sC.binds {x qual:Str}{st:Stmt}{f:Gj}{fd:Gi}{ps:List Str}(F:sC K x qual st f fd)
  (h:∀ (kV doc pm:Gg) (an:Option Gj) (cdv ct:Gg) (us:List Gg),us.length=ps.length->bindArgs (kW x qual (nD st) (lE st) (gs st) .none kV doc pm an cdv ct) ⟨us,[]⟩=pure (ps.zip us)):pN K fd ps []:=by
 obtain⟨oc,od,kV,doc,pm,an,cdv,ct,osl,rfl,lk,hcd⟩:=F.ex;exact .all (h kV doc pm an cdv ct)
theorem KC {x qual:Str}{st:Stmt}{f:Gj}{oc:Gg}{od an:Option Gj}{osl:Array (Option Gg)}{kV doc pm cdv ct:Gg}(l:K.lookup f=Ga ⟨oc,od,.func (kW x qual (nD st) (lE st) (gs st) .none kV doc pm an cdv ct),osl⟩)
  (c:vN K cdv qual=true) (k:ue K (.ref f)=true):sC K x qual st f (kW x qual (nD st) (lE st) (gs st) .none kV doc pm an cdv ct):=⟨⟨oc,od,kV,doc,pm,an,cdv,ct,osl,rfl,l,c⟩,k⟩
end
theorem yC {n:Nat}(h:n<=1000):n<sizeLine:=Nat.lt_of_le_of_lt h (by decide)
section
variable {X:Cx}
end
theorem rY {A B:Prop}(h:B):if false=true then A else B:=by
 rw[Gf jq];exact h
theorem sj {A B:Prop}(h:A):if true=true then A else B:=by
 rw[Ge rfl];exact h
def gq (H H':Hp):Prop:=∀ b o,H b=Ga o->H' b=Ga o
theorem gq.refl (H:Hp):gq H H:=λ_ _ h=>h
theorem gq.trans {H H1 H2:Hp}(a:gq H H1)(b:gq H1 H2):gq H H2:=λc o h=>b c o (a c o h)
theorem gq.free {H H':Hp}(e:gq H H'){l:Gj}(h:H' l=Ji):H l=Ji:=by
 cases q:H l with
 | none=>rfl
 | some o =>
  rw[e l o q] at h;cases h
theorem gq.seq {K:ja}{H H':Hp}{a:Gj}{xs:List V}(e:gq H H')(h:lr K H a xs):lr K H' a xs:=by
 rcases h with (h|⟨o,h⟩)|h
 .exact .inl (.inl (e _ _ h))
 .exact .inl (.inr ⟨o,e _ _ h⟩)
 .exact .inr h
section
variable {κ:Type}[DecidableEq κ]
def oK (kvs:List (κ×V))(k:κ):Option V:=(kvs.find? λkv=>decide (kv.1=k)).map (·.2)
def oo (kvs:List (κ×V))(k:κ)(v:V):List (κ×V) :=
 if (kvs.any λkv=>decide (kv.1=k))=true then kvs.map (λkv=>if kv.1=k then(kv.1,v) else kv) else kvs++[(k,v)]
def ED (kvs:List (κ×V))(k:κ):List (κ×V):=kvs.filter λkv=>decide (kv.1≠k)
theorem xg {p:κ×V}{r:List (κ×V)}{k:κ}(e:p.1=k):oK (p::r) k=Ga p.2:=by simp[oK,u8,e]
theorem xi {p:κ×V}{r:List (κ×V)}{k:κ}(e:¬p.1=k):oK (p::r) k=oK r k:=by simp[oK,u8,e]
theorem zw (k:κ):∀ kvs:List (κ×V),(kvs.any λkv=>decide (kv.1=k))=(oK kvs k).isSome
 | []=>rfl
 | p::r=>by
  rw[vW];by_cases e:p.1=k
  .simp only[xg e,Gc e,ud,Option.isSome_some]
  .rw[xi e,Gd e,vd];exact zw k r
theorem rL.isSome_eq {o:Option V}{u:Option Gg}(r:rL o u):o.isSome=u.isSome:=by
 cases o with
 | none=>cases u with
  | none=>rfl
  | some _=>exact(show False from r).elim
 | some _=>cases u with
  | none=>exact(show False from r).elim
  | some _=>rfl
theorem rL.getD {o:Option V}{u:Option Gg}{d:V}{d':Gg}(r:rL o u)(rd:ia d d'):ia (o.getD d) (u.getD d'):=by
 cases o with
 | none=>cases u with
  | none=>exact rd
  | some _=>exact(show False from r).elim
 | some _=>cases u with
  | none=>exact(show False from r).elim
  | some _=>exact r
theorem KV.val {kvs:List (κ×V)}{vs:List (κ×Gg)}(r:KV kvs vs)(k:κ):rL (oK kvs k) (valueAt vs k):=by
 unfold KV at r;induction r with
 | nil=>exact True.intro
 | @cons p q ps qs h t ih =>
  obtain⟨h1,h2⟩:=h;by_cases e:p.1=k
  .have e':q.1=k:=h1.symm.trans e;have b:valueAt (q::qs) k=Ga q.2:=by simp[valueAt,u8,e']
   rw[xg e,b];exact h2
  .have e':¬q.1=k:=λz=>e (h1.trans z);have b:valueAt (q::qs) k=valueAt qs k:=by simp[valueAt,u8,e']
   rw[xi e,b];exact ih
theorem KV.any {kvs:List (κ×V)}{vs:List (κ×Gg)}(r:KV kvs vs)(k:κ):(kvs.any λkv=>decide (kv.1=k))=vs.any λkv=>decide (kv.1=k):=by
 unfold KV at r;induction r with
 | nil=>rfl
 | cons h t ih=>rw[vW,vW,ih,h.1]
theorem KV.repl {kvs:List (κ×V)}{vs:List (κ×Gg)}(r:KV kvs vs)(k:κ){y:V}{u:Gg}(ry:ia y u) :
  KV (kvs.map λkv=>if kv.1=k then(kv.1,y) else kv) (vs.map λkv=>if kv.1=k then(kv.1,u) else kv):=by
 unfold KV at r ⊢;induction r with
 | nil=>exact .nil
 | @cons p q ps qs h t ih =>
  rw[jI,jI];refine .cons ?_ ih;obtain⟨h1,h2⟩:=h;by_cases e:p.1=k
  .rw[Ge e,Ge (h1.symm.trans e)];exact⟨h1,ry⟩
  .rw[Gf e,Gf (λz=>e (h1.trans z))];exact⟨h1,h2⟩
theorem KV.put {kvs:List (κ×V)}{vs:List (κ×Gg)}(r:KV kvs vs)(k:κ){y:V}{u:Gg}(ry:ia y u):KV (oo kvs k y) (stored vs k u):=by
 unfold oo stored;rw[r.any k];by_cases e:(vs.any λkv=>decide (kv.1=k))=true
 .rw[Ge e,Ge e];exact r.repl k ry
 .rw[Gf e,Gf e];exact Paired.snoc r ⟨rfl,ry⟩
theorem KV.drop {kvs:List (κ×V)}{vs:List (κ×Gg)}(r:KV kvs vs)(k:κ):KV (ED kvs k) (without vs k):=by
 unfold KV at r ⊢;unfold ED without;induction r with
 | nil=>exact .nil
 | @cons p q ps qs h t ih =>
  obtain⟨h1,h2⟩:=h;rw[JW,JW];by_cases e:p.1=k
  .have a:¬decide (p.1≠k)=true:=by simp[e]
   have b:¬decide (q.1≠k)=true:=by simp[h1.symm.trans e]
   rw[Gf a,Gf b];exact ih
  .have e':¬q.1=k:=λz=>e (h1.trans z);have a:decide (p.1≠k)=true:=by simp[e]
   have b:decide (q.1≠k)=true:=by simp[e']
   rw[Ge a,Ge b];exact .cons ⟨h1,h2⟩ ih
theorem KV.keys {kvs:List (κ×V)}{vs:List (κ×Gg)}(r:KV kvs vs):kvs.map (·.1)=vs.map (·.1):=by
 unfold KV at r;induction r with
 | nil=>rfl
 | cons h t ih=>rw[jI,jI,ih,h.1]
theorem KV.length {kvs:List (κ×V)}{vs:List (κ×Gg)}(r:KV kvs vs):kvs.length=vs.length:=Paired.length r
end
abbrev KT (H:Hp):List (List lV×V)->List (List lV×Gj×Gg)->Prop:=Paired λp q=>p.1=q.1/\H q.2.1=Ga (.tup (p.1.map kV))/\ia p.2 q.2.2
theorem KT.val {H:Hp}{kvs:List (List lV×V)}{xs:List (List lV×Gj×Gg)}(r:KT H kvs xs)(k:List lV):rL (oK kvs k) ((atKey xs k).map (·.2)):=by
 induction r with
 | nil=>exact True.intro
 | @cons p q ps qs h t ih =>
  obtain⟨h1,_,h2⟩:=h;by_cases e:p.1=k
  .have e':q.1=k:=h1.symm.trans e;have b:atKey (q::qs) k=Ga q.2:=by simp[atKey,u8,e']
   rw[xg e,b];exact h2
  .have e':¬q.1=k:=λz=>e (h1.trans z);have b:atKey (q::qs) k=atKey qs k:=by simp[atKey,u8,e']
   rw[xi e,b];exact ih
theorem KT.repl {H:Hp}{kvs:List (List lV×V)}{xs:List (List lV×Gj×Gg)}(r:KT H kvs xs)(k:List lV){y:V}{u:Gg}(ry:ia y u) :
  KT H (kvs.map λkv=>if kv.1=k then(kv.1,y) else kv) (xs.map (putAt k u)):=by
 induction r with
 | nil=>exact .nil
 | @cons p q ps qs h t ih =>
  rw[jI,jI];refine .cons ?_ ih;obtain⟨h1,h2,h3⟩:=h;unfold putAt;by_cases e:p.1=k
  .rw[Ge e,Ge (h1.symm.trans e)];exact⟨h1,h2,ry⟩
  .rw[Gf e,Gf (λz=>e (h1.trans z))];exact⟨h1,h2,h3⟩
theorem KT.put {H:Hp}{kvs:List (List lV×V)}{xs:List (List lV×Gj×Gg)}(r:KT H kvs xs)(k:List lV){b:Gj}{y:V}{u:Gg}(hb:H b=Ga (.tup (k.map kV)))(ry:ia y u) :
  KT H (oo kvs k y) (storedH xs k b u):=by
 have e:(kvs.any λkv=>decide (kv.1=k))=(atKey xs k).isSome:=by
  rw[zw,(r.val k).isSome_eq,JJ]
 unfold oo storedH;rw[e];by_cases q:(atKey xs k).isSome=true
 .rw[Ge q,Ge q];exact r.repl k ry
 .rw[Gf q,Gf q];exact Paired.snoc r ⟨rfl,hb,ry⟩
theorem KT.keeps {H H':Hp}{kvs:List (List lV×V)}{xs:List (List lV×Gj×Gg)}(r:KT H kvs xs)(ht:∀ b ys,H b=Ga (.tup ys)->H' b=Ga (.tup ys)):KT H' kvs xs :=
 Paired.mapP r λ_ _ z=>⟨z.1,ht _ _ z.2.1,z.2.2⟩
section
variable {P:Program}{w:World}{H:Hp}{h:Heap}{a:Gj}
end
def Bz (H:Hp)(a:Gj)(y:V)(r:Option V):Prop :=
 (∃ kvs k,Rd H a (.dK kvs)/\y=kV k/\r=oK kvs k)\/∃ kvs k b,Rd H a (.dT kvs)/\y=.ref b/\H b=Ga (.tup (k.map kV))/\r=oK kvs k
def BG (H:Hp)(a:Gj)(y v:V)(H':Hp):Prop :=
 (∃ kvs k,H a=Ga (.dK kvs)/\y=kV k/\kvs.length<sizeLine/\H'=upd H a (.dK (oo kvs k v))) \/
 ∃ kvs k b,H a=Ga (.dT kvs)/\y=.ref b/\H b=Ga (.tup (k.map kV))/\kvs.length<sizeLine/\H'=upd H a (.dT (oo kvs k v))
theorem Bz.k {H:Hp}{a:Gj}{kvs:List (lV×V)}{k:lV}(e:H a=Ga (.dK kvs)):Bz H a (kV k) (oK kvs k):=.inl ⟨kvs,k,.inl e,rfl,rfl⟩
theorem Bz.t {H:Hp}{a b:Gj}{kvs:List (List lV×V)}{k:List lV}(e:H a=Ga (.dT kvs))(eb:H b=Ga (.tup (k.map kV))):Bz H a (.ref b) (oK kvs k):=.inr ⟨kvs,k,b,.inl e,rfl,eb,rfl⟩
theorem BG.k {H:Hp}{a:Gj}{kvs:List (lV×V)}{k:lV}{v:V}(e:H a=Ga (.dK kvs))(hl:kvs.length<sizeLine):BG H a (kV k) v (upd H a (.dK (oo kvs k v))):=.inl ⟨kvs,k,e,rfl,hl,rfl⟩
theorem BG.t {H:Hp}{a b:Gj}{kvs:List (List lV×V)}{k:List lV}{v:V}(e:H a=Ga (.dT kvs))(eb:H b=Ga (.tup (k.map kV)))(hl:kvs.length<sizeLine) :
  BG H a (.ref b) v (upd H a (.dT (oo kvs k v))):=.inr ⟨kvs,k,b,e,rfl,eb,hl,rfl⟩
section
variable {X:Cx}{ω:List (Gj×Obj)}{σ:St}{H:Hp}{s:Gh}{a:Gj}{y v:V}{u r:Gg}{o:Option V}{A:Around}{E:Gg->Gh->Prop}
theorem gA.big (I:gA X ω σ H s):sysModules<s.heap.objs.size:=by
 have h:mainGlobals<s.heap.objs.size:=(I.mod.glob.keeps I.bk).lt;exact qN (by decide) h
theorem Aw {h':Heap}{t':Nat}{ob:HO}(I:gA X ω σ H s)(mu:CI (H a))(hs:vJ a s.heap h')(he:∃ q,h'.get? a=Ga q)(new:mK X.prog X.w (upd H a ob) h' a ob) :
  gA X ω σ (upd H a ob) { s with heap:=h',toks:=t' } :=
 I.write (x:=a) (e:=a) mu (.inl rfl) (λb q hb z=>(hs.2 b hb).trans z) he new
end
section
variable {X:Cx}{ω:List (Gj×Obj)}{σ:St}{H:Hp}{s:Gh}{a:Gj}{kvs:List (lV×V)}{k:lV}{u:Gg}{A:Around}{E:Gg->Gh->Prop}
end
def Mk (i:Expr):Prop:=∀ ov iv,subscripted i false ov iv=operate [ov,iv] (getItem ov iv)
theorem Gn {prog:Program}{w:World}{A:Around}{E:Gg->Gh->Prop}{s:Gh}{ψ:Env}{value slice:Expr}{pos:Pos}{T id:String}{Q:Gg->Gh->Prop}
  (hl:typeLookup (.type T) "__getitem__"=pure (Ga (.builtin id))) (hs:Mk slice)
  (h:wpAny (model prog w) A (eval value ψ) (λo s₁=>wpAny (model prog w) A (eval slice ψ) (λi s₂=>s₂.TypeIs o T/\wpAny (model prog w) A (getItem o i) Q E s₂) E s₁) E s) :
  wpAny (model prog w) A (eval (.Subscript value slice pos) ψ) Q E s:=by
 refine Subscript_ (wpAny_mono h (λo s₁ h₁=>wpAny_mono h₁ (λi s₂ h₂=>?_) λ_ _ x=>x) λ_ _ x=>x);obtain⟨hT,h₂⟩:=h₂;unfold subscriptTail;refine gk ?_;rw[getitemInPython_of_ne hT.not_modules];refine gk (wpAny_specialOf hT hl ?_);have fin:wpAny (model prog w) A (subscripted slice false o i) (λr s₃=>wpAny (model prog w) A (letTemporaryGo value o r >>= λ_=>pure r) Q E s₃) E s₂:=by
  rw[hs o i];exact wpAny_operating (wpAny_mono h₂ (λr s₃ h₃=>gk (wpAny_letTemporaryGo (gm h₃))) λ_ _ x=>x)
 first
  | exact gm (gk fin)
  | exact gk (gm (gk fin))
  | exact gk fin
section
variable {X:Cx}{o i e value:Expr}{pos pos' tpos:Pos}{td ty tv:TE}
end
section
variable {X:Cx}{pos:Pos}
end
structure M1 (X:Cx)(o:Expr)(m:Str)(apos:Pos)(e:Expr)(cpos:Pos):Prop where
 base:attributeBase o m X.env (eval o X.env)=eval o X.env
 few:((backTo cpos (starEach [e] X.env)).all (λx=>!x.1)&&(backToKw cpos (keywordEach [] X.env)).all (λx=>x.1.isSome)
  && decide (([e]:List Expr).length+([]:List Keyword).length+(if ([]:List Keyword).isEmpty then 0 else 1)<30))=true
 line:(apos.endLine==cpos.line)=true
 trees:backTo cpos (starEach [e] X.env)=[(false,eval e X.env)]
structure M2 (X:Cx)(o:Expr)(m:Str)(apos:Pos)(e f:Expr)(cpos:Pos):Prop where
 base:attributeBase o m X.env (eval o X.env)=eval o X.env
 few:((backTo cpos (starEach [e,f] X.env)).all (λx=>!x.1)&&(backToKw cpos (keywordEach [] X.env)).all (λx=>x.1.isSome)
  && decide (([e,f]:List Expr).length+([]:List Keyword).length+(if ([]:List Keyword).isEmpty then 0 else 1)<30))=true
 line:(apos.endLine==cpos.line)=true
 trees:backTo cpos (starEach [e,f] X.env)=[(false,eval e X.env),(false,eval f X.env)]
section
variable {X:Cx}{ω:List (Gj×Obj)}{σ:St}{H:Hp}{s:Gh}{a:Gj}{y d:V}{u r:Gg}{o:Option V}{A:Around}{E:Gg->Gh->Prop}
end
section
variable {X:Cx}{o e f:Expr}{apos cpos:Pos}{td ty tx:TE}
end
section
variable {X:Cx}{ω:List (Gj×Obj)}{σ:St}{H:Hp}{s:Gh}{a:Gj}{kvs:List (lV×V)}{A:Around}{E:Gg->Gh->Prop}
end
section
variable {X:Cx}{ω:List (Gj×Obj)}{σ:St}{H:Hp}{s:Gh}{a:Gj}{y:V}{u:Gg}{A:Around}{E:Gg->Gh->Prop}
end
section
variable {κ:Type}[DecidableEq κ]
end
end L2
set_option autoImplicit false
namespace T3
open PySem PySem.Spec
noncomputable instance decD:DecidableEq PyData:=λa b=>vH (a=b)
mutual
def hE:PyData->Nat->Bool
 | .none,_=>true
 | .int _,_=>true
 | .tuple _,0=>false
 | .tuple xs,n+1=>ml xs n
 | .bool _,_=>false
 | .str _,_=>false
 | .list _,_=>false
 | .dict _,_=>false
def ml:List PyData->Nat->Bool
 | [],_=>true
 | x::xs,n=>hE x n&&ml xs n
end
mutual
def rz:PyData->Int
 | .int i=>hashInt i
 | .tuple xs=>reduceHash (kL (ma xs))
 | _=>0xFCA86420
def ma:List PyData->List Int
 | []=>[]
 | x::xs=>rz x::ma xs
end
mutual
def rT:PyData->Nat
 | .tuple xs=>mS xs+1
 | _=>1
def mS:List PyData->Nat
 | []=>0
 | x::xs=>rT x+mS xs
end
mutual
theorem Cn:∀ (d:PyData) (n:Nat),hE d n=true->d.canLay0=true/\d.depth<=n
 | .none,_,_=>⟨rfl,jO _⟩
 | .int _,_,_=>⟨rfl,jO _⟩
 | .tuple xs,0,h=>by simp[hE] at h
 | .tuple xs,n+1,h=>by
  rw[hE] at h;have:=RK xs n h;exact⟨this.1,Nat.succ_le_succ this.2⟩
 | .bool _,_,h=>by simp[hE] at h
 | .str _,_,h=>by simp[hE] at h
 | .list _,_,h=>by simp[hE] at h
 | .dict _,_,h=>by simp[hE] at h
theorem RK:∀ (xs:List PyData) (n:Nat),ml xs n=true->kN xs=true/\kx xs<=n
 | [],_,_=>⟨rfl,jO _⟩
 | x::xs,n,h=>by
  rw[ml,jx] at h;have a:=Cn x n h.1;have b:=RK xs n h.2;refine⟨?_,?_⟩
  .rw[kN,a.1,b.1];rfl
  .rw[kx];omega
end
mutual
theorem Oz:∀ (a b:PyData) (n m:Nat),hE a n=true->hE b m=true->kR a b=true->a=b
 | .none,.none,_,_,_,_,_=>rfl
 | .none,.int _,_,_,_,_,h=>by simp[kR] at h
 | .none,.tuple _,_,_,_,_,h=>by simp[kR] at h
 | .int _,.none,_,_,_,_,h=>by simp[kR] at h
 | .int i,.int j,_,_,_,_,h=>by simp only[kR] at h;rw[beq_iff_eq] at h;rw[h]
 | .int _,.tuple _,_,_,_,_,h=>by simp[kR] at h
 | .tuple _,.none,_,_,_,_,h=>by simp[kR] at h
 | .tuple _,.int _,_,_,_,_,h=>by simp[kR] at h
 | .tuple xs,.tuple ys,0,_,p,_,_=>by simp[hE] at p
 | .tuple xs,.tuple ys,_+1,0,_,q,_=>by simp[hE] at q
 | .tuple xs,.tuple ys,n+1,m+1,p,q,h=>by rw[kR] at h;rw[hE] at p q;rw[Sx xs ys n m p q h]
 | .bool _,_,_,_,p,_,_=>by simp[hE] at p
 | .str _,_,_,_,p,_,_=>by simp[hE] at p
 | .list _,_,_,_,p,_,_=>by simp[hE] at p
 | .dict _,_,_,_,p,_,_=>by simp[hE] at p
 | .none,.bool _,_,_,_,q,_=>by simp[hE] at q
 | .none,.str _,_,_,_,q,_=>by simp[hE] at q
 | .none,.list _,_,_,_,q,_=>by simp[hE] at q
 | .none,.dict _,_,_,_,q,_=>by simp[hE] at q
 | .int _,.bool _,_,_,_,q,_=>by simp[hE] at q
 | .int _,.str _,_,_,_,q,_=>by simp[hE] at q
 | .int _,.list _,_,_,_,q,_=>by simp[hE] at q
 | .int _,.dict _,_,_,_,q,_=>by simp[hE] at q
 | .tuple _,.bool _,_,_,_,q,_=>by simp[hE] at q
 | .tuple _,.str _,_,_,_,q,_=>by simp[hE] at q
 | .tuple _,.list _,_,_,_,q,_=>by simp[hE] at q
 | .tuple _,.dict _,_,_,_,q,_=>by simp[hE] at q
theorem Sx:∀ (xs ys:List PyData) (n m:Nat),ml xs n=true->ml ys m=true->qz xs ys=true->xs=ys
 | [],[],_,_,_,_,_=>rfl
 | [],_::_,_,_,_,_,h=>by simp[qz] at h
 | _::_,[],_,_,_,_,h=>by simp[qz] at h
 | x::xs,y::ys,n,m,p,q,h=>by
  rw[qz,jx] at h;rw[ml,jx] at p q;rw[Oz x y n m p.1 q.1 h.1,Sx xs ys n m p.2 q.2 h.2]
end
mutual
theorem To {h h':Heap}{d0:Gj}{o:Obj}{es:Array DictEntry}{ep:Nat}(ho:h.get? d0=Ga o)(hd:o.data=.dict es ep)(hs:vJ d0 h h'):∀ (d:PyData) (n:Nat) (v:Gg) (as:List Gj),hE d n=true->Reads h v d as->Reads h' v d as
 | .none,_,_,_,_,.none=>.none
 | .int _,_,_,_,_,.int i t=>.int i t
 | .tuple _,0,_,_,k,_=>by simp[hE] at k
 | .tuple xs,n+1,_,_,k,.tuple (a:=a) (o:=o') h1 h2 h3 h4=>by
  rw[hE] at k;have hne:a≠d0:=by
   rintro rfl;have:o'=o:=jD (h1.symm.trans ho);rw[this,hd] at h3;cases h3
  exact .tuple ((hs.2 a hne).trans h1) h2 h3 (SW ho hd hs xs n _ _ k h4)
 | .bool _,_,_,_,k,_=>by simp[hE] at k
 | .str _,_,_,_,k,_=>by simp[hE] at k
 | .list _,_,_,_,k,_=>by simp[hE] at k
 | .dict _,_,_,_,k,_=>by simp[hE] at k
theorem SW {h h':Heap}{d0:Gj}{o:Obj}{es:Array DictEntry}{ep:Nat}(ho:h.get? d0=Ga o)(hd:o.data=.dict es ep)(hs:vJ d0 h h'):∀ (xs:List PyData) (n:Nat) (vs:List Gg) (as:List Gj),ml xs n=true->ReadsAll h vs xs as->ReadsAll h' vs xs as
 | [],_,_,_,_,.nil=>.nil
 | x::xs,n,_,_,k,.cons h1 h2=>by
  rw[ml,jx] at k;exact .cons (To ho hd hs x n _ _ k.1 h1) (SW ho hd hs xs n _ _ k.2 h2)
end
section
variable {prog:Program}{w:World}
theorem zvK {A:Around}{E:Gg->Gh->Prop}{s:Gh}{Q:Int->Gh->Prop}(h:Q 0xFCA86420 { s with toks:=s.toks+1 }):wpAny (model prog w) A (pyHash .none) Q E s:=by
 have hT:s.TypeIs .none "NoneType":=rfl;unfold pyHash;have hv:[km].any Value.onHeap=false:=rfl;refine gk ?_;rw[cRoomFor,Gf (by rw[hv];exact jq)];refine gm (gk (wpAny_specialOf hT F.slot_NoneType_hash.lookup ?_));show wpAny _ _ (if (Ga (Value.builtin "NoneType.__hash__")==Ga km)=true then _ else _) Q E s;rw[Gf (by rw[beq_builtin_none];exact jq)];refine gk (wpAny_specialOf hT F.slot_NoneType_hash.lookup ?_);show wpAny _ _ (callSpecialIfBoundUnlessNone? .none "__hash__" _ >>= _) Q E s;refine gk (wpAny_callSpecialIfBoundUnlessNone?_slot hT F.slot_NoneType_hash (wpAny_call_entry F.slot_NoneType_hash hT F.entry_NoneType_hash (show wpAny _ _ (do ret (<- mkInt 0xFCA86420)) _ _ s from wpAny_ret_mkInt ?_) (F.args_NoneType_hash_1 _)));show wpAny _ _ (if (decide (-(2:Int)^63<=0xFCA86420)&&decide ((0xFCA86420:Int)<2^63))=true then _ else _) Q E _;rw[Ge (by decide)];exact gm h
def xL (prog:Program)(w:World)(d:PyData):Prop:=∀ (A:Around) (E:Gg->Gh->Prop) (s:Gh) (v:Gg) (as:List Gj) (Q:Int->Gh->Prop),A.units+d.depth<cLine->Reads s.heap v d as->Q (rz d) { s with toks:=s.toks+rT d }->wpAny (model prog w) A (pyHash v) Q E s
theorem RZ:∀ (xs ys:List PyData),ma (xs++ys)=ma xs++ma ys
 | [],ys=>by rw[ma];rfl
 | x::xs,ys=>by rw[vV,ma,ma,RZ xs ys];rfl
theorem Pz:∀ (xs ys:List PyData),mS (xs++ys)=mS xs+mS ys
 | [],ys=>by rw[mS];exact(qf _).symm
 | x::xs,ys=>by rw[vV,mS,mS,Pz xs ys,vX]
theorem Sz:∀ {xs:List PyData} {x:PyData},x∈xs->x.depth<=kx xs
 | y::ys,x,h=>by
  rw[kx];rcases ju.mp h with rfl|h
  .omega
  .have:=Sz h;omega
theorem zyV {xs:List PyData}(IH:∀ x∈xs,xL prog w x):xL prog w (.tuple xs):=by
 intro A E s v as Q hu r q;cases r with
 | @tuple a o vs n' _ _ h1 h2 h3 h4 =>
  rw[rz,rT] at q;have hT:s.TypeIs (.ref a) "tuple":=⟨o,h1,h2⟩;have hu':A.units+(kx xs+1)<cLine:=hu;unfold pyHash;unfold pyHashByItsType;refine gk (wpAny_cRoomFor_or (.inr (by omega)) ?_);refine gk (wpAny_specialOf hT F.slot_tuple_hash.lookup ?_);show wpAny _ _ (if (Ga (Value.builtin "tuple.__hash__")==Ga km)=true then _ else _) Q E s;rw[Gf (by rw[beq_builtin_none];exact jq)];refine gk (wpAny_specialOf hT F.slot_tuple_hash.lookup ?_);show wpAny _ _ (callSpecialIfBoundUnlessNone? (.ref a) "__hash__" _ >>= _) Q E s;refine gk (wpAny_callSpecialIfBoundUnlessNone?_slot hT F.slot_tuple_hash (wpAny_call_entry F.slot_tuple_hash hT F.entry_tuple_hash ?_ (F.args_tuple_hash_1 _)));show wpAny _ _ (ql (.ref a) >>= _) _ _ s;refine gk (wpAny_tupleItemsOf h1 h3 ?_);refine gk ?_;rw[<- Jy];refine wpAny_forIn_list _
   (λrest (b:Array Int) s'=>∃ dn lf bs,xs=dn++lf/\ReadsAll s.heap rest lf bs/\b.toList=ma dn/\s'={ s with toks:=s.toks+mS dn })
   _ ?_ ?_ _ _ ⟨[],xs,_,rfl,h4,rfl,rfl⟩
  .rintro x rest b s' ⟨dn,lf,bs,e,hl,hb,rfl⟩;cases hl with
   | @cons _ _ d ds as1 bs1 r1 r2 =>
    have hm:d∈xs:=by rw[e];exact jK _ jf
    have hd:=Sz hm;refine gk (IH d hm A.in1 _ _ x as1 _ (by show A.units+1+d.depth<cLine;omega) r1 ?_);have z:∃ dn' lf' bs',xs=dn'++lf'/\ReadsAll s.heap rest lf' bs'/\(b.push (rz d)).toList=ma dn'/\({ s with toks:=s.toks+mS dn+rT d }:Gh)={ s with toks:=s.toks+mS dn' }:=by
     refine⟨dn++[d],ds,bs1,by rw[e,kP];rfl,r2,?_,?_⟩
     .rw[Array.toList_push,hb,RZ];rw[ma,ma]
     .rw[Pz,mS,mS,Nat.add_zero,vX]
    first
     | exact gm z
     | exact gk (gm (gm z))
  .rintro b s' ⟨dn,lf,bs,e,hl,hb,rfl⟩;cases hl;rw[kg] at e;subst e;show wpAny _ _ (retInt (kL b.toList)) _ _ _;rw[hb];refine wpAny_ret_mkInt ?_;show wpAny _ _ (if (decide (-(2:Int)^63<=kL (ma xs))&&decide (kL (ma xs)<2^63))=true then _ else _) Q E _;unfold reduceHash at q;by_cases hr:(decide (-(2:Int)^63<=kL (ma xs))&&decide (kL (ma xs)<2^63))=true
   .rw[Ge hr] at q ⊢;exact gm (by simpa [vX] using q)
   .rw[Gf hr] at q ⊢;exact gk (wpAny_rule (gm (by simpa [vX] using q)))
mutual
theorem SQ:∀ (d:PyData) (n:Nat),hE d n=true->xL prog w d
 | .none,_,_=>λA E s v as Q _ r q=>by cases r;exact zvK (by rw[rz,rT] at q;exact q;all_goals exact λ_ z=>by cases z)
 | .int i,_,_=>λA E s v as Q _ r q=>by cases r;exact wpAny_pyHash_int (by rw[rz,rT] at q;exact q;all_goals exact λ_ z=>by cases z)
 | .tuple _,0,k=>by simp[hE] at k
 | .tuple xs,n+1,k=>by rw[hE] at k;exact zyV (RM xs n k)
 | .bool _,_,k=>by simp[hE] at k
 | .str _,_,k=>by simp[hE] at k
 | .list _,_,k=>by simp[hE] at k
 | .dict _,_,k=>by simp[hE] at k
theorem RM:∀ (xs:List PyData) (n:Nat),ml xs n=true->∀ x∈xs,xL prog w x
 | [],_,_,x,h=>by cases h
 | y::ys,n,k,x,h=>by
  rw[ml,jx] at k;rcases ju.mp h with e|h
  .rw[e];exact SQ y n k.1
  .exact RM ys n k.2 x h
end
def wv (prog:Program)(w:World)(n:Nat)(d:PyData):Prop:=∀ (A:Around) (E:Gg->Gh->Prop) (s:Gh) (v:Gg) (as:List Gj) (Q:Bool->Gh->Prop),Reads s.heap v d as->Q true s->wpAny (model prog w) A (eqIsQuiet n v) Q E s
theorem zvL {xs:List PyData}{n:Nat}(IH:∀ x∈xs,wv prog w n x):wv prog w (n+1) (.tuple xs):=by
 intro A E s v as Q r q;cases r with
 | @tuple a o vs n' _ _ h1 h2 h3 h4 =>
  have hT:s.TypeIs (.ref a) "tuple":=⟨o,h1,h2⟩;unfold eqIsQuiet;refine gk (wpAny_specialOf hT F.slot_tuple_eq.lookup ?_);show wpAny _ _ (isInstance (.ref a) (.type "tuple") >>= _) _ _ s;refine gk (wpAny_isInstance hT isSubtype_tuple_tuple ?_);simp only[qA,kH,if_false];refine gk (wpAny_seqItems h1 h3 (gk ?_));show wpAny _ _ (forIn vs _ _) _ _ s;rw[<- Jy];refine wpAny_forIn_list _ (λrest r s'=>r.1=Gb/\s'=s/\∃ lf bs,ReadsAll s.heap rest lf bs/\∀ x∈lf,x∈xs) _ ?_ ?_ _ _ ⟨rfl,rfl,xs,_,h4,λ_ z=>z⟩
  .rintro x rest r s' ⟨hr,rfl,lf,bs,hl,hm⟩;cases hl with
   | @cons _ _ d ds as1 bs1 r1 r2 =>
    refine gk (IH d (hm d jf) _ _ _ x as1 _ r1 ?_);simp only[qA,kH,if_false];exact gm ⟨rfl,rfl,ds,bs1,r2,λy hy=>hm y (jj _ hy)⟩
  .rintro⟨b1,b2⟩ s' ⟨hr,rfl,_⟩;simp only at hr;subst hr;exact gm q
mutual
theorem Pw:∀ (d:PyData) (n:Nat),hE d n=true->wv prog w n d
 | .none,n,_=>λA E s v as Q r q=>by cases r;rw[eqIsQuiet_byValue n rfl];exact gm q
 | .int i,n,_=>λA E s v as Q r q=>by cases r;rw[eqIsQuiet_byValue n rfl];exact gm q
 | .tuple _,0,k=>by simp[hE] at k
 | .tuple xs,n+1,k=>by rw[hE] at k;exact zvL (QM xs n k)
 | .bool _,_,k=>by simp[hE] at k
 | .str _,_,k=>by simp[hE] at k
 | .list _,_,k=>by simp[hE] at k
 | .dict _,_,k=>by simp[hE] at k
theorem QM:∀ (xs:List PyData) (n:Nat),ml xs n=true->∀ x∈xs,wv prog w n x
 | [],_,_,x,h=>by cases h
 | y::ys,n,k,x,h=>by
  rw[ml,jx] at k;rcases ju.mp h with e|h
  .rw[e];exact Pw y n k.1
  .exact QM ys n k.2 x h
end
noncomputable def wS (prog:Program)(w:World):HeapKind prog w PyData where
 is:=λh d a=>hE d 8=true/\∃ as,Reads h (.ref a) d as
 hash:=rz
 draws:=rT
 room:=λA=>A.units+20<cLine
 inj:=λ{h a x y} hx hy=>SeqAt.Reads.unique x y _ _ _ (Cn x 8 hx.1).1 hx.2.choose_spec hy.2.choose_spec
 keeps:=λ{h h' k a d o es ep} x ho hd hs=>⟨x.1,_,To ho hd hs k 8 _ _ x.1 x.2.choose_spec⟩
 pyHash:=λ{A E s k a Q} hu hk q=>SQ k 8 hk.1 A E s _ _ Q (by have:=(Cn k 8 hk.1).2;omega) hk.2.choose_spec q
 eqBool:=λ{A E s x y a b Q} hu hx hy q=>by
  have l1:=Cn x 8 hx.1;have l2:=Cn y 8 hy.1;refine SeqAt.eqAt_reads x y A s (.ref a) (.ref b) _ _ hx.2.choose_spec hy.2.choose_spec l1.1 l2.1 (by omega) prog w E Q ?_;have e:kR x y=decide (x=y):=by
   rw[jS,decide_eq_true_eq];exact⟨λz=>Oz x y 8 8 hx.1 hy.1 z,λz=>by rw[z];exact SeqAt.eqv_refl y l2.1⟩
  rw[e];exact q
 quiet:=λ{A E s k a Q} hk q=>Pw k 8 hk.1 A E s _ _ Q hk.2.choose_spec q
end
section
variable {prog:Program}{w:World}{A:Around}{E:Gg->Gh->Prop}{s:Gh}
def pq (h:Heap)(d:Gj)(es:Array DictEntry)(ep:Nat):Prop:=∃ o,h.get? d=Ga o/\o.ExactDict/\o.data=.dict es ep
theorem pq.ty {d:Gj}{es:Array DictEntry}{ep:Nat}(x:pq s.heap d es ep):s.TypeIs (.ref d) "dict":=let ⟨o,ho,hc,_⟩:=x;⟨o,ho,hc.1⟩
theorem pq.kept {h h':Heap}{d:Gj}{es:Array DictEntry}{ep:Nat}(x:pq h d es ep)(k:∀ o,h.get? d=Ga o->h'.get? d=Ga o):pq h' d es ep:=let ⟨o,ho,r⟩:=x;⟨o,k _ ho,r⟩
theorem ZH {d:Gj}{es:Array DictEntry}{ep:Nat}{Q:Gg->Gh->Prop}(hd:(d==sysModules)=false)(hm:pq s.heap d es ep)
  (hQ:Q (.ref s.heap.objs.size) { s with heap:=s.heap.push { cls:=.type "dict_keyiterator",data:=.fields #[.ref d,.int 0 0,.int es.size 0,.int ep 0] } }):wpAny (model prog w) A (pyIter (.ref d)) Q E s:=by
 have hT:=hm.ty;obtain⟨o,ho,hc,hdat⟩:=hm;refine wpAny_pyIter_slot hT F.slot_dict_iter (wpAny_call_entry F.slot_dict_iter hT F.entry_dict_iter ?_ (F.args_dict_iter_1 _));unfold Builtin.«dict.__iter__» Builtin.Dict.dictSlotNone;refine gk (gk (wpAny_notOrdered_dict hT ?_));show wpAny _ _ (pure (kJ d)) _ _ s;refine gm ?_;show wpAny _ _ (Jb d >>= _) _ _ s;unfold Jb;rw[Gf (by rw[hd];exact jq)];refine gk (gm (gk (wpAny_dictEntries ho hdat (gk (wpAny_dictEpoch ho hdat ?_)))));exact gk (wpAny_newObj_type (gm ⟨_,rfl,"dict_keyiterator",_,⟨_,jy _ rfl,rfl⟩,F.slot_dict_keyiterator_next.lookup,hQ⟩))
theorem VX {it d:Gj}{i ep:Nat}{es:Array DictEntry}{e:DictEntry}{Q:Option Gg->Gh->Prop}(hit:s.heap.IsKeyIter it d i es.size ep)(hm:pq s.heap d es ep)(hx:es[i]?=Ga e)
  (hQ:∀ h',h'.IsKeyIter it d (i+1) es.size ep->vJ it s.heap h'->Q (Ga e.key) { s with heap:=h' }):wpAny (model prog w) A (pyNext (.ref it)) Q E s:=by
 obtain⟨o,ho,hc,hd⟩:=id hit;obtain⟨od,hod,hcd,hdd⟩:=id hm;unfold pyNext;refine gk (wpAny_attempt (wpAny_callSpecial?_slot (name:=jC "__next__") hit.typeIs F.slot_dict_keyiterator_next (wpAny_call_entry F.slot_dict_keyiterator_next hit.typeIs F.entry_dict_keyiterator_next ?_ (F.args_dict_keyiterator_next_1 _))));refine gk (gm (gk (gk ?_)))
 first|refine gk (wpAny_typeNameOfWhole_keyiter hit.typeIs (gm ?_))|refine gk (wpAny_typeNameOf_keyiter hit.typeIs (gm ?_))
 refine gk (wpAny_fieldsOf ho hd ?_);simp only[show v6 "dict_keyiterator"=false by decide,kH,if_false];show wpAny _ _ (if (kJ d==km)=true then _ else _) _ _ s;rw[Gf (show ¬((kJ d==km)=true) from jq)];refine gk (gm (gk (wpAny_dictEntries hod hdd ?_)));rw[Gf (by simp)];refine gk (gm (gk (wpAny_dictEpoch hod hdd ?_)));rw[Gf (by simp)];refine gm ?_;simp only[show ¬((i:Int)<0) from by omega,if_false,ka,hx];refine gk ?_
 first|refine gk (wpAny_typeNameOfWhole_keyiter hit.typeIs (gm ?_))|refine gk (wpAny_typeNameOf_keyiter hit.typeIs (gm ?_))
 refine gk (wpAny_isOneOf_keyiter hit.typeIs ?_);show wpAny _ _ (setField (.ref it) 1 (rawInt ((i:Int)+1)) >>= _) _ _ s;refine gk (wpAny_setField ho hd (by simp) ?_);have hit':(s.heap.update it (Obj.mapFields (·.setIfInBounds 1 (rawInt ((i:Int)+1))))).IsKeyIter it d (i+1) es.size ep :=
  ⟨_,uA _ ho (Obj.isFreed_of_fields (Jz hd _)),(Obj.cls_mapFields ..).trans hc,by rw[Jz hd];simp[rawInt]⟩
 refine gk (wpAny_holding (gk (wpAny_isOneOf_keyiter (s:={ s with heap:=s.heap.update it (Obj.mapFields (·.setIfInBounds 1 (rawInt ((i:Int)+1)))) }) hit'.typeIs ?_)));show wpAny _ _ (pure e.key) _ _ _;exact gm (gm ⟨_,rfl,gm (hQ _ hit' (ur ..))⟩)
theorem zyY {it d:Gj}{i ep:Nat}{es:Array DictEntry}{Q:Option Gg->Gh->Prop}(hh:A.handled=Gb)(hit:s.heap.IsKeyIter it d i es.size ep)(hm:pq s.heap d es ep)(hx:es.size<=i)
  (hQ:∀ h',Heap.ExtBut it s.heap h'->Q Gb { s with heap:=h' }):wpAny (model prog w) A (pyNext (.ref it)) Q E s:=by
 obtain⟨o,ho,hc,hd⟩:=id hit;obtain⟨od,hod,hcd,hdd⟩:=id hm;unfold pyNext;refine gk (wpAny_attempt (wpAny_callSpecial?_slot (name:=jC "__next__") hit.typeIs F.slot_dict_keyiterator_next (wpAny_call_entry F.slot_dict_keyiterator_next hit.typeIs F.entry_dict_keyiterator_next ?_ (F.args_dict_keyiterator_next_1 _))));refine gk (gm (gk (gk ?_)))
 first|refine gk (wpAny_typeNameOfWhole_keyiter hit.typeIs (gm ?_))|refine gk (wpAny_typeNameOf_keyiter hit.typeIs (gm ?_))
 refine gk (wpAny_fieldsOf ho hd ?_);simp only[show v6 "dict_keyiterator"=false by decide,kH,if_false];show wpAny _ _ (if (kJ d==km)=true then _ else _) _ _ s;rw[Gf (show ¬((kJ d==km)=true) from jq)];refine gk (gm (gk (wpAny_dictEntries hod hdd ?_)));rw[Gf (by simp)];refine gk (gm (gk (wpAny_dictEpoch hod hdd ?_)));rw[Gf (by simp)];refine gm ?_;simp only[show ¬((i:Int)<0) from by omega,if_false,ka,Array.getElem?_eq_none hx];refine gk ?_
 first|refine gk (wpAny_typeNameOfWhole_keyiter hit.typeIs (gm ?_))|refine gk (wpAny_typeNameOf_keyiter hit.typeIs (gm ?_))
 show wpAny _ _ (setField (.ref it) 0 .none >>= _) _ _ s;refine gk (wpAny_setField ho hd (by simp) ?_);show wpAny _ _ (newExc (.type "StopIteration") [] >>= _) _ _ _;refine gk ?_;simp only[newExc,newTuple];refine gk (wpAny_newObj_type (gk (m:=firstArgMember _ _) (wpAny_of_eq (a:=km) (by first|rfl|(simp only[firstArgMember];rfl)) (wpAny_newObj_type ?_ (by size_fits)))) (by size_fits));simp only[raiseNew];refine gk (wpAny_handled ?_);rw[show A.in1.handled=Gb from hh];refine gk (gm (wpAny_throw ?_));refine(gk (wpAny_isInstance (T:="StopIteration") (b:=true) ⟨_,jy _ rfl,rfl⟩ isSubtype_stop ?_));exact gm (hQ _ (((ur ..).extBut.push _).push _))
theorem zvM (hh:A.handled=Gb)(I d:Gj)(hne:d≠I)(es:Array DictEntry)(ep:Nat) :
  Walks prog w A I [I,d] [I] es.size (λi v=>∃ e,es[i]?=Ga e/\v=e.key) (λi h=>h.IsKeyIter I d i es.size ep/\pq h d es ep) where
 sub:=λb hb=>by simp at hb;simp[hb]
 frame:=λ_ _ _ st hk=>⟨st.1.at λo e=>hk I (by simp) o e,st.2.kept λo e=>hk d (by simp) o e⟩
 item:=λi s Q E hi st hQ=>by
  have hx:es[i]?=Ga es[i]:=Array.getElem?_eq_getElem hi;refine VX st.1 st.2 hx λh' hit' hs'=>?_;exact hQ _ h' s.toks ⟨_,hx,rfl⟩ ⟨hit',st.2.kept λo eo=>(hs'.2 d hne).trans eo⟩ λb o hb eo=>hs'.extBut b o (λh=>hb (by simp[h])) eo
 done:=λs Q E st hQ=>zyY hh st.1 st.2 (jh _) λh' he'=>hQ h' s.toks λb o hb eo=>he' b o (λh=>hb (by simp[h])) eo
 self:=λ_ _ _ _ st hQ=>wpAny_pyIter_keyiter st.1 hQ
end
open PySem PySem.Spec PyProof.Rows L2
abbrev St:=L2.St
abbrev D:=PySem.PyData
def iU (H:Hp)(l:List Gg):Prop:=TriplesOk l/\∀ pos cv,codeAmong pos l=Ga cv->∃ c o vs,∃ v:Str×Tok,cv=.ref c/\H c=Ga (.frz o (.own c))/\o.data=.fields vs/\vs[1]?=Ga (.str v.1 v.2)
def Gr (H:Hp)(o:HO)(H':Hp)(x:Option HO):Prop:=match o with
 | .tbl ps=>∃ qs,x=Ga (.tbl qs)/\(iU H ps.toList->iU H' qs.toList)
 | o=>x=Ga o
theorem Gr.some {H H':Hp}{o:HO}{x:Option HO}(g:Gr H o H' x):∃ u,x=Ga u:=by
 cases o<;>first|exact⟨_,g⟩|exact⟨_,g.choose_spec.1⟩
theorem Gr.of {H H':Hp}{o:HO}{x:Option HO}(e:x=Option.some o)(g:∀ l,iU H l->iU H' l):Gr H o H' x:=by
 cases o<;>first|exact e|exact⟨_,e,g _⟩
theorem Gr.to {H H' H2:Hp}{o:HO}{x:Option HO}(a:Gr H o H' x)(g:∀ l,iU H' l->iU H2 l):Gr H o H2 x:=by
 cases o<;>first|exact a|exact⟨a.choose,a.choose_spec.1,λz=>g _ (a.choose_spec.2 z)⟩
def gq (H H':Hp):Prop:=∀ b o,H b=Ga o->Gr H o H' (H' b)
theorem gq.refl (H:Hp):gq H H:=λ_ _ h=>.of h λ_ z=>z
theorem gq.trans {H H1 H2:Hp}(a:gq H H1)(b:gq H1 H2):gq H H2:=λc o h=>by
 have g:=a c o h;cases o<;>first
  | exact b c _ g
  | (obtain⟨qs,e,k⟩:=g
     obtain⟨rs,e2,k2⟩:=b c _ e;exact⟨rs,e2,λz=>k2 (k z)⟩)
theorem gq.free {H H':Hp}(e:gq H H'){l:Gj}(h:H' l=Ji):H l=Ji:=by
 cases q:H l with
 | none=>rfl
 | some o =>
  obtain⟨u,z⟩:=(e l o q).some;rw[z] at h;cases h
theorem gq.seq {K:ja}{H H':Hp}{a:Gj}{xs:List V}(e:gq H H')(h:lr K H a xs):lr K H' a xs:=by
 rcases h with (h|⟨o,h⟩)|h
 .exact .inl (.inl (e _ _ h))
 .exact .inl (.inr ⟨o,e _ _ h⟩)
 .exact .inr h
theorem iU.updG {H:Hp}{a:Gj}{ob:HO}(m:∀ o u,H a≠Ga (.frz o u)){l:List Gg}(g:iU H l):iU (upd H a ob) l :=
 ⟨g.1,λpos cv e=>by
  obtain⟨c,o,vs,v,e1,e2,e3⟩:=g.2 pos cv e;exact⟨c,o,vs,v,e1,by rw[gF (λz=>by subst z;exact m _ _ e2)];exact e2,e3⟩⟩
theorem iU.sub {H H':Hp}(m:∀ c o,H c=Ga o->H' c=Ga o){l:List Gg}(g:iU H l):iU H' l :=
 ⟨g.1,λpos cv e=>by
  obtain⟨c,o,vs,v,e1,e2,e3⟩:=g.2 pos cv e;exact⟨c,o,vs,v,e1,m _ _ e2,e3⟩⟩
theorem gq.of {H H':Hp}(m:∀ c o,H c=Ga o->H' c=Ga o):gq H H':=λb o h=>.of (m b o h) λ_ z=>z.sub m
theorem Gr.from {H H1 H':Hp}{o:HO}{x:Option HO}(a:Gr H o H' x)(g:∀ l,iU H1 l->iU H l):Gr H1 o H' x:=by
 cases o<;>first|exact a|exact⟨a.choose,a.choose_spec.1,λz=>a.choose_spec.2 (g _ z)⟩
theorem gq.put {H0 H:Hp}{a:Gj}{ob:HO}(s:gq H0 H)(n:H0 a=Gb)(m:∀ o u,H a≠Ga (.frz o u)):gq H0 (upd H a ob):=λb o h=>by
 rw[gF (lK h n)];exact(s b o h).to λ_=>iU.updG m
theorem gq.new {H:Hp}{a:Gj}{ob:HO}(n:H a=Gb):gq H (upd H a ob):=(gq.refl H).put n λo u z=>by rw[n] at z;cases z
def Ow:HO->Prop
 | .lst _=>True
 | .ext _=>True
 | _=>False
theorem gq.ow {H H':Hp}{a:Gj}{ob:HO}(s:gq H H')(h:H a=Ga ob)(o:Ow ob):H' a=Ga ob:=by
 have g:=s a ob h;cases ob<;>first|exact g|exact o.elim
theorem Ow.nf {H:Hp}{a:Gj}{ob:HO}(o:Ow ob)(h:H a=Ga ob):∀ x u,H a≠Ga (.frz x u):=λx u z=>by
 rw[h] at z;cases z;exact o
def Pl:HO->Prop
 | .lst _=>True
 | .tup _=>True
 | .ext _=>True
 | _=>False
theorem Ow.pl {ob:HO}(o:Ow ob):Pl ob:=by cases ob<;>first|exact o|trivial
theorem iU.un {F:Hp}{a:Gj}{ob:HO}(o:Pl ob){l:List Gg}(g:iU (upd F a ob) l):iU F l :=
 ⟨g.1,λpos cv e=>by
  obtain⟨c,x,vs,v,e1,e2,e3⟩:=g.2 pos cv e;have ne:c≠a:=λz=>by subst z;rw[gU] at e2;cases e2;exact o
  rw[gF ne] at e2;exact⟨c,x,vs,v,e1,e2,e3⟩⟩
theorem gq.upL {F H:Hp}{a:Gj}{ob:HO}(s:gq F H)(ha:H a=Ga ob)(p:Pl ob):gq (upd F a ob) H:=λb o h=>by
 by_cases hb:b=a
 .subst hb;rw[gU] at h;cases h;cases ob<;>first|exact ha|exact p.elim
 .rw[gF hb] at h;have g:=s b o h;cases o<;>first|exact g|exact⟨g.choose,g.choose_spec.1,λz=>g.choose_spec.2 (z.un p)⟩
theorem gq.up2 {F H:Hp}{a:Gj}{ob:HO}(s:gq F H)(nF:F a=Gb)(nH:H a=Gb)(p:Pl ob):gq (upd F a ob) (upd H a ob) :=
 (s.put nF λo u z=>by rw[nH] at z;cases z).upL gU p
theorem Pl.nf {H:Hp}{a:Gj}{ob:HO}(o:Pl ob)(h:H a=Ga ob):∀ x u,H a≠Ga (.frz x u):=λx u z=>by
 rw[h] at z;cases z;exact o
theorem gq.pl {H H':Hp}{a:Gj}{ob:HO}(s:gq H H')(h:H a=Ga ob)(o:Pl ob):H' a=Ga ob:=by
 have g:=s a ob h;cases ob<;>first|exact g|exact o.elim
theorem gq.swp {H0 H:Hp}{a:Gj}{o o':HO}(s:gq (upd H0 a o) H)(p:Pl o)(p':Pl o'):gq (upd H0 a o') (upd H a o'):=λb u h=>by
 have ha:=s.pl gU p;by_cases hb:b=a
 .subst hb;rw[gU] at h;cases h;rw[gU];cases o'<;>first|exact rfl|exact p'.elim
 .rw[gF hb] at h ⊢;have g:=s b u (by rw[gF hb];exact h);cases u<;>first
   | exact g
   | (obtain⟨qs,e,k⟩:=g
      refine⟨qs,e,λz=>(k ⟨z.1,λpos cv e=>?_⟩).updG (p.nf ha)⟩;obtain⟨c,x,vs,v,e1,e2,e3⟩:=z.2 pos cv e;have ne:c≠a:=λw=>by subst w;rw[gU] at e2;cases e2;exact p'
      rw[gF ne] at e2;exact⟨c,x,vs,v,e1,by rw[gF ne];exact e2,e3⟩)
def NQ (a:Gj)(H H':Hp):Prop:=∀ b o,b≠a->H b=Ga o->Gr H o H' (H' b)
theorem gq.x {H H':Hp}(s:gq H H')(a:Gj):NQ a H H':=λb o _ h=>s b o h
def sT (ks:List D)(as:List Gj):List DictEntry:=(ks.zip as).map λp=>{ key:=.ref p.2,hash:=rz p.1,val:=.bool true }
def oB (a:Gj)(ks:List D)(as:List Gj)(ep:Nat):Heap->Prop:=λh=>∃ o es,h.get? a=Ga o/\o.ExactDict/\o.data=.dict es ep/\es.toList=sT ks as
structure rB (ks:List D):Prop where
 key:∀ k∈ks,hE k 8=true
 tup:∀ k∈ks,∃ xs,k=.tuple xs
 nd:ks.Nodup
 len:ks.length<=1000000
abbrev Cq (ks:List D):D:=PyData.dict (ks.map λk=>(k,j8 true))
inductive ot:List (Int×V)->List DictEntry->Prop where
 | nil:ot [] []
 | cons {k:Int} {v:V} {e:DictEntry} {ws:List (Int×V)} {es:List DictEntry} (hk:vZ k e.key=true) (hh:e.hash=hashInt k) (hv:ia v e.val) (t:ot ws es):ot ((k,v)::ws) (e::es)
def nR (a:Gj)(ws:List (Int×V))(ep:Nat):Heap->Prop:=λh=>∃ o es,h.get? a=Ga o/\o.ExactDict/\o.data=.dict es ep/\ot ws es.toList
structure rF (kvs:List (Int×D)):Prop where
 nd:(kvs.map (·.1)).Nodup
 len:kvs.length<=1000000
def YG (l:List (D×Gj×Gg)):List DictEntry:=l.map λx=>{ key:=.ref x.2.1,hash:=rz x.1,val:=x.2.2 }
inductive WV:List (D×Gj×V)->List (D×Gj×Gg)->Prop where
 | nil:WV [] []
 | cons {k:D} {b:Gj} {v:V} {u:Gg} {ws:List (D×Gj×V)} {l:List (D×Gj×Gg)} (r:ia v u) (t:WV ws l):WV ((k,b,v)::ws) ((k,b,u)::l)
def WG (a:Gj)(ws:List (D×Gj×V))(ep:Nat):Heap->Prop:=λh=>∃ o es l,h.get? a=Ga o/\o.ExactDict/\o.data=.dict es ep/\es.toList=YG l/\WV ws l
structure Uz (kvs:List (D×D)):Prop where
 key:∀ k∈kvs.map (·.1),hE k 8=true
 nd:(kvs.map (·.1)).Nodup
 len:kvs.length<=1000000
def re (kvs:List (Int×D)):D:=PyData.dict ((uf,uf)::kvs.map λp=>(jc p.1,p.2))
mutual
inductive io (K:ja)(H:Hp):D->V->Prop where
 | non:io K H .none .non
 | bl (b:Bool):io K H (.bool b) (.bl b)
 | int (i:Int):io K H (.int i) (.int i)
 | str (x:Str):io K H (.str x) (.str x)
 | tup {a:Gj} {xs:List V} {ds:List D} (h:mV K H a xs) (r:gJ K H ds xs):io K H (.tuple ds) (.ref a)
 | lst {a:Gj} {xs:List V} {ds:List D} (h:lr K H a xs) (r:gJ K H ds xs):io K H (.list ds) (.ref a)
 | dic {a:Gj} {ks:List D} {as:List Gj} {ep:Nat} (hs:(a==sysModules)=false) (h:H a=Ga (.ext (oB a ks as ep))) (ok:rB ks) (r:gJ K H ks (as.map V.ref)):io K H (.dict (ks.map λk=>(k,j8 true))) (.ref a)
 | dci {a:Gj} {kvs:List (Int×D)} {ws:List (Int×V)} {ep:Nat} (hs:(a==sysModules)=false) (h:H a=Ga (.ext (nR a ws ep))) (ok:rF kvs) (r:iw K H kvs ws):io K H (.dict ((uf,uf)::kvs.map λp=>(jc p.1,p.2))) (.ref a)
inductive gJ (K:ja)(H:Hp):List D->List V->Prop where
 | nil:gJ K H [] []
 | cons {d:D} {v:V} {ds:List D} {vs:List V} (h:io K H d v) (t:gJ K H ds vs):gJ K H (d::ds) (v::vs)
inductive iw (K:ja)(H:Hp):List (Int×D)->List (Int×V)->Prop where
 | nil:iw K H [] []
 | cons {k:Int} {d:D} {v:V} {l:List (Int×D)} {m:List (Int×V)} (h:io K H d v) (t:iw K H l m):iw K H ((k,d)::l) ((k,v)::m)
end
inductive xj (K:ja)(H:Hp):List (D×D)->List (D×Gj×V)->Prop where
 | nil:xj K H [] []
 | cons {k d:D} {b:Gj} {v:V} {l:List (D×D)} {m:List (D×Gj×V)} (hk:io K H k (.ref b)) (h:io K H d v) (t:xj K H l m):xj K H ((k,d)::l) ((k,b,v)::m)
theorem nq {K:ja}{H H':Hp}{a:Gj}{xs:List V}(e:gq H H')(h:mV K H a xs):mV K H' a xs:=by
 rcases h with (h|⟨o,h⟩)|h
 .exact .inl (.inl (e _ _ h))
 .exact .inl (.inr ⟨o,e _ _ h⟩)
 .exact .inr h
mutual
theorem io.mono {K:ja}{H H':Hp}(e:gq H H'):∀ {d:D} {v:V},io K H d v->io K H' d v
 | _,_,.non=>.non
 | _,_,.bl b=>.bl b
 | _,_,.int i=>.int i
 | _,_,.str x=>.str x
 | _,_,.tup h r=>.tup (nq e h) (gJ.mono e r)
 | _,_,.lst h r=>.lst (e.seq h) (gJ.mono e r)
 | _,_,.dic hs h ok r=>.dic hs (e _ _ h) ok (gJ.mono e r)
 | _,_,.dci hs h ok r=>.dci hs (e _ _ h) ok (iw.mono e r)
theorem gJ.mono {K:ja}{H H':Hp}(e:gq H H'):∀ {ds:List D} {vs:List V},gJ K H ds vs->gJ K H' ds vs
 | _,_,.nil=>.nil
 | _,_,.cons h t=>.cons (io.mono e h) (gJ.mono e t)
theorem iw.mono {K:ja}{H H':Hp}(e:gq H H'):∀ {l:List (Int×D)} {m:List (Int×V)},iw K H l m->iw K H' l m
 | _,_,.nil=>.nil
 | _,_,.cons h t=>.cons (io.mono e h) (iw.mono e t)
end
theorem xj.mono {K:ja}{H H':Hp}(e:gq H H'):∀ {l:List (D×D)} {m:List (D×Gj×V)},xj K H l m->xj K H' l m
 | _,_,.nil=>.nil
 | _,_,.cons k h t=>.cons (k.mono e) (h.mono e) (t.mono e)
theorem gJ.length {K:ja}{H:Hp}:∀ {ds:List D} {vs:List V},gJ K H ds vs->ds.length=vs.length
 | _,_,.nil=>rfl
 | _,_,.cons _ t=>congrArg qC t.length
theorem gJ.get {K:ja}{H:Hp}:∀ {ds:List D} {vs:List V} {i:Nat} {d:D},gJ K H ds vs->ds[i]?=Ga d->∃ v,vs[i]?=Ga v/\io K H d v
 | _,_,_,_,.nil,e=>by simp at e
 | _,_,0,_,.cons h _,e=>by simp at e;subst e;exact⟨_,rfl,h⟩
 | _,_,i+1,d,.cons _ t,e=>by
  obtain⟨v,h1,h2⟩:=gJ.get (i:=i) (d:=d) t (by simpa using e);exact⟨v,by simpa using h1,h2⟩
theorem gJ.append {K:ja}{H:Hp}:∀ {ds es:List D} {vs ws:List V},gJ K H ds vs->gJ K H es ws->gJ K H (ds++es) (vs++ws)
 | _,_,_,_,.nil,q=>q
 | _,_,_,_,.cons h t,q=>.cons h (t.append q)
theorem gJ.take {K:ja}{H:Hp}:∀ {ds:List D} {vs:List V} (n:Nat),gJ K H ds vs->gJ K H (ds.take n) (vs.take n)
 | _,_,0,_=>.nil
 | _,_,_+1,.nil=>.nil
 | _,_,n+1,.cons h t=>.cons h (t.take n)
theorem gJ.drop {K:ja}{H:Hp}:∀ {ds:List D} {vs:List V} (n:Nat),gJ K H ds vs->gJ K H (ds.drop n) (vs.drop n)
 | _,_,0,r=>r
 | _,_,_+1,.nil=>.nil
 | _,_,n+1,.cons _ t=>t.drop n
theorem gJ.set {K:ja}{H:Hp}{d:D}{v:V}(q:io K H d v):∀ {ds:List D} {vs:List V} (i:Nat),gJ K H ds vs->gJ K H (ds.set i d) (vs.set i v)
 | _,_,_,.nil=>.nil
 | _,_,0,.cons _ t=>.cons q t
 | _,_,i+1,.cons h t=>.cons h (t.set q i)
theorem gJ.reverse {K:ja}{H:Hp}:∀ {ds:List D} {vs:List V},gJ K H ds vs->gJ K H ds.reverse vs.reverse
 | _,_,.nil=>.nil
 | _,_,.cons h t=>by
  rw[uE,uE];exact t.reverse.append (.cons h .nil)
theorem gJ.ints {K:ja}{H:Hp}:∀ (ns:List Int),gJ K H (ns.map jc) (ns.map V.int)
 | []=>.nil
 | n::ns=>.cons (.int n) (gJ.ints ns)
def Fz (H H':Hp):Prop:=∀ b x,H b=Ga (.frz x (.own b))->H' b=Ga (.frz x (.own b))
theorem gq.fz {H H':Hp}(s:gq H H'):Fz H H':=λ_ _ h=>s _ _ h
theorem Fz.upd {H:Hp}{a:Gj}{ob:HO}(m:∀ o u,H a≠Ga (.frz o u)):Fz H (upd H a ob):=λb x h=>by
 rw[gF (λz=>by subst z;exact m _ _ h)];exact h
structure ib where
 C:Gj->Hp->Hp->Prop
 mono:∀ f F F' H H',gq F F'->Fz H H'->C f F H->C f F' H'
inductive Sl where
 | no|val (d:D)|own (ds:List D)|dic (ks:List D)|dki (oa:Option Gj) (kvs:List (Int×D))|tab (P:Gj)|fn (c:ib)|owk (a:Gj) (ds:List D)|dkt (kvs:List (D×D))
 deriving Inhabited
abbrev En:=List Sl
def nM:Sl->Bool
 | .own _=>true
 | .dic _=>true
 | .dki _ _=>true
 | .owk _ _=>true
 | .dkt _=>true
 | _=>false
def iO (F F' H:Hp):Prop:=∀ b o,F' b=Ga o->F b=Gb->H b=Gb
theorem iO.refl (F H:Hp):iO F F H:=λb o e n=>by rw[e] at n;cases n
theorem iO.trans {F F1 F2 H H1:Hp}(a:iO F F1 H)(b:iO F1 F2 H1)(s:gq H H1):iO F F2 H:=λc o e n=>by
 cases q:F1 c with
 | none=>exact s.free (b c o e q)
 | some u=>exact a c u q n
def ph (K:ja)(H0 F H:Hp):Sl->Option V->Prop
 | .no,_=>True
 | .val d,u=>∃ v,u=Ga v/\io K F d v
 | .own ds,u=>∃ a xs,u=Ga (.ref a)/\H a=Ga (.lst xs)/\F a=Gb/\H0 a=Gb/\gJ K F ds xs
 | .dic ks,u=>∃ a as ep,u=Ga (.ref a)/\H a=Ga (.ext (oB a ks as ep))/\F a=Gb/\H0 a=Gb/\gJ K F ks (as.map V.ref)/\(a==sysModules)=false/\rB ks
 | .dki oa kvs,u=>∃ a ws ep,u=Ga (.ref a)/\H a=Ga (.ext (nR a ws ep))/\F a=Gb/\H0 a=Gb/\iw K F kvs ws/\(a==sysModules)=false/\rF kvs/\∀ x,oa=Ga x->a=x
 | .tab P,_=>∃ ps,H0 P=Ga (.tbl ps)/\iU H0 ps.toList
 | .fn c,u=>∃ f,u=Ga (.ref f)/\c.C f F H
 | .dkt kvs,u=>∃ a ws ep,u=Ga (.ref a)/\H a=Ga (.ext (WG a ws ep))/\F a=Gb/\H0 a=Gb/\xj K F kvs ws/\(a==sysModules)=false/\Uz kvs
 | .owk a ds,u=>∃ xs,u=Ga (.ref a)/\H a=Ga (.lst xs)/\F a=Gb/\H0 a=Gb/\gJ K F ds xs
structure RS (K:ja)(H0 F H:Hp)(ψ:En)(σ:St):Prop where
 h0:gq H0 H
 fh:gq F H
 sl:∀ (i:Nat) (s:Sl),ψ[i]?=Ga s->∃ u,σ[i]?=Ga u/\ph K H0 F H s u
 ap:∀ (i j:Nat) (a:Gj) (s t:Sl),nM s=true->nM t=true->ψ[i]?=Ga s->ψ[j]?=Ga t->σ[i]?=Ga (Ga (.ref a))->σ[j]?=Ga (Ga (.ref a))->i=j
section
variable {K:ja}{H0 F F' H H':Hp}{ψ:En}{σ:St}
theorem ph.at {s:Sl}{u:Option V}(r:ph K H0 F H s u)(o:nM s=true):∃ a ob,u=Ga (.ref a)/\H a=Ga ob/\F a=Gb/\H0 a=Gb/\Ow ob:=by
 cases s with
 | no=>cases o
 | val d=>cases o
 | own ds=>obtain⟨a,xs,e,h,f,g,_⟩:=r;exact⟨a,_,e,h,f,g,trivial⟩
 | dic ks=>obtain⟨a,as,ep,e,h,f,g,_⟩:=r;exact⟨a,_,e,h,f,g,trivial⟩
 | dki oa kvs=>obtain⟨a,ws,ep,e,h,f,g,_⟩:=r;exact⟨a,_,e,h,f,g,trivial⟩
 | tab P=>cases o
 | fn c=>cases o
 | owk a ds=>obtain⟨xs,e,h,f,g,_⟩:=r;exact⟨a,_,e,h,f,g,trivial⟩
 | dkt kvs=>obtain⟨a,ws,ep,e,h,f,g,_⟩:=r;exact⟨a,_,e,h,f,g,trivial⟩
theorem ph.to {s:Sl}{u:Option V}(r:ph K H0 F H s u)(f:gq F F')(zz:Fz H H')(k:∀ a ob,nM s=true->u=Ga (.ref a)->H a=Ga ob->F a=Gb->Ow ob->H' a=Ga ob/\F' a=Gb):ph K H0 F' H' s u:=by
 cases s with
 | no=>trivial
 | val d=>obtain⟨v,e2,q⟩:=r;exact⟨v,e2,q.mono f⟩
 | own ds =>
  obtain⟨a,xs,e2,ha,fa,h0a,q⟩:=r;obtain⟨k1,k2⟩:=k a _ rfl e2 ha fa trivial;exact⟨a,xs,e2,k1,k2,h0a,q.mono f⟩
 | dic ks =>
  obtain⟨a,as,ep,e2,ha,fa,h0a,q,r2⟩:=r;obtain⟨k1,k2⟩:=k a _ rfl e2 ha fa trivial;exact⟨a,as,ep,e2,k1,k2,h0a,q.mono f,r2⟩
 | dki oa kvs =>
  obtain⟨a,ws,ep,e2,ha,fa,h0a,q,r2⟩:=r;obtain⟨k1,k2⟩:=k a _ rfl e2 ha fa trivial;exact⟨a,ws,ep,e2,k1,k2,h0a,q.mono f,r2⟩
 | tab P=>exact r
 | fn c=>obtain⟨g,e,q⟩:=r;exact⟨g,e,c.mono _ _ _ _ _ f zz q⟩
 | dkt kvs =>
  obtain⟨a,ws,ep,e2,ha,fa,h0a,q,r2⟩:=r;obtain⟨k1,k2⟩:=k a _ rfl e2 ha fa trivial;exact⟨a,ws,ep,e2,k1,k2,h0a,q.mono f,r2⟩
 | owk a ds =>
  obtain⟨xs,e2,ha,fa,h0a,q⟩:=r;obtain⟨k1,k2⟩:=k a _ rfl e2 ha fa trivial;exact⟨xs,e2,k1,k2,h0a,q.mono f⟩
theorem RS.ne_free (r:RS K H0 F H ψ σ){a:Gj}(n:H a=Gb):∀ (j:Nat) (s:Sl),nM s=true->ψ[j]?=Ga s->σ[j]?≠Ga (Ga (.ref a)):=λj s o e z=>by
 obtain⟨u,e1,q⟩:=r.sl j s e;obtain⟨b,ob,e2,hb,_⟩:=q.at o;rw[z] at e1;cases e1;cases e2;rw[n] at hb;cases hb
theorem RS.grow (r:RS K H0 F H ψ σ)(g:gq H H')(f:gq F F')(fh:gq F' H')(n:iO F F' H):RS K H0 F' H' ψ σ:=by
 refine⟨r.h0.trans g,fh,λi s e=>?_,r.ap⟩;obtain⟨u,e1,q⟩:=r.sl i s e;refine⟨u,e1,q.to f g.fz λa ob _ _ ha fa ow=>⟨g.ow ha ow,?_⟩⟩;cases z:F' a with
 | none=>rfl
 | some o=>have:=n a o z fa;rw[ha] at this;cases this
theorem RS.later (r:RS K H0 F H ψ σ)(g:gq H H'):RS K H0 F H' ψ σ:=r.grow g (.refl _) (r.fh.trans g) (.refl _ _)
theorem RS.put (r:RS K H0 F H ψ σ){i:Nat}{d:D}{v:V}(hi:i<σ.length)(q:io K F d v):RS K H0 F H (ψ.set i (.val d)) (σ.set i (Ga v)):=by
 refine⟨r.h0,r.fh,λj s e=>?_,λj k a s t o1 o2 e1 e2 e3 e4=>?_⟩
 .by_cases h:i=j
  .subst h;refine⟨Ga v,by rw[jT hi],?_⟩;by_cases hl:i<ψ.length
   .rw[jT hl] at e;cases e;exact⟨v,rfl,q⟩
   .rw[kr (by simpa using hl)] at e;cases e
  .rw[jR h] at e ⊢;exact r.sl j s e
 .have nj:∀ (j:Nat) (s:Sl),nM s=true->(ψ.set i (.val d))[j]?=Ga s->i≠j:=λj s o e z=>by
   subst z;by_cases hl:i<ψ.length
   .rw[jT hl] at e;cases e;cases o
   .rw[kr (by simpa using hl)] at e;cases e
  have n1:=nj j s o1 e1;have n2:=nj k t o2 e2;rw[jR n1] at e1 e3;rw[jR n2] at e2 e4;exact r.ap j k a s t o1 o2 e1 e2 e3 e4
theorem RS.putG (r:RS K H0 F H ψ σ){i:Nat}{s0:Sl}{a:Gj}(hi:i<σ.length)(q:ph K H0 F H s0 (Ga (.ref a)))
  (ne:∀ (j:Nat) (s:Sl),nM s=true->j≠i->ψ[j]?=Ga s->σ[j]?≠Ga (Ga (.ref a))):RS K H0 F H (ψ.set i s0) (σ.set i (Ga (.ref a))):=by
 refine⟨r.h0,r.fh,λj s e=>?_,λj k b s t o1 o2 e1 e2 e3 e4=>?_⟩
 .by_cases h:i=j
  .subst h;refine⟨Ga (.ref a),by rw[jT hi],?_⟩;by_cases hl:i<ψ.length
   .rw[jT hl] at e;cases e;exact q
   .rw[kr (by simpa using hl)] at e;cases e
  .rw[jR h] at e ⊢;exact r.sl j s e
 .by_cases hj:i=j
  .by_cases hk:i=k
   .exact hj.symm.trans hk
   .subst hj;rw[jT hi] at e3;rw[jR hk] at e2 e4;cases e3;exact absurd e4 (ne k t o2 (ui hk) e2)
  .by_cases hk:i=k
   .subst hk;rw[jT hi] at e4;rw[jR hj] at e1 e3;cases e4;exact absurd e3 (ne j s o1 (ui hj) e1)
   .rw[jR hj] at e1 e3;rw[jR hk] at e2 e4;exact r.ap j k b s t o1 o2 e1 e2 e3 e4
theorem RS.putO (r:RS K H0 F H ψ σ){i:Nat}{ds:List D}{a:Gj}{xs:List V}(hi:i<σ.length)(ha:H a=Ga (.lst xs))(fa:F a=Gb)(h0a:H0 a=Gb)(q:gJ K F ds xs)
  (ne:∀ (j:Nat) (s:Sl),nM s=true->j≠i->ψ[j]?=Ga s->σ[j]?≠Ga (Ga (.ref a))):RS K H0 F H (ψ.set i (.own ds)) (σ.set i (Ga (.ref a))) :=
 r.putG hi ⟨a,xs,rfl,ha,fa,h0a,q⟩ ne
theorem RS.chgG (r:RS K H0 F H ψ σ){i:Nat}{s0 s1:Sl}{a:Gj}{ob:HO}(e:ψ[i]?=Ga s0)(o0:nM s0=true)(u:σ[i]?=Ga (Ga (.ref a)))(q:ph K H0 F (upd H a ob) s1 (Ga (.ref a))) :
  RS K H0 F (upd H a ob) (ψ.set i s1) σ:=by
 obtain⟨u',e',q'⟩:=r.sl i _ e;obtain⟨a',ob',z,ha,fa,h0a,ow0⟩:=q'.at o0;rw[u] at e';cases e';cases z;have hl:i<ψ.length:=(jp.mp e).1;refine⟨r.h0.put h0a (ow0.nf ha),r.fh.put fa (ow0.nf ha),λj s ej=>?_,λj k b s t o1 o2 e1 e2 e3 e4=>?_⟩
 .by_cases h:i=j
  .subst h;rw[jT hl] at ej;cases ej;exact⟨_,u,q⟩
  .rw[jR h] at ej;obtain⟨w,e2,q2⟩:=r.sl j s ej;refine⟨w,e2,q2.to (.refl _) (Fz.upd (ow0.nf ha)) λb ob2 ow z1 hb fb _=>⟨?_,fb⟩⟩;subst z1;rw[gF (λz=>by subst z;exact h (r.ap i j b _ _ o0 ow e ej u e2))];exact hb
 .have f1:∀ (j:Nat) (s:Sl),nM s=true->(ψ.set i s1)[j]?=Ga s->∃ s',nM s'=true/\ψ[j]?=Ga s':=λj s o h=>by
   by_cases hj:i=j
   .subst hj;exact⟨_,o0,e⟩
   .rw[jR hj] at h;exact⟨_,o,h⟩
  obtain⟨_,o1,e1⟩:=f1 j _ o1 e1;obtain⟨_,o2,e2⟩:=f1 k _ o2 e2;exact r.ap j k b _ _ o1 o2 e1 e2 e3 e4
theorem RS.chg (r:RS K H0 F H ψ σ){i:Nat}{ds es:List D}{a:Gj}{ys:List V}(e:ψ[i]?=Ga (.own ds))(u:σ[i]?=Ga (Ga (.ref a)))(q:gJ K F es ys) :
  RS K H0 F (upd H a (.lst ys)) (ψ.set i (.own es)) σ:=by
 obtain⟨u',e',a',xs,z,ha,fa,h0a,_⟩:=r.sl i _ e;rw[u] at e';cases e';cases z;exact r.chgG e rfl u ⟨a,ys,rfl,gU,fa,h0a,q⟩
end
def pL:Sl->Sl
 | .own ds=>.val (.list ds)
 | .dic ks=>.val (Cq ks)
 | .dki _ kvs=>.val (re kvs)
 | .owk _ ds=>.val (.list ds)
 | .dkt _=>.no
 | s=>s
theorem zyZ (s:Sl):nM (pL s)=false:=by cases s<;>rfl
def frz (ψ:En):En:=ψ.map pL
theorem RS.frz {K:ja}{H0 F H:Hp}{ψ:En}{σ:St}(r:RS K H0 F H ψ σ):RS K H0 H H (T3.frz ψ) σ:=by
 refine⟨r.h0,.refl _,λi s e=>?_,λi j a s t o1 o2 e1=>?_⟩
 .unfold T3.frz at e;rw[jA] at e;cases z:ψ[i]? with
  | none=>rw[z] at e;cases e
  | some s' =>
   rw[z] at e;obtain⟨u,e1,q⟩:=r.sl i s' z;refine⟨u,e1,?_⟩;cases s' with
   | no=>cases e;trivial
   | val d=>cases e;obtain⟨v,e2,q⟩:=q;exact⟨v,e2,q.mono r.fh⟩
   | own ds =>
    cases e;obtain⟨a,xs,e2,ha,fa,h0a,q⟩:=q;exact⟨_,e2,.lst (lr.of ha) (q.mono r.fh)⟩
   | dic ks =>
    cases e;obtain⟨a,as,ep,e2,ha,fa,h0a,q,sm,ok⟩:=q;exact⟨_,e2,.dic sm ha ok (q.mono r.fh)⟩
   | dki oa kvs =>
    cases e;obtain⟨a,ws,ep,e2,ha,fa,h0a,q,sm,ok,_⟩:=q;exact⟨_,e2,.dci sm ha ok (q.mono r.fh)⟩
   | tab P=>cases e;exact q
   | fn c=>cases e;obtain⟨g,e2,q⟩:=q;exact⟨g,e2,c.mono _ _ _ _ _ r.fh (λ_ _ h=>h) q⟩
   | dkt kvs=>cases e;trivial
   | owk a ds =>
    cases e;obtain⟨xs,e2,ha,fa,h0a,q⟩:=q;exact⟨_,e2,.lst (lr.of ha) (q.mono r.fh)⟩
 .exfalso;unfold T3.frz at e1;rw[jA] at e1;cases z:ψ[i]? with
  | none=>rw[z] at e1;cases e1
  | some s'=>rw[z] at e1;cases e1;rw[zyZ] at o1;cases o1
def frzAt (i:Nat)(ψ:En):En:=match ψ[i]? with
 | some (.own ds)=>ψ.set i (.val (.list ds))
 | some (.dic ks)=>ψ.set i (.val (Cq ks))
 | some (.dki _ kvs)=>ψ.set i (.val (re kvs))
 | _=>ψ
theorem RS.frzG {K:ja}{H0 F H:Hp}{ψ:En}{σ:St}(r:RS K H0 F H ψ σ){i:Nat}{s0 s1:Sl}{a:Gj}{ob:HO}(os:nM s1=false)(e:ψ[i]?=Ga s0)(o0:nM s0=true)(e1:σ[i]?=Ga (Ga (.ref a)))(ha:H a=Ga ob)(ow0:Ow ob)(fa:F a=Gb)(h0a:H0 a=Gb)
  (q:∀ F',gq F F'->F' a=Ga ob->ph K H0 F' H s1 (Ga (.ref a))):F a=Gb/\H a=Ga ob/\Ow ob/\gq F (upd F a ob)/\iO F (upd F a ob) H0/\RS K H0 (upd F a ob) H (ψ.set i s1) σ:=by
 have hi:i<σ.length:=(jp.mp e1).1;have hl:i<ψ.length:=(jp.mp e).1;have sF:gq F (upd F a ob):=gq.new fa;refine⟨fa,ha,ow0,sF,λb o h n=>?_,⟨r.h0,λb o h=>?_,λj s ej=>?_,λj k b s t o1 o2 x1 x2 x3 x4=>?_⟩⟩
 .by_cases hb:b=a
  .subst hb;exact h0a
  .rw[gF hb,n] at h;cases h
 .by_cases hb:b=a
  .subst hb;rw[gU] at h;cases h;cases ob<;>first|exact ha|exact ow0.elim
  .rw[gF hb] at h;have g:=r.fh b o h;cases o<;>first|exact g|exact⟨g.choose,g.choose_spec.1,λz=>g.choose_spec.2 (z.un ow0.pl)⟩
 .by_cases h:i=j
  .subst h;rw[jT hl] at ej;cases ej;exact⟨_,e1,q _ sF gU⟩
  .rw[jR h] at ej;obtain⟨w,z1,q2⟩:=r.sl j s ej;refine⟨w,z1,q2.to sF (λ_ _ h=>h) λb ob2 ow z2 hb fb _=>⟨hb,?_⟩⟩;subst z2;rw[gF (λz=>by subst z;exact h (r.ap i j b _ _ o0 ow e ej e1 z1))];exact fb
 .have f1:∀ (j:Nat) (s:Sl),nM s=true->(ψ.set i s1)[j]?=Ga s->ψ[j]?=Ga s:=λj s o h=>by
   by_cases hj:i=j
   .subst hj;rw[jT hl] at h;cases h;rw[os] at o;cases o
   .rw[jR hj] at h;exact h
  exact r.ap j k b _ _ o1 o2 (f1 j _ o1 x1) (f1 k _ o2 x2) x3 x4
theorem RS.frzAt2 {K:ja}{H0 F H:Hp}{ψ:En}{σ:St}(r:RS K H0 F H ψ σ)(i:Nat):T3.frzAt i ψ=ψ\/∃ a ob,F a=Gb/\H a=Ga ob/\Ow ob/\gq F (upd F a ob)/\iO F (upd F a ob) H0/\RS K H0 (upd F a ob) H (T3.frzAt i ψ) σ:=by
 unfold T3.frzAt;split
 .rename_i ds e;obtain⟨u,e1,a,xs,e2,ha,fa,h0a,q⟩:=r.sl i _ e;subst e2;exact .inr ⟨_,_,r.frzG rfl e rfl e1 ha trivial fa h0a λF' f h=>⟨_,rfl,.lst (lr.of h) (q.mono f)⟩⟩
 .rename_i ks e;obtain⟨u,e1,a,as,ep,e2,ha,fa,h0a,q,sm,ok⟩:=r.sl i _ e;subst e2;exact .inr ⟨_,_,r.frzG rfl e rfl e1 ha trivial fa h0a λF' f h=>⟨_,rfl,.dic sm h ok (q.mono f)⟩⟩
 .rename_i oa kvs e;obtain⟨u,e1,a,ws,ep,e2,ha,fa,h0a,q,sm,ok,_⟩:=r.sl i _ e;subst e2;exact .inr ⟨_,_,r.frzG rfl e rfl e1 ha trivial fa h0a λF' f h=>⟨_,rfl,.dci sm h ok (q.mono f)⟩⟩
 .exact .inl rfl
theorem RS.frzAt {K:ja}{H0 F H:Hp}{ψ:En}{σ:St}(r:RS K H0 F H ψ σ)(i:Nat):∃ F',gq F F'/\iO F F' H0/\RS K H0 F' H (T3.frzAt i ψ) σ:=by
 rcases r.frzAt2 i with e|⟨a,ob,_,_,_,f,n,q⟩
 .rw[e];exact⟨F,.refl _,.refl _ _,r⟩
 .exact⟨_,f,n,q⟩
abbrev FV:=En->Option D
abbrev FL:=En->Option (List D)
abbrev FB:=En->Option Bool
def tV (K:ja)(f:FV):TE:=λσ H Q=>∃ H0 F ψ d,RS K H0 F H ψ σ/\f ψ=Ga d/\∀ v H' F',gq H H'->gq F F'->gq F' H'->iO F F' H->io K F' d v->Q v H'
def tO (K:ja)(f:FL):TE:=λσ H Q=>∃ H0 F ψ ds,RS K H0 F H ψ σ/\f ψ=Ga ds /\
 ∀ a xs H' F',gq H H'->gq F F'->gq F' H'->iO F F' H->H a=Gb->F' a=Gb->H' a=Ga (.lst xs)->gJ K F' ds xs->Q (.ref a) H'
def tT (K:ja)(f:FB):TT:=λσ H Q=>∃ H0 F ψ b,RS K H0 F H ψ σ/\f ψ=Ga b/\∀ H',gq H H'->Q b H'
def tL (K:ja)(f:FL):TA:=λσ H Q=>∃ H0 F ψ ds,RS K H0 F H ψ σ/\f ψ=Ga ds/\∀ vs H' F',gq H H'->gq F F'->gq F' H'->iO F F' H->gJ K F' ds vs->Q vs H'
abbrev PV (X:Cx)(e:Expr)(f:FV):Prop:=PE X e (tV X.K f)
abbrev PO (X:Cx)(e:Expr)(f:FL):Prop:=PE X e (tO X.K f)
abbrev PB (X:Cx)(e:Expr)(f:FB):Prop:=PT X e (tT X.K f)
abbrev nU (X:Cx)(e:Expr)(f:FB):Prop:=PW X e (tT X.K f)
structure PL (X:Cx)(es:List Expr)(f:FL):Prop where
 pa:PA X es (tL X.K f)
 len:∀ ψ ds,f ψ=Ga ds->ds.length=es.length
theorem md {X:Cx}{e:Expr}{t t':TE}(h:PE X e t)(m:∀ σ H Q,t' σ H Q->t σ H Q):PE X e t':=λω s σ H Q I q=>h ω s σ H Q I (m σ H Q q)
theorem Fc {X:Cx}{e:Expr}{t t':TT}(h:PT X e t)(m:∀ σ H Q,t' σ H Q->t σ H Q):PT X e t':=λω s σ H Q I q=>h ω s σ H Q I (m σ H Q q)
theorem QW {X:Cx}{e:Expr}{t t':TT}(h:PW X e t)(m:∀ σ H Q,t' σ H Q->t σ H Q):PW X e t':=λwh ω s σ H Q I q=>h wh ω s σ H Q I (m σ H Q q)
theorem Hu {X:Cx}{e:List Expr}{t t':TA}(h:PA X e t)(m:∀ σ H Q,t' σ H Q->t σ H Q):PA X e t':=λp ω s σ H Q I q=>h p ω s σ H Q I (m σ H Q q)
theorem Sf {X:Cx}{e:List Stmt}{t t':TS}(h:pZ X e t)(m:∀ D σ H,t' D σ H->t D σ H):pZ X e t':=λω s σ H D I q=>h ω s σ H D I (m D σ H q)
theorem sJ {X:Cx}{e:Stmt}{t t':TS}(h:PS X e t)(m:∀ D σ H,t' D σ H->t D σ H):PS X e t':=λω s σ H D I q=>h ω s σ H D I (m D σ H q)
theorem gp {α β:Type}{o:Option α}{f:α->Option β}{b:β}(h:o.bind f=Ga b):∃ a,o=Ga a/\f a=Ga b:=by
 cases o with
 | none=>cases h
 | some a=>exact⟨a,rfl,h⟩
section
variable {X:Cx}{pos:Pos}
theorem PO.v {e:Expr}{f:FL}(h:PO X e f):PV X e (λψ=>(f ψ).bind λds=>Ga (.list ds)):=by
 refine md h λσ H Q=>?_;rintro⟨H0,F,ψ,d,r,e,q⟩;obtain⟨ds,z,e⟩:=gp e;cases e
 .refine⟨H0,F,ψ,ds,r,z,λa xs H' F' g f1 fh n ha fa ha' rr=>?_⟩;have sF:gq F' (upd F' a (.lst xs)):=gq.new fa;refine q (.ref a) H' (upd F' a (.lst xs)) g (f1.trans sF) (λb o h=>?_) (λb o h nb=>?_) (.lst (lr.of gU) (rr.mono sF))
  .exact gq.upL fh ha' trivial b o h
  .by_cases hb:b=a
   .subst hb;exact ha
   .rw[gF hb] at h;exact n b o h nb
noncomputable def gv (i:Nat):FV:=λψ=>match ψ[i]? with
 | some (.val d)=>Ga d
 | _=>Gb
theorem gn (i:Nat){x:Str}(hN:X.N[i]?=Ga x:=by rfl)(hv:wb X.env.scope x:=by first|exact k9 rfl|exact kK (k9 rfl)|exact kK (kK rfl))(hd:(x==("__debug__":Str))=false:=by decide)
  (hcd:(x==("__classdict__":Str))=false:=by decide):PV X (.Name x pos) (gv i):=by
 refine md (pp hN hv hd hcd) λσ H Q=>?_;rintro⟨H0,F,ψ,d,r,e,q⟩;unfold gv at e;cases z:ψ[i]? with
 | none=>rw[z] at e;cases e
 | some s =>
  rw[z] at e;cases s with
  | val d' =>
   cases e;obtain⟨u,e1,v,e2,h⟩:=r.sl i _ z;subst e2;exact⟨v,e1,q v H F (.refl _) (.refl _) r.fh (.refl _ _) h⟩
  | no=>cases e
  | own _=>cases e
  | dic _=>cases e
  | dki _ _=>cases e
  | tab _=>cases e
  | fn _=>cases e
  | owk _ _=>cases e
  | dkt _=>cases e
theorem CC {e:Expr}{d:D}{v:V}(h:PE X e (tC v))(r:∀ K F,io K F d v):PV X e (λ_=>Ga d):=by
 refine md h λσ H Q=>?_;rintro⟨H0,F,ψ,d',rs,e,q⟩;cases e;exact q v H F (.refl _) (.refl _) rs.fh (.refl _ _) (r _ _)
theorem gz {i j}:PV X (.Constant (.int i) j pos) (λ_=>Ga (.int i)):=CC Hc λ_ _=>.int i
theorem nL {b j}:PV X (.Constant (.bool b) j pos) (λ_=>Ga (.bool b)):=CC DN λ_ _=>.bl b
theorem nQ {j}:PV X (.Constant .none j pos) (λ_=>Ga .none):=CC IM λ_ _=>.non
theorem LI {x:String}{j}:PV X (.Constant (.str x) j pos) (λ_=>Ga (.str x)):=CC Lc λ_ _=>.str _
theorem gD:PL X [] (λ_=>Ga []):=by
 refine⟨Hu nV λσ H Q=>?_,λψ ds e=>by cases e;rfl⟩;rintro⟨H0,F,ψ,ds,r,e,q⟩;cases e;exact q [] H F (.refl _) (.refl _) r.fh (.refl _ _) .nil
theorem gr {e:Expr}{es:List Expr}{f:FV}{g:FL}(ha:PV X e f)(hr:PL X es g)(hs:starEach (e::es) X.env=(false,eval e X.env)::starEach es X.env:=by rfl) :
  PL X (e::es) (λψ=>(f ψ).bind λd=>(g ψ).bind λds=>Ga (d::ds)):=by
 refine⟨Hu (lF ha hr.pa hs) λσ H Q=>?_,λψ ds e=>?_⟩
 .rintro⟨H0,F,ψ,ds,r,e,q⟩;obtain⟨d,e1,e⟩:=gp e;obtain⟨ds',e2,e⟩:=gp e;cases e;refine⟨H0,F,ψ,d,r,e1,λv H1 F1 g1 f1 fh1 n1 rv=>⟨H0,F1,ψ,ds',r.grow g1 f1 fh1 n1,e2,λvs H2 F2 g2 f2 fh2 n2 rvs=>?_⟩⟩;exact q (v::vs) H2 F2 (g1.trans g2) (f1.trans f2) fh2 (n1.trans n2 g1) (.cons (rv.mono f2) rvs)
 .obtain⟨d,e1,e⟩:=gp e;obtain⟨ds',e2,e⟩:=gp e;cases e;exact congrArg qC (hr.len ψ _ e2)
theorem ox {es:List Expr}{x1}{g:FL}(h:PL X es g)(hz:es.length<=1000:=by decide):PV X (.Tuple es x1 pos) (λψ=>(g ψ).bind λds=>Ga (.tuple ds)):=by
 refine md (Mb h.pa) λσ H Q=>?_;rintro⟨H0,F,ψ,d,r,e,q⟩;obtain⟨ds,e1,e⟩:=gp e;cases e;refine⟨H0,F,ψ,ds,r,e1,λvs H1 F1 g1 f1 fh1 n1 rv=>⟨?_,λp hp=>?_⟩⟩
 .rw[<- rv.length,h.len ψ ds e1];exact uv (yC hz)
 .have fp:F1 p=Gb:=fh1.free hp;have s1:gq F1 (upd F1 p (.tup vs)):=gq.new fp;have s2:gq H1 (upd H1 p (.tup vs)):=gq.new hp;refine q (.ref p) (upd H1 p (.tup vs)) (upd F1 p (.tup vs)) (g1.trans s2) (f1.trans s1) (λb o h=>?_) (λb o h nb=>?_) (.tup (mV.of gU) (rv.mono s1))
  .exact gq.up2 (ob:=.tup vs) fh1 fp hp trivial b o h
  .by_cases hb:b=p
   .subst hb;exact g1.free hp
   .rw[gF hb] at h;exact n1 b o h nb
theorem rp {es:List Expr}{g:FL}(h:PL X es g)(hz:es.length<=1000:=by decide):PO X (.List es pos) g:=by
 refine md (LF h.pa) λσ H Q=>?_;rintro⟨H0,F,ψ,ds,r,e1,q⟩;refine⟨H0,F,ψ,ds,r,e1,λvs H1 F1 g1 f1 fh1 n1 rv=>⟨?_,λp hp=>?_⟩⟩
 .rw[<- rv.length,h.len ψ ds e1];exact uv (yC hz)
 .have s2:gq H1 (upd H1 p (.lst vs)):=gq.new hp;exact q p vs (upd H1 p (.lst vs)) F1 (g1.trans s2) f1 (fh1.trans s2) n1 (g1.free hp) (fh1.free hp) gU rv
def sB (K:ja)(r:R2)(g:D->D->Option D):Prop:=∀ (F H:Hp) (x y:V) (a b d:D) (Q:VK),gq F H->io K F a x->io K F b y->g a b=Ga d ->
 (∀ v H' F',gq H H'->gq F F'->gq F' H'->iO F F' H->io K F' d v->Q v H')->r x y H Q
theorem EA {K:ja}{r:R2}{g:D->D->Option D}(hr:sB K r g){fa fb:FV}{σ:St}{H:Hp}{Q:VK}(h:tV K (λψ=>(fa ψ).bind λa=>(fb ψ).bind λb=>g a b) σ H Q):CJ r (tV K fa) (tV K fb) σ H Q:=by
 obtain⟨H0,F,ψ,d,rs,e,q⟩:=h;obtain⟨a,e1,e⟩:=gp e;obtain⟨b,e2,e⟩:=gp e;refine⟨H0,F,ψ,a,rs,e1,λv H1 F1 g1 f1 fh1 n1 rv=>⟨H0,F1,ψ,b,rs.grow g1 f1 fh1 n1,e2,λu H2 F2 g2 f2 fh2 n2 ru=>?_⟩⟩;refine hr F2 H2 v u a b d Q fh2 (rv.mono f2) ru e λw H3 F3 g3 f3 fh3 n3 rw3=>?_;exact q w H3 F3 ((g1.trans g2).trans g3) ((f1.trans f2).trans f3) fh3 ((n1.trans n2 g1).trans n3 (g1.trans g2)) rw3
theorem sM {op:Operator}{r:R2}{g:D->D->Option D}(ho:lI X (binaryOp op) r)(hr:sB X.K r g){a b:Expr}{fa fb:FV}(ha:PV X a fa)(hb:PV X b fb) :
  PV X (.BinOp a op b pos) (λψ=>(fa ψ).bind λx=>(fb ψ).bind λy=>g x y):=md (On ho ha hb) λ_ _ _ h=>EA hr h
theorem zu {op:CmpOp}{r:R2}{g:D->D->Option D}(ho:lI X (compareOp op) r)(hr:sB X.K r g){a b:Expr}{fa fb:FV}(ha:PV X a fa)(hb:PV X b fb)(hm:behindInMarks op b=false:=by first|exact CZ _|rfl|with_unfolding_all rfl) :
  PV X (.Compare a [op] [b] pos) (λψ=>(fa ψ).bind λx=>(fb ψ).bind λy=>g x y):=md (FX ho ha hb hm) λ_ _ _ h=>EA hr h
def ly:D->Option Bool
 | .bool b=>Ga b
 | _=>Gb
theorem Aj {d:D}{b:Bool}(h:ly d=Ga b):d=.bool b:=by cases d<;>cases h;rfl
theorem Tu {K:ja}{f:FV}{σ:St}{H:Hp}{Q:Bool->Hp->Prop}(h:tT K (λψ=>(f ψ).bind ly) σ H Q):tV K f σ H (λx H'=>∃ k,x=.bl k/\Q k H'):=by
 obtain⟨H0,F,ψ,b,rs,e,q⟩:=h;obtain⟨d,e1,e2⟩:=gp e;cases Aj e2;refine⟨H0,F,ψ,_,rs,e1,λv H1 F1 g1 f1 fh1 n1 rv=>?_⟩;cases rv;exact⟨b,rfl,q H1 g1⟩
theorem wQ {op:CmpOp}{r:R2}{g:D->D->Option D}(ho:lI X (compareOp op) r)(hr:sB X.K r g){a b:Expr}{fa fb:FV}(ha:PV X a fa)(hb:PV X b fb)(hm:behindInMarks op b=false:=by first|exact CZ _|rfl|with_unfolding_all rfl) :
  PB X (.Compare a [op] [b] pos) (λψ=>((fa ψ).bind λx=>(fb ψ).bind λy=>g x y).bind ly):=by
 refine Fc (Go ho ha hb hm) λσ H Q h=>?_;exact EA hr (Tu h)
def An:D->Option Bool
 | .none=>Ga false
 | .bool b=>Ga b
 | .int i=>Ga (i !=0)
 | .tuple xs=>Ga (!xs.isEmpty)
 | .list xs=>Ga (!xs.isEmpty)
 | _=>Gb
theorem gJ.isEmpty {K:ja}{H:Hp}{ds:List D}{vs:List V}(r:gJ K H ds vs):ds.isEmpty=vs.isEmpty:=by cases r<;>rfl
theorem zFM {K:ja}{F H:Hp}{d:D}{v:V}{b:Bool}(e:An d=Ga b)(r:io K F d v)(s:gq F H):Dz K v H b:=by
 cases r with
 | non=>cases e;rfl
 | bl c=>cases e;rfl
 | int i=>cases e;rfl
 | str x=>cases e
 | tup h r=>cases e;exact .inr (.inl ⟨_,nq s h,by rw[r.isEmpty]⟩)
 | lst h r=>cases e;exact .inl ⟨_,s.seq h,by rw[r.isEmpty]⟩
 | dic hs h ok r=>cases e
 | dci hs h ok r=>cases e
theorem ny {e:Expr}{f:FV}(h:PV X e f)(he:∀ whole,isTrue e X.env whole=(do let v <- whole;standAt e.pos;holding [v] (truthy v)):=by intro _;rfl):PB X e (λψ=>(f ψ).bind An):=by
 refine Fc (Dy h he) λσ H Q=>?_;rintro⟨H0,F,ψ,b,rs,e,q⟩;obtain⟨d,e1,e2⟩:=gp e;exact⟨H0,F,ψ,d,rs,e1,λv H1 F1 g1 f1 fh1 n1 rv=>⟨b,zFM e2 rv fh1,q H1 g1⟩⟩
theorem oF {e:Expr}{f:FB}(h:PB X e f):PB X (.UnaryOp .Not e pos) (λψ=>(f ψ).bind λc=>Ga (!c)):=by
 refine Fc (GE h) λσ H Q=>?_;rintro⟨H0,F,ψ,b,rs,e,q⟩;obtain⟨c,z,e⟩:=gp e;cases e;exact⟨H0,F,ψ,c,rs,z,q⟩
theorem EZ {a:Expr}{f:FB}(h:PB X a f):nU X (.BoolOp .And [a] pos) f:=FY h
theorem sr {a:Expr}{f:FB}(h:PB X a f):nU X (.BoolOp .Or [a] pos) f:=HK h
theorem EC {a b:Expr}{rest:List Expr}{f g:FB}(ha:PB X a f)(hb:nU X (.BoolOp .And (b::rest) pos) g):nU X (.BoolOp .And (a::b::rest) pos) (λψ=>(f ψ).bind λc=>if c then g ψ else Ga false):=by
 refine QW (KQ ha hb) λσ H Q=>?_;rintro⟨H0,F,ψ,b,rs,e,q⟩;obtain⟨c,e1,e2⟩:=gp e;refine⟨H0,F,ψ,c,rs,e1,λH1 g1=>?_⟩;cases c with
 | true=>exact sj ⟨H0,F,ψ,b,rs.later g1,e2,λH2 g2=>q H2 (g1.trans g2)⟩
 | false=>cases e2;exact rY (q H1 g1)
theorem mQ {a b:Expr}{rest:List Expr}{f g:FB}(ha:PB X a f)(hb:nU X (.BoolOp .Or (b::rest) pos) g):nU X (.BoolOp .Or (a::b::rest) pos) (λψ=>(f ψ).bind λc=>if c then Ga true else g ψ):=by
 refine QW (NV ha hb) λσ H Q=>?_;rintro⟨H0,F,ψ,b,rs,e,q⟩;obtain⟨c,e1,e2⟩:=gp e;refine⟨H0,F,ψ,c,rs,e1,λH1 g1=>?_⟩;cases c with
 | false=>exact rY ⟨H0,F,ψ,b,rs.later g1,e2,λH2 g2=>q H2 (g1.trans g2)⟩
 | true=>cases e2;exact sj (q H1 g1)
theorem nU.b {e:Expr}{f:FB}(h:nU X e f):PB X e f:=PW.pt h
theorem wF {op}{a:Expr}{f:FV}(h:PV X a f):PV X (.BoolOp op [a] pos) f:=LJ h
theorem zA {a b:Expr}{rest:List Expr}{f g:FV}(ha:PV X a f)(hb:PV X (.BoolOp .And (b::rest) pos) g):PV X (.BoolOp .And (a::b::rest) pos) (λψ=>((f ψ).bind ly).bind λc=>if c then g ψ else Ga (.bool false)):=by
 refine md (LU ha hb) λσ H Q=>?_;rintro⟨H0,F,ψ,d,rs,e,q⟩;obtain⟨c,e1,e2⟩:=gp e;obtain⟨d',e3,e4⟩:=gp e1;cases Aj e4;refine⟨H0,F,ψ,_,rs,e3,λv H1 F1 g1 f1 fh1 n1 rv=>?_⟩;cases rv;refine⟨c,rfl,?_⟩;cases c with
 | true=>exact sj ⟨H0,F1,ψ,d,rs.grow g1 f1 fh1 n1,e2,λw H2 F2 g2 f2 fh2 n2 rw2=>q w H2 F2 (g1.trans g2) (f1.trans f2) fh2 (n1.trans n2 g1) rw2⟩
 | false=>cases e2;exact rY (q (.bl false) H1 F1 g1 f1 fh1 n1 (.bl false))
theorem Dh {a b:Expr}{rest:List Expr}{f g:FV}(ha:PV X a f)(hb:PV X (.BoolOp .Or (b::rest) pos) g):PV X (.BoolOp .Or (a::b::rest) pos) (λψ=>((f ψ).bind ly).bind λc=>if c then Ga (.bool true) else g ψ):=by
 refine md (NO ha hb) λσ H Q=>?_;rintro⟨H0,F,ψ,d,rs,e,q⟩;obtain⟨c,e1,e2⟩:=gp e;obtain⟨d',e3,e4⟩:=gp e1;cases Aj e4;refine⟨H0,F,ψ,_,rs,e3,λv H1 F1 g1 f1 fh1 n1 rv=>?_⟩;cases rv;refine⟨c,rfl,?_⟩;cases c with
 | false=>exact rY ⟨H0,F1,ψ,d,rs.grow g1 f1 fh1 n1,e2,λw H2 F2 g2 f2 fh2 n2 rw2=>q w H2 F2 (g1.trans g2) (f1.trans f2) fh2 (n1.trans n2 g1) rw2⟩
 | true=>cases e2;exact sj (q (.bl true) H1 F1 g1 f1 fh1 n1 (.bl true))
theorem Mp {a:Expr}{f:FV}(ha:PV X a f):PV X (.UnaryOp .Not a pos) (λψ=>((f ψ).bind ly).bind λc=>Ga (.bool (!c))):=by
 refine md (KD ha) λσ H Q=>?_;rintro⟨H0,F,ψ,d,rs,e,q⟩;obtain⟨c,e1,e2⟩:=gp e;obtain⟨d',e3,e4⟩:=gp e1;cases Aj e4;cases e2;refine⟨H0,F,ψ,_,rs,e3,λv H1 F1 g1 f1 fh1 n1 rv=>?_⟩;cases rv;exact⟨c,rfl,q (.bl (!c)) H1 F1 g1 f1 fh1 n1 (.bl _)⟩
theorem yi {c a b:Expr}{fc:FB}{f g:FV}(hc:PB X c fc)(ha:PV X a f)(hb:PV X b g):PV X (.IfExp c a b pos) (λψ=>(fc ψ).bind λk=>if k then f ψ else g ψ):=by
 refine md (Dn hc ha hb) λσ H Q=>?_;rintro⟨H0,F,ψ,d,rs,e,q⟩;obtain⟨k,e1,e2⟩:=gp e;refine⟨H0,F,ψ,k,rs,e1,λH1 g1=>?_⟩;cases k with
 | true=>exact sj ⟨H0,F,ψ,d,rs.later g1,e2,λw H2 F2 g2 f2 fh2 n2 rw2=>q w H2 F2 (g1.trans g2) f2 fh2 (λb o h nb=>g1.free (n2 b o h nb)) rw2⟩
 | false=>exact rY ⟨H0,F,ψ,d,rs.later g1,e2,λw H2 F2 g2 f2 fh2 n2 rw2=>q w H2 F2 (g1.trans g2) f2 fh2 (λb o h nb=>g1.free (n2 b o h nb)) rw2⟩
end
section
variable {X:Cx}{ω:List (Gj×Obj)}{σ:St}{F H:Hp}{s:Gh}
theorem Mq:∀ ks:List D,(ks.map λk=>(k,j8 true)).map (·.1)=ks
 | []=>rfl
 | k::ks=>congrArg (k::·) (Mq ks)
mutual
def pD:D->Bool
 | .dict _=>false
 | .list xs=>pj xs
 | .tuple xs=>pj xs
 | _=>true
def pj:List D->Bool
 | []=>true
 | x::xs=>pD x&&pj xs
end
mutual
theorem Ax:∀ {d:D},d.canLay0=true->pD d=true
 | .none,_=>by rw[pD]<;>(intros;contradiction)
 | .bool _,_=>by rw[pD]<;>(intros;contradiction)
 | .int _,_=>by rw[pD]<;>(intros;contradiction)
 | .str _,_=>by rw[pD]<;>(intros;contradiction)
 | .list xs,h=>by rw[Jj] at h;rw[pD];exact FE h
 | .tuple xs,h=>by rw[Jj] at h;rw[pD];exact FE h
 | .dict _,h=>by rw[Jj] at h;cases h
theorem FE:∀ {ds:List D},kN ds=true->pj ds=true
 | [],_=>by rw[pj]
 | x::xs,h=>by
  rw[kN,jx] at h;rw[pj,Ax h.1,FE h.2];rfl
end
mutual
theorem Ir:∀ {d:D} {n:Nat},hE d n=true->pD d=true
 | .none,_,_=>by rw[pD]<;>(intros;contradiction)
 | .int _,_,_=>by rw[pD]<;>(intros;contradiction)
 | .tuple xs,0,h=>by rw[hE] at h;cases h
 | .tuple xs,n+1,h=>by rw[hE] at h;rw[pD];exact PY h
 | .bool _,_,h=>by rw[hE] at h;cases h
 | .str _,_,h=>by rw[hE] at h;cases h
 | .list _,_,h=>by rw[hE] at h;cases h
 | .dict _,_,h=>by rw[hE] at h;cases h
theorem PY:∀ {ds:List D} {n:Nat},ml ds n=true->pj ds=true
 | [],_,_=>by rw[pj]
 | x::xs,n,h=>by
  rw[ml,jx] at h;rw[pj,Ir h.1,PY h.2];rfl
end
mutual
theorem io.reads (I:gA X ω σ H s)(g:gq F H):∀ {d:D} {v:V},io X.K F d v->pD d=true->∀ {u:Gg},ia v u->∃ as,Reads s.heap u d as
 | _,_,.non,_,u,r=>by cases r;exact⟨_,.none⟩
 | _,_,.bl b,_,u,r=>by cases r;exact⟨_,.bool b⟩
 | _,_,.int i,_,u,r=>by obtain⟨t,rfl⟩:=r;exact⟨_,.int i t⟩
 | _,_,.str x,_,u,r=>by obtain⟨t,rfl⟩:=r;exact⟨_,.str x t⟩
 | _,_,.tup h q,pl,u,r=>by
  cases r;rw[pD] at pl;obtain⟨its,rv,⟨o,e,c,n,d⟩,_⟩:=I.tuple (nq g h);obtain⟨as,ra⟩:=gJ.reads I g q pl rv;exact⟨_,.tuple e c d (by simpa using ra)⟩
 | _,_,.lst h q,pl,u,r=>by
  cases r;rw[pD] at pl;obtain⟨its,rv,⟨o,n,e,c,_,d⟩,_⟩:=I.list (g.seq h);obtain⟨as,ra⟩:=gJ.reads I g q pl rv;exact⟨_,.list e c d (by simpa using ra)⟩
 | _,_,.dic _ _ _ _,pl,u,r=>by rw[pD] at pl;cases pl
 | _,_,.dci _ _ _ _,pl,u,r=>by rw[pD] at pl;cases pl
theorem gJ.reads (I:gA X ω σ H s)(g:gq F H):∀ {ds:List D} {vs:List V},gJ X.K F ds vs->pj ds=true->∀ {us:List Gg},hV vs us->∃ as,ReadsAll s.heap us ds as
 | _,_,.nil,_,us,r=>by cases r;exact⟨_,.nil⟩
 | _,_,.cons h t,pl,us,r=>by
  rw[pj,jx] at pl;cases r with
  | cons r1 r2 =>
   obtain⟨as,a⟩:=io.reads I g h pl.1 r1;obtain⟨bs,b⟩:=gJ.reads I g t pl.2 r2;exact⟨_,.cons a b⟩
end
end
def wn (a b:D):Bool:=a.canLay0&&b.canLay0&&decide (min a.depth b.depth<=100)
def iT (a b:D):Option D:=if wn a b then Ga (.bool (kR a b)) else Gb
def lL (a b:D):Option D:=if wn a b then Ga (.bool (!PyData.eqv a b)) else Gb
def xa (K:ja)(g:D->D->Option D):R2:=λx y H Q=>∃ F a b d,gq F H/\io K F a x/\io K F b y/\g a b=Ga d/\∀ k,d=.bool k->Q (.bl k) H
theorem Px {a b:D}(h:wn a b=true):a.canLay0=true/\b.canLay0=true/\min a.depth b.depth<=100:=by
 unfold wn at h;simp only[jx,decide_eq_true_eq] at h;exact⟨h.1.1,h.1.2,h.2⟩
theorem OT {X:Cx}(hu:X.A.units+100<cLine):lI X (compareOp .Eq) (xa X.K iT):=by
 intro ω s σ H x y v u Q I rx ry h;obtain⟨F,a,b,d,g,ra,rb,e,q⟩:=h;unfold iT at e;split at e
 .rename_i ok;obtain⟨h1,h2,h3⟩:=Px ok;obtain⟨as,ha⟩:=ra.reads I g (Ax h1) rx;obtain⟨bs,hb⟩:=rb.reads I g (Ax h2) ry;refine SeqAt.compareEq_reads ha hb h1 h2 (by omega) ⟨.bl _,H,I,rfl,q _ (jD e).symm⟩
 .cases e
theorem Sd {X:Cx}(hu:X.A.units+100<cLine):lI X (compareOp .NotEq) (xa X.K lL):=by
 intro ω s σ H x y v u Q I rx ry h;obtain⟨F,a,b,d,g,ra,rb,e,q⟩:=h;unfold lL at e;split at e
 .rename_i ok;obtain⟨h1,h2,h3⟩:=Px ok;obtain⟨as,ha⟩:=ra.reads I g (Ax h1) rx;obtain⟨bs,hb⟩:=rb.reads I g (Ax h2) ry;refine SeqAt.compareNe_reads ha hb h1 h2 (by omega) ⟨.bl _,H,I,rfl,q _ (jD e).symm⟩
 .cases e
theorem xH {K:ja}{g:D->D->Option D}(hg:∀ a b d,g a b=Ga d->∃ k,d=.bool k):sB K (xa K g) g:=by
 intro F H x y a b d Q s ra rb e q;refine⟨F,a,b,d,s,ra,rb,e,λk ek=>?_⟩;subst ek;exact q (.bl k) H F (.refl _) (.refl _) s (.refl _ _) (.bl k)
theorem Ta:∀ a b d,iT a b=Ga d->∃ k,d=.bool k:=λa b d h=>by unfold iT at h;split at h<;>cases h;exact⟨_,rfl⟩
theorem SH:∀ a b d,lL a b=Ga d->∃ k,d=.bool k:=λa b d h=>by unfold lL at h;split at h<;>cases h;exact⟨_,rfl⟩
def dI (C:Int->Int->Bool)(g:Int->Int->D):D->D->Option D
 | .int i,.int j=>if C i j then Ga (g i j) else Gb
 | _,_=>Gb
theorem Bl {K:ja}{C:Int->Int->Prop}{C':Int->Int->Bool}{g:Int->Int->V}{g':Int->Int->D}(hC:∀ i j,C' i j=true->C i j)(hg:∀ i j F,io K F (g' i j) (g i j)):sB K (rI C g) (dI C' g'):=by
 intro F H x y a b d Q s ra rb e q;cases ra<;>cases rb<;>first|(cases e;done)|skip
 rename_i i j;unfold dI at e;dsimp only at e;split at e
 .rename_i c;cases e;exact⟨i,j,rfl,rfl,hC i j c,q _ H F (.refl _) (.refl _) s (.refl _ _) (hg i j F)⟩
 .cases e
def tR (g:Int->Int->D):D->D->Option D
 | .int i,.int j=>Ga (g i j)
 | _,_=>Gb
theorem pA {K:ja}{g:Int->Int->V}{g':Int->Int->D}(hg:∀ i j F,io K F (g' i j) (g i j)):sB K (sV g) (tR g'):=by
 intro F H x y a b d Q s ra rb e q;cases ra<;>cases rb<;>first|(cases e;done)|skip
 rename_i i j;cases e;exact⟨i,j,rfl,rfl,q _ H F (.refl _) (.refl _) s (.refl _ _) (hg i j F)⟩
def lM:D->D->Option D:=tR λi j=>.int (i-j)
def wq (i j:Int):Bool:=(decide (-(2^64)<i)&&decide (i<2^64))||(decide (-(2^64)<j)&&decide (j<2^64))
def nE:D->D->Option D:=dI wq λi j=>.int (i*j)
def nX:D->D->Option D:=dI (λ_ j=>decide (0<j)&&decide (j<1073741824)) λi j=>.int (i/j)
def lP:D->D->Option D:=dI (λ_ j=>decide (0<j)) λi j=>.int (i%j)
def sf:D->D->Option D:=dI (λi j=>decide (0<=j)&&decide (j<=1000000)&&decide (i.natAbs<2^64)) λi j=>.int (i^j.toNat)
def IG:D->D->Option D:=tR λi j=>.int (uJ i j)
def Eh:D->D->Option D:=tR λi j=>.int (Js i j)
def rj:D->D->Option D:=tR λi j=>.bool (decide (i<j))
def pC:D->D->Option D:=tR λi j=>.bool (decide (i<=j))
def pB:D->D->Option D:=tR λi j=>.bool (decide (j<i))
def zW:D->D->Option D:=tR λi j=>.bool (decide (j<=i))
def iX:D->D->Option D
 | .int i,.int j=>Ga (.int (i+j))
 | .tuple xs,.tuple ys=>if xs.length+ys.length<=sizeLine then Ga (.tuple (xs++ys)) else Gb
 | .list xs,.list ys=>if xs.length+ys.length<=sizeLine then Ga (.list (xs++ys)) else Gb
 | .str x,.str y=>if x.length+y.length<=sizeLine then Ga (.str (x++y)) else Gb
 | _,_=>Gb
section
variable {X:Cx}
theorem Vw {ω:List (Gj×Obj)}{s:Gh}{σ:St}{H:Hp}{a b:Gj}{ys:List V}{Q:Gg->Gh->Prop}(I:gA X ω σ H s)(ha:mV X.K H a [])(hb:mV X.K H b ys)(h:Q (.ref b) s) :
  wpAny (model X.prog X.w) X.A (binaryOp .Add (.ref a) (.ref b)) Q X.xe s:=by
 obtain⟨its,r1,p1,_⟩:=I.tuple ha;obtain⟨its2,r2,p2,_⟩:=I.tuple hb;cases r1;obtain⟨⟨cls,dd,data,sl⟩,ho,hc,n,hd⟩:=id p1;obtain⟨⟨cls2,dd2,data2,sl2⟩,ho2,hc2,n2,hd2⟩:=id p2;simp only at hc hd hc2 hd2;subst hc hd hc2 hd2;exact concat_meets ⟨_,ho,rfl⟩ ⟨_,ho2,rfl⟩ noFill_tuple_add seq_tuple_add vO vG (vB _ _)
   (tuple_addW0 a b #[] its2.toArray n n2 dd dd2 sl sl2 (by rfl)) ⟨ho,ho2,h⟩
def Es (K:ja):R2:=λx y H Q=>∃ F a b d,gq F H/\io K F a x/\io K F b y/\iX a b=Ga d/\∀ v H' F',gq H H'->gq F F'->gq F' H'->iO F F' H->io K F' d v->Q v H'
theorem xq {F H:Hp}{p:Gj}{o:HO}(g:gq F H)(hp:H p=Gb)(pl:Pl o:=by trivial):gq H (upd H p o)/\gq F (upd F p o)/\gq (upd F p o) (upd H p o)/\iO F (upd F p o) H:=by
 have fp:F p=Gb:=g.free hp;refine⟨gq.new hp,gq.new fp,gq.up2 g fp hp pl,λb u h nb=>?_⟩
 .by_cases hb:b=p
  .subst hb;exact hp
  .rw[gF hb,nb] at h;cases h
theorem WU:lI X (binaryOp .Add) (Es X.K):=by
 intro ω s σ H x y v u Q I rx ry h;obtain⟨F,a,b,d,g,ra,rb,e,q⟩:=h;cases ra with
 | int i =>
  cases rb<;>first|(cases e;done)|skip
  cases e;exact LM ω s σ H _ _ v u Q I rx ry ⟨i,_,rfl,rfl,q _ H F (.refl _) (.refl _) g (.refl _ _) (.int _)⟩
 | str i =>
  cases rb<;>first|(cases e;done)|skip
  unfold iX at e;dsimp only at e;split at e
  .rename_i c;cases e;exact Bi ω s σ H _ _ v u Q I rx ry ⟨i,_,rfl,rfl,c,q _ H F (.refl _) (.refl _) g (.refl _ _) (.str _)⟩
  .cases e
 | @tup p xs ds h1 q1 =>
  cases rb<;>first|(cases e;done)|skip
  rename_i p2 xs2 ds2 h2 q2;unfold iX at e;dsimp only at e;split at e
  .rename_i c;cases e;by_cases hx:xs=[]
   .subst hx;cases q1;cases rx;cases ry;exact Vw I (nq g h1) (nq g h2) ⟨.ref p2,H,I,rfl,q _ H F (.refl _) (.refl _) g (.refl _ _) (.tup h2 q2)⟩
   .refine FU ω s σ H _ _ v u Q I rx ry ⟨p,p2,xs,xs2,rfl,rfl,nq g h1,nq g h2,hx,by rw[<- q1.length,<- q2.length];exact c,λz=>?_,λz l hl=>?_⟩
    .subst z;cases q2;exact q _ H F (.refl _) (.refl _) g (.refl _ _) (by rw[kg];exact .tup h1 q1)
    .obtain⟨s1,s2,s3,s4⟩:=xq (o:=.tup (xs++xs2)) g hl;exact q _ _ _ s1 s2 s3 s4 (.tup (mV.of gU) ((q1.append q2).mono s2))
  .cases e
 | @lst p xs ds h1 q1 =>
  cases rb<;>first|(cases e;done)|skip
  rename_i p2 xs2 ds2 h2 q2;unfold iX at e;dsimp only at e;split at e
  .rename_i c;cases e;cases rx;cases ry;obtain⟨its,r,pl,hz⟩:=I.list (g.seq h1);obtain⟨its2,r2,pl2,hz2⟩:=I.list (g.seq h2);obtain⟨o,n,e1,c1,d1,k1⟩:=pl;obtain⟨o2,n2,e2,c2,d2,k2⟩:=pl2;have l1:=q1.length;have l2:=q2.length;have l3:=r.length;have l4:=r2.length;obtain⟨oc,od,oda,osl⟩:=o;obtain⟨oc2,od2,oda2,osl2⟩:=o2;simp only at c1 d1 k1 c2 d2 k2;subst c1 d1 k1 c2 d2 k2;refine concat_meets ⟨_,e1,rfl⟩ ⟨_,e2,rfl⟩ noFill_list_add seq_list_add PySem.F.slot_list_add PySem.F.entry_list_add (PySem.F.args_list_add_2 _ _)
    (list_addW p p2 its.toArray its2.toArray n n2 _ _ _ _ (by rw[jo,jo];omega)) ⟨e1,e2,?_⟩
   have ea:its.toArray++its2.toArray=(its++its2).toArray:=by simp
   rw[ea];obtain⟨s1,s2,s3,s4⟩:=xq (o:=.lst (xs++xs2)) g I.fresh;exact⟨.ref _,_,I.lnew (t':=s.toks) (r.append r2) (by rw[jr];omega),rfl,q _ _ _ s1 s2 s3 s4 (.lst (lr.of gU) ((q1.append q2).mono s2))⟩
  .cases e
 | non=>cases e
 | bl k=>cases e
 | dic hs h ok r=>cases e
 | dci hs h ok r=>cases e
theorem zDD {K:ja}:sB K (Es K) iX:=λF H x y a b d Q s ra rb e q=>⟨F,a,b,d,s,ra,rb,e,q⟩
end
section
variable {X:Cx}{pos:Pos}{a b:Expr}{f g:FV}
theorem nT (ha:PV X a f)(hb:PV X b g):PV X (.BinOp a .Add b pos) (λψ=>(f ψ).bind λx=>(g ψ).bind λy=>iX x y):=sM WU zDD ha hb
theorem wI (ha:PV X a f)(hb:PV X b g):PV X (.BinOp a .Sub b pos) (λψ=>(f ψ).bind λx=>(g ψ).bind λy=>lM x y):=sM Lk (pA λ_ _ _=>.int _) ha hb
theorem Ba (ha:PV X a f)(hb:PV X b g):PV X (.BinOp a .Mult b pos) (λψ=>(f ψ).bind λx=>(g ψ).bind λy=>nE x y) :=
 sM Iv (Bl (λi j h=>by simpa [wq,Bx] using h) λ_ _ _=>.int _) ha hb
theorem CA (ha:PV X a f)(hb:PV X b g):PV X (.BinOp a .FloorDiv b pos) (λψ=>(f ψ).bind λx=>(g ψ).bind λy=>nX x y) :=
 sM Gu (Bl (λi j h=>by simpa [Lg] using h) λ_ _ _=>.int _) ha hb
theorem zh (ha:PV X a f)(hb:PV X b g):PV X (.BinOp a .Mod b pos) (λψ=>(f ψ).bind λx=>(g ψ).bind λy=>lP x y) :=
 sM Lh (Bl (λi j h=>by simpa using h) λ_ _ _=>.int _) ha hb
theorem Fw (ha:PV X a f)(hb:PV X b g):PV X (.BinOp a .Pow b pos) (λψ=>(f ψ).bind λx=>(g ψ).bind λy=>sf x y) :=
 sM ML (Bl (λi j h=>by simpa [MZ,and_assoc] using h) λ_ _ _=>.int _) ha hb
theorem zDE (ha:PV X a f)(hb:PV X b g):PV X (.BinOp a .BitAnd b pos) (λψ=>(f ψ).bind λx=>(g ψ).bind λy=>IG x y):=sM HY (pA λ_ _ _=>.int _) ha hb
theorem zFN (ha:PV X a f)(hb:PV X b g):PV X (.BinOp a .BitOr b pos) (λψ=>(f ψ).bind λx=>(g ψ).bind λy=>Eh x y):=sM Oi (pA λ_ _ _=>.int _) ha hb
theorem Ln (ha:PV X a f)(hb:PV X b g):PV X (.Compare a [.Lt] [b] pos) (λψ=>(f ψ).bind λx=>(g ψ).bind λy=>rj x y):=zu zo (pA λ_ _ _=>.bl _) ha hb
theorem UE (ha:PV X a f)(hb:PV X b g):PV X (.Compare a [.LtE] [b] pos) (λψ=>(f ψ).bind λx=>(g ψ).bind λy=>pC x y):=zu wA (pA λ_ _ _=>.bl _) ha hb
theorem Tt (ha:PV X a f)(hb:PV X b g):PV X (.Compare a [.Gt] [b] pos) (λψ=>(f ψ).bind λx=>(g ψ).bind λy=>pB x y):=zu EI (pA λ_ _ _=>.bl _) ha hb
theorem Ts (ha:PV X a f)(hb:PV X b g):PV X (.Compare a [.GtE] [b] pos) (λψ=>(f ψ).bind λx=>(g ψ).bind λy=>zW x y):=zu DR (pA λ_ _ _=>.bl _) ha hb
theorem yf (hu:X.A.units+100<cLine)(ha:PV X a f)(hb:PV X b g):PV X (.Compare a [.Eq] [b] pos) (λψ=>(f ψ).bind λx=>(g ψ).bind λy=>iT x y):=zu (OT hu) (xH Ta) ha hb
theorem Uu (hu:X.A.units+100<cLine)(ha:PV X a f)(hb:PV X b g):PV X (.Compare a [.NotEq] [b] pos) (λψ=>(f ψ).bind λx=>(g ψ).bind λy=>lL x y):=zu (Sd hu) (xH SH) ha hb
theorem zF (ha:PV X a f)(hb:PV X b g):PB X (.Compare a [.Lt] [b] pos) (λψ=>((f ψ).bind λx=>(g ψ).bind λy=>rj x y).bind ly):=wQ zo (pA λ_ _ _=>.bl _) ha hb
theorem BA (ha:PV X a f)(hb:PV X b g):PB X (.Compare a [.LtE] [b] pos) (λψ=>((f ψ).bind λx=>(g ψ).bind λy=>pC x y).bind ly):=wQ wA (pA λ_ _ _=>.bl _) ha hb
theorem sP (ha:PV X a f)(hb:PV X b g):PB X (.Compare a [.Gt] [b] pos) (λψ=>((f ψ).bind λx=>(g ψ).bind λy=>pB x y).bind ly):=wQ EI (pA λ_ _ _=>.bl _) ha hb
theorem Ix (ha:PV X a f)(hb:PV X b g):PB X (.Compare a [.GtE] [b] pos) (λψ=>((f ψ).bind λx=>(g ψ).bind λy=>zW x y).bind ly):=wQ DR (pA λ_ _ _=>.bl _) ha hb
theorem oC (hu:X.A.units+100<cLine)(ha:PV X a f)(hb:PV X b g):PB X (.Compare a [.Eq] [b] pos) (λψ=>((f ψ).bind λx=>(g ψ).bind λy=>iT x y).bind ly):=wQ (OT hu) (xH Ta) ha hb
theorem pW (hu:X.A.units+100<cLine)(ha:PV X a f)(hb:PV X b g):PB X (.Compare a [.NotEq] [b] pos) (λψ=>((f ψ).bind λx=>(g ψ).bind λy=>lL x y).bind ly):=wQ (Sd hu) (xH SH) ha hb
end
def tSh (K:ja)(f:FL):TE:=λσ H Q=>∃ H0 F ψ ds,RS K H0 F H ψ σ/\f ψ=Ga ds /\
 ∀ a xs H' F',gq H H'->gq F F'->gq F' H'->iO F F' H->lr K H' a xs->gJ K F' ds xs->Q (.ref a) H'
abbrev sE (X:Cx)(e:Expr)(f:FL):Prop:=PE X e (tSh X.K f)
def wO:D->Option (List D)
 | .list xs=>Ga xs
 | _=>Gb
def xW:D->Option (List D)
 | .tuple xs=>Ga xs
 | _=>Gb
theorem RC {d:D}{xs:List D}(h:wO d=Ga xs):d=.list xs:=by cases d<;>cases h;rfl
theorem SS {d:D}{xs:List D}(h:xW d=Ga xs):d=.tuple xs:=by cases d<;>cases h;rfl
def gl (i:Nat):FL:=λψ=>match ψ[i]? with
 | some (.own ds)=>Ga ds
 | some (.val (.list ds))=>Ga ds
 | _=>Gb
section
variable {X:Cx}{pos:Pos}
theorem PV.sh {e:Expr}{f:FV}(h:PV X e f):sE X e (λψ=>(f ψ).bind wO):=by
 refine md h λσ H Q=>?_;rintro⟨H0,F,ψ,ds,r,e,q⟩;obtain⟨d,e1,e2⟩:=gp e;cases RC e2;refine⟨H0,F,ψ,_,r,e1,λv H' F' g f1 fh n rv=>?_⟩;cases rv with
 | lst h1 h2=>exact q _ _ H' F' g f1 fh n (fh.seq h1) h2
theorem PO.sh {e:Expr}{f:FL}(h:PO X e f):sE X e f:=by
 refine md h λσ H Q=>?_;rintro⟨H0,F,ψ,ds,r,e,q⟩;exact⟨H0,F,ψ,ds,r,e,λa xs H' F' g f1 fh n ha fa ha' rr=>q a xs H' F' g f1 fh n (lr.of ha') rr⟩
theorem su (i:Nat){x:Str}(hN:X.N[i]?=Ga x:=by rfl)(hv:wb X.env.scope x:=by first|exact k9 rfl|exact kK (k9 rfl)|exact kK (kK rfl))(hd:(x==("__debug__":Str))=false:=by decide)
  (hcd:(x==("__classdict__":Str))=false:=by decide):sE X (.Name x pos) (gl i):=by
 refine md (pp hN hv hd hcd) λσ H Q=>?_;rintro⟨H0,F,ψ,ds,r,e,q⟩;unfold gl at e;split at e
 .rename_i ds' z;cases e;obtain⟨u,e1,a,xs,e2,ha,fa,h0a,rr⟩:=r.sl i _ z;subst e2;exact⟨.ref a,e1,q a xs H F (.refl _) (.refl _) r.fh (.refl _ _) (lr.of ha) rr⟩
 .rename_i ds' z;cases e;obtain⟨u,e1,v,e2,h⟩:=r.sl i _ z;subst e2;cases h with
  | lst h1 h2=>exact⟨_,e1,q _ _ H F (.refl _) (.refl _) r.fh (.refl _ _) (r.fh.seq h1) h2⟩
 .cases e
def gC:D->D->Option D
 | .list xs,.int i=>atI xs i
 | .tuple xs,.int i=>atI xs i
 | _,_=>Gb
theorem gJ.at {K:ja}{F:Hp}{ds:List D}{vs:List V}(r:gJ K F ds vs){i:Int}{d:D}(h:atI ds i=Ga d):∃ v,atI vs i=Ga v/\io K F d v:=by
 unfold atI at h ⊢;rw[<- r.length];obtain⟨j,e1,e2⟩:=gp h;obtain⟨v,e3,e4⟩:=r.get e2;exact⟨v,by rw[e1];exact e3,e4⟩
theorem zFO {K:ja}:sB K (Pp K) gC:=by
 intro F H x y a b d Q s ra rb e q;cases ra<;>first|(cases e;done)|skip
 .rename_i p xs ds h1 h2;cases rb<;>first|(cases e;done)|skip
  rename_i i;obtain⟨v,e1,e2⟩:=h2.at e;exact .inr (.inl ⟨p,xs,i,v,rfl,rfl,nq s h1,e1,q v H F (.refl _) (.refl _) s (.refl _ _) e2⟩)
 .rename_i p xs ds h1 h2;cases rb<;>first|(cases e;done)|skip
  rename_i i;obtain⟨v,e1,e2⟩:=h2.at e;exact .inl ⟨p,xs,i,v,rfl,rfl,s.seq h1,e1,q v H F (.refl _) (.refl _) s (.refl _ _) e2⟩
theorem gH {a b:Expr}{f g:FV}(ha:PV X a f)(hb:PV X b g)(hs:ye b:=by exact λ_ _=>rfl):PV X (.Subscript a b pos) (λψ=>(f ψ).bind λx=>(g ψ).bind λy=>gC x y) :=
 md (FF KU ha hb hs) λ_ _ _ h=>EA zFO h
def yr (xs:List D):D->Option D
 | .int i=>atI xs i
 | _=>Gb
theorem wN {a b:Expr}{f:FL}{g:FV}(ha:sE X a f)(hb:PV X b g)(hs:ye b:=by exact λ_ _=>rfl):PV X (.Subscript a b pos) (λψ=>(f ψ).bind λx=>(g ψ).bind λy=>yr x y):=by
 refine md (FF AR ha hb hs) λσ H Q=>?_;rintro⟨H0,F,ψ,d,r,e,q⟩;obtain⟨ds,e1,e⟩:=gp e;obtain⟨b,e2,e⟩:=gp e;refine⟨H0,F,ψ,ds,r,e1,λp xs H1 F1 g1 f1 fh1 n1 hl rr=>⟨H0,F1,ψ,b,r.grow g1 f1 fh1 n1,e2,λu H2 F2 g2 f2 fh2 n2 ru=>?_⟩⟩;cases ru<;>first|(cases e;done)|skip
 rename_i i;obtain⟨v,e3,e4⟩:=rr.at e;exact⟨p,xs,i,v,rfl,rfl,g2.seq hl,e3,q v H2 F2 (g1.trans g2) (f1.trans f2) fh2 (n1.trans n2 g1) (e4.mono f2)⟩
theorem ze {e:Expr}{te:TE}{p:Pos}{x:Str}{id:String}{r:List V->Hp->VK->Prop}(hc:mh X (.builtin id) r)(hg:Gl X x)(hm:X.mg x=Gb)(hv:bootBuiltins x=Ga (.builtin id))(ha:PE X e te)
  (hn:x≠"__name__":=by decide) (hdb:(x==("__debug__":Str))=false:=by decide) (hs:starEach [e] X.env=[(false,eval e X.env)]:=by rfl):PE X (.Call (.Name x p) [e] [] pos) (λσ H Q=>te σ H λv H1=>r [v] H1 Q) :=
 md (wW hc hg hm hv (lF ha nV hs) hn hdb hs (by rfl)) λσ H Q h=>h
theorem MF {e:Expr}{te:TE}{p:Pos}{x:Str}{id:String}{r:List V->Hp->VK->Prop}(hc:mh X (.type id) r)(hg:Gl X x)(hm:X.mg x=Gb)(hv:bootBuiltins x=Ga (.type id))(ha:PE X e te)
  (hn:x≠"__name__":=by decide) (hdb:(x==("__debug__":Str))=false:=by decide) (hs:starEach [e] X.env=[(false,eval e X.env)]:=by rfl):PE X (.Call (.Name x p) [e] [] pos) (λσ H Q=>te σ H λv H1=>r [v] H1 Q) :=
 md (CD hc hg hm hv (lF ha nV hs) hn hdb hs (by rfl)) λσ H Q h=>h
def iy:D->Option D
 | .list xs=>Ga (.int xs.length)
 | .tuple xs=>Ga (.int xs.length)
 | _=>Gb
theorem nN {e:Expr}{f:FV}{p:Pos}(hg:Gl X "len")(hm:X.mg "len"=Gb)(ha:PV X e f)(hs:starEach [e] X.env=[(false,eval e X.env)]:=by rfl):PV X (.Call (.Name "len" p) [e] [] pos) (λψ=>(f ψ).bind iy):=by
 refine md (ze zS hg hm PySem.boot_len ha (hs:=hs)) λσ H Q=>?_;rintro⟨H0,F,ψ,d,r,e,q⟩;obtain⟨d',e1,e⟩:=gp e;refine⟨H0,F,ψ,d',r,e1,λv H1 F1 g1 f1 fh1 n1 rv=>?_⟩;cases rv<;>first|(cases e;done)|skip
 .rename_i p xs ds h1 h2;cases e;exact⟨p,xs,rfl,.inr (nq fh1 h1),q _ H1 F1 g1 f1 fh1 n1 (by rw[h2.length];exact .int _)⟩
 .rename_i p xs ds h1 h2;cases e;exact⟨p,xs,rfl,.inl (fh1.seq h1),q _ H1 F1 g1 f1 fh1 n1 (by rw[h2.length];exact .int _)⟩
theorem yI {e:Expr}{f:FL}{p:Pos}(hg:Gl X "tuple")(hm:X.mg "tuple"=Gb)(ha:sE X e f)(hs:starEach [e] X.env=[(false,eval e X.env)]:=by rfl):PV X (.Call (.Name "tuple" p) [e] [] pos) (λψ=>(f ψ).bind λxs=>Ga (.tuple xs)):=by
 refine md (MF zj hg hm boot_tuple ha (hs:=hs)) λσ H Q=>?_;rintro⟨H0,F,ψ,d,r,e,q⟩;obtain⟨ds,e1,e⟩:=gp e;cases e;refine⟨H0,F,ψ,ds,r,e1,λp xs H1 F1 g1 f1 fh1 n1 hl rr=>⟨p,xs,rfl,.inl ⟨hl,λl hl'=>?_⟩⟩⟩;obtain⟨s1,s2,s3,s4⟩:=xq (o:=.tup xs) fh1 hl';exact q _ _ _ (g1.trans s1) (f1.trans s2) s3 (n1.trans s4 g1) (.tup (mV.of gU) (rr.mono s2))
def DL:D->String
 | .none=>"NoneType"|.bool _=>"bool"|.int _=>"int"|.str _=>"str"|.list _=>"list"|.tuple _=>"tuple"|.dict _=>"dict"
def Fu (T:String)(d:D):Bool:=DL d==T||(T=="int"&&DL d=="bool")
def EW:List String:=["int","bool","str","list","tuple"]
theorem Wa {K:ja}{T:String}(hT:T∈EW)(d:D):PySem.W.kitOne K (.type (DL d)) (.type T)=Ga (Fu T d):=by
 simp only[EW,ju,uM,or_false] at hT;rcases hT with rfl|rfl|rfl|rfl|rfl<;>cases d<;>kernel_rfl
theorem Zs {ω:List (Gj×Obj)}{σ:St}{F H:Hp}{s:Gh}(I:gA X ω σ H s)(g:gq F H){d:D}{v:V}(r:io X.K F d v){u:Gg}(ru:ia v u):∃ P,PySem.W.KitX X.K u (.type (DL d)) P/\P s.heap:=by
 cases r with
 | non=>cases ru;exact⟨_,PySem.W.kitx_none,True.intro⟩
 | bl b=>cases ru;exact⟨_,PySem.W.kitx_bool,True.intro⟩
 | int i=>obtain⟨t,rfl⟩:=ru;exact⟨_,PySem.W.kitx_int,True.intro⟩
 | str x=>obtain⟨t,rfl⟩:=ru;exact⟨_,PySem.W.kitx_str,True.intro⟩
 | tup h q=>cases ru;obtain⟨its,rv,⟨o,e,c,n,d⟩,_⟩:=I.tuple (nq g h);exact⟨_,PySem.W.kitx_tuple,⟨o,e,c⟩⟩
 | lst h q=>cases ru;obtain⟨its,rv,⟨o,n,e,c,_,d⟩,_⟩:=I.list (g.seq h);exact⟨_,PySem.W.kitx_list,⟨o,e,c⟩⟩
 | dic sm h ok q=>cases ru;obtain⟨⟨o,es,e,c,d,k⟩,_,_⟩:=(show mK X.prog X.w H s.heap _ (.ext _) from I.hok _ _ (g _ _ h));exact⟨_,JK,⟨o,e,c.1⟩⟩
 | dci sm h ok q=>cases ru;obtain⟨⟨o,es,e,c,d,k⟩,_,_⟩:=(show mK X.prog X.w H s.heap _ (.ext _) from I.hok _ _ (g _ _ h));exact⟨_,JK,⟨o,e,c.1⟩⟩
theorem zt5 {v:V}{u:Gg}(r:ia v u):u≠.builtin "__main__.__loader__#opaque":=by
 intro z;subst z;cases v<;>first|(cases r;done)|(obtain⟨t,q⟩:=r;cases q)
theorem ZV {T:String}(hT:T∈EW):mh X (.builtin "isinstance") (λxs H Q=>∃ F d x,xs=[x,.ty T]/\gq F H/\io X.K F d x/\Q (.bl (Fu T d)) H):=by
 intro ω s σ H xs us Q I r h;obtain⟨F,d,x,rfl,g,rx,q⟩:=h;obtain⟨u,w',rfl,r1,r2⟩:=Ey r;cases r2;obtain⟨P,Z,z⟩:=Zs I g rx r1;exact PySem.W.kia_one Z I.kIn z (Wa hT d) (zt5 r1) λtk=>⟨.bl _,H,I.tok tk,rfl,q⟩
theorem zFQ {x:Str}{T:String}(hg:Gl X x)(hm:X.mg x=Gb)(hv:bootBuiltins x=Ga (.type T))(hn:x≠"__name__":=by decide)(hd:(x==("__debug__":Str))=false:=by decide):PE X (.Name x pos) (tC (.ty T)) :=
 λ_ _ _ H _ I h=>pS I hg hm hv ⟨.ty T,H,I,rfl,h⟩ hn hd
theorem tZ {e:Expr}{f:FV}{p p2:Pos}{x:Str}{T:String}(hT:T∈EW)(hg:Gl X "isinstance")(hm:X.mg "isinstance"=Gb)(hg2:Gl X x)(hm2:X.mg x=Gb)(hv:bootBuiltins x=Ga (.type T))(ha:PV X e f)
  (hn:x≠"__name__":=by decide) (hd:(x==("__debug__":Str))=false:=by decide)
  (hs:starEach [e,.Name x p2] X.env=(false,eval e X.env)::starEach [.Name x p2] X.env:=by rfl) (hs2:starEach [.Name x p2] X.env=[(false,eval (.Name x p2) X.env)]:=by rfl) :
  PV X (.Call (.Name "isinstance" p) [e,.Name x p2] [] pos) (λψ=>(f ψ).bind λd=>Ga (.bool (Fu T d))):=by
 refine md (wW (ZV hT) hg hm boot_isinstance (lF ha (lF (zFQ (pos:=p2) hg2 hm2 hv hn hd) nV hs2) hs) (by decide) (by decide) hs (by rw[hs2];rfl)) λσ H Q=>?_;rintro⟨H0,F,ψ,d,r,e,q⟩;obtain⟨d',e1,e⟩:=gp e;cases e;refine⟨H0,F,ψ,d',r,e1,λv H1 F1 g1 f1 fh1 n1 rv=>?_⟩;exact⟨F1,d',v,rfl,fh1,rv,q _ H1 F1 g1 f1 fh1 n1 (.bl _)⟩
end
inductive sA where
 | nx (ψ:En)|rt (d:D)|ro (ds:List D)|bk (ψ:En)|ct (ψ:En)|rm (a:Gj) (kvs:List (Int×D))|rc (d:D) (ψ:En)
abbrev FS:=En->Option sA
def BB (K:ja)(H0 F:Hp)(E:xf):sA->Prop
 | .nx ψ=>∀ σ' H' F',gq F F'->iO F F' H0->RS K H0 F' H' ψ σ'->E.nx σ' H'
 | .bk ψ=>∀ σ' H' F',gq F F'->iO F F' H0->RS K H0 F' H' ψ σ'->E.bk σ' H'
 | .ct ψ=>∀ σ' H' F',gq F F'->iO F F' H0->RS K H0 F' H' ψ σ'->E.ct σ' H'
 | .rt d=>∀ v H' F',gq H0 H'->gq F F'->gq F' H'->iO F F' H0->io K F' d v->E.rt v H'
 | .ro ds=>∀ a xs H' F',gq H0 H'->gq F F'->gq F' H'->iO F F' H0->H0 a=Gb->F' a=Gb->H' a=Ga (.lst xs)->gJ K F' ds xs->E.rt (.ref a) H'
 | .rm a kvs=>∀ ws ep H' F',gq H0 H'->gq F F'->gq F' H'->iO F F' H0->F' a=Gb->H' a=Ga (.ext (nR a ws ep))->iw K F' kvs ws->rF kvs->E.rt (.ref a) H'
 | .rc d ψ=>∀ v σ' H' F',gq F F'->iO F F' H0->RS K H0 F' H' ψ σ'->io K F' d v->E.rt v H'
theorem iO.up {F F1 F2 H0:Hp}(a:iO F F1 H0)(b:iO F1 F2 H0):iO F F2 H0:=a.trans b (.refl _)
theorem iO.dn {F F1 H H0:Hp}(a:iO F F1 H)(s:gq H0 H):iO F F1 H0:=λb o h n=>s.free (a b o h n)
theorem BB.mono {K:ja}{H0 F F1:Hp}{E:xf}{o:sA}(f:gq F F1)(n:iO F F1 H0)(p:BB K H0 F E o):BB K H0 F1 E o:=by
 cases o with
 | nx ψ=>exact λσ' H' F' f2 n2 r=>p σ' H' F' (f.trans f2) (n.up n2) r
 | bk ψ=>exact λσ' H' F' f2 n2 r=>p σ' H' F' (f.trans f2) (n.up n2) r
 | ct ψ=>exact λσ' H' F' f2 n2 r=>p σ' H' F' (f.trans f2) (n.up n2) r
 | rt d=>exact λv H' F' g f2 fh n2 r=>p v H' F' g (f.trans f2) fh (n.up n2) r
 | ro ds=>exact λa xs H' F' g f2 fh n2 h1 h2 h3 r=>p a xs H' F' g (f.trans f2) fh (n.up n2) h1 h2 h3 r
 | rm a kvs=>exact λws ep H' F' g f2 fh n2 h1 h2 h3 r=>p ws ep H' F' g (f.trans f2) fh (n.up n2) h1 h2 h3 r
 | rc d ψ=>exact λv σ' H' F' f2 n2 r q=>p v σ' H' F' (f.trans f2) (n.up n2) r q
def LA (K:ja)(g:FS):TS:=λE σ H=>∃ H0 F ψ o,RS K H0 F H ψ σ/\g ψ=Ga o/\BB K H0 F E o
abbrev ol (X:Cx)(st:Stmt)(g:FS):Prop:=PS X st (LA X.K g)
abbrev oN (X:Cx)(st:List Stmt)(g:FS):Prop:=pZ X st (LA X.K g)
noncomputable def mf (o:Option sA)(k:FS):Option sA:=o.bind λo=>match o with
 | .nx ψ=>k ψ
 | o=>Ga o
section
variable {X:Cx}{pos:Pos}
theorem lU:oN X [] (λψ=>Ga (.nx ψ)):=by
 refine Sf Gm λE σ H=>?_;rintro⟨H0,F,ψ,o,r,e,p⟩;cases e;exact p σ H F (.refl _) (.refl _ _) r
theorem gR {st:Stmt}{rest:List Stmt}{g k:FS}(h1:ol X st g)(h2:oN X rest k):oN X (st::rest) (λψ=>mf (g ψ) k):=by
 refine Sf (Df h1 h2) λE σ H=>?_;rintro⟨H0,F,ψ,o,r,e,p⟩;obtain⟨o1,e1,e2⟩:=gp e;refine⟨H0,F,ψ,o1,r,e1,?_⟩;cases o1 with
 | nx env1=>exact λσ' H' F' f n r'=>⟨H0,F',env1,o,r',e2,p.mono f n⟩
 | rt d=>cases e2;exact p
 | ro d=>cases e2;exact p
 | rm a d=>cases e2;exact p
 | rc a d=>cases e2;exact p
 | bk d=>cases e2;exact p
 | ct d=>cases e2;exact p
theorem gK {st:Stmt}{g:FS}(h1:ol X st g):oN X [st] g:=Gs h1
theorem Ii (i:Nat){st:Stmt}{g:FS}(h:ol X st g):ol X st (λψ=>g (frzAt i ψ)):=by
 refine sJ h λE σ H=>?_;rintro⟨H0,F,ψ,o,r,e,p⟩;obtain⟨F',f,n,r'⟩:=r.frzAt i;exact⟨H0,F',_,o,r',e,p.mono f n⟩
theorem ii {e:Expr}{f:FV}(h:PV X e f):ol X (.Return (Ga e) pos) (λψ=>(f ψ).bind λd=>Ga (.rt d)):=by
 refine sJ (zN h) λE σ H=>?_;rintro⟨H0,F,ψ,o,r,e,p⟩;obtain⟨d,e1,e⟩:=gp e;cases e;exact⟨H0,F,ψ,d,r,e1,λv H' F' g f1 fh n rv=>p v H' F' (r.h0.trans g) f1 fh (n.dn r.h0) rv⟩
theorem MY {e:Expr}{f:FL}(h:PO X e f):ol X (.Return (Ga e) pos) (λψ=>(f ψ).bind λd=>Ga (.ro d)):=by
 refine sJ (zN h) λE σ H=>?_;rintro⟨H0,F,ψ,o,r,e,p⟩;obtain⟨d,e1,e⟩:=gp e;cases e;exact⟨H0,F,ψ,d,r,e1,λa xs H' F' g f1 fh n ha fa ha' rr=>p a xs H' F' (r.h0.trans g) f1 fh (n.dn r.h0) (r.h0.free ha) fa ha' rr⟩
def go (i:Nat):FL:=λψ=>match ψ[i]? with
 | some (.own ds)=>Ga ds
 | _=>Gb
theorem yW (i:Nat){x:Str}{p:Pos}(hN:X.N[i]?=Ga x:=by rfl)(hv:wb X.env.scope x:=by first|exact k9 rfl|exact kK (k9 rfl)|exact kK (kK rfl))(hd:(x==("__debug__":Str))=false:=by decide)
  (hcd:(x==("__classdict__":Str))=false:=by decide):ol X (.Return (Ga (.Name x p)) pos) (λψ=>(go i ψ).bind λd=>Ga (.ro d)):=by
 refine sJ (zN (pp hN hv hd hcd)) λE σ H=>?_;rintro⟨H0,F,ψ,o,r,e,p⟩;obtain⟨ds,e1,e⟩:=gp e;cases e;unfold go at e1;split at e1
 .rename_i ds' z;cases e1;obtain⟨u,e1,a,xs,e2,ha,fa,h0a,rr⟩:=r.sl i _ z;subst e2;exact⟨.ref a,e1,p a xs H F r.h0 (.refl _) r.fh (.refl _ _) h0a fa ha rr⟩
 .cases e1
theorem lh {c:Expr}{a b:List Stmt}{fc:FB}{g k:FS}(hc:PB X c fc)(ha:oN X a g)(hb:oN X b k):ol X (.If c a b pos) (λψ=>(fc (frz ψ)).bind λt=>if t then g ψ else k ψ):=by
 refine sJ (NY hc ha hb) λE σ H=>?_;rintro⟨H0,F,ψ,o,r,e,p⟩;obtain⟨t,e1,e⟩:=gp e;refine⟨H0,H,frz ψ,t,r.frz,e1,λH' g'=>?_⟩;cases t with
 | true=>exact sj ⟨H0,F,ψ,o,r.later g',e,p⟩
 | false=>exact rY ⟨H0,F,ψ,o,r.later g',e,p⟩
theorem la (i:Nat){x:Str}{e:Expr}{f:FV}{pos':Pos}(h:PV X e f)(hN:X.N.Nodup)(hi:X.N[i]?=Ga x:=by rfl)(hx:wB X.env.scope x:=by first|exact k9 rfl|exact kK rfl)
  (hs:swapsWith e (Ga (.Name x pos')) pos.line X.env=pure false:=by rfl) (hf:X.fn x=true\/X.env.scope.names.lookup x=Ga .local:=by first|exact .inl rfl|exact .inr rfl) :
  ol X (.Assign [.Name x pos'] e pos) (λψ=>(f ψ).bind λd=>Ga (.nx (ψ.set i (.val d)))):=by
 intro ω s σ H D I hw;refine xM hN hi hx h hs hf ω s σ H D I ?_;obtain⟨H0,F,ψ,o,r,e,p⟩:=hw;obtain⟨d,e1,e⟩:=gp e;cases e;have hl:i<σ.length:=by rw[I.len];exact(jp.mp hi).1
 exact⟨H0,F,ψ,d,r,e1,λv H' F' g f1 fh n rv=>p _ H' F' f1 (n.dn r.h0) ((r.grow g f1 fh n).put hl rv)⟩
theorem wd (i:Nat){x:Str}{e:Expr}{f:FL}{pos':Pos}(h:PO X e f)(hN:X.N.Nodup)(hi:X.N[i]?=Ga x:=by rfl)(hx:wB X.env.scope x:=by first|exact k9 rfl|exact kK rfl)
  (hs:swapsWith e (Ga (.Name x pos')) pos.line X.env=pure false:=by rfl) (hf:X.fn x=true\/X.env.scope.names.lookup x=Ga .local:=by first|exact .inl rfl|exact .inr rfl) :
  ol X (.Assign [.Name x pos'] e pos) (λψ=>(f ψ).bind λd=>Ga (.nx (ψ.set i (.own d)))):=by
 intro ω s σ H D I hw;refine xM hN hi hx h hs hf ω s σ H D I ?_;obtain⟨H0,F,ψ,o,r,e,p⟩:=hw;obtain⟨d,e1,e⟩:=gp e;cases e;have hl:i<σ.length:=by rw[I.len];exact(jp.mp hi).1
 refine⟨H0,F,ψ,d,r,e1,λa xs H' F' g f1 fh n ha fa ha' rr=>p _ H' F' f1 (n.dn r.h0) ((r.grow g f1 fh n).putO hl ha' fa (r.h0.free ha) rr ?_)⟩;exact λj s o _ ej=>r.ne_free ha j s o ej
theorem xO (i:Nat){x:Str}{e:Expr}{f:FV}{p p2 p3:Pos}(h:PV X e f)(hN:X.N[i]?=Ga x:=by rfl)(hv:wb X.env.scope x:=by first|exact k9 rfl|exact kK (k9 rfl)|exact kK (kK rfl))
  (hst:starEach [e] X.env=[(false,eval e X.env)]:=by rfl) (hline:(p2.endLine==p3.line)=true:=by rfl)
  (hd:(x==("__debug__":Str))=false:=by decide) (hcd:(x==("__classdict__":Str))=false:=by decide)
  (hs:swapsWith (.Call (.Attribute (.Name x p) "append" p2) [e] [] p3) Gb pos.line X.env=pure false:=by rfl) :
  ol X (.Expr (.Call (.Attribute (.Name x p) "append" p2) [e] [] p3) pos) (λψ=>(go i ψ).bind λds=>(f ψ).bind λd=>if ds.length<1000000 then Ga (.nx (ψ.set i (.own (ds++[d])))) else Gb):=by
 refine sJ (AN (DH qD PySem.F.slot_list_append PySem.F.type_list_append yx (pp (pos:=p) hN hv hd hcd) (lF h nV hst) rfl (by rw[hst];rfl) hline hst rfl) hs) λE σ H=>?_;rintro⟨H0,F,ψ,o,r,e,p⟩;obtain⟨ds,e1,e⟩:=gp e;obtain⟨d,e2,e⟩:=gp e;split at e;rotate_left
 .cases e
 rename_i hz;cases e;unfold go at e1;split at e1;rotate_left
 .cases e1
 rename_i ds' z;cases e1;obtain⟨u,e3,a,xs,e4,ha,fa,h0a,rr⟩:=r.sl i _ z;subst e4;refine⟨.ref a,e3,.inl ⟨rfl,xs,lr.of ha⟩,H0,F,ψ,d,r,e2,λv H' F' g f1 fh n rv=>?_⟩;have r2:=r.grow g f1 fh n;obtain⟨u2,e5,a2,xs2,e6,ha2,fa2,h0a2,rr2⟩:=r2.sl i _ z;rw[e3] at e5;cases e5;cases e6;have ex:xs2=xs:=by have:=g a _ ha;rw[ha2] at this;cases this;rfl
 subst ex;refine⟨a,xs2,v,rfl,rfl,ha2,?_,?_⟩
 .rw[<- rr2.length];exact jz hz (by rw[sizeLine_eq];decide)
 .exact p σ _ F' f1 (n.dn r.h0) (r2.chg z e3 (rr2.append (.cons rv .nil)))
abbrev FT:=D->En->Option En
def tG (K:ja)(t:FT):TG:=λv σ H Q=>∃ H0 F ψ d env',RS K H0 F H ψ σ/\io K F d v/\t d ψ=Ga env'/\∀ σ',RS K H0 F H env' σ'->Q σ' H
abbrev wK (X:Cx)(tg:Expr)(t:FT):Prop:=PG X tg (tG X.K t)
def tGs (K:ja)(t:List D->En->Option En):xF:=λvs σ H Q=>∃ H0 F ψ ds env',RS K H0 F H ψ σ/\gJ K F ds vs/\t ds ψ=Ga env'/\∀ σ',RS K H0 F H env' σ'->Q σ' H
abbrev Ac (X:Cx)(tg:List Expr)(t:List D->En->Option En):Prop:=zr X tg (tGs X.K t)
theorem zBN {tg:Expr}{t t':TG}(h:PG X tg t)(m:∀ v σ H Q,t' v σ H Q->t v σ H Q):PG X tg t':=λω s σ H v u Q I r q=>h ω s σ H v u Q I r (m _ _ _ _ q)
theorem Qq {tg:List Expr}{t t':xF}(h:zr X tg t)(m:∀ v σ H Q,t' v σ H Q->t v σ H Q):zr X tg t':=λω s σ H v u Q I r q=>h ω s σ H v u Q I r (m _ _ _ _ q)
theorem HU (i:Nat){x:Str}(hN:X.N.Nodup)(hi:X.N[i]?=Ga x:=by rfl)(hx:wB X.env.scope x:=by first|exact k9 rfl|exact kK rfl)(hf:X.fn x=true\/X.env.scope.names.lookup x=Ga .local:=by first|exact .inl rfl|exact .inr rfl) :
  wK X (.Name x pos) (λd ψ=>Ga (ψ.set i (.val d))):=by
 intro ω s σ H v u Q I r hw;refine FR hN hi hx hf ω s σ H v u Q I r ?_;obtain⟨H0,F,ψ,d,env',rs,rv,e,q⟩:=hw;cases e;have hl:i<σ.length:=by rw[I.len];exact(jp.mp hi).1
 exact q _ (rs.put hl rv)
theorem zDF:Ac X [] (λds ψ=>match ds with|[]=>Ga ψ|_=>Gb):=by
 refine Qq FW λvs σ H Q=>?_;rintro⟨H0,F,ψ,ds,env',rs,rv,e,q⟩;cases rv with
 | nil=>cases e;exact⟨rfl,q σ rs⟩
 | cons _ _=>cases e
theorem zBO {e:Expr}{es:List Expr}{t:FT}{u:List D->En->Option En}(h1:wK X e t)(h2:Ac X es u)(hs:(assignEach (e::es) X.env).map (·.2)=assign e X.env::(assignEach es X.env).map (·.2):=by rfl) :
  Ac X (e::es) (λds ψ=>match ds with|d::r=>(t d ψ).bind λenv1=>u r env1|[]=>Gb):=by
 refine Qq (Dg h1 h2 hs) λvs σ H Q=>?_;rintro⟨H0,F,ψ,ds,env',rs,rv,e,q⟩;cases rv with
 | nil=>cases e
 | @cons d v ds vs h t =>
  obtain⟨env1,e1,e2⟩:=gp e;exact⟨v,vs,rfl,H0,F,ψ,d,env1,rs,h,e1,λσ1 r1=>⟨H0,F,env1,ds,env',r1,t,e2,q⟩⟩
theorem zFR {es:List Expr}{k:Nat}{t:List D->En->Option En}(hc:X.calm=true)(h:Ac X es t)(hl:∀ ds ψ env',t ds ψ=Ga env'->ds.length=es.length)
  (hn:(assignEach es X.env).length=es.length:=by rfl) (hst:(assignEach es X.env).findIdx? (·.1)=Gb:=by rfl):wK X (.Tuple es k pos) (λd ψ=>(xW d).bind λds=>t ds ψ):=by
 refine zBN (Ih hc h hn hst) λv σ H Q=>?_;rintro⟨H0,F,ψ,d,env',rs,rv,e,q⟩;obtain⟨ds,e1,e2⟩:=gp e;cases SS e1;cases rv with
 | @tup a xs _ h1 rr=>exact⟨a,xs,rfl,nq rs.fh h1,by rw[<- rr.length];exact hl _ _ _ e2,H0,F,ψ,ds,env',rs,rr,e2,q⟩
theorem Op {tg e:Expr}{f:FV}{t:FT}(he:PV X e f)(hg:wK X tg t)(hs:swapsWithSole [tg] e pos.line X.env=pure false:=by rfl)(hw:swappedStores [tg] e X.env=pure Gb:=by rfl)
  (h1:(assignEach [tg] X.env).map (·.2)=[assign tg X.env]:=by rfl):ol X (.Assign [tg] e pos) (λψ=>(f ψ).bind λd=>(t d ψ).bind λenv1=>Ga (.nx env1)):=by
 refine sJ (Ct he hg hs hw h1) λE σ H=>?_;rintro⟨H0,F,ψ,o,r,e,p⟩;obtain⟨d,e1,e⟩:=gp e;obtain⟨env1,e2,e⟩:=gp e;cases e;exact⟨H0,F,ψ,d,r,e1,λv H' F' g f1 fh n rv=>⟨H0,F',ψ,d,env1,r.grow g f1 fh n,rv,e2,λσ' r'=>p σ' H' F' f1 (n.dn r.h0) r'⟩⟩
def iP (t:FT)(body:FS):List D->FS
 | [],ψ=>Ga (.nx ψ)
 | x::r,ψ=>(t x ψ).bind λe1=>(body e1).bind λo=>match o with
  | .nx e=>iP t body r e
  | .ct e=>iP t body r e
  | .bk e=>Ga (.nx e)
  | .rt d=>Ga (.rt d)
  | .ro ds=>Ga (.ro ds)
  | .rm a kvs=>Ga (.rm a kvs)
  | .rc d e=>Ga (.rc d e)
def pQ (K:ja)(J:It)(F:Hp)(items:List D):Prop:=∀ (H:Hp),gq F H->∀ i,(items.length<=i->J.stop i H) /\
 ∀ d,items[i]?=Ga d->J.go i H/\∀ x H',J.yld i H x H'->gq H H'/\∃ F',gq F F'/\gq F' H'/\iO F F' H/\io K F' d x
def tI (K:ja)(f:FL):TI:=λσ H R=>∃ H0 F ψ ds,RS K H0 F H ψ σ/\f ψ=Ga ds/\∀ J H' F',gq H H'->gq F F'->gq F' H'->iO F F' H->(∀ F2,gq F' F2->pQ K J F2 ds)->R J H'
abbrev zM (X:Cx)(tg iter:Expr)(f:FL):Prop:=PI X tg iter (tI X.K f)
theorem Nm {tg it:Expr}{t t':TI}(h:PI X tg it t)(m:∀ σ H Q,t' σ H Q->t σ H Q):PI X tg it t':=λω s σ H Q I q=>h ω s σ H Q I (m σ H Q q)
theorem nG {tg iter:Expr}{body:List Stmt}{f:FL}{t:FT}{g:FS}(hp:PassesOwn (model X.prog X.w) X.A X.env X.xe)(hc:X.calm=true)(hi:zM X tg iter f)(hg:wK X tg t)(hb:oN X body g)
  (hs:∀ x,foldedSetIterable iter X.env x=pure x:=by intro _;rfl):ol X (.For tg iter body [] pos) (λψ=>(f ψ).bind λds=>iP t g ds ψ):=by
 refine sJ (ND hp hc hi hg hb hs) λE σ H=>?_;rintro⟨H0,F,ψ,o,r,e,p⟩;obtain⟨ds,e1,e⟩:=gp e;refine⟨H0,F,ψ,ds,r,e1,λJ H1 F1 g1 f1 fh1 n1 Y=>?_⟩;have p1:=p.mono f1 (n1.dn r.h0);have r1:=r.grow g1 f1 fh1 n1;refine⟨λi m σ H=>i+m=ds.length/\∃ F2 ψ,RS X.K H0 F2 H ψ σ/\gq F1 F2/\iO F1 F2 H0/\iP t g (ds.drop i) ψ=Ga o,⟨ds.length,by omega,F1,ψ,r1,.refl _,.refl _ _,e⟩,?_⟩;rintro i m σ' H' ⟨hm,F2,env2,r2,f2,n2,e2⟩;have p2:=p1.mono f2 n2;obtain⟨yd,yg⟩:=Y F2 f2 H' r2.fh i;by_cases hlt:i<ds.length
 .obtain⟨go,yy⟩:=yg ds[i] (by simp[hlt]);rw[qq hlt] at e2;unfold iP at e2;obtain⟨e3,x1,x2⟩:=gp e2;obtain⟨o1,x3,x4⟩:=gp x2;refine .inr ⟨go,λσ3 H3=>i+1+(m-1)=ds.length/\∃ F3 ψ,RS X.K H0 F3 H3 ψ σ3/\gq F1 F3/\iO F1 F3 H0/\iP t g (ds.drop (i+1)) ψ=Ga o,λσ3 H3 h3=>⟨m-1,by omega,h3⟩,λx Hx yl=>?_⟩;obtain⟨gx,F4,f4,fh4,n4,rx⟩:=yy x Hx yl;have r4:=r2.grow gx f4 fh4 n4;refine⟨H0,F4,env2,ds[i],e3,r4,rx,x1,λσ5 r5=>⟨H0,F4,e3,o1,r5,x3,?_⟩⟩;have p4:=p2.mono f4 (n4.dn r2.h0);cases o1 with
  | nx e5=>exact λσ6 H6 F6 f6 n6 r6=>⟨by omega,F6,e5,r6,f2.trans (f4.trans f6),n2.up ((n4.dn r2.h0).up n6),x4⟩
  | ct e5=>exact λσ6 H6 F6 f6 n6 r6=>⟨by omega,F6,e5,r6,f2.trans (f4.trans f6),n2.up ((n4.dn r2.h0).up n6),x4⟩
  | bk e5=>cases x4;exact p4
  | rt d=>cases x4;exact p4
  | ro d=>cases x4;exact p4
  | rm a d=>cases x4;exact p4
  | rc a d=>cases x4;exact p4
 .rw[qO (by omega)] at e2;cases e2;exact .inl ⟨yd (by omega),p2 σ' H' F2 (.refl _) (.refl _ _) r2⟩
def toS:D->Option (List D)
 | .list xs=>Ga xs
 | .tuple xs=>Ga xs
 | _=>Gb
theorem zr3 {K:ja}{F:Hp}{a:Gj}{xs:List V}{ds:List D}(h:lr K F a xs)(r:gJ K F ds xs):pQ K (KS K a) F ds:=by
 intro H g i;refine⟨λhi=>⟨xs,g.seq h,by rw[<- r.length];exact hi⟩,λd hd=>?_⟩;obtain⟨v,e1,e2⟩:=r.get hd;refine⟨⟨xs,v,g.seq h,e1⟩,λx H' y=>?_⟩;obtain⟨rfl,y⟩:=y;have:=y xs (g.seq h);rw[e1] at this;cases this;exact⟨.refl _,F,.refl _,g,.refl _ _,e2⟩
theorem Yz {K:ja}{F:Hp}{a:Gj}{xs:List V}{ds:List D}(h:mV K F a xs)(r:gJ K F ds xs):pQ K (Hl K a) F ds:=by
 intro H g i;refine⟨λhi=>⟨xs,nq g h,by rw[<- r.length];exact hi⟩,λd hd=>?_⟩;obtain⟨v,e1,e2⟩:=r.get hd;refine⟨⟨xs,v,nq g h,e1⟩,λx H' y=>?_⟩;obtain⟨rfl,y⟩:=y;have:=y xs (nq g h);rw[e1] at this;cases this;exact⟨.refl _,F,.refl _,g,.refl _ _,e2⟩
end
theorem Et {ψ:Env}:∀ (names:List (Str×NameKind)) (cs:List (Str×Gj)),(∀ y∈names,y.2=.free->∃ c,ψ.cells.lookup y.1=Ga c)->(∀ x c,cs.lookup x=Ga c->ψ.cells.lookup x=Ga c) ->
  ∃ cl,(forIn names cs λ(y:Str×NameKind) (r:List (Str×Gj))=>(if (y.2==.free)=true then(do let a <- cellOf ψ y.1;pure (ForInStep.yield ((y.1,a)::r))) else pure (ForInStep.yield r):Sem (ForInStep (List (Str×Gj)))))=(pure cl:Sem (List (Str×Gj))) /\
   (∀ x c,cl.lookup x=Ga c->ψ.cells.lookup x=Ga c)/\(∀ x,(x,j9)∈names->∃ c,cl.lookup x=Ga c)/\∀ x c,cs.lookup x=Ga c->∃ c',cl.lookup x=Ga c'
 | [],cs,_,h2=>⟨cs,rfl,h2,λx hx=>by simp at hx,λx c h=>⟨c,h⟩⟩
 | (n,k)::r,cs,h1,h2=>by
  have h1':∀ y∈r,y.2=.free->∃ c,ψ.cells.lookup y.1=Ga c:=λy hy=>h1 y (jj _ hy);by_cases hk:k=.free
  .obtain⟨c,hc⟩:=h1 (n,k) jf hk;have h2':∀ x c',((n,c)::cs).lookup x=Ga c'->ψ.cells.lookup x=Ga c':=λx c' h=>by
    rw[ky] at h;cases hx:x==n with
    | true=>rw[hx] at h;cases h;rw[beq_iff_eq.mp hx];exact hc
    | false=>rw[hx] at h;exact h2 x c' h
   obtain⟨cl,e,a,b,d⟩:=Et r ((n,c)::cs) h1' h2';refine⟨cl,?_,a,λx hx=>?_,λx c' h=>?_⟩
   .rw[J0];have hb:(k==j9)=true:=by simp[hk]
    simp only[hb,if_true];have hcell:cellOf ψ n=pure c:=by unfold cellOf;rw[hc]
    rw[hcell];exact e
   .rcases ju.mp hx with z|z
    .cases z;exact d n c (by simp[ky])
    .exact b x z
   .cases hx:x==n with
    | true=>exact d x c (by rw[ky,hx])
    | false=>exact d x c' (by rw[ky,hx];exact h)
  .obtain⟨cl,e,a,b,d⟩:=Et r cs h1' h2;refine⟨cl,?_,a,λx hx=>?_,d⟩
   .rw[J0];have hb:(k==j9)=false:=by simpa using hk
    simp only[hb,kH,if_false];exact e
   .rcases ju.mp hx with z|z
    .cases z;exact absurd rfl hk
    .exact b x z
theorem Tg {scope:Scope}{ψ:Env}:closureFor scope ψ=(forIn scope.names [] λ(y:Str×NameKind) (r:List (Str×Gj))=>(if (y.2==.free)=true then(do let a <- cellOf ψ y.1;pure (ForInStep.yield ((y.1,a)::r))) else pure (ForInStep.yield r):Sem (ForInStep (List (Str×Gj))))) >>= pure:=by
 unfold closureFor;rfl
theorem Qy {ψ:Env}:∀ {names:List (Str×NameKind)} {x:Str},names.lookup x=Ga .free ->
  (names.map λ(n,k)=>if (k==j9&&ψ.scope.kind==.function&&ψ.kindOf n==Ga .cell) then(n,vE) else(n,k)).lookup x=Ga .cell \/
  (names.map λ(n,k)=>if (k==j9&&ψ.scope.kind==.function&&ψ.kindOf n==Ga .cell) then(n,vE) else(n,k)).lookup x=Ga .free
 | [],_,h=>by simp at h
 | (n,k)::r,x,h=>by
  have ih:=@Qy ψ r x;show List.lookup x ((if (k==j9&&ψ.scope.kind==.function&&ψ.kindOf n==Ga .cell)=true then(n,vE) else(n,k))::_)=_\/List.lookup x ((if (k==j9&&ψ.scope.kind==.function&&ψ.kindOf n==Ga .cell)=true then(n,vE) else(n,k))::_)=_;cases hx:x==n with
  | true =>
   simp only[ky,hx] at h;cases h;by_cases hc:(j9==j9&&ψ.scope.kind==.function&&ψ.kindOf n==Ga .cell)=true
   .rw[Ge hc];simp[ky,hx]
   .rw[Gf hc];simp[ky,hx]
  | false =>
   simp only[ky,hx] at h;by_cases hc:(k==j9&&ψ.scope.kind==.function&&ψ.kindOf n==Ga .cell)=true
   .rw[Ge hc];simp only[ky,hx];exact ih h
   .rw[Gf hc];simp only[ky,hx];exact ih h
structure tK (N:List Str)(osc:Scope)(scope:Scope)(x:Str)(fr:List Str)(ix:List Nat):Prop where
 kind:scope.kind=.function
 nocell:∀ y∈scope.names,y.2≠.cell
 locs:∀ y∈scope.names,y.2=.local->scope.names.lookup y.1=Ga .local
 tgt:scope.names.lookup x=Ga .local
 outs:∀ y∈scope.names,y.2=.free->osc.names.lookup y.1=Ga .cell\/osc.names.lookup y.1=Ga .free
 free:∀ y∈fr,scope.names.lookup y=Ga .free
 len:fr.length=ix.length
 at_:∀ (j i:Nat) (y:Str),ix[j]?=Ga i->fr[j]?=Ga y->N[i]?=Ga y
 apart:ix.Nodup
def prj (ix:List Nat)(σ:St):St:=Gb::ix.map λi=>(σ[i]?).join
def lW (X:Cx)(scope:Scope)(cl:List (Str×Gj))(C:Gj)(N':List Str)(s:Gh)(H:Hp)(fp:List Gj)(ω:List (Gj×Obj)):Cx :=
 { X with N:=N',s₀:=s,H₀:=H,env:=compEnvC scope cl C X.env,outer:=X.stack,ex:=fp,fn:=λ_=>false,pn:=X.pn++ω,xe:=λ_ _=>False }
def Ec (J:It)(g:TG)(tc:TT)(te:TE)(D0:Gj)(σ:St)(H:Hp)(Qv:Hp->Prop):Prop:=∃ W:Nat->Nat->St->Hp->Prop,(∃ m,W 0 m σ H)/\∀ i m σ H,W i m σ H ->
 (J.stop i H/\Qv H)\/(J.go i H/\∃ N:St->Hp->Prop,(∀ σ' H',N σ' H'->∃ m',m'<m/\W (i+1) m' σ' H') /\
  ∀ x H',J.yld i H x H'->g x σ H' λσ2 H2=>tc σ2 H2 λb H3=>if b=true then te σ2 H3 λy H4=>∃ ys,H4 D0=Ga (.lst ys)/\ys.length<sizeLine/\N σ2 (upd H4 D0 (.lst (ys++[y]))) else N σ2 H3)
def LH (X:Cx):List Expr->TT->Prop
 | [],t=>t=λ_ H Q=>Q true H
 | [c],t=>PT X c t
 | _,_=>False
section
variable {X:Cx}{ω:List (Gj×Obj)}{σ:St}{H2:Hp}{s2:Gh}{elt iter:Expr}{x:Str}{px pos:Pos}{ifs:List Expr}{scope:Scope}{cl:List (Str×Gj)}{fr:List Str}{ix:List Nat}
theorem QO {E:Gg->Gh->Prop}(S:tK X.N X.env.scope scope x fr ix)(hl1:∀ x c,cl.lookup x=Ga c->X.env.cells.lookup x=Ga c)(hl2:∀ x,(x,j9)∈scope.names->∃ c,cl.lookup x=Ga c)
  {it:Gj} {fp:List Gj} {tn:Nat->Heap->Prop} {J:It} (I:gA X ω σ H2 s2) (T:yt X.prog X.w X.K (.Name x px) J fp it tn) (st:tn 0 s2.heap) (hf:∀ b∈fp,wc X ω H2 b) (hc:X.calm=true)
  {Qv:Gj->Hp->Prop} {g:TG} {tc:TT} {te:TE}
  (hblk:∀ C s H,PG (lW X scope cl C (x::fr) s H fp ω) (.Name x px) g/\LH (lW X scope cl C (x::fr) s H fp ω) ifs tc/\PE (lW X scope cl C (x::fr) s H fp ω) elt te)
  (hW:∀ D0,H2 D0=Gb->Ec J g tc te D0 (prj ix σ) (upd H2 D0 (.lst [])) (Qv D0))
  {RR:Gg->Gj->Result->Gh->Prop}
  (hRR:∀ D0 C s' H',gA X ω σ H' s'->s2.heap.objs.size<=C->(∃ m,s'.heap.Ns C m)->H' C=Gb->Qv D0 H'->RR (.ref D0) C (.ok .next) s') :
  wpAny (model X.prog X.w) X.A (newList []) (λacc s3=>wpAny (model X.prog X.w) X.A (newFunctionEnv scope X.env.globals cl [] X.env.qual Gb .none (Ga X.env)) (λcenv s4 =>
   codeAny (model X.prog X.w) X.A (.compStart (.ListComp elt [⟨.Name x px,iter,ifs,0⟩] scope pos) 0 (.ref it) acc { cenv with scope:=relabel scope X.env }) (RR acc cenv.locals) s4) E s3) E s2:=by
 have hD0:H2 s2.heap.objs.size=Gb:=I.fresh;obtain⟨W,⟨m0,w0⟩,turn⟩:=hW s2.heap.objs.size hD0;have I3:=I.lnew (t':=s2.toks) (ys:=[]) (its:=[]) .nil (jO _);refine wpAny_newList (wpAny_newFunctionEnv S.nocell (by intro y hy;simp at hy) (λh1 hns hsb=>?_) S.kind);dsimp only at hns hsb ⊢;generalize hHp:s2.heap.push { cls:=.type "list",dict:=Gb,data:=.seq ([]:List Gg).toArray }=P2 at hns hsb I3 ⊢;have hC:P2.objs.size=s2.heap.objs.size+1:=by rw[<- hHp,vn]
 have keep:∀ b o,P2.get? b=Ga o->h1.get? b=Ga o:=λb o e=>hsb.extBut b o (jE (jm e)) (jd _ e);have neC:∀ b o,P2.get? b=Ga o->b≠P2.objs.size:=λb o e=>jE (jm e);have keep2:∀ b o,s2.heap.get? b=Ga o->P2.get? b=Ga o:=λb o e=>by rw[<- hHp];exact jd _ e
 have fpo:∀ b∈fp,∃ o,s2.heap.get? b=Ga o/\∀ v,o.data≠.cell v:=λb hb=>T.obj 0 _ st b hb;have fpC:∀ b∈fp,b≠P2.objs.size:=λb hb=>by obtain⟨o,e,_⟩:=fpo b hb;exact neC b o (keep2 b o e)
 have fpD:∀ b∈fp,b≠s2.heap.objs.size:=λb hb=>by obtain⟨o,e,_⟩:=fpo b hb;exact jE (jm e)
 have fpS:∀ b∈fp,b∉rq X.stack:=λb hb z=>by
  obtain⟨_,f1,f2,_⟩:=hf b hb;rcases ju.mp (I.stkSub b z) with q|q
  .exact f1 q
  .exact f2 q
 have cellK:∀ x c,cl.lookup x=Ga c->∃ v,P2.IsCell c v:=λx c e=>by
  obtain⟨v,o,ho,hd⟩:=I.cell x c (hl1 x c e);exact⟨v,o,keep2 c o ho,hd⟩
 have okB:(lW X scope cl P2.objs.size (x::fr) { s2 with heap:=P2 } (upd H2 s2.heap.objs.size (.lst [])) fp ω).Ok:=by
  refine⟨I.ok.mod,by show(relabel scope X.env).kind=_;exact S.kind,I.ok.glob,I.ok.blt,jh _,λy z c e1 e2=>?_,λy hy=>?_,λy c hfn _=>?_,I.ok.hd,I.ok.frames,.inl rfl,λb hb=>⟨fpC b hb,λy c e=>?_⟩,λb o e=>?_,?_,λb o e hb=>?_,fpS,I3.stack,I3.stkFree⟩
  .exact I.ok.inj y z c (hl1 y c e1) (hl1 z c e2)
  .
   have hy':(relabel scope X.env).names.lookup y=Ga .cell\/(relabel scope X.env).names.lookup y=Ga .free:=hy;have mem:(y,j9)∈scope.names:=by
    have hfind:∀ (names:List (Str×NameKind)),(∀ z∈names,z.2≠.cell)->((names.map λ(n,k)=>if (k==j9&&X.env.scope.kind==.function&&X.env.kindOf n==Ga .cell) then(n,vE) else(n,k)).lookup y=Ga .cell \/
      (names.map λ(n,k)=>if (k==j9&&X.env.scope.kind==.function&&X.env.kindOf n==Ga .cell) then(n,vE) else(n,k)).lookup y=Ga .free)->(y,j9)∈names:=by
     intro names;induction names with
     | nil=>intro _ h;simp at h
     | cons p r ih =>
      obtain⟨n,k⟩:=p;intro hn h;have ih':=ih (λz hz=>hn z (jj _ hz));have hk:k≠.cell:=hn (n,k) jf;rw[jI] at h;dsimp only at h;by_cases hcnd:(k==j9&&X.env.scope.kind==.function&&X.env.kindOf n==Ga .cell)=true
      .rw[Ge hcnd] at h;have hkf:k=.free:=by simp only[jx,beq_iff_eq] at hcnd;exact hcnd.1.1
       cases hx:y==n with
       | true=>rw[beq_iff_eq.mp hx,hkf];exact jf
       | false =>
        rw[ky,hx] at h;exact jj _ (ih' h)
      .rw[Gf hcnd] at h;cases hx:y==n with
       | true =>
        rw[ky,hx] at h;rcases h with h|h
        .exact absurd (jD h) hk
        .rw[beq_iff_eq.mp hx,<- jD h];exact jf
       | false =>
        rw[ky,hx] at h;exact jj _ (ih' h)
    exact hfind scope.names S.nocell hy'
   exact hl2 y mem
  .cases hfn
  .obtain⟨_,_,_,_,f4,_⟩:=hf b hb;exact f4 y c (hl1 y c e)
  .obtain⟨e1,e2⟩:=I3.bs b o e;exact⟨e1,e2⟩
  .exact jF I.ok.bsz I3.sz
  .obtain⟨_,_,_,f3,_⟩:=hf b hb;rcases f3 with z|z
   .exact I.ok.noex b o e z
   .exact absurd (jz (jm e) (jF I.ok.bsz z)) (j0 _)
 have i4:gA (lW X scope cl P2.objs.size (x::fr) { s2 with heap:=P2 } (upd H2 s2.heap.objs.size (.lst [])) fp ω) [] (prj ix σ) (upd H2 s2.heap.objs.size (.lst [])) { s2 with heap:=h1,toks:=s2.toks+([]:List (Str×Gg)).length }:=by
  refine⟨okB,rfl,I.bare,Un.kept keep,⟨_,hns,λi y v e1 e2 e3=>?_⟩,λy c e=>?_,?_,λy c e=>?_,λp hp=>?_,I3.hok.kept keep,?_⟩
  .cases i with
   | zero=>simp[prj] at e2
   | succ j =>
    have e1':fr[j]?=Ga y:=by simpa [lW] using e1
    have hj:j<ix.length:=by rw[<- S.len];exact(jp.mp e1').1
    have eix:ix[j]?=Ga ix[j]:=ji hj;have e2':(σ[ix[j]]?).join=Ga v:=by simpa [prj,eix] using e2
    have e2'':σ[ix[j]]?=Ga (Ga v):=by
     cases z:σ[ix[j]]? with
     | none=>rw[z] at e2';cases e2'
     | some w=>rw[z] at e2';cases e2';rfl
    have hN:=S.at_ j ix[j] y eix e1';have hfree:=S.free y (j7 e1');have hmem:(y,j9)∈scope.names:=kF hfree;have hout:=S.outs _ hmem rfl;obtain⟨m,hn,hl⟩:=I.loc;obtain⟨u,ru,lk⟩:=hl ix[j] y v hN e2'' (hout.elim (λz=>.inr (.inl z)) λz=>.inr (.inr z));refine⟨u,ru,.inr ?_⟩;rcases lk with ⟨k,_⟩|⟨k,c,ec,hcell⟩
    .exfalso;have k':X.env.scope.names.lookup y=Ga .local:=k;rcases hout with z|z
     .rw[z] at k';cases k'
     .rw[z] at k';cases k'
    .obtain⟨c',ec'⟩:=hl2 y hmem;have:c'=c:=by have:=hl1 y c' ec';rw[ec] at this;cases this;rfl
     subst this;obtain⟨o,ho,hd⟩:=hcell;exact⟨Qy (ψ:=X.env) hfree,c',ec',o,keep _ o (keep2 _ o ho),hd⟩
  .obtain⟨v,o,ho,hd⟩:=cellK y c e;exact⟨v,o,keep _ o ho,hd⟩
  .show upd H2 s2.heap.objs.size (.lst []) P2.objs.size=Gb;exact I3.hok.fresh (jh _)
  .exact I3.freeC y c (hl1 y c e)
  .have hp':p∈X.pn++ω:=by simpa [lW] using hp
   obtain⟨e,n,ne,nf,d⟩:=I3.pin p hp';refine⟨keep _ _ e,n,neC _ _ e,λz=>?_,d⟩;rcases ju.mp (I.stkSub _ z) with q|q
   .exact ne q
   .exact nf q
  .simp[prj,lW,S.len]
 obtain⟨hg,hif,he⟩:=hblk P2.objs.size { s2 with heap:=P2 } (upd H2 s2.heap.objs.size (.lst []));generalize hX':lW X scope cl P2.objs.size (x::fr) { s2 with heap:=P2 } (upd H2 s2.heap.objs.size (.lst [])) fp ω=X' at okB i4 hg hif he;have xA:X'.A=X.A:=by rw[<- hX'];rfl
 have xP:X'.prog=X.prog:=by rw[<- hX'];rfl
 have xw:X'.w=X.w:=by rw[<- hX'];rfl
 have xK:X'.K=X.K:=by rw[<- hX'];rfl
 have xc:X'.calm=true:=by rw[<- hX'];exact hc
 have xe:X'.env=compEnvC scope cl P2.objs.size X.env:=by rw[<- hX'];rfl
 have xx:∀ v s,X'.xe v s->False:=by rw[<- hX'];exact λ_ _ z=>z
 have stat:∀ {H':Hp},(∀ b∈fp,H' b=Gb)->∀ b∈fp,wc X' [] H' b:=λhn b hb=>by
  obtain⟨_,f1,f2,f3,f4,f5⟩:=hf b hb;refine⟨hn b hb,?_,?_,?_,?_,?_⟩
  .rw[xe];exact fpC b hb
  .rw[<- hX'];exact fpS b hb
  .rw[<- hX'];exact .inl hb
  .rw[<- hX'];exact λy c e=>f4 y c (hl1 y c e)
  .rw[<- hX'];intro p hp;exact f5 p (by simpa [lW] using hp)
 have st1:tn 0 h1:=T.keep 0 _ _ st λb hb o e=>keep b o (keep2 b o e);have fr0:∀ b∈fp,upd H2 s2.heap.objs.size (.lst []) b=Gb:=λb hb=>by rw[gF (fpD b hb)];exact(hf b hb).1
 have loop:∀ s4:Gh,s4={ s2 with heap:=h1,toks:=s2.toks+([]:List (Str×Gg)).length } ->
   codeAny (model X.prog X.w) X.A (.compLoop (.ListComp elt [⟨.Name x px,iter,ifs,0⟩] scope pos) 0 (.ref it) (.ref s2.heap.objs.size) (compEnvC scope cl P2.objs.size X.env)) (RR (.ref s2.heap.objs.size) P2.objs.size) s4:=by
  rintro s4 rfl;refine codeAny_compLoop_tests (λn s'=>∃ i σ' H',gA X' [] σ' H' s'/\tn i s'.heap/\(∀ b∈fp,H' b=Gb)/\W i n σ' H') ?_ m0 ⟨0,_,_,i4,st1,fr0,w0⟩;rintro n s5 ⟨i,σ5,H5,I5,st5,fr5,w5⟩;rcases turn i n σ5 H5 w5 with ⟨stop,qn⟩|⟨go,N,hN,step⟩
  .have dn:=T.done X' xP xw xK xc i [] s5 σ5 H5 (λ_ _=>False) I5 (stat fr5) st5 stop;rw[xA] at dn;refine wpAny_mono dn (λr s6 ⟨hr,I6⟩=>?_) λ_ _ z=>z.elim;subst hr;have base6:Un (rq X.stack) fp (upd H2 s2.heap.objs.size (.lst [])) H5 P2 s6.heap:=by have:=I6.base;rw[<- hX'] at this;exact this
   have os6:s6.os=s2.os:=by have:=I6.os;rw[<- hX'] at this;exact this
   have hok6:HOk X.prog X.w H5 s6.heap:=by have:=I6.hok;rw[xP,xw] at this;exact this
   have I7:gA X ω σ H5 s6:=gA.call' (s:={ s2 with heap:=P2,toks:=s2.toks }) I3 os6 base6 hok6 I6.bare λb hb=>by
    obtain⟨_,f1,_,f3,f4,f5⟩:=hf b hb;exact⟨f3,f1,f4,f5⟩
   refine hRR _ _ s6 H5 I7 (by rw[hC];exact uP _) ?_ ?_ qn
   .obtain⟨m,hm,_⟩:=I6.loc;rw[xe] at hm;exact⟨m,hm⟩
   .have:=I6.free;rw[xe] at this;exact this
  .have itm:=T.item X' xP xw xK xc i [] s5 σ5 H5 (λ_ _=>False) I5 (stat fr5) st5 go;rw[xA] at itm;refine wpAny_mono itm (λr s6 ⟨u,hr,h6⟩=>?_) λ_ _ z=>z.elim;subst hr;show wpAny _ _ ((letOwnedTupleGo (.Name x px) (.ref it) u) >>= λ_=>assign (.Name x px) (compEnvC scope cl P2.objs.size X.env) u) _ _ _;refine gk (wpAny_mono h6 (λ_ s7 ⟨xv,H7,I7,r7,y7,st7,fr7⟩=>?_) λ_ _ z=>z.elim);have I7':=I7.pinned (stat fr7) (T.obj _ _ st7);have stepx:=step xv H7 y7;have asg:=hg _ s7 σ5 H7 xv u _ I7' r7 stepx;rw[xA,xP,xw,xe] at asg;refine wpAny_mono asg (λ_ s8 ⟨σ8,H8,I8,q8⟩=>?_) λ_ _ z=>(xx _ _ z).elim;have again:∀ {H9:Hp} {s9:Gh},gA X' ([]++ss fp s7.heap) σ8 H9 s9->N σ8 H9->∃ m,m<n/\∃ i σ' H',gA X' [] σ' H' s9/\tn i s9.heap/\(∀ b∈fp,H' b=Gb)/\W i m σ' H':=λ{H9 s9} I9 n9=>by
    obtain⟨m',hm,w9⟩:=hN σ8 H9 n9;refine⟨m',hm,i+1,σ8,H9,I9.unpinned,T.keep _ _ _ st7 λb hb o e=>(I9.pin (b,o) (jK _ (jK _ (rA hb e)))).1,λb hb=>?_,w9⟩;obtain⟨o,e,d⟩:=T.obj _ _ st7 b hb;exact(I9.pin (b,o) (jK _ (jK _ (rA hb e)))).2.1
   have fin:∀ (ok:Bool) (H9:Hp) (s9:Gh),gA X' ([]++ss fp s7.heap) σ8 H9 s9->(if ok=true then te σ8 H9 λy H4=>∃ ys,H4 s2.heap.objs.size=Ga (.lst ys)/\ys.length<sizeLine/\N σ8 (upd H4 s2.heap.objs.size (.lst (ys++[y]))) else N σ8 H9) ->
     if ok=true then wpAny (model X.prog X.w) X.A (eval elt (compEnvC scope cl P2.objs.size X.env)) (λxv s10=>wpAny (model X.prog X.w) X.A (call (.builtin "list.append") [.ref s2.heap.objs.size,xv]) (λ_ s11=>∃ m,m<n/\∃ i σ' H',gA X' [] σ' H' s11/\tn i s11.heap/\(∀ b∈fp,H' b=Gb)/\W i m σ' H')
      (notedBy (model X.prog X.w) X.A (compEnvC scope cl P2.objs.size X.env) λe s'=>RR (.ref s2.heap.objs.size) P2.objs.size (.error e) s') s10) (notedBy (model X.prog X.w) X.A (compEnvC scope cl P2.objs.size X.env) λe s'=>RR (.ref s2.heap.objs.size) P2.objs.size (.error e) s') s9
     else ∃ m,m<n/\∃ i σ' H',gA X' [] σ' H' s9/\tn i s9.heap/\(∀ b∈fp,H' b=Gb)/\W i m σ' H':=by
    intro ok H9 s9 I9 q9;cases ok with
    | false =>
     rw[Gf jq] at q9 ⊢;exact again I9 q9
    | true =>
     rw[Ge rfl] at q9 ⊢;have ev:=he _ s9 σ8 H9 _ I9 q9;rw[xA,xP,xw,xe] at ev;refine wpAny_mono ev (λu s10 ⟨y,H10,I10,r10,ys,hys,hz,q10⟩=>?_) λ_ _ z=>(xx _ _ z).elim;have ap:=yx (X:=X') _ s10 σ8 H10 (.ref s2.heap.objs.size) [y] (.ref s2.heap.objs.size) [u] (λ_ H'=>N σ8 H') I10 rfl (.cons r10 .nil) ⟨_,ys,y,rfl,rfl,hys,hz,q10⟩;rw[xA,xP,xw] at ap;refine wpAny_mono ap (λ_ s11 ⟨_,H11,I11,_,q11⟩=>again I11 q11) λ_ _ z=>(xx _ _ z).elim
   match ifs,hif with
   | [],hif=>exact wpAny_tests_nil (by
     have hif':tc=λ_ H Q=>Q true H:=hif;rw[hif'] at q8;exact fin true H8 s8 I8 q8)
   | [c],hif =>
    have nz:=(show PT X' c tc from hif) _ s8 σ8 H8 _ I8 q8;rw[xA,xP,xw,xe] at nz;exact wpAny_tests_one (wpAny_mono nz (λok s9 ⟨H9,I9,q9⟩=>fin ok H9 s9 I9 q9) λ_ _ z=>(xx _ _ z).elim)
   | _::_::_,hif=>exact hif.elim
 exact codeAny_compStart_list (loop _ rfl) (T.self _ 0 _ _ _ st1 (loop _ rfl))
end
def oQ:Option Sl->Sl
 | some (.val d)=>.val d
 | some (.own ds)=>.own ds
 | some (.fn c)=>.fn c
 | _=>.no
def nu (ix:List Nat)(ψ:En):En:=ix.map λ(i:Nat)=>oQ ψ[i]?
def lc (fc:FB)(fe:FV)(base:En):List D->Option (List D)
 | []=>Ga []
 | x::r=>(fc (.val x::base)).bind λb=>if b then(fe (.val x::base)).bind λy=>(lc fc fe base r).bind λys=>Ga (y::ys) else lc fc fe base r
theorem RS.lend {K:ja}{H0 F H:Hp}{ψ:En}{σ:St}(r:RS K H0 F H ψ σ){a:Gj}{o:HO}(ha:H a=Gb)(pl:Pl o:=by trivial):RS K (upd H0 a o) F (upd H a o) ψ σ:=by
 have fa:=r.fh.free ha;refine⟨gq.up2 r.h0 (r.h0.free ha) ha pl,r.fh.put fa (λx u z=>by rw[ha] at z;cases z),λi s e=>?_,r.ap⟩
 .obtain⟨u,e1,q⟩:=r.sl i s e;refine⟨u,e1,?_⟩;cases s with
  | no=>trivial
  | val d=>exact q
  | own ds=>obtain⟨b,xs,e2,hb,fb,h0b,rr⟩:=q;have n:=lK hb ha;exact⟨b,xs,e2,by rw[gF n];exact hb,fb,by rw[gF n];exact h0b,rr⟩
  | owk b ds=>obtain⟨xs,e2,hb,fb,h0b,rr⟩:=q;have n:=lK hb ha;exact⟨xs,e2,by rw[gF n];exact hb,fb,by rw[gF n];exact h0b,rr⟩
  | dic ks=>obtain⟨b,as,ep,e2,hb,fb,h0b,rr⟩:=q;have n:=lK hb ha;exact⟨b,as,ep,e2,by rw[gF n];exact hb,fb,by rw[gF n];exact h0b,rr⟩
  | dki oa kvs=>obtain⟨b,ws,ep,e2,hb,fb,h0b,rr⟩:=q;have n:=lK hb ha;exact⟨b,ws,ep,e2,by rw[gF n];exact hb,fb,by rw[gF n];exact h0b,rr⟩
  | dkt kvs=>obtain⟨b,ws,ep,e2,hb,fb,h0b,rr⟩:=q;have n:=lK hb ha;exact⟨b,ws,ep,e2,by rw[gF n];exact hb,fb,by rw[gF n];exact h0b,rr⟩
  | tab P=>obtain⟨ps,q,g⟩:=q;exact⟨ps,by rw[gF (lK q (r.h0.free ha))];exact q,g.updG λx u z=>by rw[r.h0.free ha] at z;cases z⟩
  | fn c=>obtain⟨g,e,q⟩:=q;exact⟨g,e,c.mono _ _ _ _ _ (.refl _) (Fz.upd λx u z=>by rw[ha] at z;cases z) q⟩
theorem iU.swp {H:Hp}{a:Gj}{o o':HO}(p:Pl o){l:List Gg}(g:iU (upd H a o) l):iU (upd H a o') l :=
 ⟨g.1,λpos cv e=>by
  obtain⟨c,x,vs,v,e1,e2,e3⟩:=g.2 pos cv e;have ne:c≠a:=λz=>by subst z;rw[gU] at e2;cases e2;exact p
  rw[gF ne] at e2;exact⟨c,x,vs,v,e1,by rw[gF ne];exact e2,e3⟩⟩
theorem RS.swap {K:ja}{H0 F H:Hp}{ψ:En}{σ:St}{a:Gj}{o o':HO}(r:RS K (upd H0 a o) F H ψ σ)(fa:F a=Gb)(pl:Pl o:=by trivial)(pl':Pl o':=by trivial):RS K (upd H0 a o') F (upd H a o') ψ σ:=by
 refine⟨r.h0.swp pl pl',r.fh.put fa (pl.nf (r.h0.pl gU pl)),λi s e=>?_,r.ap⟩
 .obtain⟨u,e1,q⟩:=r.sl i s e;have ne:∀ b,upd H0 a o b=Gb->b≠a:=λb h z=>by subst z;rw[gU] at h;cases h
  refine⟨u,e1,?_⟩;cases s with
  | no=>trivial
  | val d=>exact q
  | own ds=>obtain⟨b,xs,e2,hb,fb,h0b,rr⟩:=q;have n:=ne b h0b;exact⟨b,xs,e2,by rw[gF n];exact hb,fb,by rw[gF n] at h0b ⊢;exact h0b,rr⟩
  | owk b ds=>obtain⟨xs,e2,hb,fb,h0b,rr⟩:=q;have n:=ne b h0b;exact⟨xs,e2,by rw[gF n];exact hb,fb,by rw[gF n] at h0b ⊢;exact h0b,rr⟩
  | dic ks=>obtain⟨b,as,ep,e2,hb,fb,h0b,rr⟩:=q;have n:=ne b h0b;exact⟨b,as,ep,e2,by rw[gF n];exact hb,fb,by rw[gF n] at h0b ⊢;exact h0b,rr⟩
  | dki oa kvs=>obtain⟨b,ws,ep,e2,hb,fb,h0b,rr⟩:=q;have n:=ne b h0b;exact⟨b,ws,ep,e2,by rw[gF n];exact hb,fb,by rw[gF n] at h0b ⊢;exact h0b,rr⟩
  | dkt kvs=>obtain⟨b,ws,ep,e2,hb,fb,h0b,rr⟩:=q;have n:=ne b h0b;exact⟨b,ws,ep,e2,by rw[gF n];exact hb,fb,by rw[gF n] at h0b ⊢;exact h0b,rr⟩
  | tab P =>
   obtain⟨ps,q,g⟩:=q;have n:P≠a:=λz=>by subst z;rw[gU] at q;cases q;exact pl
   exact⟨ps,by rw[gF n] at q ⊢;exact q,g.swp pl⟩
  | fn c=>obtain⟨g,e,q⟩:=q;exact⟨g,e,c.mono _ _ _ _ _ (.refl _) (Fz.upd (pl.nf (r.h0.pl gU pl))) q⟩
theorem Qx {ix:List Nat}{ψ:En}{j:Nat}{s:Sl}(h:(nu ix ψ)[j]?=Ga s)(o:nM s=true):∃ k ds,ix[j]?=Ga k/\ψ[k]?=Ga (.own ds)/\s=.own ds:=by
 unfold nu at h;rw[jA] at h;cases z:ix[j]? with
 | none=>rw[z] at h;cases h
 | some k =>
  rw[z] at h;have h2:=jD h;unfold oQ at h2;dsimp only at h2;split at h2
  .subst h2;cases o
  .rename_i ds hd;subst h2;exact⟨k,ds,rfl,hd,rfl⟩
  .subst h2;cases o
  .subst h2;cases o
theorem RS.prj {K:ja}{H0 F H:Hp}{ψ:En}{σ:St}(r:RS K H0 F H ψ σ)(ix:List Nat)(nd:ix.Nodup):RS K H0 F H (.no::nu ix ψ) (T3.prj ix σ):=by
 refine⟨r.h0,r.fh,λi s e=>?_,λi j a s t o1 o2 e1 e2 e3 e4=>?_⟩
 .cases i with
  | zero=>simp at e;subst e;exact⟨Gb,rfl,trivial⟩
  | succ j =>
   have e':(nu ix ψ)[j]?=Ga s:=by simpa using e
   unfold nu at e';rw[jA] at e';cases z:ix[j]? with
   | none=>rw[z] at e';cases e'
   | some k =>
    rw[z] at e';have e2:=jD e';refine⟨(σ[k]?).join,by simp[T3.prj,z],?_⟩;unfold oQ at e2;dsimp only at e2;split at e2
    .rename_i d hd;subst e2;obtain⟨u,e3,v,e4,rv⟩:=r.sl k _ hd;exact⟨v,by rw[e3,e4];rfl,rv⟩
    .rename_i ds hd;subst e2;obtain⟨u,e3,a,xs,e4,rv⟩:=r.sl k _ hd;exact⟨a,xs,by rw[e3,e4];rfl,rv⟩
    .rename_i c hd;subst e2;obtain⟨u,e3,f,e4,rv⟩:=r.sl k _ hd;exact⟨f,by rw[e3,e4];rfl,rv⟩
    .subst e2;trivial
 .cases i with
  | zero=>simp at e1;subst e1;cases o1
  | succ i =>
   cases j with
   | zero=>simp at e2;subst e2;cases o2
   | succ j =>
    obtain⟨k1,d1,x1,y1,z1⟩:=Qx (by simpa using e1) o1;obtain⟨k2,d2,x2,y2,z2⟩:=Qx (by simpa using e2) o2;have g1:σ[k1]?=Ga (Ga (.ref a)):=by
     obtain⟨u,e5,b,xs,e6,_⟩:=r.sl k1 _ y1;have:(T3.prj ix σ)[i+1]?=Ga ((σ[k1]?).join):=by simp[T3.prj,x1]
     rw[e3] at this;rw[e5,e6] at this ⊢;exact congrArg Ga (jD this).symm
    have g2:σ[k2]?=Ga (Ga (.ref a)):=by
     obtain⟨u,e5,b,xs,e6,_⟩:=r.sl k2 _ y2;have:(T3.prj ix σ)[j+1]?=Ga ((σ[k2]?).join):=by simp[T3.prj,x2]
     rw[e4] at this;rw[e5,e6] at this ⊢;exact congrArg Ga (jD this).symm
    have ek:k1=k2:=r.ap k1 k2 a _ _ rfl rfl y1 y2 g1 g2;subst ek;have hi:i<ix.length:=(jp.mp x1).1;have hj:j<ix.length:=(jp.mp x2).1;have:i=j:=(JT (h₀:=hi) (h₁:=hj) nd).mp (by rw[(jp.mp x1).2,(jp.mp x2).2]);rw[this]
theorem Rh {K:ja}{J:It}{H0 F1 H1:Hp}{ψ:En}{σ:St}{ds rs:List D}{fc:FB}{fe:FV}{ix:List Nat}{tc:TT}{D0:Gj}{Qv:Hp->Prop}{g:TG}
  (hg:∀ v σ H Q,tG K (λd ψ=>Ga (ψ.set 0 (.val d))) v σ H Q->g v σ H Q)
  (htc:∀ σ H Q,tT K fc σ H Q->tc σ H Q) (nd:ix.Nodup) (r:RS K H0 F1 H1 ψ σ) (Y:∀ F2,gq F1 F2->pQ K J F2 ds) (e:lc fc fe (nu ix ψ) ds=Ga rs) (hz:ds.length<=1000000) (hD:H1 D0=Gb)
  (q:∀ xs H' F',gq H1 H'->gq F1 F'->gq F' H'->iO F1 F' H1->F' D0=Gb->H' D0=Ga (.lst xs)->gJ K F' rs xs->Qv H') :
  Ec J g tc (tV K fe) D0 (prj ix σ) (upd H1 D0 (.lst [])) Qv:=by
 have fD:F1 D0=Gb:=r.fh.free hD;have h0D:H0 D0=Gb:=r.h0.free hD;have g0:gq H1 (upd H1 D0 (.lst [])):=gq.new hD;refine⟨λi m σ' H'=>i+m=ds.length/\∃ F2 sx don ys rest,RS K (upd H0 D0 (.lst ys)) F2 H' (sx::nu ix ψ) σ'/\gq F1 F2/\iO F1 F2 H1/\gq H1 H'/\F2 D0=Gb/\H' D0=Ga (.lst ys)/\gJ K F2 don ys/\don.length<=i /\
  lc fc fe (nu ix ψ) (ds.drop i)=Ga rest/\rs=don++rest,⟨ds.length,by omega,F1,.no,[],[],rs,(r.prj ix nd).lend hD,.refl _,.refl _ _,g0,fD,gU,.nil,jh _,e,rfl⟩,?_⟩
 rintro i m σ' H' ⟨hm,F2,sx,don,ys,rest,r2,f2,n2,g2,fd2,hd2,rr2,hl2,e2,ers⟩;obtain⟨yd,yg⟩:=Y F2 f2 H' r2.fh i;by_cases hlt:i<ds.length
 .obtain⟨go,yy⟩:=yg ds[i] (by simp[hlt]);rw[qq hlt] at e2;unfold lc at e2;obtain⟨b,x1,x2⟩:=gp e2;refine .inr ⟨go,λσ3 H3=>i+1+(m-1)=ds.length/\∃ F2 sx don ys rest,RS K (upd H0 D0 (.lst ys)) F2 H3 (sx::nu ix ψ) σ3/\gq F1 F2/\iO F1 F2 H1/\gq H1 H3/\F2 D0=Gb/\H3 D0=Ga (.lst ys)/\gJ K F2 don ys/\don.length<=i+1 /\
   lc fc fe (nu ix ψ) (ds.drop (i+1))=Ga rest/\rs=don++rest,λσ3 H3 h3=>⟨m-1,by omega,h3⟩,λx Hx yl=>?_⟩
  obtain⟨gx,F4,f4,fh4,n4,rx⟩:=yy x Hx yl;have r4:=r2.grow gx f4 fh4 n4;have noD:∀ {F F' H:Hp},F D0=Gb->(∃ o,H D0=Ga o)->iO F F' H->F' D0=Gb:=λ{F F' H} a ⟨o,b⟩ n=>by
   cases z:F' D0 with
   | none=>rfl
   | some o'=>have:=n D0 o' z a;rw[b] at this;cases this
  have fd4:F4 D0=Gb:=noD fd2 ⟨_,hd2⟩ n4;refine hg _ _ _ _ ⟨upd H0 D0 (.lst ys),F4,sx::nu ix ψ,ds[i],.val ds[i]::nu ix ψ,r4,rx,rfl,λσ5 r5=>?_⟩;refine htc _ _ _ ⟨upd H0 D0 (.lst ys),F4,.val ds[i]::nu ix ψ,b,r5,x1,λH6 g6=>?_⟩;have r6:=r5.later g6;have hd6:H6 D0=Ga (.lst ys):=g6 _ _ (gx _ _ hd2);have s6:gq H1 H6:=g2.trans (gx.trans g6);have nn4:iO F1 F4 H1:=n2.trans n4 g2;cases b with
  | true =>
   obtain⟨y,x3,x4⟩:=gp x2;obtain⟨ys',x5,x6⟩:=gp x4;cases x6;refine sj ⟨upd H0 D0 (.lst ys),F4,.val ds[i]::nu ix ψ,y,r6,x3,λv H7 F7 g7 f7 fh7 n7 rv=>⟨ys,g7 _ _ hd6,?_,by omega,F7,.val ds[i],don++[y],ys++[v],ys',?_,f2.trans (f4.trans f7),?_,?_,noD fd4 ⟨_,hd6⟩ n7,gU,?_,?_,x5,?_⟩⟩
   .rw[<- rr2.length];have:don.length<1000000:=by omega
    exact jz this (by rw[sizeLine_eq];decide)
   .exact(r6.grow g7 f7 fh7 n7).swap (noD fd4 ⟨_,hd6⟩ n7)
   .exact nn4.trans n7 s6
   .exact(s6.trans g7).put hD (Ow.nf (ob:=.lst ys) trivial (g7 _ _ hd6))
   .exact((rr2.mono f4).mono f7).append (.cons rv .nil)
   .rw[jr,kf];omega
   .rw[ers,kP];rfl
  | false =>
   exact rY ⟨by omega,F4,.val ds[i],don,ys,rest,r6,f2.trans f4,nn4,s6,fd4,hd6,rr2.mono f4,by omega,x2,ers⟩
 .rw[qO (by omega)] at e2;cases e2;refine .inl ⟨yd (by omega),q ys H' F2 g2 f2 r2.fh n2 fd2 hd2 ?_⟩;rw[ers,kg];exact rr2
def ip (fi:FL)(fc:FB)(fe:FV)(ix:List Nat):FL:=λψ=>(fi ψ).bind λds=>if ds.length<=1000000 then lc fc fe (nu ix ψ) ds else Gb
section
variable {X:Cx}{elt iter:Expr}{x:Str}{px pos:Pos}{ifs:List Expr}{scope:Scope}{fr:List Str}{ix:List Nat}{fi:FL}{fc:FB}{fe:FV}
def xY (K:ja)(ifs:List Expr)(fc:FB):TT:=match ifs with
 | []=>λ_ H Q=>Q true H
 | _=>tT K fc
structure Ap (X:Cx)(scope:Scope)(x:Str)(px:Pos)(fr:List Str)(ifs:List Expr)(elt:Expr)(fc:FB)(fe:FV):Prop where
 h:∀ cl C s H fp ω,wK (lW X scope cl C (x::fr) s H fp ω) (.Name x px) (λd ψ=>Ga (ψ.set 0 (.val d))) /\
  LH (lW X scope cl C (x::fr) s H fp ω) ifs (xY X.K ifs fc)/\PV (lW X scope cl C (x::fr) s H fp ω) elt fe
 hn:ifs=[]->fc=λ_=>Ga true
theorem pJ (nd:(x::fr).Nodup)(hl:scope.names.lookup x=Ga .local)(he:∀ cl C s H fp ω,PV (lW X scope cl C (x::fr) s H fp ω) elt fe):Ap X scope x px fr [] elt (λ_=>Ga true) fe :=
 ⟨λcl C s H fp ω=>⟨HU 0 nd rfl (.inl (lookup_relabel_local hl)) (.inr (lookup_relabel_local hl)),rfl,he cl C s H fp ω⟩,λ_=>rfl⟩
theorem pH {c:Expr}(nd:(x::fr).Nodup)(hl:scope.names.lookup x=Ga .local)(hc:∀ cl C s H fp ω,PB (lW X scope cl C (x::fr) s H fp ω) c fc)(he:∀ cl C s H fp ω,PV (lW X scope cl C (x::fr) s H fp ω) elt fe) :
  Ap X scope x px fr [c] elt fc fe :=
 ⟨λcl C s H fp ω=>⟨HU 0 nd rfl (.inl (lookup_relabel_local hl)) (.inr (lookup_relabel_local hl)),hc cl C s H fp ω,he cl C s H fp ω⟩,λh=>nomatch h⟩
theorem Ap.tc (B:Ap X scope x px fr ifs elt fc fe):∀ σ H Q,tT X.K fc σ H Q->xY X.K ifs fc σ H Q:=by
 intro σ H Q h;cases ifs with
 | nil =>
  obtain⟨H0,F,ψ,b,r,e,q⟩:=h;rw[B.hn rfl] at e;cases e;exact q H (.refl _)
 | cons c r=>exact h
theorem Se {ω:List (Gj×Obj)}{σ:St}{H:Hp}{s:Gh}(I:gA X ω σ H s)(S:tK X.N X.env.scope scope x fr ix):∃ cl,closureFor scope X.env=pure cl/\(∀ x c,cl.lookup x=Ga c->X.env.cells.lookup x=Ga c)/\∀ x,(x,j9)∈scope.names->∃ c,cl.lookup x=Ga c:=by
 obtain⟨cl,e,a,b,_⟩:=Et (ψ:=X.env) scope.names [] (λy hy hf=>I.ok.has y.1 (S.outs y hy hf)) (λx c h=>by simp at h);refine⟨cl,?_,a,b⟩;rw[Tg,e];rfl
theorem oP (hc:X.calm=true)(S:tK X.N X.env.scope scope x fr ix)(hi:zM X (.Name x px) iter fi)(B:Ap X scope x px fr ifs elt fc fe)(hs:∀ v,foldedSetIterable iter X.env v=pure v:=by intro _;rfl) :
  PO X (.ListComp elt [⟨.Name x px,iter,ifs,0⟩] scope pos) (ip fi fc fe ix):=by
 intro ω s σ H Q I hw;obtain⟨cl,hclos,hl1,hl2⟩:=Se I S;obtain⟨H0,F,ψ,rs,r,e,q⟩:=hw;obtain⟨ds,e1,e⟩:=gp e;split at e;rotate_left
 .cases e
 rename_i hz;rw[eval_ListComp];refine wpAny_comprehension_free (use:=Gb) rfl hs hclos S.kind S.locs (wpAny_mono (hi ω s σ H (λJ H1=>∃ F1,gq H H1/\gq F F1/\gq F1 H1/\iO F F1 H/\∀ F2,gq F1 F2->pQ X.K J F2 ds) I ⟨H0,F,ψ,ds,r,e1,λJ H1 F1 g1 f1 fh1 n1 Y=>⟨F1,g1,f1,fh1,n1,Y⟩⟩)
  (λxv s1 h1=>wpAny_mono h1 (λitv s2 h2=>?_) λ_ _ z=>z) λ_ _ z=>z)
 obtain⟨it,fp,tn,J,H2,eit,I2,T,st2,f2,F1,g1,f1,fh1,n1,Y⟩:=h2;subst eit;refine QO (g:=tG X.K (λd ψ=>Ga (ψ.set 0 (.val d)))) (te:=tV X.K fe) (tc:=xY X.K ifs fc) (RR:=λacc C=>compPost (model X.prog X.w) X.A X.xe Gb (EP X ω σ Q) acc C) (Qv:=λD0 H'=>Q (.ref D0) H') S hl1 hl2 I2 T st2 f2 hc (λC s' H'=>B.h cl C s' H' fp ω) (λD0 hD=>?_) λD0 C s' H' I' hC hn hf hq=>?_
 .exact Rh (λ_ _ _ _ h=>h) B.tc S.apart (r.grow g1 f1 fh1 n1) Y e hz hD λxs H' F' g2 f2' fh2 n2 fd hd rr=>q D0 xs H' F' (g1.trans g2) (f1.trans f2') fh2 (n1.trans n2 g1) (g1.free hD) fd hd rr
 .obtain⟨m,hm⟩:=hn;refine⟨m,hm,λh' sb=>?_⟩;have nC:∀ p o,s2.heap.get? p=Ga o->p≠C:=λp o e=>jE (jz (jm e) hC);refine⟨.ref D0,H',?_,rfl,hq⟩;refine I'.turned (it:=C) (t':=s'.toks) (λb o hb e=>sb.extBut b o hb e) hf (uS (jz I2.lt hC)) (.inr (jF I2.sz hC)) (λy c ec z=>?_) λp hp z=>?_
  .obtain⟨v,qv⟩:=I2.cell y c ec;exact absurd (jz qv.lt (by rw[z];exact hC)) (j0 _)
  .exact nC _ _ (I2.pin p hp).1 z
end
section
variable {X:Cx}{elt iter:Expr}{x y:Str}{px py pos spos:Pos}{ifs:List Expr}{scope:Scope}{fr:List Str}{ix:List Nat}{fi:FL}{fc:FB}{fe:FV}
theorem AZ (i:Nat)(hc:X.calm=true)(S:tK X.N X.env.scope scope x fr ix)(hit:zM X (.Name x px) iter fi)(B:Ap X scope x px fr ifs elt fc fe)(hN:X.N.Nodup)(hi:X.N[i]?=Ga y:=by rfl)(hy:X.env.scope.names.lookup y=Ga .local:=by rfl)
  (hsw:swapsWith (.ListComp elt [⟨.Name x px,iter,ifs,0⟩] scope pos) (Ga (.Name y py)) spos.line X.env=pure true:=by rfl) (hs:∀ v,foldedSetIterable iter X.env v=pure v:=by intro _;rfl) :
  ol X (.Assign [.Name y py] (.ListComp elt [⟨.Name x px,iter,ifs,0⟩] scope pos) spos) (λψ=>(ip fi fc fe ix ψ).bind λd=>Ga (.nx (ψ.set i (.own d)))):=by
 intro ω s σ H D I hw;obtain⟨cl,hclos,hl1,hl2⟩:=Se I S;obtain⟨H0,F,ψ,o,r,e,p⟩:=hw;obtain⟨rs,e0,e⟩:=gp e;cases e;obtain⟨ds,e1,e⟩:=gp e0;split at e;rotate_left
 .cases e
 rename_i hz;have hl:i<σ.length:=by rw[I.len];exact(jp.mp hi).1
 rw[exec_Assign_Name_used _ _ _ _ hsw];refine gk (wpAny_standAt (gk ?_));show wpAny _ X.A (do let _ <- comprehension (.ListComp elt [⟨.Name x px,iter,ifs,0⟩] scope pos) scope X.env _ (newList []) false (eval iter X.env) (Ga (assign (.Name y py) X.env))) _ _ s;refine gk (wpAny_mono (wpAny_comprehension_free (use:=Ga (assign (.Name y py) X.env)) (Q:=λ_ s'=>SP X ω D .next s') rfl hs hclos S.kind S.locs
  (wpAny_mono (hit ω s σ H (λJ H1=>∃ F1,gq H H1/\gq F F1/\gq F1 H1/\iO F F1 H/\∀ F2,gq F1 F2->pQ X.K J F2 ds) I ⟨H0,F,ψ,ds,r,e1,λJ H1 F1 g1 f1 fh1 n1 Y=>⟨F1,g1,f1,fh1,n1,Y⟩⟩)
  (λxv s1 h1=>wpAny_mono h1 (λitv s2 h2=>?_) λ_ _ z=>z) λ_ _ z=>z)) (λ_ s' hq=>gm (gm hq)) λ_ _ z=>z)
 obtain⟨it,fp,tn,J,H2,eit,I2,T,st2,f2,F1,g1,f1,fh1,n1,Y⟩:=h2;subst eit;refine QO (g:=tG X.K (λd ψ=>Ga (ψ.set 0 (.val d)))) (te:=tV X.K fe) (tc:=xY X.K ifs fc) (RR:=λacc C=>compPost (model X.prog X.w) X.A X.xe (Ga (assign (.Name y py) X.env)) (λ_ s'=>SP X ω D .next s') acc C) (Qv:=λD0 H'=>D.nx (σ.set i (Ga (.ref D0))) H') S hl1 hl2 I2 T st2 f2 hc
  (λC s' H'=>B.h cl C s' H' fp ω) (λD0 hD=>?_) λD0 C s' H' I' hC hn hf hq=>?_
 .refine Rh (λ_ _ _ _ h=>h) B.tc S.apart (r.grow g1 f1 fh1 n1) Y e hz hD λxs H' F' g2 f2' fh2 n2 fd hd rr=>?_;have nn:iO F F' H:=n1.trans n2 g1;have r':=r.grow (g1.trans g2) (f1.trans f2') fh2 nn;refine p _ H' F' (f1.trans f2') (nn.dn r.h0) (r'.putO hl hd fd (r.h0.free (g1.free hD)) rr ?_);exact λj s o _ ej=>r.ne_free (g1.free hD) j s o ej
 .obtain⟨m,hm⟩:=hn;have nC:∀ p o,s2.heap.get? p=Ga o->p≠C:=λp o e=>jE (jz (jm e) hC);have cC:∀ y c,X.env.cells.lookup y=Ga c->c≠C:=λy c ec z=>by
   obtain⟨v,qv⟩:=I2.cell y c ec;exact absurd (jz qv.lt (by rw[z];exact hC)) (j0 _)
  have lC:C≠X.env.locals:=uS (jz I2.lt hC);show wpAny _ X.A (assign (.Name y py) X.env (.ref D0)) _ _ _;refine wpAny_assign_Name (yK I' hN hi (.inl hy) (v:=.ref D0) rfl (λs'' I'' ⟨a,sb,ha⟩=>?_) (.inr hy));have aC:C≠a:=by
   rcases ha with z|z
   .rw[z];exact lC
   .exact(cC _ _ z).symm
  refine⟨m,hm.sameBut sb aC,λh' sb2=>⟨_,H',?_,hq⟩⟩;refine I''.turned (it:=C) (t':=s''.toks) (λb o hb e=>sb2.extBut b o hb e) hf lC (.inr (jF I2.sz hC)) cC λp hp z=>nC _ _ (I2.pin p hp).1 z
end
def zp (i:Nat):sA->sA
 | .nx e=>.nx (frzAt i e)
 | o=>o
theorem Au (i:Nat){X:Cx}{st:Stmt}{g:FS}(h:ol X st g):ol X st (λψ=>(g ψ).bind λo=>Ga (zp i o)):=by
 refine sJ h λE σ H=>?_;rintro⟨H0,F,ψ,o,r,e,p⟩;obtain⟨o1,e1,e2⟩:=gp e;cases e2;refine⟨H0,F,ψ,o1,r,e1,?_⟩;cases o1 with
 | nx e3 =>
  intro σ' H' F' f n r';obtain⟨F2,f2,n2,r2⟩:=r'.frzAt i;exact p σ' H' F2 (f.trans f2) (n.up n2) r2
 | rt d=>exact p
 | ro d=>exact p
 | rm a d=>exact p
 | rc a d=>exact p
 | bk d=>exact p
 | ct d=>exact p
section
variable {X:Cx}{tg:Expr}{pos:Pos}
theorem zDH {l:Expr}{tl:TE}(hl:PE X l tl):PI X tg l (λσ H R=>tl σ H λx H1=>∃ a,x=.ref a/\(((∃ xs,lr X.K H1 a xs)/\R (KS X.K a) H1)\/((∃ xs,mV X.K H1 a xs)/\R (Hl X.K a) H1))):=by
 intro ω s σ H R I h;refine iq (hl ω s σ H _ I h) λv s1 ⟨x,H1,I1,r1,a,e,q1⟩=>?_;subst e;cases r1;rcases q1 with ⟨⟨xs,hq⟩,q⟩|⟨⟨xs,hq⟩,q⟩
 .obtain⟨its,rv,p,hz⟩:=I1.list hq;refine wpAny_pyIter_list p.isList ⟨s1.heap.objs.size,[s1.heap.objs.size],_,_,H1,rfl,I1.kept (t':=s1.toks) λb o e=>jd _ e,Cu a _,⟨_,jy _ rfl,rfl,rfl⟩,λb hb=>?_,q⟩;cases jk.mp hb;exact I1.fpOk (jh _) I1.fresh
 .obtain⟨its,rv,p,hz⟩:=I1.tuple hq;refine wpAny_pyIter_tuple (show s1.heap.IsTuple a its.toArray from p) ⟨s1.heap.objs.size,[s1.heap.objs.size],_,_,H1,rfl,I1.kept (t':=s1.toks) λb o e=>jd _ e,Bw a _,⟨_,jy _ rfl,rfl,rfl⟩,λb hb=>?_,q⟩;cases jk.mp hb;exact I1.fpOk (jh _) I1.fresh
theorem nk {l:Expr}{f:FV}(h:PV X l f):zM X tg l (λψ=>(f ψ).bind toS):=by
 refine Nm (zDH h) λσ H R=>?_;rintro⟨H0,F,ψ,ds,r,e,q⟩;obtain⟨d,e1,e2⟩:=gp e;refine⟨H0,F,ψ,d,r,e1,λv H1 F1 g1 f1 fh1 n1 rv=>?_⟩;cases rv<;>first|(cases e2;done)|skip
 .rename_i a xs ds' h1 rr;cases e2;exact⟨a,rfl,.inr ⟨⟨xs,nq fh1 h1⟩,q _ H1 F1 g1 f1 fh1 n1 λF2 f2=>Yz (nq f2 h1) (rr.mono f2)⟩⟩
 .rename_i a xs ds' h1 rr;cases e2;exact⟨a,rfl,.inl ⟨⟨xs,fh1.seq h1⟩,q _ H1 F1 g1 f1 fh1 n1 λF2 f2=>zr3 (f2.seq h1) (rr.mono f2)⟩⟩
def lN (lo:Int)(n:Nat):List D:=(je n).map λk=>.int (lo+(k:Nat))
theorem OK {K:ja}{F:Hp}{lo:Int}{n:Nat}:pQ K (CN lo n) F (lN lo n):=by
 intro H g i;refine⟨λhi=>(by simpa [lN] using hi:n<=i),λd hd=>?_⟩;have hi:i<n:=by have:=(jp.mp hd).1;simpa [lN] using this
 refine⟨hi,λx H' y=>?_⟩;obtain⟨rfl,rfl⟩:=y;have:d=.int (lo+(i:Nat)):=by
  have h2:(lN lo n)[i]?=Ga (.int (lo+(i:Nat))):=by simp[lN,hi]
  rw[h2] at hd;exact(jD hd).symm
 subst this;exact⟨.refl _,F,.refl _,g,.refl _ _,.int _⟩
def iL:D->Option (List D)
 | .int j=>if -(2^62)<=j/\j<2^62 then Ga (lN 0 j.toNat) else Gb
 | _=>Gb
def pY:D->D->Option (List D)
 | .int i,.int j=>if -(2^62)<=i/\i<2^62/\-(2^62)<=j/\j<2^62 then Ga (lN i (j-i).toNat) else Gb
 | _,_=>Gb
theorem oY {a:Expr}{f:FV}{p:Pos}(hg:Gl X "range")(hm:X.mg "range"=Gb)(ha:PV X a f)(hs:starEach [a] X.env=[(false,eval a X.env)]:=by rfl):zM X tg (.Call (.Name "range" p) [a] [] pos) (λψ=>(f ψ).bind iL):=by
 refine Nm (BP hg hm (lF ha nV hs) hs) λσ H R=>?_;rintro⟨H0,F,ψ,ds,r,e,q⟩;obtain⟨d,e1,e2⟩:=gp e;refine⟨H0,F,ψ,d,r,e1,λv H1 F1 g1 f1 fh1 n1 rv=>?_⟩;cases rv<;>first|(cases e2;done)|skip
 rename_i j;unfold iL at e2;dsimp only at e2;split at e2
 .rename_i c;cases e2;exact⟨j,rfl,c.1,c.2,q _ H1 F1 g1 f1 fh1 n1 λF2 f2=>OK⟩
 .cases e2
theorem LY {a b:Expr}{f g:FV}{p:Pos}(hg:Gl X "range")(hm:X.mg "range"=Gb)(ha:PV X a f)(hb:PV X b g)(hs:starEach [a,b] X.env=[(false,eval a X.env),(false,eval b X.env)]:=by rfl)(hs2:starEach [b] X.env=[(false,eval b X.env)]:=by rfl) :
  zM X tg (.Call (.Name "range" p) [a,b] [] pos) (λψ=>(f ψ).bind λx=>(g ψ).bind λy=>pY x y):=by
 refine Nm (BV hg hm (lF ha (lF hb nV hs2) (by rw[hs,hs2])) hs hs2) λσ H R=>?_;rintro⟨H0,F,ψ,ds,r,e,q⟩;obtain⟨d,e1,e2⟩:=gp e;obtain⟨d2,e3,e4⟩:=gp e2;refine⟨H0,F,ψ,d,r,e1,λv H1 F1 g1 f1 fh1 n1 rv=>⟨H0,F1,ψ,d2,r.grow g1 f1 fh1 n1,e3,λv2 H2 F2 g2 f2 fh2 n2 rv2=>?_⟩⟩;cases rv<;>first|(cases e4;done)|skip
 cases rv2<;>first|(cases e4;done)|skip
 rename_i i j;unfold pY at e4;dsimp only at e4;split at e4
 .rename_i c;cases e4;exact⟨i,j,rfl,c,q _ H2 F2 (g1.trans g2) (f1.trans f2) fh2 (n1.trans n2 g1) λF2 f2=>OK⟩
 .cases e4
end
def iQ (K:ja)(fm:List D->Option D):Sp:=λvs H Q _=>∃ F ds d,gq F H/\gJ K F ds vs/\fm ds=Ga d/\∀ v H' F',gq H H'->gq F F'->gq F' H'->iO F F' H->io K F' d v->Q v H'
def tq (K:ja)(fm:List D->Option (List D)):Sp:=λvs H Q _=>∃ F ds d,gq F H/\gJ K F ds vs/\fm ds=Ga d/\∀ a xs H' F',gq H H'->gq F F'->gq F' H'->iO F F' H->H a=Gb->F' a=Gb->H' a=Ga (.lst xs)->gJ K F' d xs->Q (.ref a) H'
def on (n:Nat)(ds:List D):En:=ds.map Sl.val++List.replicate (n-ds.length) Sl.no
theorem RS.start {K:ja}{F H:Hp}{N:List Str}{ds:List D}{vs:List V}(g:gq F H)(r:gJ K F ds vs):RS K H F H (on N.length ds) (start N vs):=by
 have hl:=r.length;refine⟨.refl _,g,λi s e=>?_,λi j a s t o1 o2 e1=>?_⟩
 .unfold on at e;by_cases hi:i<ds.length
  .rw[k7 (by simpa using hi),jA] at e;obtain⟨v,e1,e2⟩:=r.get (ji hi);rw[ji hi] at e;cases e;refine⟨Ga v,?_,v,rfl,e2⟩;unfold L2.start;rw[k7 (by rw[jb];omega),jA,e1];rfl
  .rw[kU (by simpa using hi),uK] at e;split at e
   .rename_i hlt;cases e;refine⟨Gb,?_,trivial⟩;unfold L2.start;rw[kU (by rw[jb];omega),uK];rw[jb] at hlt ⊢;rw[Ge (by omega)]
   .cases e
 .exfalso;unfold on at e1;by_cases hi:i<ds.length
  .rw[k7 (by simpa using hi),jA,ji hi] at e1;cases e1;cases o1
  .rw[kU (by simpa using hi),uK] at e1;split at e1<;>cases e1;cases o1
section
variable {P:Program}{w:World}{K:ja}{mg:Str->Option Gg}{base:Heap}{x qual:Str}{st:Stmt}{f:Gj}{fd:Gi}{N ps:List Str}{k:Nat}
theorem fnV {fm:List D->Option D}(F:sC K x qual st f fd)(S:gB N ps (gs st))(hlen:∀ ds d,fm ds=Ga d->ds.length=ps.length)
  (hb:∀ (cdv:Gg) (A:Around) (outer:List Env) (s:Gh) (H:Hp) (E:XK),lu k (A.deeper (envOfC qual (gs st) s.heap.objs.size f cdv)) ->
   ∃ g,oN (pK hG P w K mg base N qual (gs st) f cdv A outer s H E).nox (lE st) g/\∀ ds d,fm ds=Ga d->g (on N.length ds)=Ga (.rt d)\/(∃ xs,d=.list xs/\g (on N.length ds)=Ga (.ro xs))) :
  gN P w K mg base hG (k+1) f fd ps (iQ K fm):=by
 refine F.ok S (λvs H Q E h=>?_) (λcdv A outer s H vs Q E hr h=>?_)
 .obtain⟨F0,ds,d,_,r,e,_⟩:=h;rw[<- r.length];exact hlen ds d e
 .obtain⟨F0,ds,d,g0,r,e,q⟩:=h;obtain⟨g,hg,hm⟩:=hb cdv A outer s H E hr;rcases hm ds d e with z|⟨xs,rfl,z⟩
  .exact⟨_,hg,H,F0,_,_,RS.start g0 r,z,λv H' F' g1 f1 fh1 n1 rv=>q v H' F' g1 f1 fh1 n1 rv⟩
  .refine⟨_,hg,H,F0,_,_,RS.start g0 r,z,λa ys H' F' g1 f1 fh1 n1 ha fa ha' rr=>?_⟩;have sF:gq F' (upd F' a (.lst ys)):=gq.new fa;refine q (.ref a) H' (upd F' a (.lst ys)) g1 (f1.trans sF) (λb o h=>?_) (λb o h nb=>?_) (.lst (lr.of gU) (rr.mono sF))
   .exact gq.upL fh1 ha' trivial b o h
   .by_cases hb:b=a
    .subst hb;exact ha
    .rw[gF hb] at h;exact n1 b o h nb
theorem fnO {fm:List D->Option (List D)}(F:sC K x qual st f fd)(S:gB N ps (gs st))(hlen:∀ ds d,fm ds=Ga d->ds.length=ps.length)
  (hb:∀ (cdv:Gg) (A:Around) (outer:List Env) (s:Gh) (H:Hp) (E:XK),lu k (A.deeper (envOfC qual (gs st) s.heap.objs.size f cdv)) ->
   ∃ g,oN (pK hG P w K mg base N qual (gs st) f cdv A outer s H E).nox (lE st) g/\∀ ds d,fm ds=Ga d->g (on N.length ds)=Ga (.ro d)) :
  gN P w K mg base hG (k+1) f fd ps (tq K fm):=by
 refine F.ok S (λvs H Q E h=>?_) (λcdv A outer s H vs Q E hr h=>?_)
 .obtain⟨F0,ds,d,_,r,e,_⟩:=h;rw[<- r.length];exact hlen ds d e
 .obtain⟨F0,ds,d,g0,r,e,q⟩:=h;obtain⟨g,hg,hm⟩:=hb cdv A outer s H E hr;exact⟨_,hg,H,F0,_,_,RS.start g0 r,hm ds d e,λa xs H' F' g1 f1 fh1 n1 ha fa ha' rr=>q a xs H' F' g1 f1 fh1 n1 ha fa ha' rr⟩
end
section
variable {X:Cx}{k:Nat}{f:Gj}{fd:Gi}{ps:List Str}{x:Str}{p pos:Pos}{e:Expr}{es:List Expr}{g:FL}
theorem CS {fm:List D->Option D}(F:gN X.prog X.w X.K X.mg X.base hG k f fd ps (iQ X.K fm))(hr:lu k X.A)(hm:X.mg x=Ga (.ref f))(hk:ue X.K (.ref f)=true)(hb:pN X.K fd ps [])(ha:PL X (e::es) g)(hg:Gl X x:=by rfl)
  (hdb:(x==("__debug__":Str))=false:=by decide) (he:starEach (e::es) X.env=(false,eval e X.env)::starEach es X.env:=by rfl) (hpl:(backTo pos (starEach es X.env)).any (·.1)=false:=by rfl) :
  PV X (.Call (.Name x p) (e::es) [] pos) (λψ=>(g ψ).bind fm):=by
 refine md (yp F hr hg hm hk hb .nil BE ha.pa hdb he hpl) λσ H Q=>?_;rintro⟨H0,F,ψ,d,r,e,q⟩;obtain⟨ds,e1,e2⟩:=gp e;refine⟨H0,F,ψ,ds,r,e1,λvs H1 F1 g1 f1 fh1 n1 rv=>⟨F1,ds,d,fh1,by rw[kg];exact rv,e2,λv H2 F2 g2 f2 fh2 n2 rv2=>?_⟩⟩;exact q v H2 F2 (g1.trans g2) (f1.trans f2) fh2 (n1.trans n2 g1) rv2
theorem sv {fm:List D->Option (List D)}(F:gN X.prog X.w X.K X.mg X.base hG k f fd ps (tq X.K fm))(hr:lu k X.A)(hm:X.mg x=Ga (.ref f))(hk:ue X.K (.ref f)=true)(hb:pN X.K fd ps [])(ha:PL X (e::es) g)(hg:Gl X x:=by rfl)
  (hdb:(x==("__debug__":Str))=false:=by decide) (he:starEach (e::es) X.env=(false,eval e X.env)::starEach es X.env:=by rfl) (hpl:(backTo pos (starEach es X.env)).any (·.1)=false:=by rfl) :
  PO X (.Call (.Name x p) (e::es) [] pos) (λψ=>(g ψ).bind fm):=by
 refine md (yp F hr hg hm hk hb .nil BE ha.pa hdb he hpl) λσ H Q=>?_;rintro⟨H0,F,ψ,d,r,e,q⟩;obtain⟨ds,e1,e2⟩:=gp e;refine⟨H0,F,ψ,ds,r,e1,λvs H1 F1 g1 f1 fh1 n1 rv=>⟨F1,ds,d,fh1,by rw[kg];exact rv,e2,λa xs H2 F2 g2 f2 fh2 n2 ha fa ha' rr=>?_⟩⟩;exact q a xs H2 F2 (g1.trans g2) (f1.trans f2) fh2 (n1.trans n2 g1) (g1.free ha) fa ha' rr
end
def Bs:D->D->Option Bool
 | .none,.none=>Ga true
 | _,.none=>Ga false
 | .bool a,.bool b=>Ga (a==b)
 | _,.bool _=>Ga false
 | _,_=>Gb
def iR (a b:D):Option D:=(Bs a b).bind λk=>Ga (.bool k)
def iY (a b:D):Option D:=(Bs a b).bind λk=>Ga (.bool (!k))
section
variable {X:Cx}{pos:Pos}{a b:Expr}{f g:FV}
theorem OV {K:ja}{F:Hp}{a b:D}{x y:V}{u v:Gg}{k:Bool}(ra:io K F a x)(rb:io K F b y)(rx:ia x u)(ry:ia y v)(e:Bs a b=Ga k):plainIs u v=true/\(u==v)=k:=by
 cases rb<;>first|(cases ra<;>cases e;done)|skip
 .cases ry;cases ra<;>cases e<;>first
   | (cases rx;exact⟨rfl,rfl⟩)
   | (obtain⟨t,rfl⟩:=rx;exact⟨rfl,rfl⟩)
 .rename_i c;cases ry;cases ra<;>cases e<;>first
   | (cases rx;exact⟨rfl,rfl⟩)
   | (cases rx;rename_i b;cases b<;>cases c<;>exact⟨rfl,rfl⟩)
   | (obtain⟨t,rfl⟩:=rx;exact⟨rfl,rfl⟩)
theorem QV:lI X (compareOp .Is) (xa X.K iR):=by
 intro ω s σ H x y v u Q I rx ry h;obtain⟨F,a,b,d,g,ra,rb,e,q⟩:=h;obtain⟨k,e1,e2⟩:=gp e;obtain⟨z1,z2⟩:=OV ra rb rx ry e1;cases e2;exact wpAny_is_plain z1 (by rw[z2];exact⟨.bl k,H,I,rfl,q k rfl⟩)
theorem Wb:lI X (compareOp .IsNot) (xa X.K iY):=by
 intro ω s σ H x y v u Q I rx ry h;obtain⟨F,a,b,d,g,ra,rb,e,q⟩:=h;obtain⟨k,e1,e2⟩:=gp e;obtain⟨z1,z2⟩:=OV ra rb rx ry e1;cases e2;exact wpAny_isNot_plain z1 (by rw[z2];exact⟨.bl (!k),H,I,rfl,q _ rfl⟩)
theorem OS:∀ a b d,iR a b=Ga d->∃ k,d=.bool k:=λa b d h=>by obtain⟨k,_,e⟩:=gp h;cases e;exact⟨_,rfl⟩
theorem Vk:∀ a b d,iY a b=Ga d->∃ k,d=.bool k:=λa b d h=>by obtain⟨k,_,e⟩:=gp h;cases e;exact⟨_,rfl⟩
theorem DA (ha:PV X a f)(hb:PV X b g):PV X (.Compare a [.Is] [b] pos) (λψ=>(f ψ).bind λx=>(g ψ).bind λy=>iR x y):=zu QV (xH OS) ha hb
theorem yj (ha:PV X a f)(hb:PV X b g):PB X (.Compare a [.Is] [b] pos) (λψ=>((f ψ).bind λx=>(g ψ).bind λy=>iR x y).bind ly):=wQ QV (xH OS) ha hb
theorem AC (ha:PV X a f)(hb:PV X b g):PB X (.Compare a [.IsNot] [b] pos) (λψ=>((f ψ).bind λx=>(g ψ).bind λy=>iY x y).bind ly):=wQ Wb (xH Vk) ha hb
def yo (a:D)(xs:List D):Bool:=a.canLay0&&kN xs&&decide (min (kx xs) a.depth<=90)
def zD (a b:D):Option D:=(toS b).bind λxs=>if yo a xs then Ga (.bool (xs.any λy=>kR y a)) else Gb
theorem VW {a:D}{xs:List D}(h:yo a xs=true):a.canLay0=true/\kN xs=true/\min (kx xs) a.depth<=90:=by
 unfold yo at h;simp only[jx,decide_eq_true_eq] at h;exact⟨h.1.1,h.1.2,h.2⟩
theorem zDI (hu:X.A.units+100<cLine):lI X (compareOp .In) (xa X.K zD):=by
 intro ω s σ H x y v u Q I rx ry h;obtain⟨F,a,b,d,g,ra,rb,e,q⟩:=h;obtain⟨xs,e1,e2⟩:=gp e;split at e2
 .rename_i ok;obtain⟨h1,h2,h3⟩:=VW ok;obtain⟨as,ha⟩:=ra.reads I g (Ax h1) rx;obtain⟨bs,hb⟩:=rb.reads I g (by cases b<;>cases e1<;>(rw[pD];exact FE h2)) ry;cases b<;>cases e1
  .exact SeqAt.in_list_reads hb ha h2 h1 (by omega) ⟨.bl _,H,I,rfl,q _ (jD e2).symm⟩
  .exact SeqAt.in_tuple_reads hb ha h2 h1 (by omega) ⟨.bl _,H,I,rfl,q _ (jD e2).symm⟩
 .cases e2
theorem zDJ:∀ a b d,zD a b=Ga d->∃ k,d=.bool k:=λa b d h=>by obtain⟨k,_,e⟩:=gp h;split at e<;>cases e;exact⟨_,rfl⟩
theorem TY (hu:X.A.units+100<cLine)(ha:PV X a f)(hb:PV X b g)(hm:behindInMarks .In b=false:=by first|rfl|with_unfolding_all rfl):PB X (.Compare a [.In] [b] pos) (λψ=>((f ψ).bind λx=>(g ψ).bind λy=>zD x y).bind ly):=wQ (zDI hu) (xH zDJ) ha hb hm
def tW:D->Option D
 | .int i=>Ga (.int (-i))
 | _=>Gb
theorem rN (ha:PV X a f):PV X (.UnaryOp .USub a pos) (λψ=>(f ψ).bind tW):=by
 refine md (Om HA ha) λσ H Q=>?_;rintro⟨H0,F,ψ,d,r,e,q⟩;obtain⟨d',e1,e⟩:=gp e;refine⟨H0,F,ψ,d',r,e1,λv H1 F1 g1 f1 fh1 n1 rv=>?_⟩;cases rv<;>first|(cases e;done)|skip
 cases e;exact⟨_,rfl,q _ H1 F1 g1 f1 fh1 n1 (.int _)⟩
def Bf:D->Option D
 | .int i=>Ga (.int (kM i))
 | _=>Gb
theorem YU:yM X "int.bit_length" (λx xs H Q=>∃ i,x=.int i/\xs=[]/\Q (.int (kM i)) H):=by
 intro ω s σ H x xs v us Q I rx rv h;obtain⟨i,rfl,rfl,q⟩:=h;obtain⟨t,rfl⟩:=rx;cases rv;exact call_int_bit_length ⟨.int _,H,I.tok _,⟨_,rfl⟩,q⟩
theorem zDK {p p2:Pos}(ha:PV X a f)(hbase:attributeBase a "bit_length" X.env (eval a X.env)=eval a X.env:=by rfl)(hline:(p.endLine==p2.line)=true:=by rfl):PV X (.Call (.Attribute a "bit_length" p) [] [] p2) (λψ=>(f ψ).bind Bf):=by
 refine md (Lr PySem.F.plainAttrs_int PySem.F.slot_int_bit_length PySem.F.type_int_bit_length YU ha hbase hline) λσ H Q=>?_;rintro⟨H0,F,ψ,d,r,e,q⟩;obtain⟨d',e1,e⟩:=gp e;refine⟨H0,F,ψ,d',r,e1,λv H1 F1 g1 f1 fh1 n1 rv=>?_⟩;cases rv<;>first|(cases e;done)|skip
 rename_i i;cases e;exact⟨rfl,i,rfl,rfl,q _ H1 F1 g1 f1 fh1 n1 (.int _)⟩
def mR:List D->Option (List Int)
 | []=>Ga []
 | .int i::r=>(mR r).bind λis=>Ga (i::is)
 | _=>Gb
theorem BR:∀ {ds:List D} {is:List Int},mR ds=Ga is->ds=is.map jc
 | [],_,h=>by cases h;rfl
 | .int i::r,is,h=>by
  obtain⟨js,e1,e2⟩:=gp (show(mR r).bind (λis=>Ga (i::is))=Ga is from h);cases e2;rw[BR e1];rfl
 | .none::_,_,h=>by cases h
 | .bool _::_,_,h=>by cases h
 | .str _::_,_,h=>by cases h
 | .list _::_,_,h=>by cases h
 | .tuple _::_,_,h=>by cases h
 | .dict _::_,_,h=>by cases h
theorem gJ.ints_inv {K:ja}{F:Hp}:∀ {is:List Int} {vs:List V},gJ K F (is.map jc) vs->vs=is.map V.int
 | [],_,h=>by cases h;rfl
 | i::is,_,h=>by
  cases h with
  | cons h t=>cases h;rw[gJ.ints_inv t];rfl
theorem QT (is:List Int):∀ n,n<=is.length->preSum (λj=>is.getD j 0) n=(is.take n).sum
 | 0,_=>by simp[preSum]
 | n+1,h=>by
  have hn:n<is.length:=h;unfold preSum;rw[QT is n (uv hn),List.take_succ,jg,ji hn,List.sum_append];simp
theorem VR (hc:X.calm=true):mh X (.builtin "sum") (λxs H Q=>∃ (p:Gj) (is:List Int),xs=[.ref p]/\lr X.K H p (is.map V.int)/\Q (.int is.sum) H):=by
 intro ω s σ H xs us Q I r h;obtain⟨p,is,rfl,hl,q⟩:=h;obtain⟨u,rfl,ru⟩:=vals1 r;cases ru;obtain⟨its,rv,pl,hz⟩:=I.list hl;have hi:IntsAre its is:=sQ rv;have hp:p<s.heap.objs.size:=by obtain⟨o,n,e,_⟩:=pl;exact jm e
 refine call_sum_walkG (wpAny_pyIter_list pl.isList ⟨s.heap.objs.size,[s.heap.objs.size,p],[s.heap.objs.size],_,_,_,λj=>is.getD j 0,rfl,Walks.list (show X.A.in1.handled=Gb from I.ok.hd hc) _ p (jE hp) its.toArray,⟨⟨_,jy _ rfl,rfl,rfl⟩,?_⟩,?_,?_,?_⟩)
 .obtain⟨o,n,e,c,_,d⟩:=pl;exact⟨o,jd _ e,c,n,d⟩
 .intro b hb;simp only[ju,uM,or_false] at hb;rw[vn];rcases hb with rfl|rfl
  .exact k8 _
  .exact vP hp
 .intro i v hv;have hv':its[i]?=Ga v:=by simpa using hv
  have hlen:=hi.length;have:i<its.length:=(jp.mp hv').1;have hk:i<is.length:=by omega
  obtain⟨w',e1,e2⟩:=rv.get (i:=i) (x:=.int is[i]) (by rw[jA,ji hk];rfl);rw[hv'] at e1;cases e1;obtain⟨t,rfl⟩:=e2;exact⟨t,by dsimp only;rw[jg,ji hk];rfl⟩
 .intro h' tk t' hk;have el:its.toArray.size=is.length:=by rw[jo];exact hi.length
  rw[el,QT is _ (jh _),JX];refine⟨.int is.sum,H,I.kept λb o e=>hk b o ?_ (jd _ e),⟨_,rfl⟩,q⟩;intro z;cases jk.mp z;exact absurd (jm e) (j0 _)
theorem VS {p:Pos}{e:Expr}{fl:FL}(hc:X.calm=true)(hg:Gl X "sum")(hm:X.mg "sum"=Gb)(ha:sE X e fl)(hs:starEach [e] X.env=[(false,eval e X.env)]:=by rfl) :
  PV X (.Call (.Name "sum" p) [e] [] pos) (λψ=>(fl ψ).bind λds=>(mR ds).bind λis=>Ga (.int is.sum)):=by
 refine md (ze (VR hc) hg hm boot_sum ha (hs:=hs)) λσ H Q=>?_;rintro⟨H0,F,ψ,d,r,e,q⟩;obtain⟨ds,e1,e⟩:=gp e;obtain⟨is,e2,e⟩:=gp e;cases e;refine⟨H0,F,ψ,ds,r,e1,λp xs H1 F1 g1 f1 fh1 n1 hl rr=>⟨p,is,rfl,?_,q _ H1 F1 g1 f1 fh1 n1 (.int _)⟩⟩;rw[BR e2] at rr;rw[<- rr.ints_inv];exact hl
theorem zDL {x:Str}{v:V}{u:Gg}{d:D}(hm:X.mg x=Ga u)(r:ia v u)(rd:∀ K F,io K F d v)(hg:Gl X x:=by rfl)(hd:(x==("__debug__":Str))=false:=by decide):PV X (.Name x pos) (λ_=>Ga d):=CC (FJ hg hm r hd) rd
theorem Oy {op op':CmpOp}{r r':R2}{k k':D->D->Option D}{c:Expr}{h:FV}(ho:lI X (compareOp op) r)(ho':lI X (compareOp op') r')(hr:sB X.K r k)(hr':sB X.K r' k')(ha:PV X a f)(hb:PV X b g)(hc:PV X c h)
  (hm:lastMarks [op,op'] [b,c]=false:=by with_unfolding_all rfl) :
  PV X (.Compare a [op,op'] [b,c] pos) (λψ=>(f ψ).bind λx=>(g ψ).bind λy=>((k x y).bind ly).bind λt=>if t then(h ψ).bind λz=>k' y z else Ga (.bool false)):=by
 refine md (Dl ho ho' ha hb hc hm) λσ H Q=>?_;rintro⟨H0,F,ψ,d,rs,e,q⟩;obtain⟨x,e1,e⟩:=gp e;obtain⟨y,e2,e⟩:=gp e;obtain⟨t,e3,e⟩:=gp e;obtain⟨d1,e4,e5⟩:=gp e3;cases Aj e5;refine⟨H0,F,ψ,x,rs,e1,λv H1 F1 g1 f1 fh1 n1 rv=>⟨H0,F1,ψ,y,rs.grow g1 f1 fh1 n1,e2,λu H2 F2 g2 f2 fh2 n2 ru=>?_⟩⟩;refine hr F2 H2 v u x y _ _ fh2 (rv.mono f2) ru e4 λw H3 F3 g3 f3 fh3 n3 rw3=>?_;cases rw3;refine⟨t,rfl,?_⟩;have gg:gq H H3:=(g1.trans g2).trans g3;have ff:gq F F3:=(f1.trans f2).trans f3;have nn:iO F F3 H:=(n1.trans n2 g1).trans n3 (g1.trans g2);cases t with
 | true =>
  obtain⟨z,e6,e7⟩:=gp (show(h ψ).bind (λz=>k' y z)=Ga d from e);refine sj ⟨H0,F3,ψ,z,rs.grow gg ff fh3 nn,e6,λw4 H4 F4 g4 f4 fh4 n4 rw4=>?_⟩;refine hr' F4 H4 u w4 y z d Q fh4 ((ru.mono f3).mono f4) rw4 e7 λw5 H5 F5 g5 f5 fh5 n5 rw5=>?_;exact q w5 H5 F5 ((gg.trans g4).trans g5) ((ff.trans f4).trans f5) fh5 ((nn.trans n4 gg).trans n5 (gg.trans g4)) rw5
 | false=>cases e;exact rY (q _ H3 F3 gg ff fh3 nn (.bl false))
end
section
variable {prog:Program}{w:World}{A:Around}{E:Gg->Gh->Prop}{s:Gh}
variable {z ti tp i1 i2:Gj}{I1 I2:Nat->Heap->Prop}{k1 k2:Heap->Prop}{xs ys:List Gg}{i:Nat}
end
def Kr (t:Bool)(K:ja)(H:Hp)(a:Gj)(xs:List V):Prop:=if t then mV K H a xs else lr K H a xs
def HI (t:Bool)(h:Heap)(a:Gj)(its:List Gg):Prop:=if t then h.IsTuple a its.toArray else h.IsList a its.toArray
theorem HI.at {t:Bool}{h h':Heap}{a:Gj}{its:List Gg}(x:HI t h a its)(k:∀ o,h.get? a=Ga o->h'.get? a=Ga o):HI t h' a its:=by
 cases t with
 | true=>obtain⟨o,e,r⟩:=(x:h.IsTuple a its.toArray);exact(⟨o,k o e,r⟩:h'.IsTuple a its.toArray)
 | false=>exact Heap.IsList.at (x:h.IsList a its.toArray) k
theorem Kr.same {t:Bool}{K:ja}{H H':Hp}{a:Gj}{xs:List V}(g:gq H H')(h:Kr t K H a xs):Kr t K H' a xs:=by
 cases t with
 | true=>exact nq g h
 | false=>exact g.seq h
section
variable {X:Cx}{ω:List (Gj×Obj)}{σ:St}{H:Hp}{s:Gh}
end
section
variable {X:Cx}{pos:Pos}
end
abbrev iu (d:D):FV:=λ_=>Ga d
abbrev gL (op:D->D->Option D)(f g:FV):FV:=λψ=>(f ψ).bind λx=>(g ψ).bind λy=>op x y
abbrev un (op:D->Option D)(f:FV):FV:=λψ=>(f ψ).bind op
abbrev sn (op:List D->Option D)(f:FL):FV:=λψ=>(f ψ).bind op
abbrev nz (f:FV):FB:=λψ=>(f ψ).bind An
abbrev iJ (op:D->D->Option D)(f g:FV):FB:=λψ=>((f ψ).bind λx=>(g ψ).bind λy=>op x y).bind ly
abbrev rK (f:FB):FB:=λψ=>(f ψ).bind λc=>Ga (!c)
abbrev Uq (f g:FB):FB:=λψ=>(f ψ).bind λc=>if c then g ψ else Ga false
abbrev tU (f g:FB):FB:=λψ=>(f ψ).bind λc=>if c then Ga true else g ψ
abbrev zI (f g:FV):FV:=λψ=>((f ψ).bind ly).bind λc=>if c then g ψ else Ga (.bool false)
abbrev FH (f g:FV):FV:=λψ=>((f ψ).bind ly).bind λc=>if c then Ga (.bool true) else g ψ
abbrev Mf (f:FV):FV:=λψ=>((f ψ).bind ly).bind λc=>Ga (.bool (!c))
abbrev wD (c:FB)(f g:FV):FV:=λψ=>(c ψ).bind λk=>if k then f ψ else g ψ
abbrev zt (k k':D->D->Option D)(f g h:FV):FV:=λψ=>(f ψ).bind λx=>(g ψ).bind λy=>((k x y).bind ly).bind λt=>if t then(h ψ).bind λz=>k' y z else Ga (.bool false)
abbrev ig:FL:=λ_=>Ga []
abbrev gu (f:FV)(g:FL):FL:=λψ=>(f ψ).bind λd=>(g ψ).bind λds=>Ga (d::ds)
abbrev pV (g:FL):FV:=λψ=>(g ψ).bind λds=>Ga (.tuple ds)
abbrev mm (g:FL):FV:=λψ=>(g ψ).bind λds=>Ga (.list ds)
abbrev gG (fm:List D->Option D)(g:FL):FV:=λψ=>(g ψ).bind fm
abbrev ou (fm:List D->Option (List D))(g:FL):FL:=λψ=>(g ψ).bind fm
abbrev xR (f:FV):FL:=λψ=>(f ψ).bind wO
abbrev Xc (f:FV):FL:=λψ=>(f ψ).bind xW
abbrev nw (f:FV):FL:=λψ=>(f ψ).bind toS
abbrev my (op:D->Option (List D))(f:FV):FL:=λψ=>(f ψ).bind op
abbrev yw (op:D->D->Option (List D))(f g:FV):FL:=λψ=>(f ψ).bind λx=>(g ψ).bind λy=>op x y
def wZ (ds:List D):Option D:=(mR ds).bind λis=>Ga (.int is.sum)
def sk (T:String)(d:D):Option D:=Ga (.bool (Fu T d))
def oH (xs:List D):Option D:=Ga (.tuple xs)
abbrev mW:FS:=λψ=>Ga (.nx ψ)
abbrev gX (g k:FS):FS:=λψ=>mf (g ψ) k
abbrev iM (f:FV):FS:=λψ=>(f ψ).bind λd=>Ga (.rt d)
abbrev wR (f:FL):FS:=λψ=>(f ψ).bind λd=>Ga (.ro d)
abbrev mM (c:FB)(g k:FS):FS:=λψ=>(c (frz ψ)).bind λt=>if t then g ψ else k ψ
abbrev ir (i:Nat)(f:FV):FS:=λψ=>(f ψ).bind λd=>Ga (.nx (ψ.set i (.val d)))
abbrev si (i:Nat)(f:FL):FS:=λψ=>(f ψ).bind λd=>Ga (.nx (ψ.set i (.own d)))
abbrev zK (i:Nat)(g:FS):FS:=λψ=>(g ψ).bind λo=>Ga (zp i o)
abbrev TM (i:Nat)(g:FS):FS:=λψ=>g (frzAt i ψ)
abbrev yb (i:Nat)(f:FV):FS:=λψ=>(go i ψ).bind λds=>(f ψ).bind λd=>if ds.length<1000000 then Ga (.nx (ψ.set i (.own (ds++[d])))) else Gb
abbrev nl (f:FL)(t:FT)(g:FS):FS:=λψ=>(f ψ).bind λds=>iP t g ds ψ
abbrev ahm (f:FV)(t:FT):FS:=λψ=>(f ψ).bind λd=>(t d ψ).bind λenv1=>Ga (.nx env1)
abbrev mD (i:Nat):FT:=λd ψ=>Ga (ψ.set i (.val d))
abbrev sq:=List D->En->Option En
abbrev Bu:sq:=λds ψ=>match ds with|[]=>Ga ψ|_=>Gb
abbrev tY (t:FT)(u:sq):sq:=λds ψ=>match ds with|d::r=>(t d ψ).bind λenv1=>u r env1|[]=>Gb
abbrev KI (u:sq):FT:=λd ψ=>(xW d).bind λds=>u ds ψ
section
variable {X:Cx}{pos:Pos}
structure Eo (X:Cx)(es:List Expr)(t:sq):Prop where
 p:Ac X es t
 len:∀ ds ψ env',t ds ψ=Ga env'->ds.length=es.length
theorem DX:Eo X [] Bu:=⟨zDF,λds ψ env' h=>by cases ds with|nil=>rfl|cons _ _=>cases h⟩
theorem wM {e:Expr}{es:List Expr}{t:FT}{u:sq}(h1:wK X e t)(h2:Eo X es u)(hs:(assignEach (e::es) X.env).map (·.2)=assign e X.env::(assignEach es X.env).map (·.2):=by rfl):Eo X (e::es) (tY t u) :=
 ⟨zBO h1 h2.p hs,λds ψ env' h=>by
  cases ds with
  | nil=>cases h
  | cons d r =>
   obtain⟨e1,_,x2⟩:=gp (show(t d ψ).bind (λenv1=>u r env1)=Ga env' from h);exact congrArg qC (h2.len r e1 env' x2)⟩
theorem Ez {es:List Expr}{k:Nat}{t:sq}(hc:X.calm=true)(h:Eo X es t)(hn:(assignEach es X.env).length=es.length:=by rfl)(hst:(assignEach es X.env).findIdx? (·.1)=Gb:=by rfl):wK X (.Tuple es k pos) (KI t):=zFR hc h.p h.len hn hst
theorem mJ (i:Nat){x:Str}(hN:X.N.Nodup)(hi:X.N[i]?=Ga x:=by rfl)(hx:wB X.env.scope x:=by first|exact k9 rfl|exact kK rfl)(hf:X.fn x=true\/X.env.scope.names.lookup x=Ga .local:=by first|exact .inl rfl|exact .inr rfl):wK X (.Name x pos) (mD i):=HU i hN hi hx hf
theorem Wu {p:Pos}{e:Expr}{fl:FL}(hc:X.calm=true)(hg:Gl X "sum")(hm:X.mg "sum"=Gb)(ha:sE X e fl)(hs:starEach [e] X.env=[(false,eval e X.env)]:=by rfl):PV X (.Call (.Name "sum" p) [e] [] pos) (sn wZ fl):=VS hc hg hm ha hs
end
structure Fn (K:ja)(mg:Str->Option Gg)(x:Str)(st:Stmt)(ps:List Str)(a:Gj)(fd:Gi):Prop where
 F:sC K x x st a fd
 b:pN K fd ps []
 m:mg x=Ga (.ref a)
theorem zFT {K:ja}{mg:Str->Option Gg}{h:Heap}{x:Str}{st:Stmt}{ps:List Str}{f:Gj}{oc:Gg}{od an:Option Gj}{osl:Array (Option Gg)}{kV doc pm cdv ct:Gg}(X:K.In h)(G:h.Ns mainGlobals mg)
  (a:kb K mainGlobals x=Ga (Ga (.ref f))) (l:K.lookup f=Ga ⟨oc,od,.func (kW x x (nD st) (lE st) (gs st) .none kV doc pm an cdv ct),osl⟩) (c:vN K cdv x=true) (k:ue K (.ref f)=true)
  (hb:∀ (kV doc pm:Gg) (an:Option Gj) (cdv ct:Gg) (us:List Gg),us.length=ps.length->bindArgs (kW x x (nD st) (lE st) (gs st) .none kV doc pm an cdv ct) ⟨us,[]⟩=pure (ps.zip us)) :
  Fn K mg x st ps f (kW x x (nD st) (lE st) (gs st) .none kV doc pm an cdv ct):=by
 have F:=KC (st:=st) l c k;exact⟨F,F.binds hb,vY X G a⟩
theorem mj {k:Nat}{A:Around}(r:lu k A):A.units+100<cLine:=by have:=r.un;omega
noncomputable def gO:Option sA->Option D
 | some (.rt d)=>Ga d
 | some (.ro xs)=>Ga (.list xs)
 | _=>Gb
noncomputable def rH:Option sA->Option (List D)
 | some (.ro xs)=>Ga xs
 | _=>Gb
def ik (np n:Nat)(g:FS)(ds:List D):Option D:=if ds.length=np then gO (g (on n ds)) else Gb
def wY (np n:Nat)(g:FS)(ds:List D):Option (List D):=if ds.length=np then rH (g (on n ds)) else Gb
section
variable {P:Program}{w:World}{K:ja}{mg:Str->Option Gg}{base:Heap}{x qual:Str}{st:Stmt}{f:Gj}{fd:Gi}{N ps:List Str}{k:Nat}{g:FS}
theorem iZ (F:sC K x qual st f fd)(S:gB N ps (gs st))
  (hb:∀ (cdv:Gg) (A:Around) (outer:List Env) (s:Gh) (H:Hp) (E:XK),lu k (A.deeper (envOfC qual (gs st) s.heap.objs.size f cdv))->oN (pK hG P w K mg base N qual (gs st) f cdv A outer s H E).nox (lE st) g) :
  gN P w K mg base hG (k+1) f fd ps (iQ K (ik ps.length N.length g)):=by
 refine fnV F S (λds d h=>?_) (λcdv A outer s H E hr=>⟨g,hb cdv A outer s H E hr,λds d h=>?_⟩)
 .unfold ik at h;split at h
  .assumption
  .cases h
 .unfold ik at h;split at h
  .unfold gO at h;split at h
   .rename_i e;cases h;exact .inl e
   .rename_i e;cases h;exact .inr ⟨_,rfl,e⟩
   .cases h
  .cases h
theorem EL (F:sC K x qual st f fd)(S:gB N ps (gs st))
  (hb:∀ (cdv:Gg) (A:Around) (outer:List Env) (s:Gh) (H:Hp) (E:XK),lu k (A.deeper (envOfC qual (gs st) s.heap.objs.size f cdv))->oN (pK hG P w K mg base N qual (gs st) f cdv A outer s H E).nox (lE st) g) :
  gN P w K mg base hG (k+1) f fd ps (tq K (wY ps.length N.length g)):=by
 refine fnO F S (λds d h=>?_) (λcdv A outer s H E hr=>⟨g,hb cdv A outer s H E hr,λds d h=>?_⟩)
 .unfold wY at h;split at h
  .assumption
  .cases h
 .unfold wY at h;split at h
  .unfold rH at h;split at h
   .rename_i e;cases h;exact e
   .cases h
  .cases h
end
theorem zGA {K:ja}{fm:List D->Option D}{H:Hp}{a:Gj}{ns:List Int}(hS:lr K H a (ns.map V.int))(h:fm [.list (ns.map jc)]=Ga (.bool true)):iQ K fm [.ref a] H (λv _=>v=.bl true) λ_ _ _=>False :=
 ⟨H,[.list (ns.map jc)],.bool true,.refl _,.cons (.lst hS (gJ.ints ns)) .nil,h,λv H' F' _ _ _ _ r=>by cases r;rfl⟩
theorem Sn (d:List D):rH (Ga (.ro d))=Ga d:=rfl
theorem ni {g k:FS}{ψ e:En}(h:g ψ=Ga (.nx e)):gX g k ψ=k e:=by show mf (g ψ) k=_;rw[h];rfl
theorem Ak {g k:FS}{ψ:En}{d:D}(h:g ψ=Ga (.rt d)):gX g k ψ=Ga (.rt d):=by show mf (g ψ) k=_;rw[h];rfl
theorem vv {c:FB}{g k:FS}{ψ:En}(h:c (frz ψ)=Ga true):mM c g k ψ=g ψ:=by show(c (frz ψ)).bind _=_;rw[h];rfl
theorem sL {c:FB}{g k:FS}{ψ:En}(h:c (frz ψ)=Ga false):mM c g k ψ=k ψ:=by show(c (frz ψ)).bind _=_;rw[h];rfl
theorem oz {f:FV}{ψ:En}{d:D}(h:f ψ=Ga d):iM f ψ=Ga (.rt d):=by show(f ψ).bind _=_;rw[h];rfl
theorem QF {f:FL}{ψ:En}{d:List D}(h:f ψ=Ga d):wR f ψ=Ga (.ro d):=by show(f ψ).bind _=_;rw[h];rfl
theorem xI {i:Nat}{f:FV}{ψ:En}{d:D}(h:f ψ=Ga d):ir i f ψ=Ga (.nx (ψ.set i (.val d))):=by show(f ψ).bind _=_;rw[h];rfl
theorem zFU {i:Nat}{f:FL}{ψ:En}{d:List D}(h:f ψ=Ga d):si i f ψ=Ga (.nx (ψ.set i (.own d))):=by show(f ψ).bind _=_;rw[h];rfl
theorem zFV {i:Nat}{g:FS}{ψ e:En}(h:g ψ=Ga (.nx e)):zK i g ψ=Ga (.nx (frzAt i e)):=by show(g ψ).bind _=_;rw[h];rfl
theorem oV {op:D->D->Option D}{f g:FV}{ψ:En}{a b:D}(h1:f ψ=Ga a)(h2:g ψ=Ga b):gL op f g ψ=op a b:=by show(f ψ).bind _=_;rw[h1];show(g ψ).bind _=_;rw[h2];rfl
theorem tB {op:D->Option D}{f:FV}{ψ:En}{a:D}(h1:f ψ=Ga a):un op f ψ=op a:=by show(f ψ).bind _=_;rw[h1];rfl
theorem IW {op:List D->Option D}{f:FL}{ψ:En}{a:List D}(h1:f ψ=Ga a):sn op f ψ=op a:=by show(f ψ).bind _=_;rw[h1];rfl
theorem mq {fm:List D->Option D}{g:FL}{ψ:En}{ds:List D}(h:g ψ=Ga ds):gG fm g ψ=fm ds:=by show(g ψ).bind _=_;rw[h];rfl
theorem Hq {fm:List D->Option (List D)}{g:FL}{ψ:En}{ds:List D}(h:g ψ=Ga ds):ou fm g ψ=fm ds:=by show(g ψ).bind _=_;rw[h];rfl
theorem yT {f:FV}{g:FL}{ψ:En}{d:D}{ds:List D}(h1:f ψ=Ga d)(h2:g ψ=Ga ds):gu f g ψ=Ga (d::ds):=by show(f ψ).bind _=_;rw[h1];show(g ψ).bind _=_;rw[h2];rfl
theorem wH {g:FL}{ψ:En}{ds:List D}(h:g ψ=Ga ds):mm g ψ=Ga (.list ds):=by show(g ψ).bind _=_;rw[h];rfl
theorem ZJ {g:FL}{ψ:En}{ds:List D}(h:g ψ=Ga ds):pV g ψ=Ga (.tuple ds):=by show(g ψ).bind _=_;rw[h];rfl
theorem NB {f:FV}{ψ:En}{ds:List D}(h:f ψ=Ga (.list ds)):xR f ψ=Ga ds:=by show(f ψ).bind _=_;rw[h];rfl
theorem zFX {f:FV}{ψ:En}{d:D}{ds:List D}(h:f ψ=Ga d)(h2:toS d=Ga ds):nw f ψ=Ga ds:=by show(f ψ).bind _=_;rw[h];exact h2
theorem wP {op:D->Option (List D)}{f:FV}{ψ:En}{a:D}(h1:f ψ=Ga a):my op f ψ=op a:=by show(f ψ).bind _=_;rw[h1];rfl
theorem Xp {op:D->D->Option (List D)}{f g:FV}{ψ:En}{a b:D}(h1:f ψ=Ga a)(h2:g ψ=Ga b):yw op f g ψ=op a b:=by show(f ψ).bind _=_;rw[h1];show(g ψ).bind _=_;rw[h2];rfl
theorem yF {f:FL}{t:FT}{g:FS}{ψ:En}{ds:List D}(h:f ψ=Ga ds):nl f t g ψ=iP t g ds ψ:=by show(f ψ).bind _=_;rw[h];rfl
theorem yD {f:FV}{ψ:En}{d:D}{b:Bool}(h:f ψ=Ga d)(h2:An d=Ga b):nz f ψ=Ga b:=by show(f ψ).bind _=_;rw[h];exact h2
theorem rR {op:D->D->Option D}{f g:FV}{ψ:En}{x y:D}{b:Bool}(h1:f ψ=Ga x)(h2:g ψ=Ga y)(h3:op x y=Ga (.bool b)):iJ op f g ψ=Ga b:=by
 show((f ψ).bind _).bind _=_;rw[h1];show((g ψ).bind _).bind _=_;rw[h2];show(op x y).bind _=_;rw[h3];rfl
theorem Ik {f:FB}{ψ:En}{b:Bool}(h:f ψ=Ga b):rK f ψ=Ga (!b):=by show(f ψ).bind _=_;rw[h];rfl
theorem Dq {f g:FB}{ψ:En}(h:f ψ=Ga true):tU f g ψ=Ga true:=by show(f ψ).bind _=_;rw[h];rfl
theorem yv {f g:FB}{ψ:En}(h:f ψ=Ga false):tU f g ψ=g ψ:=by show(f ψ).bind _=_;rw[h];rfl
theorem zFZ {i:Nat}{f:FV}{ψ:En}{ds:List D}{d:D}(h1:go i ψ=Ga ds)(h2:f ψ=Ga d)(hz:ds.length<1000000):yb i f ψ=Ga (.nx (ψ.set i (.own (ds++[d])))):=by
 show(go i ψ).bind _=_;rw[h1];show(f ψ).bind _=_;rw[h2];exact Ge hz
theorem wm {fi:FL}{fc:FB}{fe:FV}{ix:List Nat}{ψ:En}{ds:List D}(h:fi ψ=Ga ds)(hz:ds.length<=1000000):ip fi fc fe ix ψ=lc fc fe (nu ix ψ) ds:=by
 show(fi ψ).bind _=_;rw[h];exact Ge hz
theorem zP {fe:FV}{base:En}{F:D->D}:∀ {ds:List D},(∀ d∈ds,fe (.val d::base)=Ga (F d))->lc (λ_=>Ga true) fe base ds=Ga (ds.map F)
 | [],_=>rfl
 | x::r,h=>by
  unfold lc;rw[jn,Ge rfl,h x jf,jn,zP λd hd=>h d (jj _ hd)];rfl
theorem Ay {fc:FB}{fe:FV}{base:En}{p:D->Bool}{F:D->D}:∀ {ds:List D},(∀ d∈ds,fc (.val d::base)=Ga (p d))->(∀ d∈ds,p d=true->fe (.val d::base)=Ga (F d))->lc fc fe base ds=Ga ((ds.filter p).map F)
 | [],_,_=>rfl
 | x::r,h1,h2=>by
  have ih:=Ay (fc:=fc) (fe:=fe) (base:=base) (p:=p) (F:=F) (ds:=r) (λd hd=>h1 d (jj _ hd)) (λd hd=>h2 d (jj _ hd));unfold lc;rw[h1 x jf,jn];cases hp:p x with
  | true=>rw[Ge rfl,h2 x jf hp,jn,ih,jH hp];rfl
  | false=>rw[Gf jq,ih,jQ (by rw[hp];exact jq)]
theorem GL (a b:Int):kR (.int a) (.int b)=(a==b):=by simp only[kR]
theorem NE (a b:Int):lL (.int a) (.int b)=Ga (.bool (!(a==b))):=by
 unfold lL;have:wn (.int a) (.int b)=true:=rfl;rw[Ge this,GL]
theorem sU (a b:Int):iT (.int a) (.int b)=Ga (.bool (a==b)):=by
 unfold iT;have:wn (.int a) (.int b)=true:=rfl;rw[Ge this,GL]
theorem RY {d:D}(h:d.canLay0=true)(hd:d.depth<=100):lL d d=Ga (.bool false):=by
 unfold lL;have:wn d d=true:=by unfold wn;rw[h,Nat.min_self,Gc hd];rfl
 rw[Ge this,SeqAt.eqv_refl d h];rfl
theorem Cb:∀ {xs:List D},(∀ x∈xs,x.canLay0=true)->kN xs=true
 | [],_=>rfl
 | y::r,h=>by rw[kN,h y jf,Cb λx hx=>h x (jj _ hx)];rfl
theorem BW {n:Nat}:∀ {xs:List D},(∀ x∈xs,x.depth<=n)->kx xs<=n
 | [],_=>jO _
 | y::r,h=>by rw[kx];exact Nat.max_le.mpr ⟨h y jf,BW λx hx=>h x (jj _ hx)⟩
theorem Wn (ns:List Int):kN (ns.map jc)=true:=Cb λx hx=>by obtain⟨n,_,rfl⟩:=jv.mp hx;rfl
theorem zt8 (ns:List Int):kx (ns.map jc)<=0:=BW λx hx=>by obtain⟨n,_,rfl⟩:=jv.mp hx;exact jh _
theorem zy7 (a:Int)(ns:List Int):zD (.int a) (.list (ns.map jc))=Ga (.bool (ns.contains a)):=by
 have h0:=zt8 ns;have ok:yo (.int a) (ns.map jc)=true:=by
  unfold yo;rw[Wn];have:min (kx (ns.map jc)) (PyData.depth (.int a))<=90:=by omega
  rw[Gc this];rfl
 show(if yo (.int a) (ns.map jc)=true then Ga (j8 ((ns.map jc).any λy=>kR y (.int a))) else Gb)=_;rw[Ge ok,List.any_map]
 congr 2
 rw[List.contains_eq_any_beq]
 congr 1
 funext x
 show kR (.int x) (.int a)=(a==x);rw[GL];rw[jS,beq_iff_eq,beq_iff_eq];exact eq_comm
def pM {α:Type}(lt:Nat->Nat->Option Bool):qP α->Option α
 | .ret a=>Ga a
 | .ask i j k=>(lt i j).bind λb=>pM lt (k b)
theorem SA {α:Type}{lt:Nat->Nat->Option Bool}{cmp:Nat->Nat->(Bool->Gh->Prop)->Gh->Prop}{s:Gh}(hc:∀ i j b C,lt i j=Ga b->C b s->cmp i j C s){G:α->Gh->Prop} :
  ∀ {t:qP α} {a:α},pM lt t=Ga a->G a s->t.kasWp cmp G s
 | .ret x,a,e,g=>by cases e;exact g
 | .ask i j k,a,e,g=>by
  obtain⟨b,e1,e2⟩:=gp (show(lt i j).bind (λb=>pM lt (k b))=Ga a from e);exact hc i j b _ e1 (SA hc e2 g)
section
variable {prog:Program}{w:World}{A:Around}{E:Gg->Gh->Prop}{s:Gh}{vs:List Gg}
theorem RX {a:Gj}{n:Nat}{P:JY->Gh->Prop}{lt:Nat->Nat->Option Bool}{p:Array Nat}(ho:s.heap.get? a=Ga (seqObj "list" vs.toArray n))(h2:2<=vs.length)(h64:vs.length<64)
  (hp:pM lt (uy vs.length)=Ga p)
  (hk:∀ s1:Gh,(∀ b o,b≠a->s.heap.get? b=Ga o->s1.heap.get? b=Ga o)->∃ κ,(∀ Q:SortKind->Gh->Prop,Q κ s1->wpAny (model prog w) A (keyKind' vs.toArray) Q (λ_ _=>False) s1) /\
   ∀ i j b (C:Bool->Gh->Prop),lt i j=Ga b->C b s1->v7 prog w A κ vs i j C s1)
  (h:∀ h' c,(∀ b o,b≠a->s.heap.get? b=Ga o->h'.get? b=Ga o)->h'.get? a=Ga (seqObj "list" (vQ (p.toList.map λi=>vs.getD i km)) c)->P (.done (.ret .none)) { s with heap:=h' }) :
  wpAny (model prog w) A (Builtin.«list.sort» ⟨[.ref a],[]⟩) P E s:=by
 have s1:=ur s.heap a (ki λ_=>(#[]:Array Gg));obtain⟨e1,ho1⟩:∃ e1,(s.heap.update a (ki λ_=>(#[]:Array Gg))).get? a=Ga (seqObj "list" #[] e1):=⟨_,get?_update_seq ho λ_=>#[]⟩;generalize hh1:s.heap.update a (ki λ_=>(#[]:Array Gg))=h1 at s1 ho1;have sl:vs.length<=sizeLine:=by rw[sizeLine_eq];omega
 rw[list_sort_plain];refine gk (listItems_at ho rfl (gk (listUpdate_at ho rfl ?_ (by rw[jo];exact sl) (jO _))));rw[hh1];refine gk (seqEpoch_at ho1 rfl (gk (wpAny_newTuple (gk (wpAny_newList (wpAny_holding ?_) (jO _))) sl)));generalize hh3:(h1.push { cls:=.type "tuple",data:=.seq vs.toArray }).push { cls:=.type "list",data:=.seq ([]:List Gg).toArray }=h3;have k3:∀ b o,h1.get? b=Ga o->h3.get? b=Ga o:=λb o e=>by rw[<- hh3];exact jd _ (jd _ e)
 have keep:∀ b o,b≠a->s.heap.get? b=Ga o->h3.get? b=Ga o:=λb o nb e=>k3 b o (s1.extBut b o nb e);dsimp only;have n2:¬vs.toArray.size<2:=by rw[jo];omega
 rw[Gf n2,Gf n2];obtain⟨κ,hkind,hask⟩:=hk { s with heap:=h3 } keep;refine gk (wpAny_mono (hkind (λκ' s'=>κ'=κ/\s'={ s with heap:=h3 }) ⟨rfl,rfl⟩) (λκ' s' ⟨x1,x2⟩=>?_) λ_ _ z=>z.elim);subst x1 x2;refine gk (wpAny_mono (PySem.W.kat_run (Q:=λst' s'=>arrOf st'=p.map (PySem.W.kas_item (vs.toArray.zip vs.toArray))/\failedOf st'=Gb/\p.size=vs.length/\s'={ s with heap:=h3 }) (G:=λp' s'=>p'=p/\s'={ s with heap:=h3 })
  rfl h2 h64 (λp' st' s' a1 a2 a3 a4=>⟨by rw[<- a4.1];exact a2,a3,by rw[<- a4.1];exact a1,a4.2⟩) (SA (λi j b C e c=>hask i j b C e c) hp ⟨rfl,rfl⟩)) ?_ λ_ _ e=>e)
 rintro⟨⟨⟩,st'⟩ s' ⟨har,hf,hsz,rfl⟩;dsimp only;rw[PySem.W.kat_snds rfl har];have ho3:h3.get? a=Ga (seqObj "list" #[] e1):=k3 _ _ ho1;have hz:(vQ (p.toList.map λi=>vs.getD i km)).size<=sizeLine:=by rw[jo,jb,kw,hsz];exact sl
 refine gk (seqEpoch_at (s:={ s with heap:=h3 }) ho3 rfl (gk (listUpdate_at (s:={ s with heap:=h3 }) ho3 rfl ?_ (jO _) (JL hz))));rw[hf];simp only[bne_self_eq_false,kH,if_false];have s4:=ur h3 a (ki λ_=>vQ (p.toList.map λi=>vs.getD i km));obtain⟨c,hc⟩:∃ c,(h3.update a (ki λ_=>vQ (p.toList.map λi=>vs.getD i km))).get? a=Ga (seqObj "list" (vQ (p.toList.map λi=>vs.getD i km)) c):=⟨_,get?_update_seq ho3 λ_=>_⟩;exact gm (h _ c (λb o nb e=>s4.extBut b o nb (keep b o nb e)) hc)
theorem SV {a:Gj}{n:Nat}{P:JY->Gh->Prop}(ho:s.heap.get? a=Ga (seqObj "list" vs.toArray n))(h2:vs.length<2)
  (h:∀ h' c,(∀ b o,b≠a->s.heap.get? b=Ga o->h'.get? b=Ga o)->h'.get? a=Ga (seqObj "list" vs.toArray c)->P (.done (.ret .none)) { s with heap:=h' }) :
  wpAny (model prog w) A (Builtin.«list.sort» ⟨[.ref a],[]⟩) P E s:=by
 have s1:=ur s.heap a (ki λ_=>(#[]:Array Gg));obtain⟨e1,ho1⟩:∃ e1,(s.heap.update a (ki λ_=>(#[]:Array Gg))).get? a=Ga (seqObj "list" #[] e1):=⟨_,get?_update_seq ho λ_=>#[]⟩;generalize hh1:s.heap.update a (ki λ_=>(#[]:Array Gg))=h1 at s1 ho1;have sl:vs.length<=sizeLine:=by rw[sizeLine_eq];omega
 rw[list_sort_plain];refine gk (listItems_at ho rfl (gk (listUpdate_at ho rfl ?_ (by rw[jo];exact sl) (jO _))));rw[hh1];refine gk (seqEpoch_at ho1 rfl (gk (wpAny_newTuple (gk (wpAny_newList (wpAny_holding ?_) (jO _))) sl)));generalize hh3:(h1.push { cls:=.type "tuple",data:=.seq vs.toArray }).push { cls:=.type "list",data:=.seq ([]:List Gg).toArray }=h3;have k3:∀ b o,h1.get? b=Ga o->h3.get? b=Ga o:=λb o e=>by rw[<- hh3];exact jd _ (jd _ e)
 have keep:∀ b o,b≠a->s.heap.get? b=Ga o->h3.get? b=Ga o:=λb o nb e=>k3 b o (s1.extBut b o nb e);dsimp only;have n2:vs.toArray.size<2:=by rw[jo];omega
 rw[Ge n2,Ge n2];refine gk (gm ?_);rw[StateT.run_pure];refine gk (gm ?_);dsimp only;have hout:(arrOf (SortSt.mk' general' (vs.toArray.zip vs.toArray) #[] 7 Gb)).map (·.2)=vs.toArray:=by
  show(vs.toArray.zip vs.toArray).map (·.2)=vs.toArray;apply Array.toList_inj.mp;rw[Array.toList_map,Array.toList_zip];exact List.map_snd_zip (jh _)
 rw[hout];have ho3:h3.get? a=Ga (seqObj "list" #[] e1):=k3 _ _ ho1;refine gk (seqEpoch_at (s:={ s with heap:=h3 }) ho3 rfl (gk (listUpdate_at (s:={ s with heap:=h3 }) ho3 rfl ?_ (jO _) (JL (by rw[jo];exact sl)))));simp only[bne_self_eq_false,kH,if_false];have s4:=ur h3 a (ki λ_=>vs.toArray);obtain⟨c,hc⟩:∃ c,(h3.update a (ki λ_=>vs.toArray)).get? a=Ga (seqObj "list" vs.toArray c):=⟨_,get?_update_seq ho3 λ_=>_⟩;exact gm (h _ c (λb o nb e=>s4.extBut b o nb (keep b o nb e)) hc)
theorem Pi {l:Gj}{out:List Gg}{Q:Gg->Gh->Prop}(hl:s.heap.IsList l vs.toArray)(hz:vs.length<64)
  (hs:∀ (s1:Gh) (n:Nat) (P:JY->Gh->Prop) (E':Gg->Gh->Prop),(∀ b o,s.heap.get? b=Ga o->s1.heap.get? b=Ga o)->s1.heap.get? (s.heap.objs.size+1)=Ga (seqObj "list" vs.toArray n) ->
   (∀ h' c,(∀ b o,b≠s.heap.objs.size+1->s1.heap.get? b=Ga o->h'.get? b=Ga o)->h'.get? (s.heap.objs.size+1)=Ga (seqObj "list" out.toArray c)->P (.done (.ret .none)) { s1 with heap:=h' }) ->
   wpAny (model prog w) A.in1.in1 (Builtin.«list.sort» ⟨[.ref (s.heap.objs.size+1)],[]⟩) P E' s1)
  (h:∀ h' c,(∀ b o,s.heap.get? b=Ga o->h'.get? b=Ga o)->h'.get? (s.heap.objs.size+1)=Ga (seqObj "list" out.toArray c)->Q (.ref (s.heap.objs.size+1)) { s with heap:=h' }) :
  wpAny (model prog w) A (call (.builtin "sorted") [.ref l]) Q E s:=by
 have sl:vs.length<=sizeLine:=by rw[sizeLine_eq];omega
 refine qr kind_sorted plain_sorted entry_sorted (args_sorted1 _) ?_;unfold Builtin.«sorted»;refine gk (m:=checkCount "sorted" 1 1 _) (gm (gk (collect_list hl (gk (wpAny_newList ?_ sl)) sl)));generalize hh1:(s.heap.push (seqObj "list" #[] 0)).update s.heap.objs.size (ki (·++vs.toArray))=h1;have n1:h1.objs.size=s.heap.objs.size+1:=by rw[<- hh1,Heap.size_update,size_push']
 have k1:∀ b o,s.heap.get? b=Ga o->h1.get? b=Ga o:=λb o q=>by
  have hlt:b<s.heap.objs.size:=jm q;rw[<- hh1,Heap.get?_update_ne _ _ _ _ (jE hlt),Heap.get?_push_ne _ _ _ (jE hlt)];exact q
 show wpAny _ _ _ _ _ { s with heap:=h1.push (seqObj "list" vs.toArray 0) };dsimp only;rw[n1];have hoL:(h1.push (seqObj "list" vs.toArray 0)).get? (s.heap.objs.size+1)=Ga (seqObj "list" vs.toArray 0):=by rw[<- n1];exact jy _ rfl
 have keep:∀ b o,s.heap.get? b=Ga o->(h1.push (seqObj "list" vs.toArray 0)).get? b=Ga o:=λb o q=>jd _ (k1 b o q);refine gk (wpAny_holding (wpAny_call_entry slot_list_sort ⟨_,hoL,rfl⟩ entry_list_sort ?_ (args_list_sort _)));refine hs { s with heap:=h1.push (seqObj "list" vs.toArray 0) } 0 _ _ keep hoL λh' c kk hc=>⟨_,rfl,gm ⟨_,rfl,h h' c (λb o e=>kk b o (jE (vP (jm e))) (keep b o e)) hc⟩⟩
end
def pF:List Int->List Int->Bool
 | [],[]=>false
 | [],_::_=>true
 | _::_,[]=>false
 | x::xs,y::ys=>if x==y then pF xs ys else decide (x<y)
def zJ:D->D->Option Bool
 | .int i,.int j=>Ga (decide (i<j))
 | .tuple xs,.tuple ys=>(mR xs).bind λis=>(mR ys).bind λjs=>Ga (pF is js)
 | _,_=>Gb
def Ou:D->Bool
 | .int _=>true
 | _=>false
def Ds:D->Bool
 | .tuple (x::xs)=>(mR (x::xs)).isSome
 | _=>false
def pO (ds:List D):Bool:=ds.all Ou||ds.all Ds
def wU (ds:List D)(i j:Nat):Option Bool:=(ds[i]?).bind λa=>(ds[j]?).bind λb=>zJ a b
def mU (ds:List D):Option (List D):=if ds.length<2 then Ga ds else if (decide (ds.length<64)&&pO ds)=true then(pM (wU ds) (uy ds.length)).bind λp=>(if p.size<=64 then Ga (p.toList.map λi=>ds.getD i .none) else Gb) else Gb
section
variable {prog:Program}{w:World}{A:Around}{E:Gg->Gh->Prop}{s:Gh}
theorem Qk {b fin:Bool}{Q:Bool->Gh->Prop}:∀ {is js:List Int} {us ws:List Gg} {i:Nat},IntsAre us is->IntsAre ws js->(i=0->b=true)->fin=decide (is.length<js.length)->Q (pF is js) s->PySem.W.KatLex prog w A b fin Q (us.zip ws) i s
 | [],[],_,_,i,.nil,.nil,_,hf,q=>by
  rw[hf];exact q
 | [],y::ys,_,_,i,.nil,.cons _ _ _,_,hf,q=>by
  have e:decide (([]:List Int).length<(y::ys).length)=true:=Gc (Nat.succ_pos _);rw[hf,e];exact q
 | _::_,[],_,_,i,.cons _ _ _,.nil,_,hf,q=>by
  rw[hf];exact q
 | x::is,y::js,_,_,i,.cons _ t h1,.cons _ u h2,hb,hf,q=>by
  show wpAny _ _ (eqBool (.int x t) (.int y u)) _ _ s;refine wpAny_eqBool_int ?_;have q':Q (if (x==y)=true then pF is js else decide (x<y)) s:=q;cases hxy:(x==y) with
  | true =>
   rw[hxy,Ge rfl] at q';rw[Ge rfl];exact Qk (i:=i+1) h1 h2 (λz=>absurd z (ua _)) (by rw[hf];simp only[jB,Nat.add_lt_add_iff_right]) q'
  | false =>
   rw[hxy,Gf jq] at q';rw[Gf jq];by_cases hi:i=0
   .subst hi;rw[hb rfl];exact oneLt_int q'
   .have e:(b&&i==0)=false:=by rw[beq_eq_false_iff_ne.mpr hi,qm]
    rw[e];exact PySem.W.kat_one _ _ (lt_int q')
end
section
variable {X:Cx}{ω:List (Gj×Obj)}{σ:St}{F H:Hp}{s:Gh}
theorem QH:∀ {is:List Int} {xs:List V} {us:List Gg},gJ X.K F (is.map jc) xs->hV xs us->IntsAre us is
 | [],_,_,.nil,r=>by cases r;exact .nil
 | i::is,_,_,.cons h t,r=>by
  cases r with
  | cons r1 r2 =>
   cases h;obtain⟨tk,rfl⟩:=r1;exact .cons _ _ (QH t r2)
theorem UH {is:List Int}{v:V}{u:Gg}(I:gA X ω σ H s)(g:gq F H)(r:io X.K F (.tuple (is.map jc)) v)(ru:ia v u):∃ a o its n,u=.ref a/\s.heap.get? a=Ga o/\o.cls=.type "tuple"/\o.data=.seq its.toArray n/\IntsAre its is:=by
 cases r with
 | tup h q =>
  cases ru;obtain⟨its,rv,⟨o,e,c,n,d⟩,_⟩:=I.tuple (nq g h);exact⟨_,o,its,n,rfl,e,c,d,QH q rv⟩
theorem WM {d:D}(h:Ds d=true):∃ i is,d=.tuple ((i::is).map jc):=by
 cases d with
 | tuple xs =>
  cases xs with
  | nil=>cases h
  | cons x xs =>
   have h':(mR (x::xs)).isSome=true:=h;obtain⟨is,e⟩:=qy.mp h';have e2:=BR e;cases is with
   | nil=>cases e2
   | cons i is=>exact⟨i,is,by rw[e2]⟩
 | _=>cases h
theorem Wi {d:D}(h:Ou d=true):∃ i,d=.int i:=by cases d<;>first|exact⟨_,rfl⟩|cases h
theorem oj:∀ is:List Int,mR (is.map jc)=Ga is
 | []=>rfl
 | i::is=>by
  show(mR (is.map jc)).bind (λr=>Ga (i::r))=_;rw[oj is];rfl
theorem OY (is js:List Int):zJ (.tuple (is.map jc)) (.tuple (js.map jc))=Ga (pF is js):=by
 show(mR _).bind _=_;rw[oj];show(mR _).bind _=_;rw[oj];rfl
theorem BL {xs:List V}{its:List Gg}{ds:List D}(rv:hV xs its)(rr:gJ X.K F ds xs){i:Nat}{d:D}(e:ds[i]?=Ga d):∃ v u,io X.K F d v/\ia v u/\its.getD i km=u:=by
 obtain⟨v,e1,r1⟩:=rr.get e;obtain⟨u,e2,r2⟩:=rv.get e1;exact⟨v,u,r1,r2,by rw[jg,e2];rfl⟩
theorem Pv {A:Around}{xs:List V}{its:List Gg}{ds:List D}(I:gA X ω σ H s)(g:gq F H)(rv:hV xs its)(rr:gJ X.K F ds xs)(h2:2<=its.length)(ok:pO ds=true){s1:Gh}(k:∀ b o,s.heap.get? b=Ga o->s1.heap.get? b=Ga o) :
  ∃ κ,(∀ Q:SortKind->Gh->Prop,Q κ s1->wpAny (model X.prog X.w) A (keyKind' its.toArray) Q (λ_ _=>False) s1)/\∀ i j b (C:Bool->Gh->Prop),wU ds i j=Ga b->C b s1->v7 X.prog X.w A κ its i j C s1:=by
 have hlen:ds.length=its.length:=rr.length.trans rv.length;have look:∀ (i j:Nat) (b:Bool),wU ds i j=Ga b->∃ d e,ds[i]?=Ga d/\ds[j]?=Ga e/\zJ d e=Ga b:=λi j b h=>by
  obtain⟨d,e1,h⟩:=gp h;obtain⟨e,e2,h⟩:=gp h;exact⟨d,e,e1,e2,h⟩
 unfold pO at ok;rw[kj] at ok;rcases ok with ok|ok
 .have ai:∀ (i:Nat) (d:D),ds[i]?=Ga d->∃ n,d=jc n:=λi d e=>Wi (jJ.mp ok d (j7 e));have av:∀ v∈its,∃ n t,v=qi n t:=λv hv=>by
   obtain⟨i,hi⟩:=List.mem_iff_getElem?.mp hv;have hl:i<ds.length:=by rw[hlen];exact(jp.mp hi).1
   obtain⟨n,hn⟩:=ai i _ (ji hl);obtain⟨v',u,r1,r2,e⟩:=BL rv rr (ji hl);rw[hn] at r1;cases r1;obtain⟨t,rfl⟩:=r2;rw[jg,hi] at e;exact⟨n,t,e⟩
  refine⟨oneType',λQ q=>PySem.W.kas_kind (T:=.type "int") h2 (λv hv=>?_) (by decide) (by decide) q,λi j b C e c=>?_⟩
  .obtain⟨n,t,rfl⟩:=av v hv;exact Jc rfl
  .obtain⟨d,d2,e1,e2,e3⟩:=look i j b e;obtain⟨n,rfl⟩:=ai i d e1;obtain⟨m,rfl⟩:=ai j d2 e2;obtain⟨v1,u1,r1,r2,x1⟩:=BL rv rr e1;obtain⟨v2,u2,r3,r4,x2⟩:=BL rv rr e2;cases r1;cases r3;obtain⟨t,rfl⟩:=r2;obtain⟨t2,rfl⟩:=r4;unfold v7;rw[x1,x2];cases e3;exact PySem.W.kat_lt_int c
 .have ai:∀ (i:Nat) (d:D),ds[i]?=Ga d->∃ n is,d=jX ((n::is).map jc):=λi d e=>WM (jJ.mp ok d (j7 e));have tup:∀ (i:Nat) (d:D),ds[i]?=Ga d->∃ n is a o us k,d=jX ((n::is).map jc)/\its.getD i km=kJ a/\s1.heap.get? a=Ga o/\o.cls=.type "tuple"/\o.data=.seq us k/\IntsAre us.toList (n::is):=λi d e=>by
   obtain⟨n,is,rfl⟩:=ai i d e;obtain⟨v,u,r1,r2,x1⟩:=BL rv rr e;obtain⟨a,o,us,kk,rfl,e1,c,dd,hi⟩:=UH I g r1 r2;exact⟨n,is,a,o,us.toArray,kk,rfl,x1,k a o e1,c,dd,by simpa using hi⟩
  have kt:∀ (ws:List Gg) (es:List D),(∀ (i:Nat) v,ws[i]?=Ga v->∃ n is a o us kk,v=kJ a/\s1.heap.get? a=Ga o/\o.cls=.type "tuple"/\o.data=.seq us kk/\IntsAre us.toList (n::is))->∃ fs,PySem.W.KatTups s1.heap ws fs/\fs.length=ws.length/\∀ v∈fs,∃ n t,v=qi n t:=by
   intro ws es;induction ws with
   | nil=>intro _;exact⟨[],.nil,rfl,λv hv=>by simp at hv⟩
   | cons v r ih =>
    intro hall;obtain⟨n,is,a,o,us,kk,rfl,e1,c,dd,hi⟩:=hall 0 v rfl;obtain⟨fs,h1,h2,h3⟩:=ih λi v e=>hall (i+1) v (by simpa using e);cases hu:us.toList with
    | nil=>rw[hu] at hi;cases hi
    | cons f fr =>
     rw[hu] at hi;cases hi with
     | cons _ t hi' =>
      have hf:us[0]?=Ga (qi n t):=by rw[<- vR,hu];rfl
      refine⟨qi n t::fs,.cons e1 c dd hf h1,by rw[jB,jB,h2],λv hv=>?_⟩;rcases ju.mp hv with rfl|hv
      .exact⟨n,t,rfl⟩
      .exact h3 v hv
  obtain⟨fs,t1,t2,t3⟩:=kt its ds λi v e=>by
   have hl:i<ds.length:=by rw[hlen];exact(jp.mp e).1
   obtain⟨n,is,a,o,us,kk,_,x1,x2⟩:=tup i _ (ji hl);rw[jg,e] at x1;exact⟨n,is,a,o,us,kk,x1,x2⟩
  refine⟨tuples' true,λQ q=>PySem.W.kat_kind (T:=.type "int") t1 (by omega) (λv hv=>?_) (by decide) q,λi j b C e c=>?_⟩
  .obtain⟨n,t,rfl⟩:=t3 v hv;exact Jc rfl
  .obtain⟨d,d2,e1,e2,e3⟩:=look i j b e;obtain⟨n,is,a,o,us,kk,rfl,x1,y1,_,z1,w1⟩:=tup i d e1;obtain⟨n',is',a',o',us',kk',rfl,x2,y2,_,z2,w2⟩:=tup j d2 e2;unfold v7;rw[x1,x2];rw[OY] at e3;cases e3;refine PySem.W.kat_lt y1 z1 y2 z2 (Qk w1 w2 (λ_=>rfl) ?_ c);have l1:=w1.length;have l2:=w2.length;rw[kw] at l1 l2;rw[l1,l2]
theorem Wr:mh X (.builtin "sorted") (λvs H Q=>∃ F ds rs p xs,vs=[.ref p]/\gq F H/\lr X.K H p xs/\gJ X.K F ds xs/\mU ds=Ga rs/\∀ a ys,H a=Gb->gJ X.K F rs ys->Q (.ref a) (upd H a (.lst ys))):=by
 intro ω s σ H vs us Q I r h;obtain⟨F,ds,rs,p,xs,rfl,g,hl,rr,e,q⟩:=h;obtain⟨u,rfl,ru⟩:=vals1 r;cases ru;obtain⟨its,rv,pl,hz⟩:=I.list hl;have hlen:ds.length=its.length:=rr.length.trans rv.length;have hn:H (s.heap.objs.size+1)=Gb:=I.hok.fresh (uP _);have fin:∀ (out:List Gg) (ys:List V) (h':Heap) (c:Nat),hV ys out->out.length<=sizeLine->gJ X.K F rs ys->(∀ b o,s.heap.get? b=Ga o->h'.get? b=Ga o)->h'.get? (s.heap.objs.size+1)=Ga (seqObj "list" out.toArray c) ->
   EP X ω σ Q (.ref (s.heap.objs.size+1)) { s with heap:=h' }:=λout ys h' c rvo hz2 rro k hc =>
  ⟨.ref _,_,I.laid (t':=s.toks) (o:=.lst ys) k (uP _) ⟨by rw[rvo.length];exact hz2,out,c,rvo,hc⟩,rfl,q _ ys hn rro⟩
 unfold mU at e;split at e
 .rename_i hs;cases e;refine Pi (out:=its) pl.isList (by omega) (λs1 n P E' k ho hP=>SV ho (by omega) λh' c kk hc=>hP h' c kk hc) λh' c k hc=>fin its xs h' c rv (by rw[sizeLine_eq];omega) rr k hc
 .rename_i hs;split at e
  .rename_i ok;rw[jx,decide_eq_true_eq] at ok;obtain⟨pm,e1,e2⟩:=gp e;split at e2;rotate_left
   .cases e2
   rename_i hpm;cases e2;have h2:2<=its.length:=by omega
   rw[hlen] at e1;refine Pi (out:=pm.toList.map λi=>its.getD i km) pl.isList (by omega) (λs1 n P E' k ho hP=>RX ho h2 (by omega) e1 (λs2 k2=>Pv I g rv rr h2 ok.2 λb o eb=>k2 b o (jE (vP (jm eb))) (k b o eb)) λh' c kk hc=>hP h' c kk hc) λh' c k hc=>?_;refine fin _ (pm.toList.map λi=>xs.getD i .non) h' c ?_ ?_ ?_ k hc
   .have:∀ l:List Nat,hV (l.map λi=>xs.getD i V.non) (l.map λi=>its.getD i km):=λl=>by
     induction l with
     | nil=>exact .nil
     | cons i l ih =>
      refine .cons ?_ ih;dsimp only;rw[jg,jg];cases hx:xs[i]? with
      | none=>rw[rv.none_of hx];rfl
      | some v=>obtain⟨u,e,r⟩:=rv.get hx;rw[e];exact r
    exact this _
   .rw[jb,kw,sizeLine_eq];omega
   .have:∀ l:List Nat,gJ X.K F (l.map λi=>ds.getD i .none) (l.map λi=>xs.getD i V.non):=λl=>by
     induction l with
     | nil=>exact .nil
     | cons i l ih =>
      refine .cons ?_ ih;dsimp only;rw[jg,jg];cases hx:ds[i]? with
      | none =>
       have:xs[i]?=Gb:=kr (by rw[<- rr.length];exact uB.mp hx);rw[this];exact .non
      | some d=>obtain⟨v,e,r⟩:=rr.get hx;rw[e];exact r
    exact this _
  .cases e
theorem zy9 {e:Expr}{f:FL}{p pos:Pos}(hg:Gl X "sorted")(hm:X.mg "sorted"=Gb)(ha:sE X e f)(hs:starEach [e] X.env=[(false,eval e X.env)]:=by rfl):PO X (.Call (.Name "sorted" p) [e] [] pos) (λψ=>(f ψ).bind mU):=by
 refine md (ze Wr hg hm boot_sorted ha (hs:=hs)) λσ H Q=>?_;rintro⟨H0,F,ψ,rs,r,e,q⟩;obtain⟨ds,e1,e⟩:=gp e;refine⟨H0,F,ψ,ds,r,e1,λp xs H1 F1 g1 f1 fh1 n1 hl rr=>⟨F1,ds,rs,p,xs,rfl,fh1,hl,rr,e,λa ys ha ry=>?_⟩⟩;have s2:gq H1 (upd H1 a (.lst ys)):=gq.new ha;exact q a ys _ F1 (g1.trans s2) f1 (fh1.trans s2) n1 (g1.free ha) (fh1.free ha) gU ry
end
section
variable {X:Cx}{pos:Pos}
def wz:D->D->Option D:=tR λi j=>.int (if j<i then j else i)
theorem cB2 {a b:Expr}{f g:FV}{p:Pos}{x:Str}{id:String}{op:Int->Int->Int}(hc:mh X (.builtin id) (λxs H Q=>∃ i j,xs=[.int i,.int j]/\Q (.int (op i j)) H))(hg:Gl X x)(hm:X.mg x=Gb)(hv:bootBuiltins x=Ga (.builtin id))(ha:PV X a f)(hb:PV X b g)
  (hn:x≠"__name__":=by decide) (hdb:(x==("__debug__":Str))=false:=by decide) (hs:starEach [a,b] X.env=(false,eval a X.env)::starEach [b] X.env:=by rfl) (hs2:starEach [b] X.env=[(false,eval b X.env)]:=by rfl) :
  PV X (.Call (.Name x p) [a,b] [] pos) (λψ=>(f ψ).bind λx=>(g ψ).bind λy=>tR (λi j=>.int (op i j)) x y):=by
 refine md (wW hc hg hm hv (lF ha (lF hb nV hs2) hs) hn hdb hs (by rw[hs2];rfl)) λσ H Q=>?_;rintro⟨H0,F,ψ,d,r,e,q⟩;obtain⟨d1,e1,e3⟩:=gp e;obtain⟨d2,e2,e4⟩:=gp e3;clear e e3;refine⟨H0,F,ψ,d1,r,e1,λv H1 F1 g1 f1 fh1 n1 rv=>⟨H0,F1,ψ,d2,r.grow g1 f1 fh1 n1,e2,λv2 H2 F2 g2 f2 fh2 n2 rv2=>?_⟩⟩;cases rv<;>first|(cases e4;done)|skip
 cases rv2<;>first|(cases e4;done)|skip
 cases e4;exact⟨_,_,rfl,q _ H2 F2 (g1.trans g2) (f1.trans f2) fh2 (n1.trans n2 g1) (.int _)⟩
theorem VN {a b:Expr}{f g:FV}{p:Pos}(hc:X.calm=true)(hg:Gl X "min")(hm:X.mg "min"=Gb)(ha:PV X a f)(hb:PV X b g)(hs:starEach [a,b] X.env=(false,eval a X.env)::starEach [b] X.env:=by rfl)(hs2:starEach [b] X.env=[(false,eval b X.env)]:=by rfl) :
  PV X (.Call (.Name "min" p) [a,b] [] pos) (λψ=>(f ψ).bind λx=>(g ψ).bind λy=>wz x y):=cB2 (BO hc) hg hm boot_min ha hb (hs:=hs) (hs2:=hs2)
def mz (c:FB)(g:FS):Nat->FS
 | 0,_=>Gb
 | n+1,ψ=>(c (frz ψ)).bind λb=>if b then(g ψ).bind λo=>match o with
   | .nx e=>mz c g n e
   | .ct e=>mz c g n e
   | .bk e=>Ga (.nx e)
   | .rt d=>Ga (.rt d)
   | .ro ds=>Ga (.ro ds)
   | .rm a kvs=>Ga (.rm a kvs)
   | .rc d e=>Ga (.rc d e)
  else Ga (.nx ψ)
theorem SR (n:Nat){c:Expr}{body:List Stmt}{fc:FB}{g:FS}(hp:PassesOwn (model X.prog X.w) X.A X.env X.xe)(hc:PB X c fc)(hb:oN X body g):ol X (.While c body [] pos) (mz fc g n):=by
 refine sJ (Dw hp hc hb) λE σ H=>?_;rintro⟨H0,F,ψ,o,r,e,p⟩;refine⟨λm σ H=>∃ F2 ψ,RS X.K H0 F2 H ψ σ/\gq F F2/\iO F F2 H0/\mz fc g m ψ=Ga o,⟨n,F,ψ,r,.refl _,.refl _ _,e⟩,?_⟩;rintro m σ' H' ⟨F2,env2,r2,f2,n2,e2⟩;cases m with
 | zero=>cases e2
 | succ m =>
  obtain⟨b,x1,x2⟩:=gp (show(fc (frz env2)).bind _=Ga o from e2);refine⟨H0,H',frz env2,b,r2.frz,x1,λH3 g3=>?_⟩;have r3:=r2.later g3;have p2:=p.mono f2 n2;cases b with
  | false =>
   cases x2;exact rY (p2 σ' H3 F2 (.refl _) (.refl _ _) r3)
  | true =>
   obtain⟨o1,x3,x4⟩:=gp (show(g env2).bind _=Ga o from x2);refine sj ⟨λσ4 H4=>∃ F4 ψ,RS X.K H0 F4 H4 ψ σ4/\gq F F4/\iO F F4 H0/\mz fc g m ψ=Ga o,λσ4 H4 h4=>⟨m,k8 _,h4⟩,H0,F2,env2,o1,r3,x3,?_⟩;cases o1 with
   | nx e5=>exact λσ6 H6 F6 f6 n6 r6=>⟨F6,e5,r6,f2.trans f6,n2.up n6,x4⟩
   | ct e5=>exact λσ6 H6 F6 f6 n6 r6=>⟨F6,e5,r6,f2.trans f6,n2.up n6,x4⟩
   | bk e5=>cases x4;exact p2
   | rt d=>cases x4;exact p2
   | ro d=>cases x4;exact p2
   | rm a d=>cases x4;exact p2
   | rc a d=>cases x4;exact p2
theorem zBT {op op':CmpOp}{r r':R2}{k k':D->D->Option D}{a b c:Expr}{f g h:FV}(ho:lI X (compareOp op) r)(ho':lI X (compareOp op') r')(hr:sB X.K r k)(hr':sB X.K r' k')(ha:PV X a f)(hb:PV X b g)(hc:PV X c h)
  (hm:lastMarks [op,op'] [b,c]=false:=by with_unfolding_all rfl) :
  PB X (.Compare a [op,op'] [b,c] pos) (λψ=>((f ψ).bind λx=>(g ψ).bind λy=>((k x y).bind ly).bind λt=>if t then(h ψ).bind λz=>k' y z else Ga (.bool false)).bind ly):=by
 refine Fc (Dm ho ho' ha hb hc hm) λσ H Q=>?_;rintro⟨H0,F,ψ,bb,rs,e0,q⟩;obtain⟨d,e,eb⟩:=gp e0;cases Aj eb;obtain⟨x,e1,e⟩:=gp e;obtain⟨y,e2,e⟩:=gp e;obtain⟨t,e3,e⟩:=gp e;obtain⟨d1,e4,e5⟩:=gp e3;cases Aj e5;refine⟨H0,F,ψ,x,rs,e1,λv H1 F1 g1 f1 fh1 n1 rv=>⟨H0,F1,ψ,y,rs.grow g1 f1 fh1 n1,e2,λu H2 F2 g2 f2 fh2 n2 ru=>?_⟩⟩;refine hr F2 H2 v u x y _ _ fh2 (rv.mono f2) ru e4 λw H3 F3 g3 f3 fh3 n3 rw3=>?_;cases rw3;refine⟨t,rfl,?_⟩;have gg:gq H H3:=(g1.trans g2).trans g3;have ff:gq F F3:=(f1.trans f2).trans f3;have nn:iO F F3 H:=(n1.trans n2 g1).trans n3 (g1.trans g2);cases t with
 | true =>
  obtain⟨z,e6,e7⟩:=gp (show(h ψ).bind (λz=>k' y z)=Ga (.bool bb) from e);refine sj ⟨H0,F3,ψ,z,rs.grow gg ff fh3 nn,e6,λw4 H4 F4 g4 f4 fh4 n4 rw4=>?_⟩;refine hr' F4 H4 u w4 y z _ _ fh4 ((ru.mono f3).mono f4) rw4 e7 λw5 H5 F5 g5 f5 fh5 n5 rw5=>?_;cases rw5;exact⟨bb,rfl,q H5 ((gg.trans g4).trans g5)⟩
 | false=>cases e;exact rY ⟨false,rfl,q H3 gg⟩
end
abbrev agH (k k':D->D->Option D)(f g h:FV):FB:=λψ=>((f ψ).bind λx=>(g ψ).bind λy=>((k x y).bind ly).bind λt=>if t then(h ψ).bind λz=>k' y z else Ga (.bool false)).bind ly
abbrev BC (f:FL):FL:=λψ=>(f ψ).bind mU
abbrev CU (f:FL)(g:FV):FV:=λψ=>(f ψ).bind λx=>(g ψ).bind λy=>yr x y
def Dp (lo c:Int)(n:Nat):It:=⟨λi _=>i<n,λi H x H'=>H'=H/\x=.int (lo+i*c),λi _=>n<=i⟩
theorem XC {P:Program}{w:World}{K:ja}{tg:Expr}(it:Gj)(lo c:Int)(n:Nat):yt P w K tg (Dp lo c n) [it] it (λi h=>IsRangeIter h it (lo+(i:Nat)*c) ((n:Int)-(i:Nat)) c) where
 mem:=by simp
 obj:=λi h st b hb=>by
  cases jk.mp hb;exact⟨_,st,λv z=>by cases(show Data.fields _=Data.cell v from z)⟩
 keep:=λi h h' st k=>k it (by simp) _ st
 item:=by
  intro X hP hw hK hc i ω s σ H E I hf st hg;subst hP hw hK;obtain⟨f0,f1,f2,f3,f4,f5⟩:=hf it (by simp);refine(Walks.range (prog:=X.prog) (w:=X.w) (I.ok.hd hc) it lo c n).item i s _ _ hg st λv h' tk hv st' kk=>?_;obtain⟨t,rfl⟩:=hv;have I1:gA X ω σ H { s with heap:=h',toks:=tk }:=I.turned (λb o hb e=>kk b o (λz=>hb (jk.mp z)) e) f0 f1 f3 f4 f5;exact⟨_,rfl,zk (s:={ s with heap:=h',toks:=tk }) (n:="range_iterator") st' rfl rfl (by decide) ⟨.int (lo+i*c),H,I1,⟨t,rfl⟩,⟨rfl,rfl⟩,st',λb hb=>(hf b hb).1⟩⟩
 done:=by
  intro X hP hw hK hc i ω s σ H E I hf st hg;subst hP hw hK;obtain⟨f0,f1,f2,f3,f4,f5⟩:=hf it (by simp);exact wpAny_pyNext_range_end (I.ok.hd hc) st (by have:n<=i:=hg;omega) λh' eb=>⟨rfl,I.turned (t':=s.toks) (λb o hb e=>eb b o hb e) f0 f1 f3 f4 f5⟩
 self:=λ_ _ _ _ _ st h=>wpAny_pyIter_rangeiter st h
def wu (lo c:Int)(n:Nat):List D:=(je n).map λk=>.int (lo+(k:Nat)*c)
theorem zr7 {K:ja}{F:Hp}{lo c:Int}{n:Nat}:pQ K (Dp lo c n) F (wu lo c n):=by
 intro H g i;refine⟨λhi=>(by rw[wu,jb,jG] at hi;exact hi:n<=i),λd hd=>?_⟩;have hi:i<n:=by have:=(jp.mp hd).1;rw[wu,jb,jG] at this;exact this
 refine⟨hi,λx H' y=>?_⟩;obtain⟨rfl,rfl⟩:=y;have:d=.int (lo+(i:Nat)*c):=by
  have h2:(wu lo c n)[i]?=Ga (.int (lo+(i:Nat)*c)):=by rw[wu,jA,kZ hi];rfl
  rw[h2] at hd;exact(jD hd).symm
 subst this;exact⟨.refl _,F,.refl _,g,.refl _ _,.int _⟩
def tS:D->D->D->Option (List D)
 | .int a,.int b,.int c=>if (qc a b c&&decide (0<c)&&decide (c<1000000))=true then Ga (wu a c (jP a b c).toNat) else Gb
 | _,_,_=>Gb
abbrev Mx (op:D->D->D->Option (List D))(f g h:FV):FL:=λψ=>(f ψ).bind λx=>(g ψ).bind λy=>(h ψ).bind λz=>op x y z
section
variable {X:Cx}{tg:Expr}{pos:Pos}
theorem zv4 {a b c:Int}(hc:0<c):(((jP a b c).toNat:Nat):Int)=jP a b c:=by
 unfold jP;rw[Ge hc];split
 .rename_i h;have:0<=(b-a-1)/c:=Int.ediv_nonneg (by omega) (by omega);omega
 .rfl
theorem zDP {a b c:Expr}{f g h:FV}{p:Pos}(hg:Gl X "range")(hm:X.mg "range"=Gb)(ha:PV X a f)(hb:PV X b g)(hc:PV X c h)(hs:starEach [a,b,c] X.env=(false,eval a X.env)::starEach [b,c] X.env:=by rfl)(hs2:starEach [b,c] X.env=(false,eval b X.env)::starEach [c] X.env:=by rfl)
  (hs3:starEach [c] X.env=[(false,eval c X.env)]:=by rfl):zM X tg (.Call (.Name "range" p) [a,b,c] [] pos) (Mx tS f g h):=by
 intro ω s σ H R I hw;obtain⟨H0,F,ψ,ds,r,e,q⟩:=hw;obtain⟨d1,e1,x2⟩:=gp e;obtain⟨d2,e2,x3⟩:=gp x2;obtain⟨d3,e3,x4⟩:=gp x3;clear e x2 x3;refine Call_ (pS I hg hm boot_range (PyProof.Rows.callWith_type1 (iq (lF ha (lF hb (lF hc nV hs3) hs2) hs pos ω s σ H (λvs H2=>∃ lo hi st:Int,vs=[.int lo,.int hi,.int st]/\qc lo hi st=true/\0<st/\st<1000000/\R (Dp lo st (jP lo hi st).toNat) H2) I
  ⟨H0,F,ψ,d1,r,e1,λv H1 F1 g1 f1 fh1 n1 rv=>⟨H0,F1,ψ,d2,r.grow g1 f1 fh1 n1,e2,λv2 H2 F2 g2 f2 fh2 n2 rv2=>⟨H0,F2,ψ,d3,(r.grow g1 f1 fh1 n1).grow g2 f2 fh2 n2,e3,λv3 H3 F3 g3 f3 fh3 n3 rv3=>?_⟩⟩⟩) λus s1 ⟨vs,H2,I2,rvs,lo,hi,st,ev,h1,h2,h3,hR⟩=>?_) hs (by rw[hs2,hs3];rfl)))
 .cases rv<;>first|(cases x4;done)|skip
  cases rv2<;>first|(cases x4;done)|skip
  cases rv3<;>first|(cases x4;done)|skip
  rename_i lo hi st;unfold tS at x4;dsimp only at x4;split at x4
  .rename_i cnd;cases x4;simp only[jx,decide_eq_true_eq] at cnd;exact⟨lo,hi,st,rfl,cnd.1.1,cnd.1.2,cnd.2,q _ H3 F3 ((g1.trans g2).trans g3) ((f1.trans f2).trans f3) fh3 ((n1.trans n2 g1).trans n3 (g1.trans g2)) λF2 f2=>zr7⟩
  .cases x4
 .subst ev;cases rvs with
  | cons ra rb =>
   cases rb with
   | cons rb rc =>
    cases rc with
    | cons rc rd =>
     cases rd;obtain⟨t1,rfl⟩:=ra;obtain⟨t2,rfl⟩:=rb;obtain⟨t3,rfl⟩:=rc;refine call_range_3 (by omega) ?_ (k9 (PyProof.noPylong_small (by omega)));refine wpAny_pyIter_range (IsRange.new ..) h1 ?_;have I3:gA X ω σ H2 { s1 with heap:=s1.heap.push { cls:=.type "range",data:=.fields #[.int lo t1,.int hi t2,.int st t3] },toks:=s1.toks }:=I2.kept λb o e=>jd _ e;refine⟨(s1.heap.push { cls:=.type "range",data:=.fields #[.int lo t1,.int hi t2,.int st t3] }).objs.size,[(s1.heap.push { cls:=.type "range",data:=.fields #[.int lo t1,.int hi t2,.int st t3] }).objs.size],_,_,H2,rfl,I3.kept (t':=s1.toks) λb o e=>jd _ e,XC _ lo st (jP lo hi st).toNat,?_,λb hb=>?_,hR⟩
     .have z1:lo+((0:Nat):Int)*st=lo:=by rw[qE,Int.zero_mul,Int.add_zero]
      have z2:(((jP lo hi st).toNat:Nat):Int)-((0:Nat):Int)=jP lo hi st:=by rw[zv4 h2];omega
      show IsRangeIter _ _ (lo+((0:Nat):Int)*st) ((((jP lo hi st).toNat:Nat):Int)-((0:Nat):Int)) st;rw[z1,z2];exact jy _ rfl
     .cases jk.mp hb;exact I3.fpOk (jh _) (I3.hok.fresh (jh _))
end
def Af (n:Nat):qP (Array Nat)->Bool
 | .ret p=>p.toList.isPerm (je n)
 | .ask i j k=>decide (i<n)&&decide (j<n)&&Af n (k true)&&Af n (k false)
theorem zzA:∀ n<7,Af n (uy n)=true:=by nofun
theorem Cc {xs:List D}{j:Nat}{v:D}(h:xs[j]?=Ga v):atI xs (j:Int)=Ga v:=atI_nat h
theorem wl {n:Nat}(h:n<1000000):iL (.int (n:Int))=Ga (lN 0 n):=by
 unfold iL;dsimp only;rw[Ge (by constructor<;>omega),ka]
theorem rJ (n:Nat):lN 0 n=(je n).map λ(k:Nat)=>jc (k:Int):=by
 unfold lN;apply jW;intro k _;rw[qg]
theorem yH (lo:Int)(n:Nat):(lN lo n).length=n:=by unfold lN;rw[jb,jG]
theorem yX {i j:Int}(h:0<j):lP (.int i) (.int j)=Ga (.int (i%j)):=by
 show(if decide (0<j) then _ else _)=_;rw[Ge (Gc h)]
theorem BM {i j:Int}(h:0<j)(h2:j<1073741824):nX (.int i) (.int j)=Ga (.int (i/j)):=by
 show(if decide (0<j)&&decide (j<1073741824) then _ else _)=_;rw[Gc h,Gc h2];rfl
theorem Ot {i j:Int}(h:wq i j=true):nE (.int i) (.int j)=Ga (.int (i*j)):=by
 show(if wq i j then _ else _)=_;rw[Ge h]
abbrev FP:=En->Option (Option Int)
def UN (K:ja)(f:FP):TO:=λσ H Q=>∃ H0 F ψ o,RS K H0 F H ψ σ/\f ψ=Ga o/\∀ H' F',gq H H'->gq F F'->gq F' H'->iO F F' H->Q o H'
abbrev Fm (X:Cx)(e:Option Expr)(f:FP):Prop:=L2.PO X e (UN X.K f)
abbrev Hr:FP:=λ_=>Ga Gb
def Ed:D->Option (Option Int)
 | .int i=>Ga (Ga i)
 | _=>Gb
abbrev xE (f:FV):FP:=λψ=>(f ψ).bind Ed
def rE (xs:List D)(lo hi:Option Int):List D:=(xs.drop (HT.sIx xs.length 0 lo)).take (HT.sIx xs.length xs.length hi-HT.sIx xs.length 0 lo)
def tj:D->Option Int->Option Int->Option D
 | .list xs,lo,hi=>Ga (.list (rE xs lo hi))
 | .tuple xs,lo,hi=>if HT.sIx xs.length 0 lo=0/\HT.sIx xs.length xs.length hi=xs.length then Gb else Ga (.tuple (rE xs lo hi))
 | _,_,_=>Gb
theorem gJ.cut {K:ja}{F:Hp}{ds:List D}{xs:List V}(r:gJ K F ds xs)(lo hi:Option Int):gJ K F (rE ds lo hi) (sg xs lo hi):=by
 unfold rE sg;rw[r.length];exact(r.drop _).take _
section
variable {X:Cx}{pos p2:Pos}
theorem wE:Fm X Gb Hr:=by
 intro ω s σ H Q I h;obtain⟨H0,F,ψ,o,r,e,q⟩:=h;cases e;exact FQ ω s σ H Q I (q H F (.refl _) (.refl _) r.fh (.refl _ _))
theorem sW {e:Expr}{f:FV}(h:PV X e f):Fm X (Ga e) (xE f):=by
 intro ω s σ H Q I hw;obtain⟨H0,F,ψ,o,r,e1,q⟩:=hw;obtain⟨d,e2,e3⟩:=gp e1;refine FN h ω s σ H Q I ⟨H0,F,ψ,d,r,e2,λv H' F' g1 f1 fh1 n1 rv=>?_⟩;cases rv<;>first|(cases e3;done)|skip
 cases e3;exact⟨_,rfl,q H' F' g1 f1 fh1 n1⟩
theorem tE {a:Expr}{lo hi:Option Expr}{f:FV}{g h:FP}(ha:PV X a f)(hl:Fm X lo g)(hh:Fm X hi h):PV X (.Subscript a (.Slice lo hi Gb p2) pos) (λψ=>(f ψ).bind λx=>(g ψ).bind λl=>(h ψ).bind λu=>tj x l u):=by
 refine md (Dv (Gq.or Kf) ha hl hh) λσ H Q=>?_;rintro⟨H0,F,ψ,d,r,e,q⟩;obtain⟨x,e1,e4⟩:=gp e;obtain⟨l,e2,e5⟩:=gp e4;obtain⟨u,e3,e6⟩:=gp e5;clear e e4 e5;refine⟨H0,F,ψ,x,r,e1,λv H1 F1 g1 f1 fh1 n1 rv=>⟨H0,F1,ψ,l,r.grow g1 f1 fh1 n1,e2,λH2 F2 g2 f2 fh2 n2=>⟨H0,F2,ψ,u,(r.grow g1 f1 fh1 n1).grow g2 f2 fh2 n2,e3,λH3 F3 g3 f3 fh3 n3=>?_⟩⟩⟩;have rv3:=rv.mono (f2.trans f3);cases rv3<;>first|(cases e6;done)|skip
 case lst a xs ds h1 h2 =>
  cases e6;refine k9 ⟨a,xs,rfl,fh3.seq h1,λp hp=>?_⟩;obtain⟨s1,s2,s3,s4⟩:=xq (o:=.lst (sg xs l u)) fh3 hp;exact q _ _ _ (((g1.trans g2).trans g3).trans s1) (((f1.trans f2).trans f3).trans s2) s3 (((n1.trans n2 g1).trans n3 (g1.trans g2)).trans s4 ((g1.trans g2).trans g3)) (.lst (lr.of gU) ((h2.cut l u).mono s2))
 case tup a xs ds h1 h2 =>
  unfold tj at e6;dsimp only at e6;split at e6
  .cases e6
  .rename_i hw;cases e6;refine kK ⟨a,xs,rfl,nq fh3 h1,by rw[<- h2.length];exact hw,λp hp=>?_⟩;obtain⟨s1,s2,s3,s4⟩:=xq (o:=.tup (sg xs l u)) fh3 hp;exact q _ _ _ (((g1.trans g2).trans g3).trans s1) (((f1.trans f2).trans f3).trans s2) s3 (((n1.trans n2 g1).trans n3 (g1.trans g2)).trans s4 ((g1.trans g2).trans g3)) (.tup (mV.of gU) ((h2.cut l u).mono s2))
end
abbrev NA (f:FV)(g h:FP):FV:=λψ=>(f ψ).bind λx=>(g ψ).bind λl=>(h ψ).bind λu=>tj x l u
section
variable {X:Cx}{pos:Pos}
end
def Bk:List Int->Option Int
 | []=>Gb
 | i::r=>Ga (r.foldl (λa b=>if b<a then b else a) i)
def De:List Int->Option Int
 | []=>Gb
 | i::r=>Ga (r.foldl (λa b=>if a<b then b else a) i)
def pb (ds:List D):Option D:=(mR ds).bind λis=>(Bk is).bind λm=>Ga (.int m)
def BH (ds:List D):Option D:=(mR ds).bind λis=>(De is).bind λm=>Ga (.int m)
theorem yq:∀ (r:List Int) (i:Int),(r.foldl (λa b=>if b<a then b else a) i=i\/r.foldl (λa b=>if b<a then b else a) i∈r)/\r.foldl (λa b=>if b<a then b else a) i<=i/\∀ a∈r,r.foldl (λa b=>if b<a then b else a) i<=a
 | [],i=>⟨.inl rfl,ux _,λa h=>by cases h⟩
 | b::r,i=>by
  obtain⟨h1,h2,h3⟩:=yq r (if b<i then b else i);rw[u9];refine⟨?_,?_,λa ha=>?_⟩
  .rcases h1 with z|z
   .by_cases hb:b<i
    .rw[Ge hb] at z ⊢;exact .inr (by rw[z];exact jf)
    .rw[Gf hb] at z ⊢;exact .inl z
   .exact .inr (jj _ z)
  .refine qQ h2 ?_;split
   .rename_i hb;exact Int.le_of_lt hb
   .exact ux _
  .rcases ju.mp ha with rfl|ha
   .refine qQ h2 ?_;split
    .exact ux _
    .rename_i hb;exact Int.not_lt.mp hb
   .exact h3 a ha
theorem Bc:∀ (r:List Int) (i:Int),(r.foldl (λa b=>if a<b then b else a) i=i\/r.foldl (λa b=>if a<b then b else a) i∈r)/\i<=r.foldl (λa b=>if a<b then b else a) i/\∀ a∈r,a<=r.foldl (λa b=>if a<b then b else a) i
 | [],i=>⟨.inl rfl,ux _,λa h=>by cases h⟩
 | b::r,i=>by
  obtain⟨h1,h2,h3⟩:=Bc r (if i<b then b else i);rw[u9];refine⟨?_,?_,λa ha=>?_⟩
  .rcases h1 with z|z
   .by_cases hb:i<b
    .rw[Ge hb] at z ⊢;exact .inr (by rw[z];exact jf)
    .rw[Gf hb] at z ⊢;exact .inl z
   .exact .inr (jj _ z)
  .refine qQ ?_ h2;split
   .rename_i hb;exact Int.le_of_lt hb
   .exact ux _
  .rcases ju.mp ha with rfl|ha
   .refine qQ ?_ h2;split
    .exact ux _
    .rename_i hb;exact Int.not_lt.mp hb
   .exact h3 a ha
theorem VU {is:List Int}{m:Int}(h:Bk is=Ga m):m∈is/\∀ a∈is,m<=a:=by
 cases is with
 | nil=>cases h
 | cons i r =>
  cases h;obtain⟨h1,h2,h3⟩:=yq r i;refine⟨?_,λa ha=>?_⟩
  .rcases h1 with z|z
   .rw[z];exact jf
   .exact jj _ z
  .rcases ju.mp ha with rfl|ha
   .exact h2
   .exact h3 a ha
theorem UR {is:List Int}{m:Int}(h:De is=Ga m):m∈is/\∀ a∈is,a<=m:=by
 cases is with
 | nil=>cases h
 | cons i r =>
  cases h;obtain⟨h1,h2,h3⟩:=Bc r i;refine⟨?_,λa ha=>?_⟩
  .rcases h1 with z|z
   .rw[z];exact jf
   .exact jj _ z
  .rcases ju.mp ha with rfl|ha
   .exact h2
   .exact h3 a ha
section
variable {X:Cx}{pos:Pos}
theorem Zg (hc:X.calm=true):mh X (.builtin "min") (λxs H Q=>∃ (p:Gj) (is:List Int) (m:Int),xs=[.ref p]/\lr X.K H p (is.map V.int)/\Bk is=Ga m/\Q (.int m) H):=by
 intro ω s σ H xs us Q I r h;obtain⟨p,is,m,rfl,hl,hm,q⟩:=h;obtain⟨hm,hle⟩:=VU hm;obtain⟨u,rfl,ru⟩:=vals1 r;cases ru;obtain⟨its,rv,pl,hz⟩:=I.list hl;have hi:IntsAre its is:=sQ rv;obtain⟨ys,ey⟩:=hi.allInts.items;have en:is=ys.toList.map (·.1):=hi.numsOf.symm.trans (by rw[<- nums_intItems,<- ey]);have el:is.length=ys.size:=by rw[en,jb,kw]
 have hne:0<ys.size:=by rw[<- el];exact uW hm
 have hl':s.heap.IsList p (intItems ys):=by rw[<- ey];exact pl.isList
 refine min_intList (I.ok.hd hc) hl' hne λv h' tk hv hk=>?_;obtain⟨t,rfl⟩:=intItems_at hv;obtain⟨b1,b2⟩:=argBest_lt (numAt ys) (ys.size-1);have mem:numAt ys (argBest (λi j=>decide (numAt ys i<numAt ys j)) (ys.size-1))∈is:=by rw[numAt_eq,<- en];exact J2 (by omega)
 have le:numAt ys (argBest (λi j=>decide (numAt ys i<numAt ys j)) (ys.size-1))<=m:=by
  obtain⟨j,hj,ej⟩:=J3 hm;have:=b2 j (by omega);rw[numAt_eq ys j,<- en,ej] at this;exact this
 exact⟨.int m,H,I.kept hk,⟨t,by rw[Int.le_antisymm le (hle _ mem)]⟩,q⟩
theorem zv9 (hc:X.calm=true):mh X (.builtin "max") (λxs H Q=>∃ (p:Gj) (is:List Int) (m:Int),xs=[.ref p]/\lr X.K H p (is.map V.int)/\De is=Ga m/\Q (.int m) H):=by
 intro ω s σ H xs us Q I r h;obtain⟨p,is,m,rfl,hl,hm,q⟩:=h;obtain⟨hm,hle⟩:=UR hm;obtain⟨u,rfl,ru⟩:=vals1 r;cases ru;obtain⟨its,rv,pl,hz⟩:=I.list hl;have hi:IntsAre its is:=sQ rv;obtain⟨ys,ey⟩:=hi.allInts.items;have en:is=ys.toList.map (·.1):=hi.numsOf.symm.trans (by rw[<- nums_intItems,<- ey]);have el:is.length=ys.size:=by rw[en,jb,kw]
 have hne:0<ys.size:=by rw[<- el];exact uW hm
 have hl':s.heap.IsList p (intItems ys):=by rw[<- ey];exact pl.isList
 refine max_intList (I.ok.hd hc) hl' hne λv h' tk hv hk=>?_;obtain⟨t,rfl⟩:=intItems_at hv;obtain⟨b1,b2⟩:=argBest_gt (numAt ys) (ys.size-1);have mem:numAt ys (argBest (λi j=>decide (numAt ys i>numAt ys j)) (ys.size-1))∈is:=by rw[numAt_eq,<- en];exact J2 (by omega)
 have le:m<=numAt ys (argBest (λi j=>decide (numAt ys i>numAt ys j)) (ys.size-1)):=by
  obtain⟨j,hj,ej⟩:=J3 hm;have:=b2 j (by omega);rw[numAt_eq ys j,<- en,ej] at this;exact this
 exact⟨.int m,H,I.kept hk,⟨t,by rw[Int.le_antisymm (hle _ mem) le]⟩,q⟩
theorem zDR {p:Pos}{e:Expr}{fl:FL}(hc:X.calm=true)(hg:Gl X "min")(hm:X.mg "min"=Gb)(ha:sE X e fl)(hs:starEach [e] X.env=[(false,eval e X.env)]:=by rfl) :
  PV X (.Call (.Name "min" p) [e] [] pos) (sn pb fl):=by
 refine md (ze (Zg hc) hg hm boot_min ha (hs:=hs)) λσ H Q=>?_;rintro⟨H0,F,ψ,d,r,e,q⟩;obtain⟨ds,e1,e⟩:=gp e;obtain⟨is,e2,e⟩:=gp e;obtain⟨m,e3,e⟩:=gp e;cases e;refine⟨H0,F,ψ,ds,r,e1,λp xs H1 F1 g1 f1 fh1 n1 hl rr=>⟨p,is,m,rfl,?_,e3,q _ H1 F1 g1 f1 fh1 n1 (.int _)⟩⟩;rw[BR e2] at rr;rw[<- rr.ints_inv];exact hl
theorem VA {p:Pos}{e:Expr}{fl:FL}(hc:X.calm=true)(hg:Gl X "max")(hm:X.mg "max"=Gb)(ha:sE X e fl)(hs:starEach [e] X.env=[(false,eval e X.env)]:=by rfl) :
  PV X (.Call (.Name "max" p) [e] [] pos) (sn BH fl):=by
 refine md (ze (zv9 hc) hg hm boot_max ha (hs:=hs)) λσ H Q=>?_;rintro⟨H0,F,ψ,d,r,e,q⟩;obtain⟨ds,e1,e⟩:=gp e;obtain⟨is,e2,e⟩:=gp e;obtain⟨m,e3,e⟩:=gp e;cases e;refine⟨H0,F,ψ,ds,r,e1,λp xs H1 F1 g1 f1 fh1 n1 hl rr=>⟨p,is,m,rfl,?_,e3,q _ H1 F1 g1 f1 fh1 n1 (.int _)⟩⟩;rw[BR e2] at rr;rw[<- rr.ints_inv];exact hl
def so:List D->Option (List Bool)
 | []=>Ga []
 | .bool b::r=>(so r).bind λbs=>Ga (b::bs)
 | _=>Gb
theorem RN:∀ {ds:List D} {bs:List Bool},so ds=Ga bs->ds=bs.map j8
 | [],bs,h=>by cases h;rfl
 | .bool b::r,bs,h=>by
  obtain⟨cs,e1,e2⟩:=gp (show(so r).bind (λbs=>Ga (b::bs))=Ga bs from h);cases e2;rw[RN e1];rfl
 | .none::_,_,h=>by cases h
 | .int _::_,_,h=>by cases h
 | .str _::_,_,h=>by cases h
 | .list _::_,_,h=>by cases h
 | .tuple _::_,_,h=>by cases h
 | .dict _::_,_,h=>by cases h
theorem DW:∀ bs:List Bool,so (bs.map j8)=Ga bs
 | []=>rfl
 | b::r=>by show(so (r.map j8)).bind _=_;rw[DW r];rfl
theorem gJ.bools_inv {K:ja}{F:Hp}:∀ {bs:List Bool} {vs:List V},gJ K F (bs.map j8) vs->vs=bs.map V.bl
 | [],_,h=>by cases h;rfl
 | b::r,_,h=>by
  cases h with
  | cons h t=>cases h;rw[gJ.bools_inv t];rfl
def rZ (ds:List D):Option D:=(so ds).bind λbs=>Ga (.bool (bs.all id))
theorem zwA (bs:List Bool):(je bs.length).all (λi=>bs.getD i false)=bs.all id:=by
 rw[jS,jJ,jJ];constructor
 .intro h x hx;obtain⟨i,hi,rfl⟩:=qd hx;have:=h i (jl.mpr hi);rw[jg,ji hi] at this;exact this
 .intro h i hi;have hi:=jl.mp hi;rw[jg,ji hi];exact h _ (uz hi)
theorem ZS {bs:List Bool}{its:List Gg}(rv:hV (bs.map V.bl) its):∀ (i:Nat) (v:Gg),its.toArray[i]?=Ga v->v=uR (bs.getD i false):=by
 intro i v hv;have hv':its[i]?=Ga v:=by simpa using hv
 have hlen:(bs.map V.bl).length=its.length:=rv.length;have:i<its.length:=(jp.mp hv').1;have hk:i<bs.length:=by rw[jb] at hlen;omega
 obtain⟨w',e1,e2⟩:=rv.get (i:=i) (x:=.bl bs[i]) (by rw[jA,ji hk];rfl);rw[hv'] at e1;cases e1;cases e2;rw[jg,ji hk];rfl
theorem Zq (hc:X.calm=true):mh X (.builtin "all") (λxs H Q=>∃ (p:Gj) (bs:List Bool),xs=[.ref p]/\lr X.K H p (bs.map V.bl)/\Q (.bl (bs.all id)) H):=by
 intro ω s σ H xs us Q I r h;obtain⟨p,bs,rfl,hl,q⟩:=h;obtain⟨u,rfl,ru⟩:=vals1 r;cases ru;obtain⟨its,rv,pl,hz⟩:=I.list hl;have hp:p<s.heap.objs.size:=by obtain⟨o,n,e,_⟩:=pl;exact jm e
 refine call_all_walk (wpAny_pyIter_list pl.isList ⟨s.heap.objs.size,[s.heap.objs.size,p],[s.heap.objs.size],_,_,_,λj=>bs.getD j false,rfl,Walks.list (show X.A.in1.handled=Gb from I.ok.hd hc) _ p (jE hp) its.toArray,⟨⟨_,jy _ rfl,rfl,rfl⟩,?_⟩,?_,?_⟩)
 .obtain⟨o,n,e,c,_,d⟩:=pl;exact⟨o,jd _ e,c,n,d⟩
 .intro i v s1 Q1 E1 hv hQ;rw[ZS rv i v hv];exact wpAny_truthy_bool hQ
 .intro h' tk hk;have el:its.toArray.size=bs.length:=by rw[jo,<- rv.length,jb]
  rw[el,zwA];refine⟨.bl (bs.all id),H,I.kept λb o e=>hk b o ?_ (jd _ e),rfl,q⟩;intro z;cases jk.mp z;exact absurd (jm e) (j0 _)
theorem NJ {p:Pos}{e:Expr}{fl:FL}(hc:X.calm=true)(hg:Gl X "all")(hm:X.mg "all"=Gb)(ha:sE X e fl)(hs:starEach [e] X.env=[(false,eval e X.env)]:=by rfl) :
  PV X (.Call (.Name "all" p) [e] [] pos) (sn rZ fl):=by
 refine md (ze (Zq hc) hg hm boot_all ha (hs:=hs)) λσ H Q=>?_;rintro⟨H0,F,ψ,d,r,e,q⟩;obtain⟨ds,e1,e⟩:=gp e;obtain⟨bs,e2,e⟩:=gp e;cases e;refine⟨H0,F,ψ,ds,r,e1,λp xs H1 F1 g1 f1 fh1 n1 hl rr=>⟨p,bs,rfl,?_,q _ H1 F1 g1 f1 fh1 n1 (.bl _)⟩⟩;rw[RN e2] at rr;rw[<- rr.bools_inv];exact hl
abbrev Di:FS:=λ_=>Gb
theorem Ek {st:Stmt}:ol X st Di:=by
 intro ω s σ H D I hw;obtain⟨H0,F,ψ,o,r,e,p⟩:=hw;cases e
end
section
variable {X:Cx}{tg:Expr}{pos:Pos}
end
section
variable {prog:Program}{w:World}{A:Around}{E:Gg->Gh->Prop}{s:Gh}
theorem zuA:typeLookup (.type "list_reverseiterator") "__len__"=pure Gb:=by rw[typeLookup_type,builtinLookup_eq_fast];kernel_rfl
theorem Xs:typeLookup (.type "list_reverseiterator") "__length_hint__"=pure (Ga (.builtin "list_reverseiterator.__length_hint__")):=by rw[typeLookup_type,builtinLookup_eq_fast];kernel_rfl
theorem zzD {x:Gj}{Q:Bool->Gh->Prop}(hT:s.TypeIs (.ref x) "list_reverseiterator")(hQ:Q false s):wpAny (model prog w) A (kS (.ref x)) Q E s:=by
 unfold kS;refine gk (wpAny_specialOf hT zuA ?_);show wpAny _ _ (specialOf (kJ x) (jC "__length_hint__") >>= _) _ _ _;refine gk (wpAny_specialOf hT Xs ?_);generalize hid:("list_reverseiterator.__length_hint__":String)=id0
 wp_delta
 rw[show splitId id0=Ga ("list_reverseiterator","__length_hint__") from by subst hid;decide +kernel];subst hid;refine gk (wpAny_isInstance (T:="list_reverseiterator") (b:=true) hT (by rw[isSubtype_type];kernel_rfl) ?_);refine wpAny_ite_split (λz=>absurd z (by decide)) λ_=>?_;refine wpAny_ite_split (λ_=>?_) λz=>absurd (by nofun) z;refine wpAny_ite_split (λz=>absurd z (by nofun)) λ_=>?_;exact gm hQ
theorem zBV {I:Gj}{fp wr:List Gj}{n:Nat}{P:Nat->Gg->Prop}{St:Nat->Heap->Prop}{Q:Gg->Gh->Prop}
  (W:Walks prog w A.in1.in1 I fp wr n P St) (hT:∀ i (s:Gh),St i s.heap->s.TypeIs (.ref I) "list_reverseiterator")
  (hint:∀ (s1:Gh) (Q1:Bool->Gh->Prop) (E1:Gg->Gh->Prop),s1.TypeIs (.ref I) "list_reverseiterator"->Q1 false s1->wpAny (model prog w) A.in1.in1 (kS (.ref I)) Q1 E1 s1)
  (st0:St 0 s.heap) (hfp:s.heap.objs.size∉fp) (hI:I∈fp) (hn:n<=sizeLine)
  (hQ:∀ h' tk acc c,(∀ b o,b∉wr->s.heap.get? b=Ga o->h'.get? b=Ga o)->h'.get? s.heap.objs.size=Ga { cls:=.type "list",data:=.seq acc c }->ItemsOf P acc n->Q (.ref s.heap.objs.size) { s with heap:=h',toks:=tk }) :
  wpAny (model prog w) A (call (.type "list") [.ref I]) Q E s:=by
 have W':=W.toS;refine callType_codes (Q₁:=λob s1=>ob=kJ s.heap.objs.size/\s1={ s with heap:=s.heap.push { cls:=.type "list",data:=.seq #[] } }) F.called_list (F.typeCall_list_1 _) F.entry_list_init (code_list_new _ ⟨rfl,rfl⟩) λob s1 z=>?_;obtain⟨rfl,rfl⟩:=z;have n0:(s.heap.push { cls:=.type "list",data:=.seq #[] }).get? s.heap.objs.size=Ga { cls:=.type "list",data:=.seq #[] }:=jy _ rfl;have nI:s.heap.objs.size≠I:=λz=>hfp (z▸hI);refine⟨⟨_,n0,rfl⟩,F.args_list_init_2 _ _,?_⟩;show wpAny _ _ (uX (.ref s.heap.objs.size) >>= λold=>qF (.ref s.heap.objs.size) (λ_=>#[]) >>= λ_=>letGo old.toList.reverse >>= λ_=>j5 (.ref s.heap.objs.size) (.ref I) .none) _ _ _;refine gk ?_;unfold uX;refine gk (wpAny_seqItems n0 rfl (gm ?_));show wpAny _ _ (updateSeq s.heap.objs.size (λ_=>#[]) >>= λ_=>letGo (#[]:Array Gg).toList.reverse >>= λ_=>j5 (.ref s.heap.objs.size) (.ref I) .none) _ _ _;refine gk (wpAny_updateSeq n0 rfl ?_);have n1:=uA (ki (λ_=>(#[]:Array Gg))) n0 rfl;have kp:∀ b o,s.heap.get? b=Ga o->((s.heap.push { cls:=.type "list",data:=.seq #[] }).update s.heap.objs.size (ki (λ_=>(#[]:Array Gg)))).get? b=Ga o:=λb o e =>
  (kX _ _ (ui (jE (jm e)))).trans (jd _ e)
 have st1:=W.frame 0 _ _ st0 λb _ o e=>kp b o e;generalize (s.heap.push { cls:=.type "list",data:=.seq #[] }).update s.heap.objs.size (ki (λ_=>(#[]:Array Gg)))=h1 at n1 kp st1;refine gk (wpAny_letGo ?_);unfold j5;refine gk (wpAny_typeOf (hT 0 { s with heap:=h1 } st1) ?_);rw[show uI (.ref s.heap.objs.size) (.ref I)=false from by simp[uI,nI]];simp only[show(vj "list_reverseiterator"==vj "list")=false by decide,show(vj "list_reverseiterator"==vj "tuple")=false by decide,vC,kH,if_false];refine gk (W.self 0 _ _ _ st1 ?_);refine gk (wpAny_holding (hint _ _ _ (hT 0 { s with heap:=h1 } st1) ?_));refine wpAny_ite_split (λz=>absurd z (by decide)) λ_=>?_;refine gm ⟨plainId_quiet F.plain_extend_loop _,codeAny_extend_loopS W' hn s.heap.objs.size hfp .none n 0 { s with heap:=h1 } #[] _ rfl (jO _) st1 n1 (ItemsOf.nil P) λs' acc c m nn it=>?_⟩;refine⟨rfl,?_⟩;rw[Moved.eq_with m];refine hQ s'.heap s'.toks acc c (λb o hb e=>m.heap b o (λz=>?_) (kp b o e)) nn it;rcases ju.mp z with z|z
 .exact absurd (jm e) (by rw[z];exact j0 _)
 .exact hb z
end
abbrev BD (f:FL):FL:=λψ=>(f ψ).bind λxs=>Ga xs.reverse
section
variable {X:Cx}{pos:Pos}
theorem Mz:∀ (xs:List V) (us:List Gg),xs.length=us.length->(∀ (i:Nat) (x:V) (u:Gg),xs[i]?=Ga x->us[i]?=Ga u->ia x u)->hV xs us
 | [],[],_,_=>.nil
 | [],_::_,h,_=>by cases h
 | _::_,[],h,_=>by cases h
 | x::xs,u::us,h,r=>.cons (r 0 x u rfl rfl) (Mz xs us (qR h) λi y z e1 e2=>r (i+1) y z e1 e2)
theorem MV {e:Expr}{f:FL}{p p2 pos2:Pos}(hc:X.calm=true)(hg:Gl X "list")(hm:X.mg "list"=Gb)(hg2:Gl X "reversed")(hm2:X.mg "reversed"=Gb)(ha:sE X e f)(hs:starEach [e] X.env=[(false,eval e X.env)]:=by rfl)
  (hs2:starEach [.Call (.Name "reversed" p2) [e] [] pos2] X.env=[(false,eval (.Call (.Name "reversed" p2) [e] [] pos2) X.env)]:=by rfl) :
  PO X (.Call (.Name "list" p) [.Call (.Name "reversed" p2) [e] [] pos2] [] pos) (BD f):=by
 intro ω s σ H Q I h;obtain⟨H0,F,ψ,ds,r,e0,q⟩:=h;obtain⟨d1,e1,e2⟩:=gp e0;cases e2;clear e0;refine Call_ (pS I hg hm boot_list (PyProof.Rows.callWith_type1 ?_ hs2 (by rfl)));rw[hs2];refine uU ?_;refine Call_ (pS I hg2 hm2 boot_reversed (PyProof.Rows.callWith_type1 (iq (lF ha nV hs pos2 ω s σ H (λvs H2=>∃ l xs F2,vs=[.ref l]/\lr X.K H2 l xs/\gq H H2/\gq F F2/\gq F2 H2/\iO F F2 H/\gJ X.K F2 d1 xs) I
  ⟨H0,F,ψ,d1,r,e1,λa xs H1 F1 g1 f1 fh1 n1 hl rr=>⟨a,xs,F1,rfl,hl,g1,f1,fh1,n1,rr⟩⟩) λus s1 ⟨vs,H2,I2,rvs,l,xs,F2,ev,hl,g2,f2,fh2,n2,rr⟩=>?_) hs (by rfl)))
 subst ev;obtain⟨u,rfl,ru⟩:=vals1 rvs;cases ru;obtain⟨its,rv,pl,hz⟩:=I2.list hl;have ll:l<s1.heap.objs.size:=by obtain⟨o,n,e,_⟩:=pl;exact jm e
 refine call_reversed_list pl.isList ?_;refine vM ?_;have I3:gA X ω σ H2 { s1 with heap:=s1.heap.push (revObj l ((its.toArray.size:Int)-1)),toks:=s1.toks }:=I2.kept λb o e=>jd _ e;have hit:(s1.heap.push (revObj l ((its.toArray.size:Int)-1))).IsRevIter s1.heap.objs.size l ((its.toArray.size:Int)-1):=⟨_,jy _ rfl,rfl,rfl⟩;have hl3:(s1.heap.push (revObj l ((its.toArray.size:Int)-1))).IsList l its.toArray:=by obtain⟨o,n,e,c,_,d⟩:=pl;exact⟨o,jd _ e,c,n,d⟩
 have W:=Walks.listRev (prog:=X.prog) (w:=X.w) (A:=X.A.in1.in1) (show X.A.in1.in1.handled=Gb from I2.ok.hd hc) s1.heap.objs.size l (jE ll) its.toArray;refine zBV W (λi s2 z=>z.2.1.typeIs) (λs2 Q2 E2 z1 z2=>zzD z1 z2) ⟨jO _,(by rw[show(its.toArray.size:Int)-1-((0:Nat):Int)=(its.toArray.size:Int)-1 by omega];exact hit),hl3⟩ ?_ (by simp) ?_ λh' tk acc c k na it=>?_
 .rw[vn];simp only[ju,uM,or_false,not_or];exact⟨Nat.succ_ne_self _,uS (vP ll)⟩
 .rw[jo,<- rv.length];exact hz
 .have sz:acc.size=its.length:=by rw[it.1,jo]
  have vr:hV xs.reverse acc.toList:=by
   refine Mz _ _ (by have a:=rv.length;have b:=kw (xs:=acc);rw[kG];omega) λi x u hx hu=>?_;have hu':=it.2 i u (by rw[<- vR];exact hu);have li:i<xs.length:=by have:=(jp.mp hx).1;rw[kG] at this;exact this
   rw[Jd li] at hx;obtain⟨u',e1,e2⟩:=rv.get hx;have e3:its[its.length-1-i]?=Ga u:=by rw[jo,vS] at hu';exact hu'
   rw[<- rv.length,e1] at e3;cases e3;exact e2
  have hS:s1.heap.objs.size<(s1.heap.push (revObj l ((its.toArray.size:Int)-1))).objs.size:=by rw[vn];exact k8 _
  have f3:H2 (s1.heap.push (revObj l ((its.toArray.size:Int)-1))).objs.size=Gb:=I3.fresh;have I4:gA X ω σ (upd H2 (s1.heap.push (revObj l ((its.toArray.size:Int)-1))).objs.size (.lst xs.reverse)) { s1 with heap:=h',toks:=tk }:=by
   refine gA.laid (X:=X) (s:=s1) (t':=tk) I2 (λb o e=>k b o ?_ (jd _ e)) (uv hS) ?_
   .intro z;cases jk.mp z;exact absurd (jm e) (j0 _)
   .refine⟨by rw[kG];exact hz,acc.toList,c,vr,?_⟩;rw[v4];exact na
  have s2:gq H2 (upd H2 (s1.heap.push (revObj l ((its.toArray.size:Int)-1))).objs.size (.lst xs.reverse)):=gq.new f3;exact⟨.ref _,_,I4,rfl,q _ xs.reverse _ F2 (g2.trans s2) f2 (fh2.trans s2) n2 (g2.free f3) (fh2.free f3) gU rr.reverse⟩
end
theorem Le {X:Cx}{pos:Pos}{x:Str}{n:Int}(hm:∃ t,X.mg x=Ga (.int n t))(hg:Gl X x:=by rfl)(hd:(x==("__debug__":Str))=false:=by decide):PV X (.Name x pos) (λ_=>Ga (.int n)):=by
 obtain⟨t,h⟩:=hm;exact zDL (v:=.int n) h ⟨_,rfl⟩ (λ_ _=>.int _) hg hd
theorem zwC {a:Gj}{ks:List D}{as:List Gj}{ep:Nat}:∀ h1 h2:Heap,oB a ks as ep h1->(∀ o,h1.get? a=Ga o->h2.get? a=Ga o)->oB a ks as ep h2:=by
 rintro h1 h2 ⟨o,es,ho,r⟩ k;exact⟨o,es,k _ ho,r⟩
theorem Pg {P:Program}{w:World}{H:Hp}{h:Heap}{a:Gj}{ks:List D}{as:List Gj}{ep:Nat}(p:oB a ks as ep h):mK P w H h a (.ext (oB a ks as ep)):=by
 obtain⟨o,es,ho,r⟩:=id p;exact⟨p,⟨o,ho⟩,zwC⟩
theorem Rx {P:Program}{w:World}{H:Hp}{h:Heap}{a:Gj}{ks:List D}{as:List Gj}{ep:Nat}(ok:HOk P w H h)(e:H a=Ga (.ext (oB a ks as ep))):oB a ks as ep h:=(show mK P w H h a (.ext _) from ok a _ e).1
theorem zzE:rB []:=⟨λ_ h=>(by cases h),λ_ h=>(by cases h),kY,jO _⟩
def nt (ks:List D)(as:List Gj):List (D×Gj×Gg):=(ks.zip as).map λp=>(p.1,p.2,uR true)
theorem Rt {P:Program}{w:World}(ks:List D)(as:List Gj):sT ks as=(nt ks as).map (entryOfKey (wS P w)):=by
 unfold sT nt;rw[jU];rfl
theorem Cg:∀ {ks:List D} {as:List Gj},ks.length=as.length->(nt ks as).map (·.1)=ks
 | [],[],_=>rfl
 | [],_::_,h=>by cases h
 | _::_,[],h=>by cases h
 | k::ks,a::as,h=>congrArg (k::·) (Cg (ks:=ks) (as:=as) (qR h))
theorem Sw:∀ {ks:List D} {as:List Gj} (k:D) (b:Gj),ks.length=as.length->nt ks as++[(k,b,uR true)]=nt (ks++[k]) (as++[b])
 | [],[],k,b,_=>rfl
 | [],_::_,_,_,h=>by cases h
 | _::_,[],_,_,h=>by cases h
 | j::ks,a::as,k,b,h=>congrArg ((j,a,uR true)::·) (Sw (ks:=ks) (as:=as) k b (qR h))
theorem Ql:∀ {ks:List D} {as:List Gj} (k:D),(nt ks as).map (putAt k (.bool true))=nt ks as
 | [],[],k=>rfl
 | [],_::_,_=>rfl
 | _::_,[],_=>rfl
 | j::ks,a::as,k=>by
  show putAt k (.bool true) (j,a,uR true)::(nt ks as).map (putAt k (.bool true))=(j,a,uR true)::nt ks as;rw[Ql (ks:=ks) (as:=as) k];refine congrArg (·::nt ks as) ?_;unfold putAt;split<;>rfl
theorem Ox:∀ {ks:List D} {as:List Gj} {x:D×Gj×Gg},x∈nt ks as->∃ i:Nat,ks[i]?=Ga x.1/\as[i]?=Ga x.2.1
 | [],[],x,h=>by cases h
 | [],_::_,x,h=>by cases h
 | _::_,[],x,h=>by cases h
 | k::ks,a::as,x,h=>by
  rcases ju.mp (show x∈(k,a,uR true)::nt ks as from h) with rfl|h
  .exact⟨0,rfl,rfl⟩
  .obtain⟨i,h1,h2⟩:=Ox h;exact⟨i+1,h1,h2⟩
theorem SN {ks:List D}{as:List Gj}(hl:ks.length=as.length)(k:D):(atKey (nt ks as) k).isSome=decide (k∈ks):=by
 unfold atKey;rw[JJ];rw[jS,List.find?_isSome,decide_eq_true_eq];constructor
 .rintro⟨x,hx,e⟩;have:x.1=k:=of_decide_eq_true e;rw[<- this,<- Cg hl];exact jv.mpr ⟨x,hx,rfl⟩
 .intro h;rw[<- Cg hl] at h;obtain⟨x,hx,e⟩:=jv.mp h;exact⟨x,hx,Gc e⟩
noncomputable def pi (ks:List D)(k:D):List D:=if k∈ks then ks else ks++[k]
section
variable {X:Cx}{ω:List (Gj×Obj)}{σ:St}{F H:Hp}{s:Gh}{a:Gj}{ks:List D}{as:List Gj}{ep:Nat}
theorem Sh (q:gJ X.K F ks (as.map V.ref)):ks.length=as.length:=by have:=q.length;rw[jb] at this;exact this
theorem TZ (I:gA X ω σ H s)(g:gq F H)(e:H a=Ga (.ext (oB a ks as ep)))(ok:rB ks)(q:gJ X.K F ks (as.map V.ref)):s.heap.DictOfH (wS X.prog X.w) a (nt ks as):=by
 obtain⟨o,es,ho,hc,hd,he⟩:=Rx I.hok e;refine⟨o,es,ep,ho,hc,hd,he.trans (Rt ks as),λx hx=>?_,by rw[Cg (Sh q)];exact ok.nd⟩;obtain⟨i,h1,h2⟩:=Ox hx;obtain⟨v,e1,e2⟩:=q.get h1;rw[jA,h2] at e1;cases e1;exact⟨ok.key _ (j7 h1),io.reads I g e2 (Ir (ok.key _ (j7 h1))) rfl⟩
end
section
variable {X:Cx}{pos:Pos}
theorem zwI:PE X (.Dict [] [] pos) (λσ H Q=>∀ p,H p=Gb->(p==sysModules)=false->Q (.ref p) (upd H p (.ext (oB p [] [] 0)))):=λω s σ H Q I h =>
 wpAny_Dict_empty ⟨.ref s.heap.objs.size,_,I.laid (a:=s.heap.objs.size) (o:=.ext (oB s.heap.objs.size [] [] 0)) (t':=s.toks) (λ_ _ q=>jd _ q) (jh _) (Pg ⟨_,#[],jy _ rfl,⟨rfl,rfl,rfl⟩,rfl,rfl⟩),rfl,
  h _ (I.hok.fresh (jh _)) (beq_eq_false_iff_ne.mpr (ui (jE I.big)))⟩
abbrev Np (i:Nat):FS:=λψ=>Ga (.nx (ψ.set i (.dic [])))
theorem VF (i:Nat){x:Str}{p pos':Pos}(hN:X.N.Nodup)(hi:X.N[i]?=Ga x:=by rfl)(hx:wB X.env.scope x:=by first|exact k9 rfl|exact kK rfl)
  (hs:swapsWith (.Dict [] [] p) (Ga (.Name x pos')) pos.line X.env=pure false:=by rfl) (hf:X.fn x=true\/X.env.scope.names.lookup x=Ga .local:=by first|exact .inl rfl|exact .inr rfl) :
  ol X (.Assign [.Name x pos'] (.Dict [] [] p) pos) (Np i):=by
 intro ω s σ H D I hw;refine xM hN hi hx zwI hs hf ω s σ H D I ?_;obtain⟨H0,F,ψ,o,r,e,p⟩:=hw;cases e;have hl:i<σ.length:=by rw[I.len];exact(jp.mp hi).1
 intro a ha sm;have g:gq H (upd H a (.ext (oB a [] [] 0))):=gq.new ha;exact p _ _ F (.refl _) (.refl _ _) ((r.later g).putG hl ⟨a,[],0,rfl,gU,r.fh.free ha,r.h0.free ha,.nil,sm,zzE⟩ λj s o _ ej=>r.ne_free ha j s o ej)
def Ol (K:ja):Bo:=λo i v H Q=>∃ a ks as ep k b F,o=.ref a/\i=.ref b/\v=.bl true/\H a=Ga (.ext (oB a ks as ep))/\rB ks/\gq F H/\gJ K F ks (as.map V.ref)/\io K F k (.ref b)/\hE k 8=true /\
 ∀ as' ep',(if k∈ks then as'=as else as'=as++[b])->Q (upd H a (.ext (oB a (pi ks k) as' ep')))
theorem zBW (hu:X.A.units+100<cLine):MO X (Ol X.K):=by
 intro ω s σ H o i v ov iv u Q I ro ri rv h;obtain⟨a,ks,as,ep,k,b,F,rfl,rfl,rfl,ha,ok,g,q,rk,kk,hQ⟩:=h;cases ro;cases ri;cases rv;have hD:=TZ I g ha ok q;have hl:=Sh q;obtain⟨bs,rd⟩:=io.reads I g rk (Ir kk) (u:=.ref b) rfl;refine wpAny_setItem_heap (knd:=wS X.prog X.w) (show X.A.units+1+20<cLine by omega) ⟨kk,_,rd⟩ hD (λh' hm hs=>?_) ?_
 .obtain⟨o',es',ep',ho,hc,hd,he,_,_⟩:=id hm;have fin:∀ as',(if k∈ks then as'=as else as'=as++[b])->storedH (nt ks as) k b (.bool true)=nt (pi ks k) as'->∃ H',gA X ω σ H' { s with heap:=h',toks:=s.toks+rT k }/\Q H':=λas' c e=>by
   refine⟨_,Aw I (by rw[ha];trivial) hs ⟨o',ho⟩ (Pg ⟨o',es',ho,hc,hd,?_⟩),hQ as' ep' c⟩;rw[he,e,<- Rt]
  by_cases hm2:k∈ks
  .refine fin as (by rw[Ge hm2]) ?_;have:(atKey (nt ks as) k).isSome=true:=by rw[SN hl,Gc hm2]
   unfold storedH pi;rw[Ge this,Ge hm2,Ql]
  .refine fin (as++[b]) (by rw[Gf hm2]) ?_;have:¬(atKey (nt ks as) k).isSome=true:=by rw[SN hl,Gd hm2];exact jq
   unfold storedH pi;rw[Gf this,Gf hm2,Sw k b hl]
 .show(nt ks as).length<=sizeLine;have:(nt ks as).length=ks.length:=by rw[<- jb (f:=λx:D×Gj×Gg=>x.1),Cg hl]
  rw[this,sizeLine_eq];exact jF ok.len (by decide)
def ww:D->Bool
 | .tuple _=>true
 | _=>false
theorem zuB {d:D}(h:ww d=true):∃ xs,d=.tuple xs:=by cases d<;>first|exact⟨_,rfl⟩|cases h
noncomputable def zV (i:Nat)(f:FV):FS:=λψ=>(f ψ).bind λk=>match ψ[i]? with
 | some (.dic ks)=>if (hE k 8&&ww k)=true/\ks.length<1000000 then Ga (.nx (ψ.set i (.dic (pi ks k)))) else Gb
 | _=>Gb
theorem zzG {ks:List D}{k:D}(ok:rB ks)(hk:hE k 8=true)(ht:∃ xs,k=.tuple xs)(hl:ks.length<1000000):rB (pi ks k):=by
 unfold pi;split
 .exact ok
 .rename_i hn;refine⟨λx hx=>?_,λx hx=>?_,?_,by rw[jr];exact hl⟩
  .rcases jM.mp hx with z|z
   .exact ok.key x z
   .rw[jk.mp z];exact hk
  .rcases jM.mp hx with z|z
   .exact ok.tup x z
   .rw[jk.mp z];exact ht
  .rw[uj];refine⟨ok.nd,kh.mpr ⟨by simp,kY⟩,λx hx y hy=>?_⟩;rw[jk.mp hy];exact λz=>hn (z▸hx)
theorem zzH (i:Nat){x:Str}{ke:Expr}{f:FV}{p p2 pt:Pos}{jt}(hu:X.A.units+100<cLine)(hk:PV X ke f)(hN:X.N[i]?=Ga x:=by rfl)(hv:wb X.env.scope x:=by first|exact k9 rfl|exact kK (k9 rfl)|exact kK (kK rfl))
  (hd:(x==("__debug__":Str))=false:=by decide) (hcd:(x==("__classdict__":Str))=false:=by decide)
  (hs:swapsWithSole [.Subscript (.Name x p) ke p2] (.Constant (.bool true) jt pt) pos.line X.env=pure false:=by rfl) (hw:swappedStores [.Subscript (.Name x p) ke p2] (.Constant (.bool true) jt pt) X.env=pure Gb:=by rfl)
  (h1:(assignEach [.Subscript (.Name x p) ke p2] X.env).map (·.2)=[assign (.Subscript (.Name x p) ke p2) X.env]:=by rfl)
  (ha:∀ v,assign (.Subscript (.Name x p) ke p2) X.env v=(do
   let ov <- holding [v] (eval (.Name x p) X.env)
   let iv <- holding [v,ov] (eval ke X.env)
   standAt p2
   holding [v,ov,iv] (setItem ov iv v)
   release [v,ov,iv] []):=by intro _;rfl) :
  ol X (.Assign [.Subscript (.Name x p) ke p2] (.Constant (.bool true) jt pt) pos) (zV i f):=by
 refine sJ (Ct (DN (pos:=pt)) (Nv (pp (pos:=p) hN hv hd hcd) hk (zBW hu) ha) hs hw h1) λE σ H=>?_;rintro⟨H0,F,ψ,o,r,e,p⟩;obtain⟨k,e1,e2⟩:=gp e;clear e;split at e2;rotate_left
 .cases e2
 rename_i ks z;split at e2;rotate_left
 .cases e2
 rename_i c;cases e2;obtain⟨c1,c2⟩:=c;rw[jx] at c1;obtain⟨xs,rfl⟩:=zuB c1.2;obtain⟨u,x3,a,as,ep,x4,ha1,fa,h0a,rr,sm,ok⟩:=r.sl i _ z;subst x4;refine⟨.ref a,x3,H0,F,ψ,.tuple xs,r,e1,λv H1 F1 g1 f1 fh1 n1 rv=>?_⟩;have r1:=r.grow g1 f1 fh1 n1;obtain⟨u,x5,a',as',ep',x6,ha2,fa2,h0a2,rr2,sm2,ok2⟩:=r1.sl i _ z;subst x6;rw[x3] at x5;cases x5;cases rv with
 | @tup b vs _ hb rb =>
  refine⟨a,ks,as',ep',.tuple xs,b,F1,rfl,rfl,rfl,ha2,ok2,fh1,rr2,.tup hb rb,c1.1,λas2 ep2 hc=>?_⟩;refine p σ _ F1 f1 (n1.dn r.h0) (r1.chgG z rfl x3 ⟨a,as2,ep2,rfl,gU,fa2,h0a2,?_,sm2,zzG ok2 c1.1 ⟨_,rfl⟩ c2⟩);unfold pi;split at hc
  .rename_i hm;rw[Ge hm,hc];exact rr2
  .rename_i hm;rw[Gf hm,hc,jZ];exact rr2.append (.cons (.tup hb rb) .nil)
def GB:List (D×D)->Bool
 | (.none,.none)::_=>true
 | _=>false
theorem WH (ks:List D):GB (ks.map λk=>(k,j8 true))=false:=by
 cases ks with
 | nil=>rfl
 | cons k r=>cases k<;>rfl
noncomputable def ahl (k:D):D->Option D
 | .dict kvs=>if (hE k 8&&ww k&&!GB kvs)=true then Ga (.bool (decide (k∈kvs.map (·.1)))) else Gb
 | _=>Gb
def wt:D->Option (List D)
 | .dict kvs=>if GB kvs=true then Gb else Ga (kvs.map (·.1))
 | _=>Gb
theorem Pq (ks:List D):wt (.dict (ks.map λk=>(k,j8 true)))=Ga ((ks.map λk=>(k,j8 true)).map (·.1)):=by
 unfold wt;dsimp only;rw[WH,Gf jq]
theorem Pj:∀ {ks:List D} {as:List Gj} {i:Nat} {b:Gj},ks.length=as.length->as[i]?=Ga b->∃ e,(sT ks as)[i]?=Ga e/\e.key=.ref b
 | [],[],i,b,_,h=>by simp at h
 | [],_::_,_,_,h,_=>by cases h
 | _::_,[],_,_,h,_=>by cases h
 | k::ks,a::as,0,b,_,h=>by cases h;exact⟨_,rfl,rfl⟩
 | k::ks,a::as,i+1,b,hl,h=>Pj (ks:=ks) (as:=as) (i:=i) (b:=b) (qR hl) h
theorem zzI {ks:List D}{as:List Gj}(hl:ks.length=as.length):(sT ks as).length=as.length:=by
 unfold sT;rw[jb,List.length_zip,hl,Nat.min_self]
theorem zBY {h:Heap}{d:Gj}{ks:List D}{as:List Gj}{ep:Nat}(p:oB d ks as ep h):pq h d (sT ks as).toArray ep:=by
 obtain⟨o,es,ho,hc,hd,he⟩:=p;refine⟨o,ho,hc,?_⟩;rw[<- he,v4];exact hd
end
section
variable {prog:Program}{w:World}{A:Around}{E:Gg->Gh->Prop}{s:Gh}
theorem WY:typeLookup (.type "dict") "__len__"=pure (Ga (.builtin "dict.__len__")):=by rw[typeLookup_type,builtinLookup_eq_fast];kernel_rfl
theorem zwJ {x:Gj}{Q:Bool->Gh->Prop}(hT:s.TypeIs (.ref x) "dict")(hQ:Q false s):wpAny (model prog w) A (kS (.ref x)) Q E s:=by
 unfold kS;refine gk (wpAny_specialOf hT WY ?_);generalize hid:("dict.__len__":String)=id0
 wp_delta
 rw[show splitId id0=Ga ("dict","__len__") from by subst hid;decide +kernel];subst hid;refine gk (wpAny_isInstance (T:="dict") (b:=true) hT (by rw[isSubtype_type];kernel_rfl) ?_);refine wpAny_ite_split (λz=>absurd z (by decide)) λ_=>?_;refine wpAny_ite_split (λ_=>?_) λz=>absurd (by nofun) z;exact gk (wpAny_typeOf hT (gm hQ))
theorem zzJ {d:Gj}{es:Array DictEntry}{ep:Nat}{Q:Gg->Gh->Prop}(hh:A.handled=Gb)(sm:(d==sysModules)=false)(hd:pq s.heap d es ep)(hn:es.size<=sizeLine)
  (hQ:∀ h' tk acc c,(∀ b o,s.heap.get? b=Ga o->h'.get? b=Ga o)->h'.get? s.heap.objs.size=Ga { cls:=.type "list",data:=.seq acc c }->ItemsOf (λi v=>∃ e,es[i]?=Ga e/\v=e.key) acc es.size->Q (.ref s.heap.objs.size) { s with heap:=h',toks:=tk }) :
  wpAny (model prog w) A (call (.type "list") [.ref d]) Q E s:=by
 have hlt:d<s.heap.objs.size:=by obtain⟨o,e,_⟩:=hd;exact jm e
 refine callType_codes (Q₁:=λob s1=>ob=kJ s.heap.objs.size/\s1={ s with heap:=s.heap.push { cls:=.type "list",data:=.seq #[] } }) F.called_list (F.typeCall_list_1 _) F.entry_list_init (code_list_new _ ⟨rfl,rfl⟩) λob s1 z=>?_;obtain⟨rfl,rfl⟩:=z;have n0:(s.heap.push { cls:=.type "list",data:=.seq #[] }).get? s.heap.objs.size=Ga { cls:=.type "list",data:=.seq #[] }:=jy _ rfl;refine⟨⟨_,n0,rfl⟩,F.args_list_init_2 _ _,?_⟩;show wpAny _ _ (uX (.ref s.heap.objs.size) >>= λold=>qF (.ref s.heap.objs.size) (λ_=>#[]) >>= λ_=>letGo old.toList.reverse >>= λ_=>j5 (.ref s.heap.objs.size) (.ref d) .none) _ _ _;refine gk ?_;unfold uX;refine gk (wpAny_seqItems n0 rfl (gm ?_));show wpAny _ _ (updateSeq s.heap.objs.size (λ_=>#[]) >>= λ_=>letGo (#[]:Array Gg).toList.reverse >>= λ_=>j5 (.ref s.heap.objs.size) (.ref d) .none) _ _ _;refine gk (wpAny_updateSeq n0 rfl ?_);have n1:=uA (ki (λ_=>(#[]:Array Gg))) n0 rfl;have kp:∀ b o,s.heap.get? b=Ga o->((s.heap.push { cls:=.type "list",data:=.seq #[] }).update s.heap.objs.size (ki (λ_=>(#[]:Array Gg)))).get? b=Ga o:=λb o e =>
  (kX _ _ (ui (jE (jm e)))).trans (jd _ e)
 generalize (s.heap.push { cls:=.type "list",data:=.seq #[] }).update s.heap.objs.size (ki (λ_=>(#[]:Array Gg)))=h1 at n1 kp;have hd1:pq h1 d es ep:=hd.kept λo e=>kp d o e;refine gk (wpAny_letGo ?_);unfold j5;refine gk (wpAny_typeOf (T:="dict") (pq.ty (s:={ s with heap:=h1 }) hd1) ?_);rw[show uI (.ref s.heap.objs.size) (.ref d)=false from by simp[uI,uS hlt]];simp only[show(vj "dict"==vj "list")=false by decide,show(vj "dict"==vj "tuple")=false by decide,vC,kH,if_false];refine gk (ZH (s:={ s with heap:=h1 }) sm hd1 ?_);have kp2:∀ b o,h1.get? b=Ga o->(h1.push { cls:=.type "dict_keyiterator",data:=.fields #[.ref d,.int 0 0,.int es.size 0,.int ep 0] }).get? b=Ga o:=λb o e=>jd _ e;have it0:(h1.push { cls:=.type "dict_keyiterator",data:=.fields #[.ref d,.int 0 0,.int es.size 0,.int ep 0] }).IsKeyIter h1.objs.size d 0 es.size ep:=⟨_,jy _ rfl,rfl,rfl⟩;have dI:d≠h1.objs.size:=by obtain⟨o,e,_⟩:=hd1;exact jE (jm e)
 have sI:s.heap.objs.size≠h1.objs.size:=jE (jm n1);have hd2:=hd1.kept λo e=>kp2 d o e;have n2:=kp2 _ _ n1;generalize h1.push { cls:=.type "dict_keyiterator",data:=.fields #[.ref d,.int 0 0,.int es.size 0,.int ep 0] }=h2 at kp2 it0 hd2 n2;refine gk (wpAny_holding (zwJ (pq.ty (s:={ s with heap:=h2 }) hd2) ?_));refine wpAny_ite_split (λ_=>?_) λz=>absurd (by decide) z;refine gk (wpAny_rule (gk ?_));show wpAny _ _ (updateSeq s.heap.objs.size (·.push .none) >>= λ_=>updateSeq s.heap.objs.size (·.pop)) _ _ _;refine gk (wpAny_updateSeq n2 rfl ?_);have n3:=uA (ki (·.push km)) n2 rfl;refine wpAny_updateSeq (hz:=by seq_fits) n3 rfl ?_;have n4:=uA (ki (·.pop)) n3 rfl;have kp3:∀ b o,b≠s.heap.objs.size->h2.get? b=Ga o->((h2.update s.heap.objs.size (ki (·.push km))).update s.heap.objs.size (ki (·.pop))).get? b=Ga o :=
  λb o hb e=>(kX _ _ (ui hb)).trans ((kX _ _ (ui hb)).trans e)
 have it4:=it0.at λo e=>kp3 _ o (ui sI) e;have hd4:=hd2.kept λo e=>kp3 _ o (jE hlt) e;generalize (h2.update s.heap.objs.size (ki (·.push km))).update s.heap.objs.size (ki (·.pop))=h4 at n4 kp3 it4 hd4;have W:=(zvM (prog:=prog) (w:=w) (A:=A.in1.in1) (show A.in1.in1.handled=Gb from hh) h1.objs.size d dI es ep).toS;refine gm ⟨plainId_quiet F.plain_extend_loop _,codeAny_extend_loopS W hn s.heap.objs.size ?_ .none es.size 0 { s with heap:=h4 } #[] _ rfl (jO _) ⟨it4,hd4⟩ n4 (ItemsOf.nil _) λs' acc c m nn it=>?_⟩
 .simp only[ju,uM,or_false,not_or];exact⟨sI,uS hlt⟩
 .refine⟨rfl,?_⟩;rw[Moved.eq_with m];refine hQ s'.heap s'.toks acc c (λb o e=>m.heap b o (λz=>?_) (kp3 _ _ (jE (jm e)) (kp2 _ _ (kp b o e)))) nn it;simp only[ju,uM,or_false] at z;rcases z with z|z
  .exact absurd (jm e) (by rw[z];exact j0 _)
  .exact absurd (jm (kp b o e)) (by rw[z];exact j0 _)
end
section
variable {X:Cx}{pos:Pos}
theorem zuC (hc:X.calm=true):mh X (.type "list") (λxs H Q=>∃ (d:Gj) (ks:List D) (as:List Gj) (ep:Nat),xs=[.ref d]/\(d==sysModules)=false/\H d=Ga (.ext (oB d ks as ep))/\ks.length=as.length/\as.length<=1000000/\∀ l,H l=Gb->Q (.ref l) (upd H l (.lst (as.map V.ref)))):=by
 intro ω s σ H xs us Q I r h;obtain⟨d,ks,as,ep,rfl,sm,hd,hl,hz,q⟩:=h;obtain⟨u,rfl,ru⟩:=vals1 r;cases ru;have sz:(sT ks as).toArray.size=as.length:=by rw[jo,zzI hl]
 have hz':as.length<=sizeLine:=by rw[sizeLine_eq];exact jF hz (by decide)
 refine zzJ (es:=(sT ks as).toArray) (ep:=ep) (I.ok.hd hc) sm (zBY (Rx I.hok hd)) (by rw[sz];exact hz') λh' tk acc c k na it=>?_;rw[sz] at it;have vr:hV (as.map V.ref) acc.toList:=by
  refine Mz _ _ (by have a1:=it.1;have a2:=kw (xs:=acc);rw[jb];omega) λi x u hx hu=>?_;obtain⟨e,e1,e2⟩:=it.2 i u (by rw[<- vR];exact hu);rw[jA] at hx;obtain⟨b,hb,rfl⟩:=qS.mp hx;obtain⟨e',e3,e4⟩:=Pj hl hb;rw[vS,e3] at e1;cases e1;rw[e2,e4];rfl
 refine⟨.ref _,_,gA.laid (X:=X) (s:=s) (a:=s.heap.objs.size) (o:=.lst (as.map V.ref)) (t':=tk) I k (jh _) ⟨by rw[jb];exact hz',acc.toList,c,vr,?_⟩,rfl,q _ I.fresh⟩;rw[v4];exact na
theorem zBZ {e:Expr}{f:FV}{p:Pos}(hc:X.calm=true)(hg:Gl X "list")(hm:X.mg "list"=Gb)(ha:PV X e f)(hs:starEach [e] X.env=[(false,eval e X.env)]:=by rfl):PO X (.Call (.Name "list" p) [e] [] pos) (my wt f):=by
 refine md (MF (zuC hc) hg hm boot_list ha (hs:=hs)) λσ H Q=>?_;rintro⟨H0,F,ψ,ds,r,e,q⟩;obtain⟨d',e1,e⟩:=gp e;refine⟨H0,F,ψ,_,r,e1,λv H1 F1 g1 f1 fh1 n1 rv=>?_⟩;cases rv<;>first|(cases e;done)|skip
 rename_i a ks as ep sm ha ok rr;rw[Pq] at e;cases e;rw[Mq] at q;have hl:ks.length=as.length:=by have:=rr.length;rw[jb] at this;exact this
 refine⟨a,ks,as,ep,rfl,sm,fh1 _ _ ha,hl,by rw[<- hl];exact ok.len,λl hl'=>?_⟩;have s2:gq H1 (upd H1 l (.lst (as.map V.ref))):=gq.new hl';exact q l _ _ F1 (g1.trans s2) f1 (fh1.trans s2) n1 (g1.free hl') (fh1.free hl') gU rr
end
section
variable {X:Cx}{pos:Pos}
end
theorem Vc {a:Gj}{ws:List (Int×V)}{ep:Nat}:∀ h1 h2:Heap,nR a ws ep h1->(∀ o,h1.get? a=Ga o->h2.get? a=Ga o)->nR a ws ep h2:=by
 rintro h1 h2 ⟨o,es,ho,r⟩ k;exact⟨o,es,k _ ho,r⟩
theorem HP {P:Program}{w:World}{H:Hp}{h:Heap}{a:Gj}{ws:List (Int×V)}{ep:Nat}(p:nR a ws ep h):mK P w H h a (.ext (nR a ws ep)):=by
 obtain⟨o,es,ho,r⟩:=id p;exact⟨p,⟨o,ho⟩,Vc⟩
theorem XX {P:Program}{w:World}{H:Hp}{h:Heap}{a:Gj}{ws:List (Int×V)}{ep:Nat}(ok:HOk P w H h)(e:H a=Ga (.ext (nR a ws ep))):nR a ws ep h:=(show mK P w H h a (.ext _) from ok a _ e).1
theorem ot.pairs {P:Program}{w:World}:∀ {ws:List (Int×V)} {es:List DictEntry},ot ws es->∃ vs:List (Int×Gg),KV ws vs/\Pairs (intKind P w) es vs
 | _,_,.nil=>⟨[],.nil,.nil⟩
 | _,_,.cons (k:=k) (e:=e) hk hh hv t=>by
  obtain⟨vs,h1,h2⟩:=t.pairs (P:=P) (w:=w);exact⟨(k,e.val)::vs,.cons ⟨rfl,hv⟩ h1,.cons hk rfl h2⟩
theorem ot.keys {P:Program}{w:World}:∀ {ws:List (Int×V)} {es:List DictEntry},ot ws es->∀ e∈es,∃ k,(intKind P w).is k e.key=true/\e.hash=(intKind P w).hash k
 | _,_,.nil,e,h=>by cases h
 | _,_,.cons (k:=k) hk hh hv t,e,h=>by
  rcases ju.mp h with rfl|h
  .exact⟨k,hk,hh⟩
  .exact t.keys e h
theorem Hh {P:Program}{w:World}:∀ {ws:List (Int×V)} {vs:List (Int×Gg)} {es:List DictEntry},KV ws vs->Pairs (intKind P w) es vs->(∀ e∈es,∃ k,(intKind P w).is k e.key=true/\e.hash=(intKind P w).hash k)->ot ws es
 | _,_,_,.nil,.nil,_=>.nil
 | (k,v)::ws,kv::vs,e::es,.cons a t,.cons h1 h2 t2,hk=>by
  obtain⟨k',z1,z2⟩:=hk e jf;have ek:k'=kv.1:=(intKind P w).inj _ _ _ z1 h1;have e0:k=kv.1:=a.1;refine .cons ?_ ?_ ?_ (Hh t t2 λe h=>hk e (jj _ h))
  .rw[e0];exact h1
  .rw[z2,ek,e0];rfl
  .rw[h2];exact a.2
theorem OW {κ:Type}:∀ {ws:List (κ×V)} {vs:List (κ×Gg)},KV ws vs->vs.map (·.1)=ws.map (·.1)
 | _,_,.nil=>rfl
 | _,_,.cons h t=>by
  rw[jI,jI,OW t];exact congrArg (·::_) h.1.symm
theorem iw.fst {K:ja}{F:Hp}:∀ {l:List (Int×D)} {m:List (Int×V)},iw K F l m->m.map (·.1)=l.map (·.1)
 | _,_,.nil=>rfl
 | _,_,.cons h t=>congrArg (_::·) t.fst
def mL (kvs:List (Int×D))(k:Int)(d:D):List (Int×D) :=
 if (kvs.any λkv=>decide (kv.1=k))=true then kvs.map (λkv=>if kv.1=k then(kv.1,d) else kv) else kvs++[(k,d)]
theorem iw.anyk {K:ja}{F:Hp}(k:Int):∀ {l:List (Int×D)} {m:List (Int×V)},iw K F l m->(m.any λkv=>decide (kv.1=k))=(l.any λkv=>decide (kv.1=k))
 | _,_,.nil=>rfl
 | _,_,.cons h t=>by rw[vW,vW,t.anyk k]
theorem iw.mapk {K:ja}{F:Hp}{k:Int}{d:D}{v:V}(q:io K F d v):∀ {l:List (Int×D)} {m:List (Int×V)},iw K F l m->iw K F (l.map λkv=>if kv.1=k then(kv.1,d) else kv) (m.map λkv=>if kv.1=k then(kv.1,v) else kv)
 | _,_,.nil=>.nil
 | (j,e)::_,(_,u)::_,.cons h t=>by
  rw[jI,jI];by_cases c:j=k
  .rw[Ge c,Ge c];exact .cons q (t.mapk q)
  .rw[Gf c,Gf c];exact .cons h (t.mapk q)
theorem iw.app {K:ja}{F:Hp}:∀ {l l2:List (Int×D)} {m m2:List (Int×V)},iw K F l m->iw K F l2 m2->iw K F (l++l2) (m++m2)
 | _,_,_,_,.nil,q=>q
 | _,_,_,_,.cons h t,q=>.cons h (t.app q)
theorem iw.put {K:ja}{F:Hp}{k:Int}{d:D}{v:V}{l:List (Int×D)}{m:List (Int×V)}(r:iw K F l m)(q:io K F d v):iw K F (mL l k d) (oo m k v):=by
 unfold mL oo;rw[r.anyk k];split
 .exact r.mapk q
 .exact r.app (.cons q .nil)
theorem XB (kvs:List (Int×D))(k:Int)(d:D):(kvs.map λkv=>if kv.1=k then(kv.1,d) else kv).map (·.1)=kvs.map (·.1):=by
 rw[jU];refine jW λx _=>?_;show(if x.1=k then(x.1,d) else x).1=x.1;split<;>rfl
theorem OO {kvs:List (Int×D)}{k:Int}{d:D}(ok:rF kvs)(hl:kvs.length<1000000):rF (mL kvs k d):=by
 unfold mL;split
 .exact⟨by rw[XB];exact ok.nd,by rw[jb];exact ok.len⟩
 .rename_i c;refine⟨?_,by rw[jr];exact hl⟩;rw[jZ,uj];refine⟨ok.nd,kh.mpr ⟨by simp,kY⟩,λx hx y hy=>?_⟩;rw[jk.mp hy];rintro rfl;obtain⟨p,h1,h2⟩:=jv.mp hx;exact c (uN.mpr ⟨p,h1,Gc h2⟩)
section
variable {X:Cx}{ω:List (Gj×Obj)}{σ:St}{F H:Hp}{s:Gh}{a:Gj}{kvs:List (Int×D)}{ws:List (Int×V)}{ep:Nat}
theorem Aq (I:gA X ω σ H s)(e:H a=Ga (.ext (nR a ws ep)))(nd:(ws.map (·.1)).Nodup):∃ vs:List (Int×Gg),KV ws vs/\s.heap.DictOf (intKind X.prog X.w) a vs:=by
 obtain⟨o,es,ho,hc,hd,he⟩:=XX I.hok e;obtain⟨vs,h1,h2⟩:=he.pairs (P:=X.prog) (w:=X.w);exact⟨vs,h1,o,es,ep,ho,hc,hd,λe h=>he.keys e (vm.mpr h),h2,by rw[OW h1];exact nd⟩
theorem XV {k:Int}{v:V}{u r:Gg}{A:Around}{E:Gg->Gh->Prop}{Q:Unit->Gh->Prop}(I:gA X ω σ H s)(e:H a=Ga (.ext (nR a ws ep)))(nd:(ws.map (·.1)).Nodup)(hz:ws.length<=1000000)(ru:ia (.int k) u)(rv:ia v r)
  (h:∀ s' ep',gA X ω σ (upd H a (.ext (nR a (oo ws k v) ep'))) s'->Q () s'):wpAny (model X.prog X.w) A (setItem (.ref a) u r) Q E s:=by
 obtain⟨vs,rel,dd⟩:=Aq I e nd;obtain⟨t,rfl⟩:=ru;have hz':vs.length<=sizeLine:=by rw[<- rel.length,sizeLine_eq];exact jF hz (by decide)
 refine wpAny_setItem_pairs (knd:=intKind X.prog X.w) (hsz:=hz') (k:=k) (show vZ k (.int k t)=true by simp[vZ]) dd λh' dd' hs=>?_;obtain⟨o',es',ep',ho,hc,hd,hk,hp,_⟩:=dd';refine h _ ep' (Aw I (by rw[e];trivial) hs ⟨o',ho⟩ (HP ⟨o',es',ho,hc,hd,?_⟩));exact Hh (rel.put k rv) hp λe h=>hk e (vm.mp h)
end
theorem iw.length {K:ja}{F:Hp}:∀ {l:List (Int×D)} {m:List (Int×V)},iw K F l m->l.length=m.length
 | _,_,.nil=>rfl
 | _,_,.cons _ t=>congrArg qC t.length
theorem iw.nd {K:ja}{F:Hp}{l:List (Int×D)}{m:List (Int×V)}(r:iw K F l m)(ok:rF l):(m.map (·.1)).Nodup:=by rw[r.fst];exact ok.nd
theorem iw.le {K:ja}{F:Hp}{l:List (Int×D)}{m:List (Int×V)}(r:iw K F l m)(ok:rF l):m.length<=1000000:=by rw[<- r.length];exact ok.len
section
variable {X:Cx}{pos:Pos}
theorem zzL:PE X (.Dict [] [] pos) (λσ H Q=>∀ p,H p=Gb->(p==sysModules)=false->Q (.ref p) (upd H p (.ext (nR p [] 0)))):=λω s σ H Q I h =>
 wpAny_Dict_empty ⟨.ref s.heap.objs.size,_,I.laid (a:=s.heap.objs.size) (o:=.ext (nR s.heap.objs.size [] 0)) (t':=s.toks) (λ_ _ q=>jd _ q) (jh _) (HP ⟨_,#[],jy _ rfl,⟨rfl,rfl,rfl⟩,rfl,.nil⟩),rfl,
  h _ (I.hok.fresh (jh _)) (beq_eq_false_iff_ne.mpr (ui (jE I.big)))⟩
abbrev HM (i:Nat):FS:=λψ=>Ga (.nx (ψ.set i (.dki Gb [])))
theorem QR (i:Nat){x:Str}{p pos':Pos}(hN:X.N.Nodup)(hi:X.N[i]?=Ga x:=by rfl)(hx:wB X.env.scope x:=by first|exact k9 rfl|exact kK rfl)
  (hs:swapsWith (.Dict [] [] p) (Ga (.Name x pos')) pos.line X.env=pure false:=by rfl) (hf:X.fn x=true\/X.env.scope.names.lookup x=Ga .local:=by first|exact .inl rfl|exact .inr rfl) :
  ol X (.Assign [.Name x pos'] (.Dict [] [] p) pos) (HM i):=by
 intro ω s σ H D I hw;refine xM hN hi hx zzL hs hf ω s σ H D I ?_;obtain⟨H0,F,ψ,o,r,e,p⟩:=hw;cases e;have hl:i<σ.length:=by rw[I.len];exact(jp.mp hi).1
 intro a ha sm;have g:gq H (upd H a (.ext (nR a [] 0))):=gq.new ha;exact p _ _ F (.refl _) (.refl _ _) ((r.later g).putG hl ⟨a,[],0,rfl,gU,r.fh.free ha,r.h0.free ha,.nil,sm,⟨kY,jO _⟩,λ_ z=>by cases z⟩ λj s o _ ej=>r.ne_free ha j s o ej)
def Ob (td ty tv:TE):TS:=λD σ H=>tv σ H λv H1=>td σ H1 λx H2=>ty σ H2 λy H3=>∃ (a:Gj) (ws:List (Int×V)) (ep:Nat) (k:Int),x=.ref a/\y=.int k/\H3 a=Ga (.ext (nR a ws ep))/\(ws.map (·.1)).Nodup/\ws.length<=1000000 /\
 ∀ ep',D.nx σ (upd H3 a (.ext (nR a (oo ws k v) ep')))
theorem zB0 {o i value:Expr}{pos':Pos}{td ty tv:TE}(ho:PE X o td)(hi:PE X i ty)(hv:PE X value tv)(hs:swapsWith value (Ga (.Subscript o i pos')) pos.line X.env=pure false) :
  PS X (.Assign [.Subscript o i pos'] value pos) (Ob td ty tv):=by
 intro ω s σ H D I h;refine wpAny_Assign_Subscript (iq (hv ω s σ H _ I h) λr s1 ⟨v,H1,I1,rv,q1⟩=>iq (ho ω s1 σ H1 _ I1 q1) λu s2 ⟨x,H2,I2,rx,q2⟩=>iq (hi ω s2 σ H2 _ I2 q2) λiv s3 ⟨y,H3,I3,ry,a,ws,ep,k,ex,ey,g,nd,hz,q3⟩=>?_) hs;subst ex ey;obtain rfl:u=kJ a:=rx;exact XV I3 g nd hz ry rv λs4 ep' I4=>⟨σ,_,I4,q3 ep'⟩
def xh (i:Nat)(f g:FV):FS:=λψ=>(g ψ).bind λv=>(f ψ).bind λk=>match ψ[i]?,k with
 | some (.dki oa kvs),.int n=>if kvs.length<1000000 then Ga (.nx (ψ.set i (.dki oa (mL kvs n v)))) else Gb
 | _,_=>Gb
theorem Qr (i:Nat){x:Str}{ke value:Expr}{f g:FV}{p p2:Pos}(hk:PV X ke f)(hval:PV X value g)(hN:X.N[i]?=Ga x:=by rfl)(hv:wb X.env.scope x:=by first|exact k9 rfl|exact kK (k9 rfl)|exact kK (kK rfl))
  (hd:(x==("__debug__":Str))=false:=by decide) (hcd:(x==("__classdict__":Str))=false:=by decide)
  (hs:swapsWith value (Ga (.Subscript (.Name x p) ke p2)) pos.line X.env=pure false:=by rfl) :
  ol X (.Assign [.Subscript (.Name x p) ke p2] value pos) (xh i f g):=by
 refine sJ (zB0 (pp (pos:=p) hN hv hd hcd) hk hval hs) λE σ H=>?_;rintro⟨H0,F,ψ,o,r,e,p⟩;obtain⟨v,e0,e⟩:=gp e;obtain⟨k,e1,e2⟩:=gp e;clear e;split at e2;rotate_left
 .cases e2
 rename_i oa kvs n z;split at e2;rotate_left
 .cases e2
 rename_i c;cases e2;refine⟨H0,F,ψ,v,r,e0,λvv H1 F1 g1 f1 fh1 n1 rv=>?_⟩;have r1:=r.grow g1 f1 fh1 n1;obtain⟨u,x3,a,ws,ep,x4,ha1,fa,h0a,rr,sm,ok,ho⟩:=r1.sl i _ z;subst x4;refine⟨.ref a,x3,H0,F1,ψ,.int n,r1,e1,λkk H2 F2 g2 f2 fh2 n2 rk=>?_⟩;cases rk;have r2:=r1.grow g2 f2 fh2 n2;obtain⟨u,x5,a',ws',ep',x6,ha2,fa2,h0a2,rr2,sm2,ok2,ho2⟩:=r2.sl i _ z;subst x6;rw[x3] at x5;cases x5;refine⟨a,ws',ep',n,rfl,rfl,ha2,rr2.nd ok2,rr2.le ok2,λep2=>?_⟩;exact p σ _ F2 (f1.trans f2) (((n1.dn r.h0).up (n2.dn r1.h0))) (r2.chgG z rfl x3 ⟨a,_,ep2,rfl,gU,fa2,h0a2,rr2.put (rv.mono f2),sm2,OO ok2 c,ho2⟩)
theorem ot.length:∀ {ws:List (Int×V)} {es:List DictEntry},ot ws es->es.length=ws.length
 | _,_,.nil=>rfl
 | _,_,.cons _ _ _ t=>congrArg qC t.length
theorem ot.get:∀ {ws:List (Int×V)} {es:List DictEntry} {i:Nat} {k:Int},ot ws es->(ws.map (·.1))[i]?=Ga k->∃ e t,es[i]?=Ga e/\e.key=.int k t
 | _,_,i,_,.nil,h=>by simp at h
 | _,_,0,_,.cons hk _ _ _,h=>by
  cases h;obtain⟨t,z⟩:=JG hk;exact⟨_,t,rfl,z⟩
 | _,_,i+1,k,.cons _ _ _ t,h=>t.get (i:=i) (k:=k) h
def Em:List (D×D)->Option (List (Int×D))
 | []=>Ga []
 | (.int k,d)::r=>(Em r).bind λl=>Ga ((k,d)::l)
 | _=>Gb
def pz:D->Option (List (Int×D))
 | .dict ((.none,.none)::l)=>Em l
 | _=>Gb
theorem OL:∀ kvs:List (Int×D),Em (kvs.map λp=>(jc p.1,p.2))=Ga kvs
 | []=>rfl
 | (k,d)::r=>by
  show(Em (r.map λp=>(jc p.1,p.2))).bind _=_;rw[OL r];rfl
theorem Fx (kvs:List (Int×D)):pz (re kvs)=Ga kvs:=OL kvs
theorem io.int_dict {K:ja}{F:Hp}{d:D}{v:V}{kvs:List (Int×D)}(r:io K F d v)(e:pz d=Ga kvs):∃ a ws ep,v=.ref a/\(a==sysModules)=false/\F a=Ga (.ext (nR a ws ep))/\rF kvs/\iw K F kvs ws:=by
 cases r with
 | @dci a kvs' ws ep hs h ok r =>
  have e':pz (re kvs')=Ga kvs:=e;rw[Fx] at e';cases e';exact⟨a,ws,ep,rfl,hs,h,ok,r⟩
 | @dic a ks as ep hs h ok r =>
  cases ks with
  | nil=>cases e
  | cons k r=>cases k<;>cases e
 | _=>cases e
def nr (kvs:List (Int×D))(k:Int):Option D:=(kvs.find? λp=>decide (p.1=k)).map (·.2)
theorem iw.at {K:ja}{F:Hp}(k:Int):∀ {l:List (Int×D)} {m:List (Int×V)},iw K F l m->(nr l k=Gb/\oK m k=Gb)\/∃ d v,nr l k=Ga d/\oK m k=Ga v/\io K F d v
 | _,_,.nil=>.inl ⟨rfl,rfl⟩
 | (j,d)::l,(_,v)::m,.cons h t=>by
  unfold nr oK;by_cases c:j=k
  .exact .inr ⟨d,v,by rw[kD (p:=λ(p:Int×D)=>decide (p.1=k)) (Gc c)];rfl,by rw[kD (p:=λ(kv:Int×V)=>decide (kv.1=k)) (Gc c)];rfl,h⟩
  .rw[kA (p:=λ(p:Int×D)=>decide (p.1=k)) (by simpa using c),kA (p:=λ(kv:Int×V)=>decide (kv.1=k)) (by simpa using c)];exact t.at k
def iI (d:D):D->Option D
 | .int k=>(pz d).bind λkvs=>nr kvs k
 | _=>Gb
def NU (d:D):D->Option D
 | .int k=>(pz d).bind λkvs=>Ga ((nr kvs k).getD .none)
 | _=>Gb
def zl (d k x:D):Option D:=match k with
 | .int k=>(pz d).bind λkvs=>Ga ((nr kvs k).getD x)
 | _=>Gb
def ls (k d:D):Option D:=match k with
 | .int k=>(pz d).bind λkvs=>Ga (.bool (!(nr kvs k).isSome))
 | _=>Gb
theorem DK {k:Int}{u:Gg}(r:ia (.int k) u):(intKind X.prog X.w).is k u=true:=by
 obtain⟨t,rfl⟩:=r;show vZ k (.int k t)=true;simp[vZ]
theorem Eu {a b:Expr}{f g:FV}(ha:PV X a f)(hb:PV X b g)(hs:Mk b:=by exact λ_ _=>rfl):PV X (.Subscript a b pos) (gL iI f g):=by
 intro ω s σ H Q I hw;obtain⟨H0,F,ψ,d,r,e,q⟩:=hw;obtain⟨x,e1,e⟩:=gp e;obtain⟨y,e2,e⟩:=gp e;obtain⟨k,rfl⟩:∃ k:Int,y=.int k:=by cases y<;>first|(cases e;done)|exact⟨_,rfl⟩
 refine Gn PySem.F.slot_dict_getitem.lookup hs (iq (ha ω s σ H (λv H1=>∃ F1,gq H H1/\gq F F1/\gq F1 H1/\iO F F1 H/\io X.K F1 x v) I ⟨H0,F,ψ,x,r,e1,λv H1 F1 g1 f1 fh1 n1 rv=>⟨F1,g1,f1,fh1,n1,rv⟩⟩) λu s1 ⟨v,H1,I1,rx,F1,g1,f1,fh1,n1,rv⟩=>?_);refine iq (hb ω s1 σ H1 (λv2 H2=>∃ F2,gq H1 H2/\gq F1 F2/\gq F2 H2/\iO F1 F2 H1/\io X.K F2 (.int k) v2) I1 ⟨H0,F1,ψ,.int k,r.grow g1 f1 fh1 n1,e2,λv2 H2 F2 g2 f2 fh2 n2 rv2=>⟨F2,g2,f2,fh2,n2,rv2⟩⟩) λu2 s2 ⟨v2,H2,I2,rx2,F2,g2,f2,fh2,n2,rv2⟩=>?_;cases rv2;obtain⟨kvs,e3,e4⟩:=gp (show(pz x).bind (λkvs=>nr kvs k)=Ga d from e);obtain⟨a,ws,ep,rfl,sm,fa,ok,rr⟩:=(rv.mono f2).int_dict e3;cases rx;obtain⟨vs,rel,dd⟩:=Aq I2 (fh2 _ _ fa) (rr.nd ok);rcases rr.at k with ⟨z1,z2⟩|⟨d',v',z1,z2,z3⟩
 .rw[z1] at e4;cases e4
 .rw[z1] at e4;cases e4;obtain⟨w',hw,rw'⟩:=rL.some_of (v:=v') (o:=valueAt vs k) (by rw[<- z2];exact rel.val k);exact⟨dd.typeIs,wpAny_getItem_of (DK rx2) dd.mapOf hw ⟨v',H2,I2.tok _,rw',q v' H2 F2 (g1.trans g2) (f1.trans f2) fh2 (n1.trans n2 g1) z3⟩⟩
theorem zzN:∀ a b d,ls a b=Ga d->∃ k,d=.bool k:=λa b d h=>by
 unfold ls at h;split at h
 .obtain⟨kvs,_,h⟩:=gp h;cases h;exact⟨_,rfl⟩
 .cases h
theorem zwP {K:ja}{F:Hp}{k:Int}{l:List (Int×D)}{m:List (Int×V)}{vs:List (Int×Gg)}(rr:iw K F l m)(rel:KV m vs):(valueAt vs k).isSome=(nr l k).isSome:=by
 rw[<- (rel.val k).isSome_eq];rcases rr.at k with ⟨z1,z2⟩|⟨d',v',z1,z2,z3⟩<;>rw[z1,z2]<;>rfl
theorem zB1:lI X (compareOp .NotIn) (xa X.K ls):=by
 intro ω s σ H x y v u Q I rx ry h;obtain⟨F,k,b,d,g,ra,rb,e,q⟩:=h;cases ra<;>first|(cases e;done)|skip
 rename_i k;obtain⟨kvs,e3,e4⟩:=gp (show(pz b).bind (λkvs=>Ga (j8 (!(nr kvs k).isSome)))=Ga d from e);cases e4;obtain⟨a,ws,ep,rfl,sm,fa,ok,rr⟩:=rb.int_dict e3;cases ry;obtain⟨vs,rel,dd⟩:=Aq I (g _ _ fa) (rr.nd ok);refine wpAny_notIn_of (DK rx) sm dd.mapOf ?_;rw[zwP rr rel];exact⟨.bl _,H,I.tok _,rfl,q _ rfl⟩
theorem PK {a b:Expr}{f g:FV}(ha:PV X a f)(hb:PV X b g)(hm:behindInMarks .NotIn b=false:=by first|rfl|with_unfolding_all rfl):PB X (.Compare a [.NotIn] [b] pos) (iJ ls f g):=wQ zB1 (xH zzN) ha hb hm
end
section
variable {P:Program}{w:World}{K:ja}{mg:Str->Option Gg}{base:Heap}{x qual:Str}{st:Stmt}{f:Gj}{fd:Gi}{N ps:List Str}{k:Nat}{g:FS}
end
section
variable {X:Cx}{pos:Pos}
variable {k:Nat}{f:Gj}{fd:Gi}{ps:List Str}{x:Str}{p pc:Pos}{e:Expr}{es:List Expr}{g:FL}
end
section
variable {prog:Program}{w:World}{A:Around}{E:Gg->Gh->Prop}{s:Gh}
end
section
variable {X:Cx}{pos:Pos}
end
section
variable {prog:Program}{w:World}{A:Around}{R:Result->Gh->Prop}{s:Gh}
end
section
variable {X:Cx}{ω:List (Gj×Obj)}{σ:St}{H2:Hp}{s2:Gh}{elt iter tg:Expr}{x xb:Str}{px pos:Pos}{ifs:List Expr}{scope:Scope}{cl:List (Str×Gj)}{fr:List Str}{ix:List Nat}
end
abbrev WP:FT:=KI (tY (mD 0) (tY (mD 1) Bu))
section
variable {X:Cx}{elt iter tg:Expr}{x xb:Str}{px pxb pt pos:Pos}{tk:Nat}{ifs:List Expr}{scope:Scope}{fr:List Str}{ix:List Nat}{fi:FL}{fc:FB}{fe:FV}
structure LP (X:Cx)(scope:Scope)(tg:Expr)(x xb:Str)(fr:List Str)(ifs:List Expr)(elt:Expr)(fc:FB)(fe:FV):Prop where
 h:∀ cl C s H fp ω,wK (lW X scope cl C (x::xb::fr) s H fp ω) tg WP /\
  LH (lW X scope cl C (x::xb::fr) s H fp ω) ifs (xY X.K ifs fc)/\PV (lW X scope cl C (x::xb::fr) s H fp ω) elt fe
 hn:ifs=[]->fc=λ_=>Ga true
theorem LP.tc (B:LP X scope tg x xb fr ifs elt fc fe):∀ σ H Q,tT X.K fc σ H Q->xY X.K ifs fc σ H Q:=by
 intro σ H Q h;cases ifs with
 | nil =>
  obtain⟨H0,F,ψ,b,r,e,q⟩:=h;rw[B.hn rfl] at e;cases e;exact q H (.refl _)
 | cons c r=>exact h
end
abbrev TV (op:D->D->D->Option D)(f g h:FV):FV:=λψ=>(f ψ).bind λx=>(g ψ).bind λy=>(h ψ).bind λz=>op x y z
def Dt:D->D->Option D:=tR λi j=>.int (vK i j)
def Bp:D->Option D
 | .int i=>Ga (.int (if i<0 then -i else i))
 | _=>Gb
section
variable {X:Cx}{pos:Pos}
theorem zDV {a b:Expr}{f g:FV}(ha:PV X a f)(hb:PV X b g):PV X (.BinOp a .BitXor b pos) (λψ=>(f ψ).bind λx=>(g ψ).bind λy=>Dt x y):=sM Kk (pA λ_ _ _=>.int _) ha hb
theorem zwQ:mh X (.builtin "abs") (λxs H Q=>∃ i:Int,xs=[.int i]/\Q (.int (if i<0 then -i else i)) H):=by
 intro ω s σ H xs us Q I r h;obtain⟨i,rfl,q⟩:=h;obtain⟨u,rfl,ru⟩:=vals1 r;obtain⟨t,rfl⟩:=ru;exact call_abs_int λu tk=>⟨.int _,H,I.tok _,⟨_,rfl⟩,q⟩
theorem zF0 {e:Expr}{f:FV}{p:Pos}(hg:Gl X "abs")(hm:X.mg "abs"=Gb)(ha:PV X e f)(hs:starEach [e] X.env=[(false,eval e X.env)]:=by rfl):PV X (.Call (.Name "abs" p) [e] [] pos) (un Bp f):=by
 refine md (ze zwQ hg hm boot_abs ha (hs:=hs)) λσ H Q=>?_;rintro⟨H0,F,ψ,d,r,e,q⟩;obtain⟨d',e1,e⟩:=gp e;refine⟨H0,F,ψ,d',r,e1,λv H1 F1 g1 f1 fh1 n1 rv=>?_⟩;cases rv<;>first|(cases e;done)|skip
 cases e;exact⟨_,rfl,q _ H1 F1 g1 f1 fh1 n1 (.int _)⟩
theorem Su {ω:List (Gj×Obj)}{σ:St}{H:Hp}{s:Gh}{a:Gj}{ws:List (Int×V)}{ep:Nat}(I:gA X ω σ H s)(e:H a=Ga (.ext (nR a ws ep)))(nd:(ws.map (·.1)).Nodup) :
  s.TypeIs (.ref a) "dict"/\∀ b,kJ a=.ref b->∃ ob,s.heap.get? b=Ga ob/\ob.dict=Gb:=by
 obtain⟨vs,rel,dd⟩:=Aq I e nd;refine⟨dd.typeIs,λb q=>?_⟩;cases q;obtain⟨ob,_,_,h1,h2,_⟩:=dd;exact⟨ob,h1,h2.2.1⟩
theorem zGB {o e:Expr}{fo fe:FV}{apos cpos:Pos}(ho:PV X o fo)(he:PV X e fe)(m:M1 X o "get" apos e cpos:=by exact⟨rfl,rfl,rfl,rfl⟩):PV X (.Call (.Attribute o "get" apos) [e] [] cpos) (gL NU fo fe):=by
 intro ω s σ H Q I hw;obtain⟨H0,F,ψ,d,r,e0,q⟩:=hw;obtain⟨x,e1,e0⟩:=gp e0;obtain⟨y,e2,e0⟩:=gp e0;obtain⟨k,rfl⟩:∃ k:Int,y=.int k:=by cases y<;>first|(cases e0;done)|exact⟨_,rfl⟩
 obtain⟨kvs,e3,e4⟩:=gp (show(pz x).bind (λkvs=>Ga ((nr kvs k).getD .none))=Ga d from e0);cases e4;refine wpAny_Call_method m.base m.few m.line qG ve Je (iq (ho ω s σ H (λv H1=>∃ F1,gq H H1/\gq F F1/\gq F1 H1/\iO F F1 H/\io X.K F1 x v) I ⟨H0,F,ψ,x,r,e1,λv H1 F1 g1 f1 fh1 n1 rv=>⟨F1,g1,f1,fh1,n1,rv⟩⟩) λu s1 ⟨v,H1,I1,rx,F1,g1,f1,fh1,n1,rv⟩=>?_);obtain⟨a,ws,ep,rfl,sm,fa,ok,rr⟩:=rv.int_dict e3;cases rx;obtain⟨t1,t2⟩:=Su I1 (fh1 _ _ fa) (rr.nd ok);refine⟨t1,t2,?_⟩;rw[m.trees];refine uV rfl (u7 (uU (iq (he ω s1 σ H1 (λv2 H2=>∃ F2,gq H1 H2/\gq F1 F2/\gq F2 H2/\iO F1 F2 H1/\io X.K F2 (.int k) v2) I1 ⟨H0,F1,ψ,.int k,r.grow g1 f1 fh1 n1,e2,λv2 H2 F2 g2 f2 fh2 n2 rv2=>⟨F2,g2,f2,fh2,n2,rv2⟩⟩) λu2 s2 ⟨v2,H2,I2,rx2,F2,g2,f2,fh2,n2,rv2⟩=>vM ?_)));cases rv2;obtain⟨vs,rel,dd⟩:=Aq I2 (fh2 _ _ (f2 _ _ fa)) (rr.nd ok);refine call_meetsIn ve dd.typeIs qT (PySem.F.args_dict_get_2 _ _) (meets_dict_get (intKind X.prog X.w) a (DK rx2) sm) ⟨_,dd.mapOf,?_⟩;have rr2:=rr.mono f2;rcases rr2.at k with ⟨z1,z2⟩|⟨d',v',z1,z2,z3⟩
 .rw[z1] at q;have:=rel.val k;rw[z2] at this;exact⟨_,H2,I2.tok _,this.getD (d:=.non) (d':=.none) rfl,q .non H2 F2 (g1.trans g2) (f1.trans f2) fh2 (n1.trans n2 g1) .non⟩
 .rw[z1] at q;have:=rel.val k;rw[z2] at this;exact⟨_,H2,I2.tok _,this.getD (d:=.non) (d':=.none) rfl,q v' H2 F2 (g1.trans g2) (f1.trans f2) fh2 (n1.trans n2 g1) z3⟩
theorem Sa {o e f:Expr}{fo fe ff:FV}{apos cpos:Pos}(ho:PV X o fo)(he:PV X e fe)(hf:PV X f ff)(m:M2 X o "get" apos e f cpos:=by exact⟨rfl,rfl,rfl,rfl⟩):PV X (.Call (.Attribute o "get" apos) [e,f] [] cpos) (TV zl fo fe ff):=by
 intro ω s σ H Q I hw;obtain⟨H0,F,ψ,d,r,e0,q⟩:=hw;obtain⟨x,e1,e0⟩:=gp e0;obtain⟨y,e2,e0⟩:=gp e0;obtain⟨z,ez,e0⟩:=gp e0;obtain⟨k,rfl⟩:∃ k:Int,y=.int k:=by cases y<;>first|(cases e0;done)|exact⟨_,rfl⟩
 obtain⟨kvs,e3,e4⟩:=gp (show(pz x).bind (λkvs=>Ga ((nr kvs k).getD z))=Ga d from e0);cases e4;refine wpAny_Call_method m.base m.few m.line qG ve Je (iq (ho ω s σ H (λv H1=>∃ F1,gq H H1/\gq F F1/\gq F1 H1/\iO F F1 H/\io X.K F1 x v) I ⟨H0,F,ψ,x,r,e1,λv H1 F1 g1 f1 fh1 n1 rv=>⟨F1,g1,f1,fh1,n1,rv⟩⟩) λu s1 ⟨v,H1,I1,rx,F1,g1,f1,fh1,n1,rv⟩=>?_);obtain⟨a,ws,ep,rfl,sm,fa,ok,rr⟩:=rv.int_dict e3;cases rx;obtain⟨t1,t2⟩:=Su I1 (fh1 _ _ fa) (rr.nd ok);refine⟨t1,t2,?_⟩;rw[m.trees];have r1:=r.grow g1 f1 fh1 n1;refine uV rfl (u7 (uU (iq (he ω s1 σ H1 (λv2 H2=>∃ F2,gq H1 H2/\gq F1 F2/\gq F2 H2/\iO F1 F2 H1/\io X.K F2 (.int k) v2) I1 ⟨H0,F1,ψ,.int k,r1,e2,λv2 H2 F2 g2 f2 fh2 n2 rv2=>⟨F2,g2,f2,fh2,n2,rv2⟩⟩) λu2 s2 ⟨v2,H2,I2,rx2,F2,g2,f2,fh2,n2,rv2⟩ =>
  uU (iq (hf ω s2 σ H2 (λv3 H3=>∃ F3,gq H2 H3/\gq F2 F3/\gq F3 H3/\iO F2 F3 H2/\io X.K F3 z v3) I2 ⟨H0,F2,ψ,z,r1.grow g2 f2 fh2 n2,ez,λv3 H3 F3 g3 f3 fh3 n3 rv3=>⟨F3,g3,f3,fh3,n3,rv3⟩⟩) λu3 s3 ⟨v3,H3,I3,rx3,F3,g3,f3,fh3,n3,rv3⟩=>vM ?_))))
 cases rv2;obtain⟨vs,rel,dd⟩:=Aq I3 (fh3 _ _ (f3 _ _ (f2 _ _ fa))) (rr.nd ok);refine call_meetsIn ve dd.typeIs qT (PySem.F.args_dict_get_3 _ _ _) (meets_dict_get_default (intKind X.prog X.w) a (DK rx2) sm u3) ⟨_,dd.mapOf,?_⟩;have rr2:=(rr.mono f2).mono f3;have gg:=(g1.trans g2).trans g3;have ff:=(f1.trans f2).trans f3;have nn:=(n1.trans n2 g1).trans n3 (g1.trans g2);rcases rr2.at k with ⟨z1,z2⟩|⟨d',v',z1,z2,z3⟩
 .rw[z1] at q;have:=rel.val k;rw[z2] at this;exact⟨_,H3,I3.tok _,this.getD (d:=v3) (d':=u3) rx3,q v3 H3 F3 gg ff fh3 nn rv3⟩
 .rw[z1] at q;have:=rel.val k;rw[z2] at this;exact⟨_,H3,I3.tok _,this.getD (d:=v3) (d':=u3) rx3,q v' H3 F3 gg ff fh3 nn z3⟩
theorem YN:yM X "list.extend" (λx vs H Q=>∃ l b xs zs,x=.ref l/\vs=[.ref b]/\H l=Ga (.lst xs)/\lr X.K H b zs/\xs.length+zs.length<=1000000/\Q .non (upd H l (.lst (xs++zs)))):=by
 intro ω s σ H x vs v us Q I rx rv h;obtain⟨l,b,xs,zs,rfl,rfl,hH,hB,hz,q⟩:=h;cases rx;obtain⟨u,rfl,ru⟩:=rv.one;cases ru;obtain⟨z,its,n,r,hl,e⟩:=I.lstM hH;obtain⟨its2,r2,⟨o2,n2,e2,c2,k2,d2⟩,z2⟩:=I.list hB;have hl2:=r2.length;have hsz:its.length+its2.length<=sizeLine:=by rw[sizeLine_eq];omega
 refine wpAny_call_entry qB ⟨_,e,rfl⟩ PySem.F.entry_list_extend ?_ (PySem.F.args_list_extend_2 _ _);show wpAny _ _ (j5 (.ref l) (.ref b) .none) _ _ s;unfold j5;refine gk (wpAny_typeOf (T:="list") ⟨o2,e2,c2⟩ ?_);rw[Ge (by simp)];refine gk (listItems_at e2 d2 ?_);refine gk (listItems_at e rfl ?_);rw[Gf (by
  rw[show vD (its.toArray.size+its2.toArray.size)=false from Dk (by rw[jo,jo];exact hsz),qm];exact jq)]
 refine gk (listUpdate_at e rfl ?_ (by rw[jo];omega) (by rw[JM,jo,jo];omega));refine gm ?_;exact⟨_,rfl,.non,_,I.lset (t':=s.toks) (its':=its++its2) hH e (by simp) (r.append r2) (by rw[jr];omega),rfl,q⟩
def sR (ds es:List D):Option (List D):=if ds.length+es.length<=1000000 then Ga (ds++es) else Gb
abbrev Du (i:Nat)(f:FV):FS:=λψ=>(go i ψ).bind λds=>(f ψ).bind λd=>(wO d).bind λes=>(sR ds es).bind λrs=>Ga (.nx (ψ.set i (.own rs)))
theorem zO (i:Nat){x:Str}{e:Expr}{f:FV}{p p2 p3:Pos}(h:PV X e f)(hN:X.N[i]?=Ga x:=by rfl)(hv:wb X.env.scope x:=by first|exact k9 rfl|exact kK (k9 rfl)|exact kK (kK rfl))
  (hst:starEach [e] X.env=[(false,eval e X.env)]:=by rfl) (hline:(p2.endLine==p3.line)=true:=by rfl)
  (hd:(x==("__debug__":Str))=false:=by decide) (hcd:(x==("__classdict__":Str))=false:=by decide)
  (hs:swapsWith (.Call (.Attribute (.Name x p) "extend" p2) [e] [] p3) Gb pos.line X.env=pure false:=by rfl) :
  ol X (.Expr (.Call (.Attribute (.Name x p) "extend" p2) [e] [] p3) pos) (Du i f):=by
 refine sJ (AN (DH qD qB PySem.F.type_list_extend YN (pp (pos:=p) hN hv hd hcd) (lF h nV hst) rfl (by rw[hst];rfl) hline hst rfl) hs) λE σ H=>?_;rintro⟨H0,F,ψ,o,r,e,p⟩;obtain⟨ds,e1,e⟩:=gp e;obtain⟨d,e2,e⟩:=gp e;obtain⟨es,e3,e⟩:=gp e;obtain⟨rs,e4,e⟩:=gp e;cases e;cases RC e3;unfold sR at e4;split at e4;rotate_left
 .cases e4
 rename_i hz;cases e4;unfold go at e1;split at e1;rotate_left
 .cases e1
 rename_i ds' z;cases e1;obtain⟨u,e3,a,xs,e4,ha,fa,h0a,rr⟩:=r.sl i _ z;subst e4;refine⟨.ref a,e3,.inl ⟨rfl,xs,lr.of ha⟩,H0,F,ψ,.list es,r,e2,λv H' F' g f1 fh n rv=>?_⟩;have r2:=r.grow g f1 fh n;obtain⟨u2,e5,a2,xs2,e6,ha2,fa2,h0a2,rr2⟩:=r2.sl i _ z;rw[e3] at e5;cases e5;cases e6;cases rv with
 | lst hb rb =>
  refine⟨a,_,xs2,_,rfl,rfl,ha2,fh.seq hb,?_,?_⟩
  .rw[<- rr2.length,<- rb.length];exact hz
  .exact p σ _ F' f1 (n.dn r.h0) (r2.chg z e3 (rr2.append rb))
end
section
variable {prog:Program}{w:World}{A:Around}{E:Gg->Gh->Prop}{s:Gh}{vs:List Gg}
theorem ZG {l:Gj}{Q:List Gg->Gh->Prop}(hl:IsTup s.heap l vs.toArray)
  (h:∀ h',(∀ b o,s.heap.get? b=Ga o->h'.get? b=Ga o)->(∃ o,h'.get? s.heap.objs.size=Ga o)->Q vs { s with heap:=h' }) (hsz:vs.length<=sizeLine) :
  wpAny (model prog w) A (collect (.ref l)) Q E s:=by
 obtain⟨o,ho,hc,n,hd⟩:=id hl;unfold collect;refine gk (wpAny_runValue (codeAny_builtin entry_proto_collect' ?_));show wpAny _ _ (do again (.builtin "list.__iadd__" ⟨[<- newList [],.ref l],[]⟩)) _ _ s;refine gk (wpAny_newList (gm ⟨Code.quiet_builtin _ (by nofun),codeAny_builtin entry_list_iadd' ?_⟩));show wpAny _ _ (j5 (.ref s.heap.objs.size) (.ref l) (.ref s.heap.objs.size)) _ _ { s with heap:=s.heap.push (seqObj "list" #[] 0) };unfold j5;have ho':(s.heap.push (seqObj "list" #[] 0)).get? l=Ga o:=jd _ ho;refine gk (wpAny_typeOf (T:="tuple") ⟨o,ho',hc⟩ ?_);rw[Ge (by simp)];refine gk (listItems_at ho' hd ?_);refine gk (listItems_at (xs:=#[]) (n:=0) (jy _ rfl) rfl ?_);rw[Gf (by simp)];refine gk (listUpdate_at (xs:=#[]) (n:=0) (jy _ rfl) rfl ?_ (jO _) (by show(#[]++vs.toArray).size<=sizeLine+1;simp only[JM,jo,va];omega));refine gm ?_;show wpAny (model prog w) A (do
   let o <- load s.heap.objs.size
   match o.data with
   | .seq xs _=>pure xs.toList
   | _=>unsupported "internal:collect") Q E { s with heap:=(s.heap.push (seqObj "list" #[] 0)).update s.heap.objs.size (ki (·++vs.toArray)) }
 refine gk (wpAny_load (get?_update_seq (jy _ rfl) _) ?_);show wpAny _ _ (pure ((#[]:Array Gg)++vs.toArray).toList) Q E _;rw[show((#[]:Array Gg)++vs.toArray).toList=vs by simp];refine gm (h _ (λb o hb=>?_) ⟨_,get?_update_seq (jy _ rfl) _⟩);exact(kX _ _ (uS (jm hb))).trans (jd _ hb)
theorem Sv {v:Gg}{out:List Gg}{Q:Gg->Gh->Prop}(hz:vs.length<64)
  (hcol:∀ (A':Around) (Q':List Gg->Gh->Prop) (E':Gg->Gh->Prop),A'.handled=A.handled->(∀ h' tk,(∀ b o,s.heap.get? b=Ga o->h'.get? b=Ga o)->(∃ o,h'.get? s.heap.objs.size=Ga o)->Q' vs { s with heap:=h',toks:=tk })->wpAny (model prog w) A' (collect v) Q' E' s)
  (hs:∀ (s1:Gh) (a n:Nat) (P:JY->Gh->Prop) (E':Gg->Gh->Prop),(∀ b o,s.heap.get? b=Ga o->s1.heap.get? b=Ga o)->s.heap.objs.size<=a->s1.heap.get? a=Ga (seqObj "list" vs.toArray n) ->
   (∀ h' c,(∀ b o,b≠a->s1.heap.get? b=Ga o->h'.get? b=Ga o)->h'.get? a=Ga (seqObj "list" out.toArray c)->P (.done (.ret .none)) { s1 with heap:=h' }) ->
   wpAny (model prog w) A.in1.in1 (Builtin.«list.sort» ⟨[.ref a],[]⟩) P E' s1)
  (h:∀ h' tk a c,(∀ b o,s.heap.get? b=Ga o->h'.get? b=Ga o)->s.heap.objs.size<=a->h'.get? a=Ga (seqObj "list" out.toArray c)->Q (.ref a) { s with heap:=h',toks:=tk }) :
  wpAny (model prog w) A (call (.builtin "sorted") [v]) Q E s:=by
 have sl:vs.length<=sizeLine:=by rw[sizeLine_eq];omega
 refine qr kind_sorted plain_sorted entry_sorted (args_sorted1 _) ?_;unfold Builtin.«sorted»;refine gk (m:=checkCount "sorted" 1 1 _) (gm (gk (hcol _ _ _ rfl λh1 tk k1 t1=>gk (wpAny_newList ?_ sl))));obtain⟨o1,ho1⟩:=t1;have hsz:s.heap.objs.size<=h1.objs.size:=uv (jm ho1);have hoL:(h1.push (seqObj "list" vs.toArray 0)).get? h1.objs.size=Ga (seqObj "list" vs.toArray 0):=jy _ rfl;have keep:∀ b o,s.heap.get? b=Ga o->(h1.push (seqObj "list" vs.toArray 0)).get? b=Ga o:=λb o q=>jd _ (k1 b o q);refine gk (wpAny_holding (wpAny_call_entry slot_list_sort ⟨_,hoL,rfl⟩ entry_list_sort ?_ (args_list_sort _)));refine hs { s with heap:=h1.push (seqObj "list" vs.toArray 0),toks:=tk } h1.objs.size 0 _ _ keep hsz hoL λh' c kk hc=>⟨_,rfl,gm ⟨_,rfl,h h' tk h1.objs.size c (λb o e=>kk b o (jE (jz (jm e) hsz)) (keep b o e)) hsz hc⟩⟩
end
section
variable {P:Program}{w:World}{K:ja}{mg:Str->Option Gg}{base:Heap}{f:Gj}{fd:Gi}{ps:List Str}{k:Nat}
theorem Ur:gN P w K mg base hG k f fd ps (tq K λ_=>Gb):=by
 have no:∀ vs H Q E,¬tq K (λ_=>Gb) vs H Q E:=λvs H Q E h=>by obtain⟨_,_,_,_,_,e,_⟩:=h;cases e
 exact⟨λvs H Q E h=>absurd h (no vs H Q E),λA outer s H args us vs Q E _ _ _ _ h=>absurd h (no vs H Q E)⟩
end
section
variable {X:Cx}{pos:Pos}
theorem zwS {ω:List (Gj×Obj)}{σ:St}{H:Hp}{s:Gh}{v:Gg}{F:Hp}{ds rs:List D}{xs:List V}{its:List Gg}{Q:VK}(I:gA X ω σ H s)(g:gq F H)(rv:hV xs its)(rr:gJ X.K F ds xs)(e:mU ds=Ga rs)
  (hcol:∀ (A':Around) (Q':List Gg->Gh->Prop) (E':Gg->Gh->Prop),A'.handled=X.A.handled->(∀ h' tk,(∀ b o,s.heap.get? b=Ga o->h'.get? b=Ga o)->(∃ o,h'.get? s.heap.objs.size=Ga o)->Q' its { s with heap:=h',toks:=tk })->wpAny (model X.prog X.w) A' (collect v) Q' E' s)
  (q:∀ a ys,H a=Gb->gJ X.K F rs ys->Q (.ref a) (upd H a (.lst ys))):wpAny (model X.prog X.w) X.A (call (.builtin "sorted") [v]) (EP X ω σ Q) X.xe s:=by
 have hlen:ds.length=its.length:=rr.length.trans rv.length;have fin:∀ (out:List Gg) (ys:List V) (h':Heap) (tk:Nat) (a c:Nat),hV ys out->out.length<=sizeLine->gJ X.K F rs ys->(∀ b o,s.heap.get? b=Ga o->h'.get? b=Ga o)->s.heap.objs.size<=a->h'.get? a=Ga (seqObj "list" out.toArray c) ->
   EP X ω σ Q (.ref a) { s with heap:=h',toks:=tk }:=λout ys h' tk a c rvo hz2 rro k ha hc =>
  ⟨.ref _,_,I.laid (t':=tk) (o:=.lst ys) k ha ⟨by rw[rvo.length];exact hz2,out,c,rvo,hc⟩,rfl,q _ ys (I.hok.fresh ha) rro⟩
 unfold mU at e;split at e
 .rename_i hs;cases e;refine Sv (out:=its) (by omega) hcol (λs1 a n P E' k ha ho hP=>SV ho (by omega) λh' c kk hc=>hP h' c kk hc) λh' tk a c k ha hc=>fin its xs h' tk a c rv (by rw[sizeLine_eq];omega) rr k ha hc
 .rename_i hs;split at e
  .rename_i ok;rw[jx,decide_eq_true_eq] at ok;obtain⟨pm,e1,e2⟩:=gp e;split at e2;rotate_left
   .cases e2
   rename_i hpm;cases e2;have h2:2<=its.length:=by omega
   rw[hlen] at e1;refine Sv (out:=pm.toList.map λi=>its.getD i km) (by omega) hcol (λs1 a n P E' k ha ho hP=>RX ho h2 (by omega) e1 (λs2 k2=>Pv I g rv rr h2 ok.2 λb o eb=>k2 b o (jE (jz (jm eb) ha)) (k b o eb)) λh' c kk hc=>hP h' c kk hc) λh' tk a c k ha hc=>?_;refine fin _ (pm.toList.map λi=>xs.getD i .non) h' tk a c ?_ ?_ ?_ k ha hc
   .have:∀ l:List Nat,hV (l.map λi=>xs.getD i V.non) (l.map λi=>its.getD i km):=λl=>by
     induction l with
     | nil=>exact .nil
     | cons i l ih =>
      refine .cons ?_ ih;dsimp only;rw[jg,jg];cases hx:xs[i]? with
      | none=>rw[rv.none_of hx];rfl
      | some v=>obtain⟨u,e,r⟩:=rv.get hx;rw[e];exact r
    exact this _
   .rw[jb,kw,sizeLine_eq];omega
   .have:∀ l:List Nat,gJ X.K F (l.map λi=>ds.getD i .none) (l.map λi=>xs.getD i V.non):=λl=>by
     induction l with
     | nil=>exact .nil
     | cons i l ih =>
      refine .cons ?_ ih;dsimp only;rw[jg,jg];cases hx:ds[i]? with
      | none =>
       have:xs[i]?=Gb:=kr (by rw[<- rr.length];exact uB.mp hx);rw[this];exact .non
      | some d=>obtain⟨v,e,r⟩:=rr.get hx;rw[e];exact r
    exact this _
  .cases e
theorem zuE:mh X (.builtin "sorted") (λvs H Q=>∃ F ds rs p xs,vs=[.ref p]/\gq F H/\mV X.K H p xs/\gJ X.K F ds xs/\mU ds=Ga rs/\∀ a ys,H a=Gb->gJ X.K F rs ys->Q (.ref a) (upd H a (.lst ys))):=by
 intro ω s σ H vs us Q I r h;obtain⟨F,ds,rs,p,xs,rfl,g,hl,rr,e,q⟩:=h;obtain⟨u,rfl,ru⟩:=vals1 r;cases ru;obtain⟨its,rv,pl,hz⟩:=I.tuple hl;exact zwS I g rv rr e (λA' Q' E' _ k=>ZG pl (λh' k1 k2=>k h' s.toks k1 k2) (by rw[<- rv.length];exact hz)) q
theorem zwT {e:Expr}{f:FV}{p pos:Pos}(hg:Gl X "sorted")(hm:X.mg "sorted"=Gb)(ha:PV X e f)(hs:starEach [e] X.env=[(false,eval e X.env)]:=by rfl):PO X (.Call (.Name "sorted" p) [e] [] pos) (BC (Xc f)):=by
 refine md (ze zuE hg hm boot_sorted ha (hs:=hs)) λσ H Q=>?_;rintro⟨H0,F,ψ,rs,r,e,q⟩;obtain⟨ds,e1,e⟩:=gp e;obtain⟨d,e2,e3⟩:=gp e1;cases SS e3;refine⟨H0,F,ψ,.tuple ds,r,e2,λv H1 F1 g1 f1 fh1 n1 rv=>?_⟩;cases rv with
 | tup hl rr =>
  refine⟨F1,ds,rs,_,_,rfl,fh1,nq fh1 hl,rr,e,λa ys ha ry=>?_⟩;have s2:gq H1 (upd H1 a (.lst ys)):=gq.new ha;exact q a ys _ F1 (g1.trans s2) f1 (fh1.trans s2) n1 (g1.free ha) (fh1.free ha) gU ry
end
section
variable {X:Cx}{pos:Pos}
variable {k:Nat}{f:Gj}{fd:Gi}{ps:List Str}{x y:Str}{p p' pc:Pos}{e:Expr}{es:List Expr}{g:FL}
end
section
variable {X:Cx}{pos:Pos}{a b:Expr}{f g:FV}
end
section
variable {X:Cx}
end
def butC (H:Hp)(cs:List Gj):Hp:=λb=>if b∈cs then Gb else H b
theorem zL {H:Hp}{cs:List Gj}{b:Gj}(h:b∈cs):butC H cs b=Gb:=Ge h
theorem nJ {H:Hp}{cs:List Gj}{b:Gj}(h:b∉cs):butC H cs b=H b:=Gf h
theorem Fo {H:Hp}{cs:List Gj}{b:Gj}{o:HO}(h:butC H cs b=Ga o):b∉cs/\H b=Ga o:=by
 by_cases hb:b∈cs
 .rw[zL hb] at h;cases h
 .rw[nJ hb] at h;exact⟨hb,h⟩
def putC (G H:Hp)(cs:List Gj):Hp:=λb=>if b∈cs then G b else H b
theorem Dc {G H:Hp}{cs:List Gj}{b:Gj}(h:b∈cs):putC G H cs b=G b:=Ge h
theorem wG {G H:Hp}{cs:List Gj}{b:Gj}(h:b∉cs):putC G H cs b=H b:=Gf h
def Of (H:Hp)(c:Gj):Prop:=∃ o v,H c=Ga (.frz o (.own c))/\o.data=.cell v
def mw (H:Hp)(cs:List Gj):Prop:=∀ c∈cs,Of H c
theorem Ie {H:Hp}{cs:List Gj}(m:mw H cs){l:List Gg}(g:iU H l):iU (butC H cs) l :=
 ⟨g.1,λpos cv e=>by
  obtain⟨c,o,vs,v,e1,e2,e3,e4⟩:=g.2 pos cv e;refine⟨c,o,vs,v,e1,?_,e3,e4⟩;rw[nJ λz=>?_]
  .exact e2
  .obtain⟨o',v',h1,h2⟩:=m c z;rw[e2] at h1;cases h1;rw[e3] at h2;cases h2⟩
theorem Co {G H:Hp}{cs:List Gj}(n:∀ c∈cs,H c=Gb):∀ c o,H c=Ga o->putC G H cs c=Ga o:=λc o h=>by
 rw[wG λz=>by rw[n c z] at h;cases h];exact h
theorem gq.withC {H H':Hp}{cs:List Gj}(m:mw H cs)(s:gq (butC H cs) H')(n:∀ c∈cs,H' c=Gb):gq H (putC H H' cs):=λb o h=>by
 by_cases hb:b∈cs
 .rw[Dc hb];obtain⟨o',v',h1,_⟩:=m b hb;rw[h1] at h;cases h;exact h1
 .rw[wG hb];exact((s b o (by rw[nJ hb];exact h)).from λ_ z=>Ie m z).to λ_ z=>z.sub (Co n)
theorem gq.withC2 {F' H' F H:Hp}{cs:List Gj}(mF:mw F cs)(e:∀ c∈cs,F c=H c)(s:gq F' H')(nF:∀ c∈cs,F' c=Gb)(n:∀ c∈cs,H' c=Gb):gq (putC F F' cs) (putC H H' cs):=λb o h=>by
 by_cases hb:b∈cs
 .rw[Dc hb] at h ⊢;obtain⟨o',v',h1,_⟩:=mF b hb;rw[h1] at h;cases h;rw[<- e b hb];exact h1
 .rw[wG hb] at h ⊢;refine((s b o h).from λl z=>?_).to λ_ z=>z.sub (Co n);refine⟨z.1,λpos cv e=>?_⟩;obtain⟨c,x,vs,v,e1,e2,e3,e4⟩:=z.2 pos cv e;refine⟨c,x,vs,v,e1,?_,e3,e4⟩;rw[wG λq=>?_] at e2
  .exact e2
  .rw[Dc q] at e2;obtain⟨o',v',h1,h2⟩:=mF c q;rw[e2] at h1;cases h1;rw[e3] at h2;cases h2
mutual
theorem io.butC {K:ja}{F:Hp}{cs:List Gj}(m:mw F cs):∀ {d:D} {v:V},io K F d v->io K (T3.butC F cs) d v
 | _,_,.non=>.non
 | _,_,.bl b=>.bl b
 | _,_,.int i=>.int i
 | _,_,.str x=>.str x
 | _,_,.tup h r=>.tup (by
   rcases h with (h|⟨o,h⟩)|h
   .exact .inl (.inl (by rw[nJ λz=>by obtain⟨o',v',h1,_⟩:=m _ z;rw[h] at h1;cases h1];exact h))
   .exact .inl (.inr ⟨o,by rw[nJ λz=>by obtain⟨o',v',h1,_⟩:=m _ z;rw[h] at h1;cases h1];exact h⟩)
   .exact .inr h) (gJ.butC m r)
 | _,_,.lst h r=>.lst (by
   rcases h with (h|⟨o,h⟩)|h
   .exact .inl (.inl (by rw[nJ λz=>by obtain⟨o',v',h1,_⟩:=m _ z;rw[h] at h1;cases h1];exact h))
   .exact .inl (.inr ⟨o,by rw[nJ λz=>by obtain⟨o',v',h1,_⟩:=m _ z;rw[h] at h1;cases h1];exact h⟩)
   .exact .inr h) (gJ.butC m r)
 | _,_,.dic hs h ok r=>.dic hs (by rw[nJ λz=>by obtain⟨o',v',h1,_⟩:=m _ z;rw[h] at h1;cases h1];exact h) ok (gJ.butC m r)
 | _,_,.dci hs h ok r=>.dci hs (by rw[nJ λz=>by obtain⟨o',v',h1,_⟩:=m _ z;rw[h] at h1;cases h1];exact h) ok (iw.butC m r)
theorem gJ.butC {K:ja}{F:Hp}{cs:List Gj}(m:mw F cs):∀ {ds:List D} {vs:List V},gJ K F ds vs->gJ K (T3.butC F cs) ds vs
 | _,_,.nil=>.nil
 | _,_,.cons h t=>.cons (io.butC m h) (gJ.butC m t)
theorem iw.butC {K:ja}{F:Hp}{cs:List Gj}(m:mw F cs):∀ {l:List (Int×D)} {w:List (Int×V)},iw K F l w->iw K (T3.butC F cs) l w
 | _,_,.nil=>.nil
 | _,_,.cons h t=>.cons (io.butC m h) (iw.butC m t)
end
theorem HOk.butC {P:Program}{w:World}{H:Hp}{h:Heap}{cs:List Gj}(m:mw H cs)(x:HOk P w H h):HOk P w (T3.butC H cs) h:=λa o e=>by
 obtain⟨hb,e⟩:=Fo e;refine(x a o e).stay (λ_ _ _ q=>q) (λb q=>?_) λb xs q=>?_
 .rw[nJ λz=>by obtain⟨o',v',h1,_⟩:=m _ z;rw[q] at h1;cases h1];exact q
 .rw[nJ λz=>by obtain⟨o',v',h1,_⟩:=m _ z;rw[q] at h1;cases h1];exact q
theorem Un.putC {fs:List Gj}{H H':Hp}{h h':Heap}{cs:List Gj}(m:mw H cs)(u:Un fs [] (T3.butC H cs) H' h h')(n:∀ c∈cs,H' c=Gb):Un fs [] H (T3.putC H H' cs) h h':=by
 have out:∀ {b:Gj},H b=Gb->b∉cs:=λ{b} e z=>by obtain⟨o',v',h1,_⟩:=m _ z;rw[e] at h1;cases h1
 have bn:∀ {b:Gj},H b=Gb->T3.butC H cs b=Gb:=λ{b} e=>by rw[nJ (out e)];exact e
 refine⟨λb o q nb hb hx=>u.keep b o q (bn nb) hb hx,λb o q nb hb hx=>u.slot b o q (bn nb) hb hx,λb o q nb hx=>by rw[wG (out nb)];exact u.free b o q (bn nb) hx,u.there,λb xs q=>?_,λb o x q=>?_,λb ps q=>?_⟩
 .have nb:b∉cs:=λz=>by obtain⟨o',v',h1,_⟩:=m _ z;rw[q] at h1;cases h1
  rw[wG nb];exact u.tups b xs (by rw[nJ nb];exact q)
 .by_cases nb:b∈cs
  .rw[Dc nb];exact q
  .rw[wG nb];exact u.frzs b o x (by rw[nJ nb];exact q)
 .have nb:b∉cs:=λz=>by obtain⟨o',v',h1,_⟩:=m _ z;rw[q] at h1;cases h1
  rw[wG nb];exact u.tbls b ps (by rw[nJ nb];exact q)
theorem HOk.putC {P:Program}{w:World}{H H':Hp}{h h':Heap}{cs:List Gj}(m:mw H cs)(x:HOk P w H' h')(n:∀ c∈cs,H' c=Gb)(k:∀ c∈cs,∀ o v,H c=Ga (.frz o (.own c))->o.data=.cell v->h'.get? c=Ga o):HOk P w (T3.putC H H' cs) h':=λa o e=>by
 by_cases ha:a∈cs
 .rw[Dc ha] at e;obtain⟨o',v',h1,h2⟩:=m a ha;rw[h1] at e;cases e;have g:=k a ha o' v' h1 h2;exact⟨g,o',g⟩
 .rw[wG ha] at e;exact(x a o e).stay (λ_ _ _ q=>q) (λb q=>Co n b _ q) λb xs q=>Co n b _ q
structure sN (x:Str)(fr:List Str)(scope:Scope):Prop where
 kind:scope.kind=.function
 co:scope.isCoroutine=false
 gen:scope.isGenerator=false
 nocell:∀ y∈scope.names,y.2≠.cell
 par:scope.names.lookup x=Ga .local
 free:∀ y∈scope.names,y.2=.free->y.1∈fr
 frf:∀ y∈fr,scope.names.lookup y=Ga .free
 nd:(x::fr).Nodup
structure wy (K:ja)(F:Hp)(fr:List Str)(ds:List D)(cl:List (Str×Gj))(cs:List Gj):Prop where
 look:∀ (j:Nat) (y:Str) (d:D),fr[j]?=Ga y->ds[j]?=Ga d->∃ c o u v,cl.lookup y=Ga c/\c∈cs/\F c=Ga (.frz o (.own c))/\o.data=.cell (Ga u)/\ia v u/\io K F d v
 all:∀ y c,cl.lookup y=Ga c->c∈cs
 has:∀ y∈fr,∃ c,cl.lookup y=Ga c
 cells:mw F cs
 inj:∀ x y c,cl.lookup x=Ga c->cl.lookup y=Ga c->x=y
 len:ds.length=fr.length
 only:∀ c∈cs,∃ y,cl.lookup y=Ga c
theorem mw.mono {F F':Hp}{cs:List Gj}(s:gq F F')(m:mw F cs):mw F' cs:=λc h=>by
 obtain⟨o,v,h1,h2⟩:=m c h;exact⟨o,v,s _ _ h1,h2⟩
theorem wy.mono {K:ja}{F F':Hp}{fr:List Str}{ds:List D}{cl:List (Str×Gj)}{cs:List Gj}(s:gq F F')(x:wy K F fr ds cl cs):wy K F' fr ds cl cs :=
 ⟨λj y d h1 h2=>by
  obtain⟨c,o,u,v,e1,e2,e3,e4,e5,e6⟩:=x.look j y d h1 h2;exact⟨c,o,u,v,e1,e2,s _ _ e3,e4,e5,e6.mono s⟩,x.all,x.has,x.cells.mono s,x.inj,x.len,x.only⟩
def oi (f:Gj)(o:Obj):Heap->Prop:=λh=>h.get? f=Ga o
def DB (K:ja)(params:Arguments)(body:Expr)(scope:Scope)(fr:List Str)(ds:List D):ib where
 C:=λf F H=>∃ name qual cl pm c ctv cs o vs,∃ v:Str×Tok,F f=Ga (.ext (oi f (k6 name qual params body scope cl pm c ctv)))/\H c=Ga (.frz o (.own c))/\o.data=.fields vs/\vs[1]?=Ga (.str v.1 v.2)/\wy K F fr ds cl cs
 mono:=λf F F' H H' s z ⟨name,qual,cl,pm,c,ctv,cs,o,vs,v,h1,h2,h3,h4,h5⟩=>⟨name,qual,cl,pm,c,ctv,cs,o,vs,v,s _ _ h1,z _ _ h2,h3,h4,h5.mono s⟩
def xX (P:Program)(w:World)(K:ja)(mg:Str->Option Gg)(base:Heap)(N:List Str)(qual:Str)(scope:Scope)(f:Gj)(cd:Gg)(cl:List (Str×Gj))(A:Around)(outer:List Env)(s:Gh)(H:Hp):Cx where
 prog:=P
 w:=w
 K:=K
 mg:=mg
 base:=base
 A:=A.deeper (vx qual scope s.heap.objs.size f cd cl)
 N:=N
 s₀:=s
 H₀:=H
 env:=vx qual scope s.heap.objs.size f cd cl
 outer:=outer
 stack:=vx qual scope s.heap.objs.size f cd cl::outer
 ex:=[]
 fn:=λ_=>false
 calm:=true
 pn:=[]
 xe:=λ_ _=>False
section
variable {P:Program}{w:World}{K:ja}{mg:Str->Option Gg}{base:Heap}{A:Around}{outer:List Env}{s:Gh}{H F:Hp}{x:Str}{fr:List Str}{scope:Scope}{cl:List (Str×Gj)}{cs:List Gj}{ds:List D}{q:Str}{f:Gj}{cd:Gg}
theorem ZM (S:sN x fr scope)(hd:A.handled=Gb)(e0:sd P w K mg base A outer s H)(g:gq F H)(cP:wy K F fr ds cl cs){u:Gg}{v:V}(ru:ia v u){vs:List V}(hvs:vs.length=ds.length)
  (hv:∀ (j:Nat) (y:Str) (v:V),fr[j]?=Ga y->vs[j]?=Ga v->∃ c o u,cl.lookup y=Ga c/\F c=Ga (.frz o (.own c))/\o.data=.cell (Ga u)/\ia v u)
  {h1:Heap} {tk:Nat} (hns:h1.Ns s.heap.objs.size (λy=>[(x,u)].reverse.lookup y)) (hk:∀ b o,s.heap.get? b=Ga o->h1.get? b=Ga o) :
  gA (xX P w K mg base (x::fr) q scope f cd cl A outer s (T3.butC H cs)) [] (Ga v::vs.map Ga) (T3.butC H cs) { s with heap:=h1,toks:=tk }:=by
 have mH:mw H cs:=cP.cells.mono g;have noA:∀ b:Gj,b∉(xX P w K mg base (x::fr) q scope f cd cl A outer s (T3.butC H cs)).ex:=λb z=>absurd (show b∈([]:List Gj) from z) (by simp);have cell:∀ y c,cl.lookup y=Ga c->∃ v,h1.IsCell c v:=λy c e=>by
  obtain⟨o,v,h2,h3⟩:=mH c (cP.all y c e);exact⟨v,o,hk _ _ (e0.hok c _ h2).1,h3⟩
 refine⟨⟨e0.mod,S.kind,rfl,rfl,jh _,λy z c h1 h2=>cP.inj y z c h1 h2,λy hy=>?_,λy c hf _=>(by cases hf),λ_=>hd,Jh e0.frames,.inr ⟨rfl,rfl⟩,λb z=>absurd z (noA b),λb o e=>?_,e0.bsz,λb _ _=>noA b,λb z=>absurd z (noA b),e0.funs,λb hb=>?_⟩,
  rfl,e0.bare,Un.kept hk,⟨_,hns,λi y v' e1 e2 e3=>?_⟩,λy c h=>cell y c h,?_,λy c h=>?_,λp hp=>absurd (show p∈([]:List (Gj×Obj)) from hp) (by simp),L2.HOk.kept (T3.HOk.butC mH e0.hok) hk,?_⟩
 .have hy:scope.names.lookup y=Ga .cell\/scope.names.lookup y=Ga .free:=hy;rcases hy with hy|hy
  .exact absurd rfl (S.nocell _ (kF hy))
  .exact cP.has y (S.free _ (kF hy) rfl)
 .obtain⟨h2,h3⟩:=e0.bs b o e;exact⟨h2,by
   show T3.butC H cs b=Gb;by_cases hb:b∈cs
   .exact zL hb
   .rw[nJ hb];exact h3⟩
 .show T3.butC H cs b=Gb;by_cases hc:b∈cs
  .exact zL hc
  .rw[nJ hc];exact e0.frf b hb
 .cases i with
  | zero =>
   have e1:Ga x=Ga y:=e1;cases e1;have e2:Ga (Ga v)=Ga (Ga v'):=e2;cases e2;refine⟨u,ru,.inl ⟨S.par,?_⟩⟩;simp
  | succ j =>
   have e1:(x::fr)[j+1]?=Ga y:=e1;have e1:fr[j]?=Ga y:=by rw[vI] at e1;exact e1
   have e2:(Ga v::vs.map Ga)[j+1]?=Ga (Ga v'):=e2;rw[vI] at e2;rw[jA] at e2;cases z:vs[j]? with
   | none=>rw[z] at e2;cases e2
   | some v2 =>
    rw[z] at e2;cases e2;obtain⟨c,o,u2,h2,h3,h4,h5⟩:=hv j y _ e1 z;refine⟨u2,h5,.inr ⟨.inr (S.frf y (j7 e1)),c,h2,o,hk _ _ (e0.hok c _ (g _ _ h3)).1,h4⟩⟩
 .have n:=e0.hok.fresh (jh s.heap.objs.size);show T3.butC H cs s.heap.objs.size=Gb;by_cases hc:s.heap.objs.size∈cs
  .exact zL hc
  .rw[nJ hc];exact n
 .exact zL (cP.all y c h)
 .show(Ga v::vs.map Ga).length=(x::fr).length;rw[jB,jb,jB,hvs,cP.len]
end
theorem Qm {K:ja}{F:Hp}{cl:List (Str×Gj)}{cs:List Gj}:∀ {fr:List Str} {ds:List D},ds.length=fr.length->(∀ (j:Nat) (y:Str) (d:D),fr[j]?=Ga y->ds[j]?=Ga d->∃ c o u v,cl.lookup y=Ga c/\c∈cs/\F c=Ga (.frz o (.own c))/\o.data=.cell (Ga u)/\ia v u/\io K F d v) ->
  ∃ vs:List V,vs.length=ds.length/\gJ K F ds vs/\∀ (j:Nat) (y:Str) (v:V),fr[j]?=Ga y->vs[j]?=Ga v->∃ c o u,cl.lookup y=Ga c/\F c=Ga (.frz o (.own c))/\o.data=.cell (Ga u)/\ia v u
 | [],[],_,_=>⟨[],rfl,.nil,λj y v h _=>by simp at h⟩
 | [],_::_,h,_=>by simp at h
 | _::_,[],h,_=>by simp at h
 | y::fr,d::ds,h,hl=>by
  obtain⟨vs,h1,h2,h3⟩:=Qm (fr:=fr) (ds:=ds) (by simpa using h) λj y d e1 e2=>hl (j+1) y d (by simpa using e1) (by simpa using e2);obtain⟨c,o,u,v,e1,e2,e3,e4,e5,e6⟩:=hl 0 y d rfl rfl;refine⟨v::vs,by simpa using h1,.cons e6 h2,λj z v' q1 q2=>?_⟩;cases j with
  | zero =>
   have q1:Ga y=Ga z:=q1;have q2:Ga v=Ga v':=q2;cases q1;cases q2;exact⟨c,o,u,e1,e3,e4,e5⟩
  | succ j=>exact h3 j z v' (by simpa using q1) (by simpa using q2)
theorem RS.vals {K:ja}{F H:Hp}(g:gq F H):∀ {ds:List D} {vs:List V},gJ K F ds vs->RS K H F H (ds.map Sl.val) (vs.map Ga):=λ{ds vs} r=>by
 refine⟨.refl _,g,λi s e=>?_,λi j a s t o1 o2 e1=>?_⟩
 .rw[jA] at e;cases z:ds[i]? with
  | none=>rw[z] at e;cases e
  | some d =>
   rw[z] at e;cases e;obtain⟨v,h1,h2⟩:=r.get z;exact⟨Ga v,by rw[jA,h1];rfl,v,rfl,h2⟩
 .rw[jA] at e1;cases z:ds[i]? with
  | none=>rw[z] at e1;cases e1
  | some d=>rw[z] at e1;cases e1;cases o1
theorem zB3 {F:Hp}{cs:List Gj}{l:List Gg}(g:iU (butC F cs) l):iU F l:=g.sub λc o h=>(Fo h).2
theorem gq.butC2 {F H:Hp}{cs:List Gj}(m:mw H cs)(s:gq F H):gq (T3.butC F cs) (T3.butC H cs):=λb o h=>by
 obtain⟨hb,h⟩:=Fo h;rw[nJ hb];exact((s b o h).from λ_ z=>zB3 z).to λ_ z=>Ie m z
section
variable {P:Program}{w:World}{K:ja}{mg:Str->Option Gg}{base:Heap}{A:Around}{outer:List Env}{s:Gh}{H F:Hp}{x:Str}{fr:List Str}{scope:Scope}{ds:List D}{f:Gj}
theorem YE {k:Nat}{params:Arguments}{body:Expr}{fb:FV}(S:sN x fr scope)
  (hbind:∀ (name qual:Str) (cl:List (Str×Gj)) (pm:Gg) (c:Gj) (ctv u:Gg),bindArgs (qo name qual params body scope cl pm (.ref c) ctv) ⟨[u],[]⟩=pure [(x,u)])
  (hb:∀ (qual:Str) (f:Gj) (cd:Gg) (cl:List (Str×Gj)) (A:Around) (outer:List Env) (s:Gh) (H:Hp),lu k (A.deeper (vx qual scope s.heap.objs.size f cd cl))->PV (xX P w K mg base (x::fr) qual scope f cd cl A outer s H) body fb)
  (hC:(DB K params body scope fr ds).C f F H) {u:Gg} {v:V} {d r:D} {Q:VK} (hr:lu (k+1) A) (e0:sd P w K mg base A outer s H) (g:gq F H) (ru:ia v u) (rv:io K F d v) (e:fb (.val d::ds.map .val)=Ga r)
  (hq:∀ v' H' F',gq H H'->gq F F'->gq F' H'->iO F F' H->io K F' r v'->Q v' H') :
  codeAny (model P w) A (.call (.ref f) ⟨[u],[]⟩) (CR hG outer P w H s Q E0) s:=by
 obtain⟨name,qual,cl,pm,c,ctv,cs,o,vs0,qt,hf,hc,hod,hv1,cP⟩:=hC;have of_:s.heap.get? f=Ga (k6 name qual params body scope cl pm c ctv):=(e0.hok f _ (g _ _ hf)).1;have oc:s.heap.get? c=Ga o:=(e0.hok c _ hc).1;have lim:s.heap.NoLimit:=e0.mod.nolimit.keeps λb o e=>(e0.bs b o e).1;have mF:=cP.cells;have mH:mw H cs:=cP.cells.mono g;have nfr:∀ c∈cs,c∉rq outer:=λc hc hz=>by
  obtain⟨o',v',h1,_⟩:=mH c hc;rw[e0.frf c hz] at h1;cases h1
 refine codeAny_of_tree ?_;show wpAny _ A.in1 (callAny (.ref f) _) _ _ s;simp only[callAny];refine gk (wpAny_load of_ ?_);simp only[callFunction,S.co,S.gen];refine gk (m:=field (.ref c) 1) (wpAny_field oc hod hv1 (gk (gm ?_)));rw[hbind];refine gk (gm ?_);refine gk (wpAny_newFunctionEnv S.nocell (by intro y hy;rw[jk.mp hy];exact S.par) (λh1 hns hsb=>?_) S.kind);have hk:∀ b o,s.heap.get? b=Ga o->h1.get? b=Ga o:=λb o e=>hsb.extBut b o (jE (jm e)) (jd _ e);refine gk (wpAny_enterFrame (lim.keeps hk) hr.depth (gm (And.intro rfl ?_)));show codeAny _ _ (.expr body (vx qt.1 scope s.heap.objs.size f (.ref c) cl)) _ _;obtain⟨vs,hvs,rvs,hv⟩:=Qm cP.len cP.look;have I:=ZM (q:=qt.1) (f:=f) (cd:=.ref c) S hr.hd e0 g cP ru hvs hv (tk:=s.toks+1) hns hk;refine PySem.W.kla_codeExpr (wpAny_mono (hb qt.1 f (.ref c) cl A outer s (T3.butC H cs) (hr.deeper _) [] _ _ _ (λv' H'=>(∀ c∈cs,H' c=Gb)->Q v' (T3.putC H H' cs)) I ?_) (λu' s' h=>?_) λe' s' h=>h.elim)
 .refine⟨T3.butC H cs,T3.butC F cs,.val d::ds.map .val,r,RS.vals (g.butC2 mH) (ds:=d::ds) (vs:=v::vs) (.cons (rv.butC mF) (rvs.butC mF)),e,λv' H' F' g1 f1 fh1 n1 rv' n=>?_⟩;have nF:∀ c∈cs,F' c=Gb:=λc hc=>fh1.free (n c hc);refine hq v' _ (T3.putC F F' cs) (g1.withC mH n) (f1.withC mF nF) (fh1.withC2 mF (λc hc=>?_) nF n) (λb o h nb=>?_) (rv'.mono (gq.of (Co nF)))
  .obtain⟨o',v2,h2,_⟩:=mF c hc;rw[h2];exact(g _ _ h2).symm
  .have hb:b∉cs:=λz=>by obtain⟨o',v2,h2,_⟩:=mF b z;rw[nb] at h2;cases h2
   rw[wG hb] at h;have:=n1 b o h (by rw[nJ hb];exact nb);rw[nJ hb] at this;exact this
 .obtain⟨v',H',J,rel,qb⟩:=h;have n:∀ c∈cs,H' c=Gb:=λc hc=>by
   obtain⟨y,hy⟩:=cP.only c hc;exact J.freeC y c hy
  have J':Un (rq outer) [] (T3.butC H cs) H' s.heap s'.heap:=J.base;exact⟨v',T3.putC H H' cs,J.os,J.bare,T3.Un.putC mH J' n,T3.HOk.putC (h:=s.heap) mH J.hok n (λc hc o v h1 h2=>J'.keep c o (e0.hok c _ h1).1 (zL hc) (nfr c hc) (by simp)),rel,qb n⟩
end
structure ng (P:Program)(w:World)(K:ja)(mg:Str->Option Gg)(base:Heap)(k:Nat)(c:ib)(φ:D->Option D):Prop where
 obj:∀ f F H h,c.C f F H->gq F H->HOk P w H h->∃ o fd,h.get? f=Ga o/\o.data=.func fd
 run:∀ (f:Gj) (F H:Hp) (A:Around) (outer:List Env) (s:Gh) (u:Gg) (v:V) (d r:D) (Q:VK),c.C f F H->lu k A->sd P w K mg base A outer s H->gq F H->ia v u->io K F d v->φ d=Ga r ->
  (∀ v' H' F',gq H H'->gq F F'->gq F' H'->iO F F' H->io K F' r v'->Q v' H')->codeAny (model P w) A (.call (.ref f) ⟨[u],[]⟩) (CR hG outer P w H s Q E0) s
theorem ng.mono {P:Program}{w:World}{K:ja}{mg:Str->Option Gg}{base:Heap}{j k:Nat}{c:ib}{φ:D->Option D}(x:ng P w K mg base j c φ)(h:j<=k):ng P w K mg base k c φ :=
 ⟨x.obj,λf F H A outer s u v d r Q hC hr=>x.run f F H A outer s u v d r Q hC (hr.mono h)⟩
theorem ZU {P:Program}{w:World}{K:ja}{mg:Str->Option Gg}{base:Heap}{x:Str}{fr:List Str}{scope:Scope}{ds:List D}{k:Nat}{params:Arguments}{body:Expr}{fb:FV}(S:sN x fr scope)
  (hbind:∀ (name qual:Str) (cl:List (Str×Gj)) (pm:Gg) (c:Gj) (ctv u:Gg),bindArgs (qo name qual params body scope cl pm (.ref c) ctv) ⟨[u],[]⟩=pure [(x,u)])
  (hb:∀ (qual:Str) (f:Gj) (cd:Gg) (cl:List (Str×Gj)) (A:Around) (outer:List Env) (s:Gh) (H:Hp),lu k (A.deeper (vx qual scope s.heap.objs.size f cd cl))->PV (xX P w K mg base (x::fr) qual scope f cd cl A outer s H) body fb) :
  ng P w K mg base (k+1) (DB K params body scope fr ds) λd=>fb (.val d::ds.map .val) where
 obj:=λf F H h ⟨name,qual,cl,pm,c,ctv,cs,o,vs,qt,hf,_⟩ g hok=>⟨_,_,(hok f _ (g _ _ hf)).1,rfl⟩
 run:=λf F H A outer s u v d r Q hC hr e0 g ru rv e hq=>YE S hbind hb hC hr e0 g ru rv e hq
open Classical in
noncomputable def oI (i:Nat)(c:ib)(φ:D->Option D)(f:FV):FV:=λψ=>if ψ[i]?=Ga (.fn c) then(f ψ).bind φ else Gb
section
variable {X:Cx}{pos p:Pos}{k:Nat}{c:ib}{φ:D->Option D}
theorem PQ (i:Nat){y:Str}{ex:Expr}{f:FV}(hC:ng X.prog X.w X.K X.mg X.base k c φ)(hr:lu k X.A)(ha:PV X ex f)(hN:X.N[i]?=Ga y:=by rfl)(hv:wb X.env.scope y:=by first|exact k9 rfl|exact kK (k9 rfl)|exact kK (kK rfl))
  (hd:(y==("__debug__":Str))=false:=by decide) (hcd:(y==("__classdict__":Str))=false:=by decide) (hs:starEach [ex] X.env=[(false,eval ex X.env)]:=by rfl):PV X (.Call (.Name y p) [ex] [] pos) (oI i c φ f):=by
 intro ω s σ H Q I h;obtain⟨H0,F,ψ,d,r,e,q⟩:=h;unfold oI at e;split at e;rotate_left
 .cases e
 rename_i hi;obtain⟨d1,e1,e2⟩:=gp e;obtain⟨u,e3,g,e4,hg⟩:=r.sl i _ hi;subst e4;refine wpAny_Call_Name_kw (iq (pp (pos:=p) hN hv hd hcd ω s σ H (λv H1=>v=.ref g/\H1=H) I ⟨.ref g,e3,rfl,rfl⟩) λu1 s1 ⟨v1,H1,I1,rel,z1,z2⟩=>?_);subst z1;subst z2;obtain rfl:u1=kJ g:=rel;refine PySem.W.callWith_of (P:=λh=>∃ o fd,h.get? g=Ga o/\o.data=.func fd) (by rw[hs];rfl) (λh ⟨o,fd,h1,h2⟩=>⟨.frame,.inl rfl,?_⟩) ?_
 .obtain⟨cl0,dc0,dt0,sl0⟩:=o;have h2:dt0=.func fd:=h2;subst h2;exact(PySem.W.Looks.ld (part:=Gb) h1).andThen .now
 .have hp:PA X [ex] (DM (tV X.K f) Iz):=lF ha nV hs;rw[hs];refine u7 ?_;have hw:=hp pos ω s1 σ H1 (λvs H2=>∃ v F2,vs=[v]/\gq H1 H2/\gq F F2/\gq F2 H2/\iO F F2 H1/\io X.K F2 d1 v) I1 ⟨H0,F,ψ,d1,r,e1,λv H2 F2 g2 f2 fh2 n2 rv=>⟨v,F2,rfl,g2,f2,fh2,n2,rv⟩⟩;rw[hs] at hw;refine iq hw λus s2 ⟨vs,H2,I2,rvs,v,F2,z,g2,f2,fh2,n2,rv⟩=>?_;subst z;cases rvs with
  | cons ru rn =>
   cases rn;have hg2:=c.mono g F F2 H1 H2 f2 g2.fz hg;refine⟨hC.obj g F2 H2 _ hg2 fh2 I2.hok,?_⟩;refine wpAny_call (codeAny_mono (hC.run g F2 H2 X.A X.stack s2 _ v d1 d Q hg2 hr I2.env0 fh2 ru rv e2 λv' H' F' g3 f3 fh3 n3 rv3=>q v' H' F' (g2.trans g3) (f2.trans f3) fh3 (n2.trans n3 g2) rv3) λr s' hq=>?_);cases r with
   | error e=>exact hq.elim
   | ok fl =>
    cases fl with
    | ret u=>exact I2.after hq
    | next=>exact False.elim hq
    | brk=>exact False.elim hq
    | cont=>exact False.elim hq
end
def wC (K:ja)(p:Nat)(c:ib)(fm:List D->Option D):Sp:=λvs H Q _=>∃ (F:Hp) (g:Gj) (us:List V) (ds:List D) (d:D),vs=us.take p++.ref g::us.drop p/\c.C g F H/\gq F H/\gJ K F ds us/\fm ds=Ga d /\
 ∀ v H' F',gq H H'->gq F F'->gq F' H'->iO F F' H->io K F' d v->Q v H'
def startP (c:ib):Nat->Nat->List D->En
 | 0,n,ds=>.fn c::on (n-1) ds
 | p+1,n,d::ds=>.val d::startP c p (n-1) ds
 | _+1,_,[]=>[]
def rX (p np n:Nat)(c:ib)(g:FS)(ds:List D):Option D:=if ds.length+1=np then gO (g (startP c p n ds)) else Gb
theorem RS.cons {K:ja}{H0 F H:Hp}{ψ:En}{σ:St}(r:RS K H0 F H ψ σ){s:Sl}{u:Option V}(q:ph K H0 F H s u)(o:nM s=false):RS K H0 F H (s::ψ) (u::σ):=by
 refine⟨r.h0,r.fh,λi t e=>?_,λi j a t1 t2 o1 o2 e1 e2 e3 e4=>?_⟩
 .cases i with
  | zero=>cases e;exact⟨u,rfl,q⟩
  | succ i=>exact r.sl i t e
 .cases i with
  | zero=>cases e1;rw[o] at o1;cases o1
  | succ i =>
   cases j with
   | zero=>cases e2;rw[o] at o2;cases o2
   | succ j=>rw[r.ap i j a t1 t2 o1 o2 e1 e2 e3 e4]
theorem OQ {N:List Str}{v:V}{us:List V}:L2.start N (v::us)=Ga v::L2.start N.tail us:=by
 unfold L2.start;rw[jI,vV,jB,uc]
 congr 3
 omega
theorem RS.startP {K:ja}{F H:Hp}{c:ib}{g:Gj}(h:gq F H)(q:c.C g F H):∀ (p:Nat) {N:List Str} {ds:List D} {us:List V},gJ K F ds us->p<=ds.length->RS K H F H (T3.startP c p N.length ds) (L2.start N (us.take p++.ref g::us.drop p))
 | 0,N,ds,us,r,_=>by
  show RS K H F H (.fn c::on (N.length-1) ds) (L2.start N (.ref g::us));rw[OQ,show N.length-1=N.tail.length by rw[uc]];exact(RS.start (N:=N.tail) h r).cons ⟨g,rfl,q⟩ rfl
 | p+1,N,_,_,.cons (d:=d) (v:=v) hd t,hp=>by
  show RS K H F H (.val d::T3.startP c p (N.length-1) _) (L2.start N (v::_));rw[OQ,show N.length-1=N.tail.length by rw[uc]];exact(RS.startP h q p (N:=N.tail) t (Nat.le_of_succ_le_succ hp)).cons ⟨v,rfl,hd⟩ rfl
theorem UK {α:Type}(p:Nat)(x:α)(us:List α):(us.take p++x::us.drop p).length=us.length+1:=by
 rw[jr,jB,<- vX,<- jr,List.take_append_drop]
section
variable {P:Program}{w:World}{K:ja}{mg:Str->Option Gg}{base:Heap}{x qual:Str}{st:Stmt}{f:Gj}{fd:Gi}{N ps:List Str}{k p:Nat}{g:FS}{c:ib}
theorem Al (F:sC K x qual st f fd)(S:gB N ps (gs st))(hp:p<ps.length)
  (hb:∀ (cdv:Gg) (A:Around) (outer:List Env) (s:Gh) (H:Hp) (E:XK),lu k (A.deeper (envOfC qual (gs st) s.heap.objs.size f cdv))->oN (pK hG P w K mg base N qual (gs st) f cdv A outer s H E).nox (lE st) g) :
  gN P w K mg base hG (k+1) f fd ps (wC K p c (rX p ps.length N.length c g)):=by
 have hr0:∀ {ds:List D} {d:D},rX p ps.length N.length c g ds=Ga d->ds.length+1=ps.length/\(g (startP c p N.length ds)=Ga (.rt d)\/∃ xs,d=.list xs/\g (startP c p N.length ds)=Ga (.ro xs)):=λ{ds d} h=>by
  unfold rX at h;split at h
  .rename_i z;refine⟨z,?_⟩;unfold gO at h;split at h
   .rename_i e;cases h;exact .inl e
   .rename_i e;cases h;exact .inr ⟨_,rfl,e⟩
   .cases h
  .cases h
 refine F.ok S (λvs H Q E h=>?_) (λcdv A outer s H vs Q E hr h=>?_)
 .obtain⟨F0,g0,us,ds,d,rfl,_,_,r,e,_⟩:=h;rw[UK,<- r.length];exact(hr0 e).1
 .obtain⟨F0,g0,us,ds,d,rfl,hC,hs,r,e,q⟩:=h;have hp2:p<=ds.length:=by have:=(hr0 e).1;omega
  rcases(hr0 e).2 with z|⟨xs,rfl,z⟩
  .exact⟨_,hb cdv A outer s H E hr,H,F0,_,_,RS.startP hs hC p r hp2,z,λv H' F' g1 f1 fh1 n1 rv=>q v H' F' g1 f1 fh1 n1 rv⟩
  .refine⟨_,hb cdv A outer s H E hr,H,F0,_,_,RS.startP hs hC p r hp2,z,λa ys H' F' g1 f1 fh1 n1 ha fa ha' rr=>?_⟩;have sF:gq F' (upd F' a (.lst ys)):=gq.new fa;refine q (.ref a) H' (upd F' a (.lst ys)) g1 (f1.trans sF) (gq.upL fh1 ha' trivial) (λb o h nb=>?_) (.lst (lr.of gU) (rr.mono sF));by_cases hb:b=a
   .subst hb;exact ha
   .rw[gF hb] at h;exact n1 b o h nb
end
open Classical in
noncomputable def lw (i:Nat)(c:ib)(fm:List D->Option D)(g:FL):FV:=λψ=>if ψ[i]?=Ga (.fn c) then(g ψ).bind fm else Gb
section
variable {X:Cx}{k:Nat}{f:Gj}{fd:Gi}{ps:List Str}{x:Str}{p pos:Pos}{es:List Expr}{g:FL}{c:ib}
theorem zd (i:Nat){y:Str}{py:Pos}{fm:List D->Option D}(F:gN X.prog X.w X.K X.mg X.base hG k f fd ps (wC X.K 0 c fm))(hr:lu k X.A)(hm:X.mg x=Ga (.ref f))(hk:ue X.K (.ref f)=true)(hb:pN X.K fd ps [])(ha:PL X es g)(hg:Gl X x:=by rfl)
  (hN:X.N[i]?=Ga y:=by rfl) (hv:wb X.env.scope y:=by first|exact k9 rfl|exact kK (k9 rfl)|exact kK (kK rfl)) (hd:(y==("__debug__":Str))=false:=by decide) (hcd:(y==("__classdict__":Str))=false:=by decide)
  (hdb:(x==("__debug__":Str))=false:=by decide) (he:starEach (.Name y py::es) X.env=(false,eval (.Name y py) X.env)::starEach es X.env:=by rfl) (hpl:(backTo pos (starEach es X.env)).any (·.1)=false:=by rfl) :
  PV X (.Call (.Name x p) (.Name y py::es) [] pos) (lw i c fm g):=by
 refine md (yp F hr hg hm hk hb .nil BE (lF (pp (pos:=py) hN hv hd hcd) ha.pa he) hdb he hpl) λσ H Q=>?_;rintro⟨H0,F,ψ,d,r,e,q⟩;unfold lw at e;split at e;rotate_left
 .cases e
 rename_i hi;obtain⟨ds,e1,e2⟩:=gp e;obtain⟨u,e3,h,e4,hh⟩:=r.sl i _ hi;subst e4;refine⟨.ref h,e3,H0,F,ψ,ds,r,e1,λvs H1 F1 g1 f1 fh1 n1 rv=>⟨F1,h,vs,ds,d,by rw[kg];rfl,c.mono _ _ _ _ _ f1 g1.fz hh,fh1,rv,e2,λv H2 F2 g2 f2 fh2 n2 rv2=>?_⟩⟩;exact q v H2 F2 (g1.trans g2) (f1.trans f2) fh2 (n1.trans n2 g1) rv2
end
def yh (P:Program)(w:World)(K:ja)(mg:Str->Option Gg)(base:Heap)(k:Nat)(φ:D->Option D):ib where
 C:=λf F H=>∀ F' H',gq F F'->Fz H H'->gq F' H'->(∀ h,HOk P w H' h->∃ o fd,h.get? f=Ga o/\o.data=.func fd) /\
  ∀ (A:Around) (outer:List Env) (s:Gh) (u:Gg) (v:V) (d r:D) (Q:VK),lu k A->sd P w K mg base A outer s H'->ia v u->io K F' d v->φ d=Ga r ->
   (∀ v' H2 F2,gq H' H2->gq F' F2->gq F2 H2->iO F' F2 H'->io K F2 r v'->Q v' H2)->codeAny (model P w) A (.call (.ref f) ⟨[u],[]⟩) (CR hG outer P w H' s Q E0) s
 mono:=λf F F' H H' s z h F2 H2 s2 z2=>h F2 H2 (s.trans s2) λb x q=>z2 b x (z b x q)
theorem Mm (P:Program)(w:World)(K:ja)(mg:Str->Option Gg)(base:Heap)(k:Nat)(φ:D->Option D):ng P w K mg base k (yh P w K mg base k φ) φ where
 obj:=λf F H h hC g hok=>(hC F H (.refl _) (λ_ _ q=>q) g).1 h hok
 run:=λf F H A outer s u v d r Q hC hr e0 g ru rv e hq=>(hC F H (.refl _) (λ_ _ q=>q) g).2 A outer s u v d r Q hr e0 ru rv e hq
theorem zzO {P:Program}{w:World}{K:ja}{mg:Str->Option Gg}{base:Heap}{k:Nat}{φ:D->Option D}{c:ib}(x:ng P w K mg base k c φ){f:Gj}{F H:Hp}(h:c.C f F H):(yh P w K mg base k φ).C f F H:=λF' H' s z g =>
 have h':=c.mono f F F' H H' s z h
 ⟨λhp hok=>x.obj f F' H' hp h' g hok,λA outer st u v d r Q hr e0 ru rv e hq=>x.run f F' H' A outer st u v d r Q h' hr e0 g ru rv e hq⟩
structure CH (X:Cx)(c0 P:Gj):Prop where
 code:X.env.code=.ref c0
 hd:∀ h,X.K.In h->PySem.W.CodeHd h c0 P
 bm:∃ bm o,X.mg "__builtins__"=Ga (.ref bm)/\bm≠builtinsNs/\bm≠mainGlobals/\X.K.lookup bm=Ga o/\o.cls=.type "module"/\o.dict=Ga builtinsNs/\o.data=.plain
structure FK (params:Arguments)(body:Expr)(scope:Scope)(cl:List (Str×Gj))(H:Hp)(f:Gj)(H':Hp):Prop where
 same:gq H H'
 new:H f=Gb
 ex:∃ name qual pm c ctv o vs,∃ v:Str×Tok,H' f=Ga (.ext (oi f (k6 name qual params body scope cl pm c ctv)))/\H' c=Ga (.frz o (.own c))/\o.data=.fields vs/\vs[1]?=Ga (.str v.1 v.2)
def TQ (ψ:Env)(fr:List Str)(params:Arguments)(body:Expr)(scope:Scope)(P:Gj):TE:=λ_ H Q=>∃ ps,H P=Ga (.tbl ps)/\iU H ps.toList /\
 ∀ f cl H',FK params body scope cl H f H'->(∀ y a,cl.lookup y=Ga a->ψ.cells.lookup y=Ga a)->(∀ y∈fr,∃ a,cl.lookup y=Ga a)->Q (.ref f) H'
theorem zpR {pos:Pos}{l m:List Gg}(t:TriplesOk l):codeAmong pos (l++m)=(codeAmong pos l).or (codeAmong pos m):=by
 fun_induction TriplesOk l with
 | case1=>simp[codeAmong]
 | case2 a b c d e rest ih =>
  simp only[vV,codeAmong];split
  .rfl
  .exact ih t
 | case3=>cases t
theorem zsD {l m:List Gg}(t:TriplesOk l)(u:TriplesOk m):TriplesOk (l++m):=by
 fun_induction TriplesOk l with
 | case1=>exact u
 | case2 a b c d e rest ih=>exact ih t
 | case3=>cases t
theorem gq.tbl {H:Hp}{P:Gj}{ps qs:Array Gg}(hP:H P=Ga (.tbl ps))(g:iU H ps.toList->iU (upd H P (.tbl qs)) qs.toList):gq H (upd H P (.tbl qs)):=λb o h=>by
 by_cases hb:b=P
 .subst hb;rw[hP] at h;cases h;rw[gU];exact⟨qs,rfl,g⟩
 .rw[gF hb];exact .of h λl z=>z.updG λx u q=>by rw[hP] at q;cases q
theorem WZ {H:Hp}{P c:Gj}{ps:Array Gg}{pos:Pos}{o:Obj}{vs:Array Gg}{v:Str×Tok}(hP:H P=Ga (.tbl ps))(hc:H c=Ga (.frz o (.own c)))(h1:o.data=.fields vs)(h2:vs[1]?=Ga (.str v.1 v.2))(g:iU H ps.toList) :
  iU (upd H P (.tbl (ps++#[rawInt pos.line,rawInt pos.col,.ref c]))) (ps++#[rawInt pos.line,rawInt pos.col,.ref c]).toList:=by
 have ne:c≠P:=λz=>by subst z;rw[hP] at hc;cases hc
 have e:(ps++#[rawInt pos.line,rawInt pos.col,kJ c]).toList=ps.toList++[rawInt pos.line,rawInt pos.col,kJ c]:=by simp
 rw[e];refine⟨zsD g.1 trivial,λp cv hcv=>?_⟩;rw[zpR g.1] at hcv;cases z:codeAmong p ps.toList with
 | some cv' =>
  rw[z] at hcv;cases hcv;obtain⟨c2,o2,vs2,v2,e1,e2,e3⟩:=g.2 p _ z;exact⟨c2,o2,vs2,v2,e1,by rw[gF (λq=>by subst q;rw[hP] at e2;cases e2)];exact e2,e3⟩
 | none =>
  rw[z] at hcv;have hcv:codeAmong p [rawInt pos.line,rawInt pos.col,kJ c]=Ga cv:=hcv;unfold rawInt codeAmong at hcv;split at hcv
  .cases hcv;exact⟨c,o,vs,v,rfl,by rw[gF ne];exact hc,h1,h2⟩
  .unfold codeAmong at hcv;cases hcv
section
variable {X:Cx}{c0 P:Gj}{fr:List Str}{params:Arguments}{body:Expr}{scope:Scope}{lpos:Pos}
theorem zDW (L:CH X c0 P)(outs:∀ y∈scope.names,y.2=.free->X.env.scope.names.lookup y.1=Ga .cell\/X.env.scope.names.lookup y.1=Ga .free)(hfr:∀ y∈fr,(y,j9)∈scope.names)
  (hdef:defaultsOf params X.env=([],[]):=by rfl):PE X (.Lambda params body scope lpos) (TQ X.env fr params body scope P):=by
 intro ω s σ H Q I h;obtain⟨ps,hP,gt,q⟩:=h;refine PySem.W.kla_eval hdef ?_;obtain⟨cl,ecl,c1,c2,_⟩:=Et (ψ:=X.env) scope.names [] (λy hy hf=>I.ok.has y.1 (outs y hy hf)) (λx c h=>by simp at h);have hcl:closureFor scope X.env=pure cl:=by rw[Tg,ecl];rfl
 have hPo:s.heap.get? P=Ga (Jk ps):=I.hok P _ hP;have C:=L.hd _ I.kIn;have hg:=I.mod.glob.keeps I.bk;have nb:∀ b o,X.base.get? b=Ga o->b≠P:=λb o e z=>by subst z;rw[(I.bs b o e).2] at hP;cases hP
 have hgP:mainGlobals≠P:=by obtain⟨o,es,ep,e,_⟩:=I.mod.glob;exact nb _ o e
 have hbm:s.heap.BuiltinsAt X.mg P:=by
  obtain⟨bm,o,b1,b2,b3,b4,b5⟩:=L.bm;have b6:=I.mod.kin bm o b4;exact⟨bm,o,b1,b2,b3,nb bm o b6,I.bk bm o b6,b5⟩
 have lt:∀ b o,H b=Ga o->b<s.heap.objs.size:=λb o e=>I.hok.lt e;cases hc:codeAmong lpos ps.toList with
 | none =>
  refine PySem.W.kla_makeFunction hcl I.ok.glob hg L.code C hPo gt.1 hc hgP hbm (λc' ctv h' tk hx hge hlt hrec htb=>?_);obtain⟨c2',oc,vs,t,e2,hoc,hd,hv⟩:=hrec;cases e2;generalize hob:k6 ("<lambda>":Str) (X.env.qual++"<lambda>") params body scope cl ((X.mg "__name__").getD .none) c' ctv=ob;have nP:∀ b,H b=Gb->b≠P:=λb e z=>by subst z;rw[hP] at e;cases e
  have ltc:∀ b,b<s.heap.objs.size->b≠c':=λb h=>jE (jz h hge);have ltf:∀ b,b<s.heap.objs.size->b≠h'.objs.size:=λb h=>jE (jz h (jF hge (uv hlt)));have Pc:P≠c':=ltc P (lt P _ hP);have Pf:P≠h'.objs.size:=ltf P (lt P _ hP);have cf:c'≠h'.objs.size:=jE hlt;have nc:H c'=Gb:=I.hok.fresh hge;have nf:H h'.objs.size=Gb:=I.hok.fresh (jF hge (uv hlt));have keep:∀ b o,b≠P->s.heap.get? b=Ga o->(h'.push ob).get? b=Ga o:=λb o ne e=>jd _ (hx b o ne e);have H1e:∀ b o,b≠P->H b=Ga o->(upd (upd (upd H c' (.frz oc (.own c'))) P (.tbl (ps++#[rawInt lpos.line,rawInt lpos.col,.ref c']))) h'.objs.size (.ext (oi h'.objs.size ob))) b=Ga o:=λb o ne e=>by
   have:=lt b o e;rw[gF (ltf b this),gF ne,gF (ltc b this)];exact e
  have sa:gq H (upd H c' (.frz oc (.own c'))):=gq.new nc;have hPa:(upd H c' (.frz oc (.own c'))) P=Ga (.tbl ps):=by rw[gF Pc];exact hP
  have sb:gq (upd H c' (.frz oc (.own c'))) (upd (upd H c' (.frz oc (.own c'))) P (.tbl (ps++#[rawInt lpos.line,rawInt lpos.col,.ref c']))):=gq.tbl hPa λg=>WZ hPa gU hd (v:=(_,_)) hv g;have nfb:(upd (upd H c' (.frz oc (.own c'))) P (.tbl (ps++#[rawInt lpos.line,rawInt lpos.col,.ref c']))) h'.objs.size=Gb:=by rw[gF (ui Pf),gF (ui cf)];exact nf
  have sc:gq _ (upd (upd (upd H c' (.frz oc (.own c'))) P (.tbl (ps++#[rawInt lpos.line,rawInt lpos.col,.ref c']))) h'.objs.size (.ext (oi h'.objs.size ob))):=gq.new nfb;have same:=sa.trans (sb.trans sc);have H1P:(upd (upd (upd H c' (.frz oc (.own c'))) P (.tbl (ps++#[rawInt lpos.line,rawInt lpos.col,.ref c']))) h'.objs.size (.ext (oi h'.objs.size ob))) P=Ga (.tbl (ps++#[rawInt lpos.line,rawInt lpos.col,.ref c'])):=by rw[gF Pf,gU]
  have H1c:(upd (upd (upd H c' (.frz oc (.own c'))) P (.tbl (ps++#[rawInt lpos.line,rawInt lpos.col,.ref c']))) h'.objs.size (.ext (oi h'.objs.size ob))) c'=Ga (.frz oc (.own c')):=by rw[gF cf,gF (ui Pc),gU]
  have H1f:(upd (upd (upd H c' (.frz oc (.own c'))) P (.tbl (ps++#[rawInt lpos.line,rawInt lpos.col,.ref c']))) h'.objs.size (.ext (oi h'.objs.size ob))) h'.objs.size=Ga (.ext (oi h'.objs.size ob)):=gU;have H1n:∀ b,b<s.heap.objs.size->H b=Gb->(upd (upd (upd H c' (.frz oc (.own c'))) P (.tbl (ps++#[rawInt lpos.line,rawInt lpos.col,.ref c']))) h'.objs.size (.ext (oi h'.objs.size ob))) b=Gb:=λb hb e=>by
   rw[gF (ltf b hb),gF (nP b e),gF (ltc b hb)];exact e
  have H1i:∀ b o,(upd (upd (upd H c' (.frz oc (.own c'))) P (.tbl (ps++#[rawInt lpos.line,rawInt lpos.col,.ref c']))) h'.objs.size (.ext (oi h'.objs.size ob))) b=Ga o->b=h'.objs.size\/b=P\/b=c'\/(b≠P/\H b=Ga o):=λb o e=>by
   by_cases z1:b=h'.objs.size
   .exact .inl z1
   .by_cases z2:b=P
    .exact .inr (.inl z2)
    .by_cases z3:b=c'
     .exact .inr (.inr (.inl z3))
     .rw[gF z1,gF z2,gF z3] at e;exact .inr (.inr (.inr ⟨z2,e⟩))
  generalize (upd (upd (upd H c' (.frz oc (.own c'))) P (.tbl (ps++#[rawInt lpos.line,rawInt lpos.col,.ref c']))) h'.objs.size (.ext (oi h'.objs.size ob)))=H1 at H1e same H1P H1c H1f H1n H1i;clear sb sc nfb hPa sa;have U:Un X.fs [] H H1 s.heap (h'.push ob):=by
   refine⟨λb o e n _ _=>keep b o (nP b n) e,λb o e n _ _=>⟨o.slots,keep b o (nP b n) e⟩,λb o e n _=>H1n b (jm e) n,λb o e _=>?_,λb xs e=>H1e b _ (λz=>by subst z;rw[hP] at e;cases e) e,λb o u e=>H1e b _ (λz=>by subst z;rw[hP] at e;cases e) e,λb qs e=>?_⟩
   .by_cases z:b=P
    .subst z;exact⟨_,jd _ htb⟩
    .exact⟨o,keep b o z e⟩
   .by_cases z:b=P
    .subst z;rw[hP] at e;cases e;exact⟨_,H1P⟩
    .exact⟨#[],by rw[H1e b _ z e];simp⟩
  have K1:HOk X.prog X.w H1 (h'.push ob):=λb o e=>by
   rcases H1i b o e with rfl|rfl|rfl|⟨z,e'⟩
   .rw[H1f] at e;cases e;have g:(h'.push ob).get? h'.objs.size=Ga ob:=by rw[<- hob];exact jy _ rfl
    exact⟨g,⟨_,g⟩,λh1 h2 p k=>k _ p⟩
   .rw[H1P] at e;cases e;exact jd _ htb
   .rw[H1c] at e;cases e;have g:=jd ob hoc;exact⟨g,_,g⟩
   .refine(I.hok b o e').stay (λc u hcu r=>keep c u ?_ r) (λc r=>H1e c _ (λw=>by subst w;rw[hP] at r;cases r) r) λc xs r=>H1e c _ (λw=>by subst w;rw[hP] at r;cases r) r;rcases hcu with rfl|w
    .exact z
    .intro w2;subst w2;rw[hP] at w;cases w
  refine⟨.ref h'.objs.size,H1,I.un (t':=tk) U K1,rfl,q h'.objs.size cl H1 ⟨same,nf,("<lambda>":Str),X.env.qual++"<lambda>",(X.mg "__name__").getD .none,c',ctv,oc,vs,(_,t),?_,H1c,hd,hv⟩ c1 λy hy=>c2 y (hfr y hy)⟩;rw[H1f,<- hob]
 | some cv =>
  obtain⟨c,o,vs,v,rfl,hcH,hod,hv⟩:=gt.2 lpos cv hc;refine PySem.W.kla_makeFunctionHit hcl I.ok.glob hg L.code C hPo gt.1 hc hbm (λctv h' tk hk hsz=>?_);generalize hob:({ cls:=.type "function",data:=.func (qo ("<lambda>":Str) (X.env.qual++"<lambda>") params body scope cl ((X.mg "__name__").getD .none) (.ref c) ctv) }:Obj)=ob;have nf:H h'.objs.size=Gb:=I.hok.fresh hsz;have keep:∀ b o,s.heap.get? b=Ga o->(h'.push ob).get? b=Ga o:=λb o e=>jd _ (hk b o e);have g:(h'.push ob).get? h'.objs.size=Ga ob:=by rw[<- hob];exact jy _ rfl
  have I':gA X ω σ (upd H h'.objs.size (.ext (oi h'.objs.size ob))) { s with heap:=h'.push ob,toks:=tk }:=I.laid keep hsz ⟨g,⟨_,g⟩,λh1 h2 p k=>k _ p⟩;refine⟨.ref h'.objs.size,_,I',rfl,q h'.objs.size cl _ ⟨gq.new nf,nf,("<lambda>":Str),X.env.qual++"<lambda>",(X.mg "__name__").getD .none,c,ctv,o,vs,v,?_,?_,hod,hv⟩ c1 λy hy=>c2 y (hfr y hy)⟩
  .rw[gU,<- hob]
  .rw[gF (λz=>by rw[z] at hcH;rw[nf] at hcH;cases hcH)];exact hcH
end
def mT (h:Heap)(H:Hp)(cs:List Gj):Hp:=λb=>if b∈cs then(h.get? b).map (λo=>HO.frz o (.own b)) else H b
theorem AS {h:Heap}{H:Hp}{cs:List Gj}{b:Gj}(hb:b∈cs):mT h H cs b=(h.get? b).map (λo=>HO.frz o (.own b)):=Ge hb
theorem tJ {h:Heap}{H:Hp}{cs:List Gj}{b:Gj}(hb:b∉cs):mT h H cs b=H b:=Gf hb
section
variable {h:Heap}{F H H':Hp}{cs:List Gj}{P:Program}{w:World}
theorem tN (n:∀ c∈cs,H c=Gb):∀ c o,H c=Ga o->mT h H cs c=Ga o:=λc o e=>by
 rw[tJ λz=>by rw[n c z] at e;cases e];exact e
theorem Lo (hc:∀ c∈cs,∃ o v,h.get? c=Ga o/\o.data=.cell v):mw (mT h H cs) cs:=λc z=>by
 obtain⟨o,v,e1,e2⟩:=hc c z;exact⟨o,v,by rw[AS z,e1];rfl,e2⟩
theorem zzP (hc:∀ c∈cs,∃ o v,h.get? c=Ga o/\o.data=.cell v)(n:∀ c∈cs,H c=Gb)(x:HOk P w H h):HOk P w (mT h H cs) h:=λa o e=>by
 by_cases ha:a∈cs
 .obtain⟨o1,v,e1,e2⟩:=hc a ha;rw[AS ha,e1] at e;cases e;exact⟨e1,_,e1⟩
 .rw[tJ ha] at e;exact(x a o e).stay (λ_ _ _ q=>q) (λb q=>tN n b _ q) λb xs q=>tN n b _ q
theorem zB6 (hc:∀ c∈cs,∃ o v,h.get? c=Ga o/\o.data=.cell v){l:List Gg}(g:iU (mT h H cs) l):iU H l :=
 ⟨g.1,λpos cv e=>by
  obtain⟨c,x,vs,v,e1,e2,e3,e4⟩:=g.2 pos cv e;refine⟨c,x,vs,v,e1,?_,e3,e4⟩;by_cases z:c∈cs
  .obtain⟨o1,v1,h1,h2⟩:=hc c z;rw[AS z,h1] at e2;cases e2;rw[e3] at h2;cases h2
  .rw[tJ z] at e2;exact e2⟩
theorem PM (hc:∀ c∈cs,∃ o v,h.get? c=Ga o/\o.data=.cell v)(n:∀ c∈cs,H c=Gb)(s:gq F H):gq (mT h F cs) (mT h H cs):=λb o e=>by
 by_cases hb:b∈cs
 .obtain⟨o1,v,e1,e2⟩:=hc b hb;rw[AS hb,e1] at e ⊢;cases e;exact rfl
 .rw[tJ hb] at e ⊢;exact((s b o e).from λ_ z=>zB6 hc z).to λ_ z=>z.sub (tN n)
theorem PC (n:∀ c∈cs,H c=Gb)(m:mw H' cs)(s:gq (mT h H cs) H'):gq H (butC H' cs):=λb o e=>by
 have hb:b∉cs:=λz=>by rw[n b z] at e;cases e
 rw[nJ hb];exact((s b o (tN n b o e)).from λ_ z=>z.sub (tN n)).to λ_ z=>Ie m z
end
def wV (ψ:En):List Nat->Option (List D)
 | []=>Ga []
 | i::r=>match ψ[i]? with
  | some (.val d)=>(wV ψ r).bind λds=>Ga (d::ds)
  | _=>Gb
theorem RL {ψ:En}:∀ {ix:List Nat} {ds:List D},wV ψ ix=Ga ds->ds.length=ix.length/\∀ (j i:Nat) (d:D),ix[j]?=Ga i->ds[j]?=Ga d->ψ[i]?=Ga (.val d)
 | [],ds,h=>by cases h;exact⟨rfl,λj i d e=>by simp at e⟩
 | i::r,ds,h=>by
  unfold wV at h;split at h
  .rename_i d hd;obtain⟨es,e1,e2⟩:=gp h;cases e2;obtain⟨l,k⟩:=RL e1;refine⟨by simpa using l,λj i' d' q1 q2=>?_⟩;cases j with
   | zero=>cases q1;cases q2;exact hd
   | succ j=>exact k j i' d' q1 q2
  .cases h
open Classical in
noncomputable def mi (it:Nat)(P:Gj)(mk:(D->Option D)->ib)(fb:FV)(fm:ib->(D->Option D)->List D->Option D)(ix:List Nat)(g:FL):FV:=λψ =>
 if ψ[it]?=Ga (.tab P) then(wV ψ ix).bind λcs=>(g ψ).bind (fm (mk λd=>fb (.val d::cs.map .val)) λd=>fb (.val d::cs.map .val)) else Gb
def PU (K:ja)(ψ:Env)(fr:List Str)(params:Arguments)(body:Expr)(scope:Scope)(P:Gj)(p:Nat)(g:FL):TA:=λσ H Q=>∃ (H0 F0:Hp) (en:En) (as:List D) (qs:Array Gg),RS K H0 F0 H en σ/\g en=Ga as/\H P=Ga (.tbl qs)/\iU H qs.toList /\
 ∀ (a:Gj) (cl:List (Str×Gj)) (us:List V) (H2 F2:Hp),gq H H2->gq F0 F2->gq F2 H2->iO F0 F2 H->gJ K F2 as us->RS K H0 F2 H2 en σ ->
  (∃ name qual pm c ctv o vs,∃ v:Str×Tok,F2 a=Ga (.ext (oi a (k6 name qual params body scope cl pm c ctv)))/\H2 c=Ga (.frz o (.own c))/\o.data=.fields vs/\vs[1]?=Ga (.str v.1 v.2)) ->
  (∀ y a,cl.lookup y=Ga a->ψ.cells.lookup y=Ga a)->(∀ y∈fr,∃ a,cl.lookup y=Ga a)->Q (us.take p++.ref a::us.drop p) H2
section
variable {X:Cx}{c0 P:Gj}{fr:List Str}{params:Arguments}{body:Expr}{scope:Scope}{lpos:Pos}{es:List Expr}{g:FL}
theorem Mi (L:CH X c0 P)(outs:∀ y∈scope.names,y.2=.free->X.env.scope.names.lookup y.1=Ga .cell\/X.env.scope.names.lookup y.1=Ga .free)(hfr:∀ y∈fr,(y,j9)∈scope.names)(ha:PL X es g)(hdef:defaultsOf params X.env=([],[]):=by rfl)
  (he:starEach (.Lambda params body scope lpos::es) X.env=(false,eval (.Lambda params body scope lpos) X.env)::starEach es X.env:=by rfl):PA X (.Lambda params body scope lpos::es) (PU X.K X.env fr params body scope P 0 g):=by
 refine Hu (lF (zDW L outs hfr hdef) ha.pa he) λσ H Q=>?_;rintro⟨H0,F0,ψ,as,qs,r,e2,hP,gd,q⟩;refine⟨qs,hP,gd,λa cl H1 M m1 m2=>?_⟩;obtain⟨name,qual,pm,c,ctv,o,vs,v,x1,x2,x3⟩:=M.ex;have fa:F0 a=Gb:=r.fh.free M.new;have s1:gq F0 (upd F0 a (.ext (oi a (k6 name qual params body scope cl pm c ctv)))):=gq.new fa;have s2:gq (upd F0 a (.ext (oi a (k6 name qual params body scope cl pm c ctv)))) H1:=(r.fh.trans M.same).upL x1 trivial;have n1:iO F0 (upd F0 a (.ext (oi a (k6 name qual params body scope cl pm c ctv)))) H:=λb o' h n=>by
  by_cases hb:b=a
  .subst hb;exact M.new
  .rw[gF hb,n] at h;cases h
 have r1:=r.grow M.same s1 s2 n1;exact⟨H0,_,ψ,as,r1,e2,λus H2 F2 g2 f2 fh2 n2 rv=>q a cl us H2 F2 (M.same.trans g2) (s1.trans f2) fh2 (n1.trans n2 M.same) rv (r1.grow g2 f2 fh2 n2) ⟨name,qual,pm,c,ctv,o,vs,v,f2 _ _ gU,g2 _ _ x2,x3⟩ m1 m2⟩
end
section
variable {X:Cx}{c0 P:Gj}{fr:List Str}{params:Arguments}{body:Expr}{scope:Scope}{lpos:Pos}{e0:Expr}{k kl lp:Nat}{f:Gj}{fd:Gi}{ps:List Str}{x xl:Str}{p pos:Pos}{es:List Expr}{g:FL}{fb:FV}{fm:ib->(D->Option D)->List D->Option D}{ix:List Nat}
theorem IX (it:Nat)(S:sN xl fr scope)(outs:∀ y∈scope.names,y.2=.free->X.env.scope.names.lookup y.1=Ga .cell\/X.env.scope.names.lookup y.1=Ga .free)(hfr:∀ y∈fr,(y,j9)∈scope.names)(hfn:∀ y,X.fn y=true)
  (hlen:ix.length=fr.length) (hat:∀ (j i:Nat) (y:Str),ix[j]?=Ga i->fr[j]?=Ga y->X.N[i]?=Ga y)
  (hbind:∀ (name qual:Str) (cl:List (Str×Gj)) (pm:Gg) (c:Gj) (ctv u:Gg),bindArgs (qo name qual params body scope cl pm (.ref c) ctv) ⟨[u],[]⟩=pure [(xl,u)])
  (hbody:∀ (qual:Str) (f:Gj) (cd:Gg) (cl:List (Str×Gj)) (A:Around) (outer:List Env) (s:Gh) (H:Hp),lu kl (A.deeper (vx qual scope s.heap.objs.size f cd cl))->PV (xX X.prog X.w X.K X.mg X.base (xl::fr) qual scope f cd cl A outer s H) body fb)
  (F:∀ φ,gN X.prog X.w X.K X.mg X.base hG k f fd ps (wC X.K lp (yh X.prog X.w X.K X.mg X.base (kl+1) φ) (fm (yh X.prog X.w X.K X.mg X.base (kl+1) φ) φ))) (hr:lu k X.A) (hm:X.mg x=Ga (.ref f)) (hk:ue X.K (.ref f)=true) (hb:pN X.K fd ps []) (hPA:PA X (e0::es) (PU X.K X.env fr params body scope P lp g)) (hg:Gl X x:=by rfl)
  (hdb:(x==("__debug__":Str))=false:=by decide) (he:starEach (e0::es) X.env=(false,eval e0 X.env)::starEach es X.env:=by rfl) (hpl:(backTo pos (starEach es X.env)).any (·.1)=false:=by rfl) :
  PV X (.Call (.Name x p) (e0::es) [] pos) (mi it P (yh X.prog X.w X.K X.mg X.base (kl+1)) fb fm ix g):=by
 intro ω s σ H Q I h;obtain⟨H0,F0,ψ,d,r,e,q⟩:=h;unfold mi at e;split at e;rotate_left
 .cases e
 rename_i hi;obtain⟨ds,e1,e⟩:=gp e;obtain⟨as,e2,e3⟩:=gp e;obtain⟨dl,dat⟩:=RL e1;generalize hφ:(λd=>fb (.val d::ds.map .val))=φ at e3;obtain⟨_,_,ht⟩:=r.sl it _ hi;obtain⟨ps0,ht,g0⟩:∃ ps,H0 P=Ga (.tbl ps)/\iU H0 ps.toList:=ht;obtain⟨qs,hP,hgd⟩:=r.h0 P _ ht;have gd:iU H qs.toList:=hgd g0;refine wpAny_Call_Name_kw (ya I hg hm ?_ hdb);refine Jw (h₀:=X.base) I.ok.mod.kin hk (iq (hPA pos ω s σ H (λvs H2=>∃ (a:Gj) (cl:List (Str×Gj)) (F2:Hp) (us:List V),vs=us.take lp++.ref a::us.drop lp/\gq H H2/\gq F0 F2/\gq F2 H2/\iO F0 F2 H/\gJ X.K F2 as us/\RS X.K H0 F2 H2 ψ σ /\
   (∃ name qual pm c ctv o vs,∃ v:Str×Tok,F2 a=Ga (.ext (oi a (k6 name qual params body scope cl pm c ctv)))/\H2 c=Ga (.frz o (.own c))/\o.data=.fields vs/\vs[1]?=Ga (.str v.1 v.2)) /\
   (∀ y a,cl.lookup y=Ga a->X.env.cells.lookup y=Ga a)/\(∀ y∈fr,∃ a,cl.lookup y=Ga a)) I ⟨H0,F0,ψ,as,qs,r,e2,hP,gd,λa cl us H2 F2 g2 f2 fh2 n2 rv r2 ex m1 m2=>⟨a,cl,F2,us,rfl,g2,f2,fh2,n2,rv,r2,ex,m1,m2⟩⟩) λus s1 ⟨vs,H2,I1,rvs,q1⟩=>⟨I1.kIn,?_⟩) he hpl
 .obtain⟨a,cl,F2,us',rfl,g2,f2,fh2,n2,rv,r2,⟨name,qual,pm,c,ctv,o,vs',v,x1,x2,x3,x4⟩,m1,m2⟩:=q1;have hcs:∀ c',c'∈(cl.filterMap λq=>cl.lookup q.1)->∃ y,cl.lookup y=Ga c':=λc' hc=>by
   obtain⟨q,_,hq⟩:=uT.mp hc;exact⟨q.1,hq⟩
  have hsc:∀ y c',cl.lookup y=Ga c'->c'∈(cl.filterMap λq=>cl.lookup q.1):=λy c' hy=>uT.mpr ⟨(y,c'),kF hy,hy⟩;generalize (cl.filterMap λq=>cl.lookup q.1)=cs at hcs hsc;have hc:∀ c'∈cs,∃ o v,s1.heap.get? c'=Ga o/\o.data=.cell v:=λc' hc=>by
   obtain⟨y,hy⟩:=hcs c' hc;obtain⟨v,o,h1,h2⟩:=I1.cell y c' (m1 y c' hy);exact⟨o,v,h1,h2⟩
  have nH:∀ c'∈cs,H2 c'=Gb:=λc' hc=>by
   obtain⟨y,hy⟩:=hcs c' hc;exact I1.freeC y c' (m1 y c' hy)
  have nF:∀ c'∈cs,F2 c'=Gb:=λc' hc=>fh2.free (nH c' hc);have above:∀ c'∈cs,X.s₀.heap.objs.size<=c':=λc' hc=>by
   obtain⟨y,hy⟩:=hcs c' hc;exact I1.ok.cab y c' (hfn y) (m1 y c' hy)
  have nfr:∀ c'∈cs,c'∉rq X.stack:=λc' hc hz=>by
   obtain⟨y,hy⟩:=hcs c' hc;rcases ju.mp (I1.stkSub c' hz) with z|z
   .exact I1.cne y c' (m1 y c' hy) z
   .obtain⟨_,o,ho,_⟩:=I1.ok.funs.mem z;exact absurd (jz (jm ho) (above c' hc)) (j0 _)
  have sH:gq F2 (mT s1.heap F2 cs):=gq.of (tN nF);have cP:wy X.K (mT s1.heap F2 cs) fr ds cl cs:=by
   refine⟨λj y dj h1 h2=>?_,hsc,m2,Lo hc,λx y c' h1 h2=>I1.ok.inj x y c' (m1 x c' h1) (m1 y c' h2),by rw[dl,hlen],hcs⟩;obtain⟨c',hc'⟩:=m2 y (j7 h1);obtain⟨i,hi'⟩:∃ i,ix[j]?=Ga i:=⟨_,ji (by rw[hlen];exact(jp.mp h1).1)⟩;have hv:=dat j i dj hi' h2;obtain⟨u,e5,v2,e6,rv2⟩:=r2.sl i _ hv;subst e6;obtain⟨m,hm1,hm2⟩:=I1.loc;have kd:=outs _ (hfr y (j7 h1)) rfl;obtain⟨u2,ru2,lk⟩:=hm2 i y v2 (hat j i y hi' h1) e5 (.inr kd);rcases lk with ⟨k1,_⟩|⟨_,c2,k2,o2,k3,k4⟩
   .have k1:X.env.scope.names.lookup y=Ga .local:=k1;rcases kd with kd|kd<;>(rw[kd] at k1;cases k1)
   .have:c2=c':=by have:=m1 y c' hc';rw[k2] at this;cases this;rfl
    subst this;exact⟨c2,o2,u2,v2,hc',hsc y c2 hc',by rw[AS (hsc y c2 hc'),k3];rfl,k4,ru2,rv2.mono sH⟩
  have hC:(DB X.K params body scope fr ds).C a (mT s1.heap F2 cs) (mT s1.heap H2 cs):=⟨name,qual,cl,pm,c,ctv,cs,o,vs',v,tN nF _ _ x1,tN nH _ _ x2,x3,x4,cP⟩;have hC2:=zzO (ZU (P:=X.prog) (w:=X.w) (mg:=X.mg) (base:=X.base) (k:=kl) S hbind hbody) hC;rw[hφ] at hC2;have e0:sd X.prog X.w X.K X.mg X.base X.A X.stack s1 (mT s1.heap H2 cs):=by
   have e:=I1.env0;refine⟨e.frames,e.mod,λb o hb=>⟨(e.bs b o hb).1,?_⟩,e.bsz,e.funs,λb hb=>?_,zzP hc nH e.hok,e.bare⟩
   .rw[tJ λz=>absurd (jz (jm hb) (jF I1.ok.bsz (above b z))) (j0 _)];exact(e.bs b o hb).2
   .rw[tJ λz=>nfr b z hb];exact e.frf b hb
  have hl:us.length=ps.length:=by
   rw[<- rvs.length];exact(F φ).len (us'.take lp++.ref a::us'.drop lp) (mT s1.heap H2 cs) (λ_ _=>True) E0 ⟨mT s1.heap F2 cs,a,us',as,d,rfl,hC2,PM hc nH fh2,rv.mono sH,e3,λ_ _ _ _ _ _ _ _=>trivial⟩
  have hbs:=hb s1 us I1.kIn (by rw[kg];exact hl);rw[kg] at hbs;refine wpAny_call (codeAny_mono ((F φ).run X.A X.stack s1 (mT s1.heap H2 cs) ⟨us,[]⟩ us (us'.take lp++.ref a::us'.drop lp) (λv' H'=>mw H' cs/\Q v' (butC H' cs)) E0 hr e0 hbs rvs
   ⟨mT s1.heap F2 cs,a,us',as,d,rfl,hC2,PM hc nH fh2,rv.mono sH,e3,λv' H' F' g3 f3 fh3 n3 rv3=>?_⟩) λrr s' hq=>?_)
  .have mH:mw H' cs:=(Lo hc).mono g3;have mF:mw F' cs:=(Lo hc).mono f3;refine⟨mH,q v' (butC H' cs) (butC F' cs) (g2.trans (PC nH mH g3)) (f2.trans (PC nF mF f3)) (fh3.butC2 mH) (λb o h n=>?_) (rv3.butC mF)⟩;obtain⟨hb,h⟩:=Fo h;cases z:F2 b with
   | none =>
    have:=n3 b o h (by rw[tJ hb];exact z);rw[tJ hb] at this;exact g2.free this
   | some u=>exact n2 b u z n
  .cases rr with
   | error e=>exact hq.elim
   | ok fl =>
    cases fl with
    | ret u =>
     obtain⟨v',H',os,bare,un,hok,rel,mH,qv⟩:=hq;refine⟨v',butC H' cs,I1.call' (ch:=[]) os ⟨λb o hb n hf hx=>?_,λb o hb n hf hx=>?_,λb o hb n hx=>?_,λb o hb hx=>un.there b o hb hx,λb xs hb=>?_,λb o x hb=>?_,λb ps hb=>?_⟩ (T3.HOk.butC mH hok) bare (λb z=>absurd z (by simp)),rel,qv⟩
     .by_cases z:b∈cs
      .have:=un.frzs b o (.own b) (by rw[AS z,hb];rfl);exact(hok b _ this).1
      .exact un.keep b o hb (by rw[tJ z];exact n) hf hx
     .have z:b∉cs:=λz=>nfr b z hf;exact un.slot b o hb (by rw[tJ z];exact n) hf hx
     .by_cases z:b∈cs
      .exact zL z
      .rw[nJ z];exact un.free b o hb (by rw[tJ z];exact n) hx
     .have z:b∉cs:=λz=>by rw[nH b z] at hb;cases hb
      rw[nJ z];exact un.tups b xs (tN nH b _ hb)
     .have z:b∉cs:=λz=>by rw[nH b z] at hb;cases hb
      rw[nJ z];exact un.frzs b o x (tN nH b _ hb)
     .have z:b∉cs:=λz=>by rw[nH b z] at hb;cases hb
      rw[nJ z];exact un.tbls b ps (tN nH b _ hb)
    | next=>exact False.elim hq
    | brk=>exact False.elim hq
    | cont=>exact False.elim hq
end
def xt (n:Nat)(Pt:Gj)(ds:List D):En:=(on n ds).set (n-1) (.tab Pt)
def Ab (np n:Nat)(Pt:Gj)(g:FS)(ds:List D):Option D:=if ds.length=np then gO (g (xt n Pt ds)) else Gb
def spT (K:ja)(Pt:Gj)(fm:List D->Option D):Sp:=λvs H Q _=>∃ (F:Hp) (ds:List D) (d:D),(∃ ps,H Pt=Ga (.tbl ps)/\iU H ps.toList)/\gq F H/\gJ K F ds vs/\fm ds=Ga d/\∀ v H' F',gq H H'->gq F F'->gq F' H'->iO F F' H->io K F' d v->Q v H'
theorem RS.putN {K:ja}{H0 F H:Hp}{ψ:En}{σ:St}(r:RS K H0 F H ψ σ){i:Nat}{s:Sl}{u:Option V}(hu:σ[i]?=Ga u)(q:ph K H0 F H s u)(o:nM s=false):RS K H0 F H (ψ.set i s) σ:=by
 refine⟨r.h0,r.fh,λj t e=>?_,λj k a t1 t2 o1 o2 e1 e2 e3 e4=>?_⟩
 .by_cases h:i=j
  .subst h;by_cases hl:i<ψ.length
   .rw[jT hl] at e;cases e;exact⟨u,hu,q⟩
   .rw[kr (by simpa using hl)] at e;cases e
  .rw[jR h] at e;exact r.sl j t e
 .have f1:∀ (j:Nat) (t:Sl),nM t=true->(ψ.set i s)[j]?=Ga t->ψ[j]?=Ga t:=λj t ow e=>by
   by_cases h:i=j
   .subst h;by_cases hl:i<ψ.length
    .rw[jT hl] at e;cases e;rw[o] at ow;cases ow
    .rw[kr (by simpa using hl)] at e;cases e
   .rw[jR h] at e;exact e
  exact r.ap j k a t1 t2 o1 o2 (f1 j t1 o1 e1) (f1 k t2 o2 e2) e3 e4
section
variable {P:Program}{w:World}{K:ja}{mg:Str->Option Gg}{base:Heap}{x qual:Str}{st:Stmt}{f:Gj}{fd:Gi}{N ps:List Str}{k:Nat}{g:FS}{Pt c0:Gj}
theorem TC (F:sC K x qual st f fd)(S:gB N ps (gs st))(hN:0<N.length)(hpn:ps.length<=N.length)
  (hb:∀ cdv,fd.code=cdv->∀ (A:Around) (outer:List Env) (s:Gh) (H:Hp) (E:XK),lu k (A.deeper (envOfC qual (gs st) s.heap.objs.size f cdv))->oN (pK hG P w K mg base N qual (gs st) f cdv A outer s H E).nox (lE st) g) :
  gN P w K mg base hG (k+1) f fd ps (spT K Pt (Ab ps.length N.length Pt g)):=by
 have hr0:∀ {ds:List D} {d:D},Ab ps.length N.length Pt g ds=Ga d->ds.length=ps.length/\(g (xt N.length Pt ds)=Ga (.rt d)\/∃ xs,d=.list xs/\g (xt N.length Pt ds)=Ga (.ro xs)):=λ{ds d} h=>by
  unfold Ab at h;split at h
  .rename_i z;refine⟨z,?_⟩;unfold gO at h;split at h
   .rename_i e;cases h;exact .inl e
   .rename_i e;cases h;exact .inr ⟨_,rfl,e⟩
   .cases h
  .cases h
 obtain⟨oc,od,kV,doc,pm,an,cdv,ct,osl,rfl,lk,hcd'⟩:=F.ex;have hb:=hb cdv rfl;refine Fh lk hcd' S (λvs H Q E h=>?_) λA outer s H vs Q E hr h=>?_
 .obtain⟨F0,ds,d,_,_,r,e,_⟩:=h;rw[<- r.length];exact(hr0 e).1
 .obtain⟨F0,ds,d,ht,hs,r,e,q⟩:=h;have rs:RS K H F0 H (xt N.length Pt ds) (L2.start N vs):=by
   refine(RS.start (N:=N) hs r).putN (u:=((L2.start N vs)[N.length-1]?).getD Gb) ?_ ht rfl;have hl:N.length-1<(L2.start N vs).length:=by
    unfold L2.start;rw[jr,jb,Ja];have:=r.length;have:=(hr0 e).1;omega
   rw[ji hl];rfl
  rcases(hr0 e).2 with z|⟨xs,rfl,z⟩
  .exact⟨_,(hb A outer s H E hr).nox,H,F0,_,_,rs,z,λv H' F' g1 f1 fh1 n1 rv=>q v H' F' g1 f1 fh1 n1 rv⟩
  .refine⟨_,(hb A outer s H E hr).nox,H,F0,_,_,rs,z,λa ys H' F' g1 f1 fh1 n1 ha fa ha' rr=>?_⟩;have sF:gq F' (upd F' a (.lst ys)):=gq.new fa;refine q (.ref a) H' (upd F' a (.lst ys)) g1 (f1.trans sF) (gq.upL fh1 ha' trivial) (λb o h nb=>?_) (.lst (lr.of gU) (rr.mono sF));by_cases hb:b=a
   .subst hb;exact ha
   .rw[gF hb] at h;exact n1 b o h nb
theorem okT (F:sC K x qual st f fd)(hcd:fd.code=.ref c0)(S:gB N ps (gs st))(hN:0<N.length)(hpn:ps.length<=N.length)
  (hb:∀ (A:Around) (outer:List Env) (s:Gh) (H:Hp) (E:XK),lu k (A.deeper (envOfC qual (gs st) s.heap.objs.size f (.ref c0)))->oN (pK hG P w K mg base N qual (gs st) f (.ref c0) A outer s H E).nox (lE st) g) :
  gN P w K mg base hG (k+1) f fd ps (spT K Pt (Ab ps.length N.length Pt g)) :=
 TC F S hN hpn λcdv e=>by
  rw[hcd] at e;subst e;exact hb
theorem zwX {mb:Str->Option Gg}{fa a:Gj}{sp:Sp}{s₁:Gh}{vs:List Gg}{ns:List Int}
  (KX:K.In s₁.heap) (hns:s₁.heap.Ns mainGlobals mg) (hb:s₁.heap.Ns builtinsNs mb) (hbb:∀ x:Str,x≠"__name__"->mb x=bootBuiltins x) (hlim:s₁.heap.NoLimit) (hg:s₁.gens=#[])
  (ha:s₁.heap.get? a=Ga { cls:=.type "list",data:=.seq vs.toArray }) (hi:IntsAre vs ns) (hl:ns.length<=sizeLine) (hr:lu k callerA)
  (hT:s₁.heap.get? Pt=Ga (Jk #[])) (hKT:K.lookup Pt=Gb) (hTc:isCodeTable s₁.heap Pt)
  (F:∀ base:Heap,K.In base->base.Ns mainGlobals mg->gN P w K mg base hG k fa fd [x] sp) (hbind:∀ (s:Gh) (u:Gg),BindsTo s fd ⟨[u],[]⟩ [(x,u)])
  (hsp:∀ H:Hp,H Pt=Ga (.tbl #[])->lr K H a (ns.map V.int)->sp [.ref a] H (λv _=>v=.bl true) λ_ _ _=>False) :
  codeAny (model P w) callerA (.call (.ref fa) ⟨[.ref a],[]⟩) (λr s'=>r=.ok (.ret (.bool true))/\OldK s₁.heap s'.heap/\s'.os=s₁.os/\AllBare s'.gens) s₁:=by
 have rv:=wf hi;have lenV:=hi.length;have aT:a≠Pt:=λz=>by rw[z,hT] at ha;cases ha
 have core:∀ H:Hp,H Pt=Ga (.tbl #[])->(∀ b,b≠Pt->H b=Gb\/∃ o xs,H b=Ga (.frz o (.lst xs)))->lr K H a (ns.map V.int)->HOk P w H s₁.heap->(∀ b,H b≠Gb->b=a\/b=Pt)->(H a≠Gb->K.lookup a=Gb) ->
   codeAny (model P w) callerA (.call (.ref fa) ⟨[.ref a],[]⟩) (λr s'=>r=.ok (.ret (.bool true))/\OldK s₁.heap s'.heap/\s'.os=s₁.os/\AllBare s'.gens) s₁:=by
  intro H hPt hO hS hok hA hK;have base_of:∀ {b:Gj} {o:Obj},s₁.heap.get? b=Ga o->H b=Gb->(pf s₁.heap H).get? b=Ga o:=λe n=>zC e n;have noA:∀ {b:Gj} {o:Obj} {es:Array DictEntry} {ep:Nat},s₁.heap.get? b=Ga o->o.data=.dict es ep->H b=Gb:=λ{b o es ep} e d=>by
   cases q:H b with
   | none=>rfl
   | some u =>
    rcases hA b (by rw[q];simp) with e'|e'
    .subst e';rw[ha] at e;cases e;have d':Data.seq vs.toArray _=Data.dict es ep:=d;cases d'
    .subst e';rw[hT] at e;cases e;cases d
  have nsK:∀ {b:Gj} {m:Str->Option Gg},s₁.heap.Ns b m->(pf s₁.heap H).Ns b m:=λ{b m} ⟨o,es,ep,e,d,r⟩=>⟨o,es,ep,base_of e (noA e d),d,r⟩;have hKb:K.In (pf s₁.heap H):=λb o e=>base_of (KX b o e) (by
   cases q:H b with
   | none=>rfl
   | some u =>
    rcases hA b (by rw[q];simp) with e'|e'
    .subst e';rw[hK (by rw[q];simp)] at e;cases e
    .subst e';rw[hKT] at e;cases e)
  have hM:Mod K mg (pf s₁.heap H):=⟨hKb,nsK hns,⟨mb,nsK hb,hbb⟩,let ⟨mc,h1,h2⟩:=hlim;⟨mc,nsK h1,h2⟩⟩;have e0:sd P w K mg (pf s₁.heap H) callerA [] s₁ H:=⟨rfl,hM,λb o e=>AL e,JH (zg _ _),trivial,λb hb=>absurd (show b∈([]:List Gj) from hb) (by simp),hok,.of_eq hg⟩;refine codeAny_mono ((F _ hKb (nsK hns)).run callerA [] s₁ H ⟨[.ref a],[]⟩ [.ref a] [.ref a] _ _ hr e0 (hbind s₁ (.ref a)) (.cons rfl .nil) (hsp H hPt hS)) λr s' h=>?_;cases r with
  | error e=>exact h.elim
  | ok fl =>
   cases fl with
   | next=>exact False.elim h
   | brk=>exact False.elim h
   | cont=>exact False.elim h
   | ret u =>
    obtain⟨v,H',os,bare,un,hok',r',q⟩:=h;have q':v=.bl true:=q;subst q';obtain rfl:u=uR true:=r';have keep:∀ b o,b≠Pt->s₁.heap.get? b=Ga o->s'.heap.get? b=Ga o:=λb o hb e=>by
     cases q:H b with
     | none=>exact un.keep b o e q (by intro z;exact absurd (show b∈([]:List Gj) from z) (by simp)) (by simp)
     | some u =>
      rcases hO b hb with z|⟨ob,xs,z⟩
      .rw[q] at z;cases z
      .have z2:=un.frzs b ob _ z;obtain⟨e1,_⟩:=hok b _ z;obtain⟨e2,_⟩:=hok' b _ z2;rw[e] at e1;cases e1;exact e2
    obtain⟨more,hmore⟩:=un.tbls Pt _ hPt;have hT':s'.heap.get? Pt=Ga { cls:=.none,data:=.fields (#[]++more) }:=hok' Pt _ hmore;refine⟨rfl,⟨λb o e=>?_,λb o e=>?_⟩,os,bare⟩
    .by_cases hb:b=Pt
     .subst hb;rw[hT] at e;cases e;exact .inr (.inl ⟨hTc,rfl,#[],more,rfl,hT'⟩)
     .exact .inl (keep b o hb e)
    .by_cases hb:b=Pt
     .subst hb;exact⟨_,hT'⟩
     .exact⟨o,keep b o hb e⟩
 cases hk:K.lookup a with
 | some o =>
  have e:=KX a o hk;rw[ha] at e;cases e;refine core (λb=>if b=Pt then Ga (.tbl #[]) else Gb) (Ge rfl) (λb hb=>.inl (Gf hb)) (.inr ⟨_,vs.toArray,_,hk,rfl,rfl,rfl,by rw[jo,lenV];exact hl,by simpa using rv⟩) (λb u z=>?_) (λb z=>?_) λz=>absurd (Gf aT) z
  .by_cases hb:b=Pt
   .have z':=(Ge hb).symm.trans z;cases z';subst hb;exact hT
   .have z':=(Gf hb).symm.trans z;cases z'
  .by_cases hb:b=Pt
   .exact .inr hb
   .exact absurd (Gf hb) z
 | none =>
  refine core (λb=>if b=Pt then Ga (.tbl #[]) else if b=a then Ga (.frz { cls:=.type "list",data:=.seq vs.toArray } (.lst (ns.map V.int))) else Gb) (Ge rfl) (λb hb=>?_) (.inl (.inr ⟨{ cls:=.type "list",data:=.seq vs.toArray },(Gf aT).trans (Ge rfl)⟩)) (λb u z=>?_) (λb z=>?_) λ_=>hk
  .by_cases hba:b=a
   .exact .inr ⟨_,_,(Gf hb).trans (Ge hba)⟩
   .exact .inl ((Gf hb).trans (Gf hba))
  .by_cases hb:b=Pt
   .have z':=(Ge hb).symm.trans z;cases z';subst hb;exact hT
   .replace z:=(Gf hb).symm.trans z;by_cases hba:b=a
    .have z':=(Ge hba).symm.trans z;cases z';subst hba;exact⟨ha,by rw[jb];exact hl,vs,_,rv,ha⟩
    .have z':=(Gf hba).symm.trans z;cases z'
  .by_cases hb:b=Pt
   .exact .inr hb
   .by_cases hba:b=a
    .exact .inl hba
    .exact absurd ((Gf hb).trans (Gf hba)) z
end
theorem zzQ {l:qX}{n k:Nat}{q:Program}{loose:List Str}{XP:(Str->Option Gg)->Heap->Prop}{YP:World->Heap->Prop}{d:DefRec}{K:Params->ja}{sp:ja->Sp}{x:Str}{Pt:Gj}
  (hn:l.most=Ga n) (hn2:n<=sizeLine) (hdf:d.params.defaults=[]) (hr:lu k callerA)
  (hY:∀ (w:World) (h:Heap),YP w h->(K w.params).In h/\h.get? Pt=Ga (Jk #[]))
  (hKT:∀ P,(K P).lookup Pt=Gb) (hTc:∀ (w:World) (h:Heap),(K w.params).In h->isCodeTable h Pt)
  (F:∀ (w:World) (mg:Str->Option Gg) (fa:Gj) (h:Heap),(K w.params).In h->h.Ns mainGlobals mg->mg d.name=Ga (.ref fa) ->
   ∃ fd:Gi,(∀ (s:Gh) (u:Gg),BindsTo s fd ⟨[u],[]⟩ [(x,u)]) /\
    ∀ base:Heap,(K w.params).In base->base.Ns mainGlobals mg->gN l.prog w (K w.params) mg base hG k fa fd [x] (sp (K w.params)))
  (hsp:∀ (K:ja) (H:Hp) (a:Gj) (ns:List Int),ns.length<=n->H Pt=Ga (.tbl #[])->lr K H a (ns.map V.int)->sp K [.ref a] H (λv _=>v=.bl true) λ_ _ _=>False) :
  Jt q loose XP YP l.row.toRowW d [] (λf vs=>Jx f vs):=by
 refine Att.attach_call hn hdf λw s₀ s₁ mg mb fa o pm cd doc a vs ns G Y ho hd hcd hmg hobj hints hlen hg=>?_;obtain⟨KX,hT⟩:=hY w _ Y;obtain⟨fd,hb,hF⟩:=F w mg fa _ KX G.T.g hmg;exact zwX KX G.T.g G.T.b G.T.builtins G.T.nolimit hg hobj hints (jF hlen hn2) hr hT (hKT _) (hTc w _ KX) hF hb (λH hT hS=>hsp (K w.params) H a ns hlen hT hS)
theorem zB7 {K:ja}{Pt:Gj}{fm:List D->Option D}{H:Hp}{a:Gj}{ns:List Int}(hT:H Pt=Ga (.tbl #[]))(hS:lr K H a (ns.map V.int))(h:fm [.list (ns.map jc)]=Ga (.bool true)):spT K Pt fm [.ref a] H (λv _=>v=.bl true) λ_ _ _=>False :=
 ⟨H,[.list (ns.map jc)],.bool true,⟨#[],hT,trivial,λpos cv h=>by cases h⟩,.refl _,.cons (.lst hS (gJ.ints ns)) .nil,h,λv H' F' _ _ _ _ r=>by cases r;rfl⟩
theorem zrA {K:ja}{h:Heap}{c P:Gj}(X:K.In h)(e:qH K c P=true):isCodeTable h P:=by
 obtain⟨o,vs,file,tf,flags,tg,inF,text,tt,e1,e2,e3,e4,_⟩:=vA X e;exact⟨c,o,vs,e1,e2,e3,e4⟩
section
variable {X:Cx}{k:Nat}{f:Gj}{fd:Gi}{ps:List Str}{x:Str}{p pos:Pos}{e:Expr}{es:List Expr}{g:FL}
end
structure iz (K:ja)(x:Str)(st:Stmt)(cd:Gg)(a:Gj)(fd:Gi):Prop where
 e:∃ (od an:Option Gj) (sl:Array (Option Gg)) (oc kV dc pm ct:Gg),kb K mainGlobals x=Ga (Ga (.ref a))/\K.lookup a=Ga ⟨oc,od,.func fd,sl⟩/\fd=kW x x (nD st) (lE st) (gs st) .none kV dc pm an cd ct/\vN K cd x=true/\ue K (.ref a)=true
theorem iK {K:ja}{mg:Str->Option Gg}{h:Heap}{x:Str}{st:Stmt}{ps:List Str}{f:Gj}{cd:Gg}{fd:Gi}(X:K.In h)(G:h.Ns mainGlobals mg)(w:iz K x st cd f fd)
  (hb:∀ (kV doc pm:Gg) (an:Option Gj) (cdv ct:Gg) (us:List Gg),us.length=ps.length->bindArgs (kW x x (nD st) (lE st) (gs st) .none kV doc pm an cdv ct) ⟨us,[]⟩=pure (ps.zip us):=by first|(exact λ_ _ _ _ _ _ us hl=>(match us,hl with|[_],_=>rfl))|(exact λ_ _ _ _ _ _ us hl=>(match us,hl with|[_,_],_=>rfl))|(exact λ_ _ _ _ _ _ us hl=>(match us,hl with|[_,_,_],_=>rfl))|(exact λ_ _ _ _ _ _ us hl=>(match us,hl with|[_,_,_,_],_=>rfl))|(exact λ_ _ _ _ _ _ us hl=>(match us,hl with|[_,_,_,_,_],_=>rfl))|(exact λ_ _ _ _ _ _ us hl=>(match us,hl with|[_,_,_,_,_,_],_=>rfl))|(exact λ_ _ _ _ _ _ us hl=>(match us,hl with|[_,_,_,_,_,_,_],_=>rfl))):Fn K mg x st ps f fd:=by
 obtain⟨od,an,sl,oc,kV,dc,pm,ct,e1,e2,rfl,e3,e4⟩:=w.e;exact zFT X G e1 e2 e3 e4 hb
theorem iz.code {K:ja}{x:Str}{st:Stmt}{f:Gj}{cd:Gg}{fd:Gi}(w:iz K x st cd f fd):fd.code=cd:=by
 obtain⟨od,an,sl,oc,kV,dc,pm,ct,e1,e2,rfl,e3,e4⟩:=w.e;rfl
theorem iz.bt {K:ja}{x:Str}{st:Stmt}{f:Gj}{cd:Gg}{fd:Gi}(w:iz K x st cd f fd){Q:Gi->Prop}(q:∀ (kV doc pm:Gg) (an:Option Gj) (cdv ct:Gg),Q (kW x x (nD st) (lE st) (gs st) .none kV doc pm an cdv ct)):Q fd:=by
 obtain⟨od,an,sl,oc,kV,dc,pm,ct,e1,e2,rfl,e3,e4⟩:=w.e;exact q _ _ _ _ _ _
noncomputable section
def lQ (d:D):FV:=λψ=>Ga d
theorem zDX (d:D)(ψ:En):lQ d ψ=Ga d:=(rfl)
def gw (op:D->D->Option D)(f g:FV):FV:=λψ=>(f ψ).bind λx=>(g ψ).bind λy=>op x y
theorem zDY (op:D->D->Option D)(f g:FV)(ψ:En):gw op f g ψ=(f ψ).bind λx=>(g ψ).bind λy=>op x y:=(rfl)
def nZ (op:D->Option D)(f:FV):FV:=λψ=>(f ψ).bind op
theorem zF1 (op:D->Option D)(f:FV)(ψ:En):nZ op f ψ=(f ψ).bind op:=(rfl)
def pX (op:List D->Option D)(f:FL):FV:=λψ=>(f ψ).bind op
theorem zDZ (op:List D->Option D)(f:FL)(ψ:En):pX op f ψ=(f ψ).bind op:=(rfl)
def lO (f:FV):FB:=λψ=>(f ψ).bind An
theorem XW (f:FV)(ψ:En):lO f ψ=(f ψ).bind An:=(rfl)
def gZ (op:D->D->Option D)(f g:FV):FB:=λψ=>((f ψ).bind λx=>(g ψ).bind λy=>op x y).bind ly
theorem UQ (op:D->D->Option D)(f g:FV)(ψ:En):gZ op f g ψ=((f ψ).bind λx=>(g ψ).bind λy=>op x y).bind ly:=(rfl)
def og (f:FB):FB:=λψ=>(f ψ).bind λc=>Ga (!c)
theorem XF (f:FB)(ψ:En):og f ψ=(f ψ).bind λc=>Ga (!c):=(rfl)
def AK (f g:FB):FB:=λψ=>(f ψ).bind λc=>if c then g ψ else Ga false
theorem zCa (f g:FB)(ψ:En):AK f g ψ=(f ψ).bind λc=>if c then g ψ else Ga false:=(rfl)
def iA (f g:FB):FB:=λψ=>(f ψ).bind λc=>if c then Ga true else g ψ
theorem zD1 (f g:FB)(ψ:En):iA f g ψ=(f ψ).bind λc=>if c then Ga true else g ψ:=(rfl)
def Ch (f g:FV):FV:=λψ=>((f ψ).bind ly).bind λc=>if c then g ψ else Ga (.bool false)
theorem zCb (f g:FV)(ψ:En):Ch f g ψ=((f ψ).bind ly).bind λc=>if c then g ψ else Ga (.bool false):=(rfl)
def Mr (f g:FV):FV:=λψ=>((f ψ).bind ly).bind λc=>if c then Ga (.bool true) else g ψ
theorem WL (f g:FV)(ψ:En):Mr f g ψ=((f ψ).bind ly).bind λc=>if c then Ga (.bool true) else g ψ:=(rfl)
def Tb (f:FV):FV:=λψ=>((f ψ).bind ly).bind λc=>Ga (.bool (!c))
theorem zCd (f:FV)(ψ:En):Tb f ψ=((f ψ).bind ly).bind λc=>Ga (.bool (!c)):=(rfl)
def Bh (c:FB)(f g:FV):FV:=λψ=>(c ψ).bind λk=>if k then f ψ else g ψ
theorem Ww (c:FB)(f g:FV)(ψ:En):Bh c f g ψ=(c ψ).bind λk=>if k then f ψ else g ψ:=(rfl)
def GM (k k':D->D->Option D)(f g h:FV):FV:=λψ=>(f ψ).bind λx=>(g ψ).bind λy=>((k x y).bind ly).bind λt=>if t then(h ψ).bind λz=>k' y z else Ga (.bool false)
theorem zwY (k k':D->D->Option D)(f g h:FV)(ψ:En):GM k k' f g h ψ=(f ψ).bind λx=>(g ψ).bind λy=>((k x y).bind ly).bind λt=>if t then(h ψ).bind λz=>k' y z else Ga (.bool false):=(rfl)
def Os (k k':D->D->Option D)(f g h:FV):FB:=λψ=>((f ψ).bind λx=>(g ψ).bind λy=>((k x y).bind ly).bind λt=>if t then(h ψ).bind λz=>k' y z else Ga (.bool false)).bind ly
theorem Vt (k k':D->D->Option D)(f g h:FV)(ψ:En):Os k k' f g h ψ=((f ψ).bind λx=>(g ψ).bind λy=>((k x y).bind ly).bind λt=>if t then(h ψ).bind λz=>k' y z else Ga (.bool false)).bind ly:=(rfl)
def lD :FL:=λψ=>Ga []
theorem zCe  (ψ:En):lD ψ=Ga []:=(rfl)
def gI (f:FV)(g:FL):FL:=λψ=>(f ψ).bind λd=>(g ψ).bind λds=>Ga (d::ds)
theorem WN (f:FV)(g:FL)(ψ:En):gI f g ψ=(f ψ).bind λd=>(g ψ).bind λds=>Ga (d::ds):=(rfl)
def nY (g:FL):FV:=λψ=>(g ψ).bind λds=>Ga (.tuple ds)
theorem zCf (g:FL)(ψ:En):nY g ψ=(g ψ).bind λds=>Ga (.tuple ds):=(rfl)
def oD (g:FL):FV:=λψ=>(g ψ).bind λds=>Ga (.list ds)
theorem zCg (g:FL)(ψ:En):oD g ψ=(g ψ).bind λds=>Ga (.list ds):=(rfl)
def gY (fm:List D->Option D)(g:FL):FV:=λψ=>(g ψ).bind fm
theorem zzS (fm:List D->Option D)(g:FL)(ψ:En):gY fm g ψ=(g ψ).bind fm:=(rfl)
def sY (fm:List D->Option (List D))(g:FL):FL:=λψ=>(g ψ).bind fm
theorem zzT (fm:List D->Option (List D))(g:FL)(ψ:En):sY fm g ψ=(g ψ).bind fm:=(rfl)
def sK (f:FV):FL:=λψ=>(f ψ).bind wO
theorem zD4 (f:FV)(ψ:En):sK f ψ=(f ψ).bind wO:=(rfl)
def Nc (f:FV):FL:=λψ=>(f ψ).bind xW
theorem UV (f:FV)(ψ:En):Nc f ψ=(f ψ).bind xW:=(rfl)
def OB (f:FL):FL:=λψ=>(f ψ).bind λxs=>Ga xs.reverse
theorem zCh (f:FL)(ψ:En):OB f ψ=(f ψ).bind λxs=>Ga xs.reverse:=(rfl)
def mX (f:FV):FL:=λψ=>(f ψ).bind toS
theorem zCi (f:FV)(ψ:En):mX f ψ=(f ψ).bind toS:=(rfl)
def tP (op:D->Option (List D))(f:FV):FL:=λψ=>(f ψ).bind op
theorem zCj (op:D->Option (List D))(f:FV)(ψ:En):tP op f ψ=(f ψ).bind op:=(rfl)
def Tn (op:D->D->Option (List D))(f g:FV):FL:=λψ=>(f ψ).bind λx=>(g ψ).bind λy=>op x y
theorem XM (op:D->D->Option (List D))(f g:FV)(ψ:En):Tn op f g ψ=(f ψ).bind λx=>(g ψ).bind λy=>op x y:=(rfl)
def MU (op:D->D->D->Option (List D))(f g h:FV):FL:=λψ=>(f ψ).bind λx=>(g ψ).bind λy=>(h ψ).bind λz=>op x y z
theorem zCm (op:D->D->D->Option (List D))(f g h:FV)(ψ:En):MU op f g h ψ=(f ψ).bind λx=>(g ψ).bind λy=>(h ψ).bind λz=>op x y z:=(rfl)
def Nj (op:D->D->D->Option D)(f g h:FV):FV:=λψ=>(f ψ).bind λx=>(g ψ).bind λy=>(h ψ).bind λz=>op x y z
theorem zCn (op:D->D->D->Option D)(f g h:FV)(ψ:En):Nj op f g h ψ=(f ψ).bind λx=>(g ψ).bind λy=>(h ψ).bind λz=>op x y z:=(rfl)
def tX (i:Nat)(f:FV):FS:=λψ=>(go i ψ).bind λds=>(f ψ).bind λd=>(wO d).bind λes=>(sR ds es).bind λrs=>Ga (.nx (ψ.set i (.own rs)))
theorem ZB (i:Nat)(f:FV)(ψ:En):tX i f ψ=(go i ψ).bind λds=>(f ψ).bind λd=>(wO d).bind λes=>(sR ds es).bind λrs=>Ga (.nx (ψ.set i (.own rs))):=(rfl)
def QI (f:FL):FL:=λψ=>(f ψ).bind mU
theorem ZX (f:FL)(ψ:En):QI f ψ=(f ψ).bind mU:=(rfl)
def BI (f:FL)(g:FV):FV:=λψ=>(f ψ).bind λx=>(g ψ).bind λy=>yr x y
theorem Zx (f:FL)(g:FV)(ψ:En):BI f g ψ=(f ψ).bind λx=>(g ψ).bind λy=>yr x y:=(rfl)
def oM (f:FV)(g h:FP):FV:=λψ=>(f ψ).bind λx=>(g ψ).bind λl=>(h ψ).bind λu=>tj x l u
theorem Ze (f:FV)(g h:FP)(ψ:En):oM f g h ψ=(f ψ).bind λx=>(g ψ).bind λl=>(h ψ).bind λu=>tj x l u:=(rfl)
def oU :FP:=λψ=>Ga Gb
theorem zEa  (ψ:En):oU ψ=Ga Gb:=(rfl)
def Bb (f:FV):FP:=λψ=>(f ψ).bind Ed
theorem zzW (f:FV)(ψ:En):Bb f ψ=(f ψ).bind Ed:=(rfl)
def gW :FS:=λψ=>Ga (.nx ψ)
theorem zEb  (ψ:En):gW ψ=Ga (.nx ψ):=(rfl)
def Ft :FS:=λψ=>Gb
theorem zCp  (ψ:En):Ft ψ=Gb:=(rfl)
noncomputable def gy (g k:FS):FS:=λψ=>mf (g ψ) k
theorem zCq (g k:FS)(ψ:En):gy g k ψ=mf (g ψ) k:=(rfl)
noncomputable def lY (f:FV):FS:=λψ=>(f ψ).bind λd=>Ga (.rt d)
theorem zCr (f:FV)(ψ:En):lY f ψ=(f ψ).bind λd=>Ga (.rt d):=(rfl)
def Ar (f:FL):FS:=λψ=>(f ψ).bind λd=>Ga (.ro d)
theorem zCs (f:FL)(ψ:En):Ar f ψ=(f ψ).bind λd=>Ga (.ro d):=(rfl)
def gP (c:FB)(g k:FS):FS:=λψ=>(c (frz ψ)).bind λt=>if t then g ψ else k ψ
theorem Xb (c:FB)(g k:FS)(ψ:En):gP c g k ψ=(c (frz ψ)).bind λt=>if t then g ψ else k ψ:=(rfl)
def iW (i:Nat)(f:FV):FS:=λψ=>(f ψ).bind λd=>Ga (.nx (ψ.set i (.val d)))
theorem zCt (i:Nat)(f:FV)(ψ:En):iW i f ψ=(f ψ).bind λd=>Ga (.nx (ψ.set i (.val d))):=(rfl)
def wo (i:Nat)(f:FL):FS:=λψ=>(f ψ).bind λd=>Ga (.nx (ψ.set i (.own d)))
theorem WK (i:Nat)(f:FL)(ψ:En):wo i f ψ=(f ψ).bind λd=>Ga (.nx (ψ.set i (.own d))):=(rfl)
def BQ (i:Nat)(g:FS):FS:=λψ=>(g ψ).bind λo=>Ga (zp i o)
theorem zCv (i:Nat)(g:FS)(ψ:En):BQ i g ψ=(g ψ).bind λo=>Ga (zp i o):=(rfl)
def Fi (i:Nat)(g:FS):FS:=λψ=>g (frzAt i ψ)
theorem zCw (i:Nat)(g:FS)(ψ:En):Fi i g ψ=g (frzAt i ψ):=(rfl)
def oh (i:Nat)(f:FV):FS:=λψ=>(go i ψ).bind λds=>(f ψ).bind λd=>if ds.length<1000000 then Ga (.nx (ψ.set i (.own (ds++[d])))) else Gb
theorem zCx (i:Nat)(f:FV)(ψ:En):oh i f ψ=(go i ψ).bind λds=>(f ψ).bind λd=>if ds.length<1000000 then Ga (.nx (ψ.set i (.own (ds++[d])))) else Gb:=(rfl)
def mn (f:FL)(t:FT)(g:FS):FS:=λψ=>(f ψ).bind λds=>iP t g ds ψ
theorem WJ (f:FL)(t:FT)(g:FS)(ψ:En):mn f t g ψ=(f ψ).bind λds=>iP t g ds ψ:=(rfl)
def Nx (f:FV)(t:FT):FS:=λψ=>(f ψ).bind λd=>(t d ψ).bind λenv1=>Ga (.nx env1)
theorem zCz (f:FV)(t:FT)(ψ:En):Nx f t ψ=(f ψ).bind λd=>(t d ψ).bind λenv1=>Ga (.nx env1):=(rfl)
def MC (i:Nat):FS:=λψ=>Ga (.nx (ψ.set i (.dki Gb [])))
theorem zCA (i:Nat)(ψ:En):MC i ψ=Ga (.nx (ψ.set i (.dki Gb []))):=(rfl)
def lG (i:Nat):FT:=λd ψ=>Ga (ψ.set i (.val d))
def Dd:sq:=λds ψ=>match ds with|[]=>Ga ψ|_=>Gb
def wp (t:FT)(u:sq):sq:=λds ψ=>match ds with|d::r=>(t d ψ).bind λenv1=>u r env1|[]=>Gb
def xZ (u:sq):FT:=λd ψ=>(xW d).bind λds=>u ds ψ
theorem ZD (i:Nat)(d:D)(ψ:En):lG i d ψ=Ga (ψ.set i (.val d)):=(rfl)
theorem zzY (ψ:En):Dd [] ψ=Ga ψ:=(rfl)
theorem Vl (t:FT)(u:sq)(d:D)(r:List D)(ψ:En):wp t u (d::r) ψ=(t d ψ).bind λenv1=>u r env1:=(rfl)
theorem Wg (u:sq)(d:D)(ψ:En):xZ u d ψ=(xW d).bind λds=>u ds ψ:=(rfl)
theorem ZN (d:D)(k:FS):mf (Ga (.rt d)) k=Ga (.rt d):=(rfl)
theorem zuJ (d:List D)(k:FS):mf (Ga (.ro d)) k=Ga (.ro d):=(rfl)
theorem Xy (e:En)(k:FS):mf (Ga (.nx e)) k=k e:=(rfl)
theorem WA:frz []=[]:=(rfl)
theorem zsH (s:Sl)(e:En):frz (s::e)=pL s::frz e:=(rfl)
theorem Zj:pL .no=.no:=(rfl)
theorem zw4 (d:D):pL (.val d)=.val d:=(rfl)
theorem zw5 (d:List D):pL (.own d)=.val (.list d):=(rfl)
theorem zw6 (a:Option Gj)(d:List (Int×D)):pL (.dki a d)=.val (re d):=(rfl)
theorem Zh (d:D)(e:En):gv 0 (.val d::e)=Ga d:=(rfl)
theorem zEg (x:Sl)(e:En):oQ (x::e)[0]?=oQ (Ga x):=(rfl)
theorem zEh (a0:Sl)(d:D)(e:En):gv 1 (a0::.val d::e)=Ga d:=(rfl)
theorem WI (a0:Sl)(x s:Sl)(e:En):List.set (a0::x::e) 1 s=a0::s::e:=(rfl)
theorem zCC (a0:Sl)(d:D)(e:En):frzAt 1 (a0::.val d::e)=a0::.val d::e:=(rfl)
theorem zEi (a0:Sl)(x:Sl)(e:En):oQ (a0::x::e)[1]?=oQ (Ga x):=(rfl)
theorem XT (a0 a1:Sl)(d:D)(e:En):gv 2 (a0::a1::.val d::e)=Ga d:=(rfl)
theorem YK (a0 a1:Sl)(x s:Sl)(e:En):List.set (a0::a1::x::e) 2 s=a0::a1::s::e:=(rfl)
theorem UP (a0 a1:Sl)(d:List D)(e:En):frzAt 2 (a0::a1::.own d::e)=a0::a1::.val (.list d)::e:=(rfl)
theorem zCE (a0 a1:Sl)(d:D)(e:En):frzAt 2 (a0::a1::.val d::e)=a0::a1::.val d::e:=(rfl)
theorem Zu (a0 a1:Sl)(q:Option Gj)(d:List (Int×D))(e:En):frzAt 2 (a0::a1::.dki q d::e)=a0::a1::.val (re d)::e:=(rfl)
theorem zEl (a0 a1:Sl)(x:Sl)(e:En):oQ (a0::a1::x::e)[2]?=oQ (Ga x):=(rfl)
theorem WQ (a0 a1 a2:Sl)(d:D)(e:En):gv 3 (a0::a1::a2::.val d::e)=Ga d:=(rfl)
theorem Xh (a0 a1 a2:Sl)(d:List D)(e:En):go 3 (a0::a1::a2::.own d::e)=Ga d:=(rfl)
theorem Yc (a0 a1 a2:Sl)(d:List D)(e:En):gl 3 (a0::a1::a2::.own d::e)=Ga d:=(rfl)
theorem zCG (a0 a1 a2:Sl)(x s:Sl)(e:En):List.set (a0::a1::a2::x::e) 3 s=a0::a1::a2::s::e:=(rfl)
theorem zEp (a0 a1 a2 a3:Sl)(d:D)(e:En):gv 4 (a0::a1::a2::a3::.val d::e)=Ga d:=(rfl)
theorem zEq (a0 a1 a2 a3:Sl)(d:List D)(e:En):go 4 (a0::a1::a2::a3::.own d::e)=Ga d:=(rfl)
theorem zEr (a0 a1 a2 a3:Sl)(d:List D)(e:En):gl 4 (a0::a1::a2::a3::.own d::e)=Ga d:=(rfl)
theorem Wp (a0 a1 a2 a3:Sl)(x s:Sl)(e:En):List.set (a0::a1::a2::a3::x::e) 4 s=a0::a1::a2::a3::s::e:=(rfl)
theorem zEs (a0 a1 a2 a3:Sl)(x:Sl)(e:En):oQ (a0::a1::a2::a3::x::e)[4]?=oQ (Ga x):=(rfl)
theorem zEt (a0 a1 a2 a3 a4:Sl)(d:D)(e:En):gv 5 (a0::a1::a2::a3::a4::.val d::e)=Ga d:=(rfl)
theorem zCI (a0 a1 a2 a3 a4:Sl)(x s:Sl)(e:En):List.set (a0::a1::a2::a3::a4::x::e) 5 s=a0::a1::a2::a3::a4::s::e:=(rfl)
theorem VE (a0 a1 a2 a3 a4:Sl)(d:List D)(e:En):frzAt 5 (a0::a1::a2::a3::a4::.own d::e)=a0::a1::a2::a3::a4::.val (.list d)::e:=(rfl)
theorem zEv (a0 a1 a2 a3 a4:Sl)(x:Sl)(e:En):oQ (a0::a1::a2::a3::a4::x::e)[5]?=oQ (Ga x):=(rfl)
theorem Vd (a0 a1 a2 a3 a4 a5:Sl)(d:D)(e:En):gv 6 (a0::a1::a2::a3::a4::a5::.val d::e)=Ga d:=(rfl)
theorem zEx (a0 a1 a2 a3 a4 a5:Sl)(d:List D)(e:En):go 6 (a0::a1::a2::a3::a4::a5::.own d::e)=Ga d:=(rfl)
theorem zEy (a0 a1 a2 a3 a4 a5:Sl)(d:List D)(e:En):gl 6 (a0::a1::a2::a3::a4::a5::.own d::e)=Ga d:=(rfl)
theorem zCJ (a0 a1 a2 a3 a4 a5:Sl)(x s:Sl)(e:En):List.set (a0::a1::a2::a3::a4::a5::x::e) 6 s=a0::a1::a2::a3::a4::a5::s::e:=(rfl)
theorem zEz (a0 a1 a2 a3 a4 a5:Sl)(x:Sl)(e:En):oQ (a0::a1::a2::a3::a4::a5::x::e)[6]?=oQ (Ga x):=(rfl)
theorem Yx (a0 a1 a2 a3 a4 a5 a6:Sl)(d:D)(e:En):gv 7 (a0::a1::a2::a3::a4::a5::a6::.val d::e)=Ga d:=(rfl)
theorem Yo (a0 a1 a2 a3 a4 a5 a6:Sl)(x s:Sl)(e:En):List.set (a0::a1::a2::a3::a4::a5::a6::x::e) 7 s=a0::a1::a2::a3::a4::a5::a6::s::e:=(rfl)
theorem zEB (a0 a1 a2 a3 a4 a5 a6 a7:Sl)(d:D)(e:En):gv 8 (a0::a1::a2::a3::a4::a5::a6::a7::.val d::e)=Ga d:=(rfl)
theorem zCL (a0 a1 a2 a3 a4 a5 a6 a7:Sl)(x s:Sl)(e:En):List.set (a0::a1::a2::a3::a4::a5::a6::a7::x::e) 8 s=a0::a1::a2::a3::a4::a5::a6::a7::s::e:=(rfl)
theorem Zf (a0 a1 a2 a3 a4 a5 a6 a7 a8:Sl)(x s:Sl)(e:En):List.set (a0::a1::a2::a3::a4::a5::a6::a7::a8::x::e) 9 s=a0::a1::a2::a3::a4::a5::a6::a7::a8::s::e:=(rfl)
theorem Zt (a0 a1 a2 a3 a4 a5 a6 a7 a8 a9:Sl)(x s:Sl)(e:En):List.set (a0::a1::a2::a3::a4::a5::a6::a7::a8::a9::x::e) 10 s=a0::a1::a2::a3::a4::a5::a6::a7::a8::a9::s::e:=(rfl)
theorem WE (a0 a1 a2 a3 a4 a5 a6 a7 a8 a9 a10:Sl)(d:D)(e:En):gv 11 (a0::a1::a2::a3::a4::a5::a6::a7::a8::a9::a10::.val d::e)=Ga d:=(rfl)
theorem UZ (a0 a1 a2 a3 a4 a5 a6 a7 a8 a9 a10:Sl)(x s:Sl)(e:En):List.set (a0::a1::a2::a3::a4::a5::a6::a7::a8::a9::a10::x::e) 11 s=a0::a1::a2::a3::a4::a5::a6::a7::a8::a9::a10::s::e:=(rfl)
theorem zCO (a0 a1 a2 a3 a4 a5 a6 a7 a8 a9 a10 a11:Sl)(d:D)(e:En):gv 12 (a0::a1::a2::a3::a4::a5::a6::a7::a8::a9::a10::a11::.val d::e)=Ga d:=(rfl)
theorem UX (a0 a1 a2 a3 a4 a5 a6 a7 a8 a9 a10 a11:Sl)(x s:Sl)(e:En):List.set (a0::a1::a2::a3::a4::a5::a6::a7::a8::a9::a10::a11::x::e) 12 s=a0::a1::a2::a3::a4::a5::a6::a7::a8::a9::a10::a11::s::e:=(rfl)
theorem zCP (a0 a1 a2 a3 a4 a5 a6 a7 a8 a9 a10 a11:Sl)(x:Sl)(e:En):oQ (a0::a1::a2::a3::a4::a5::a6::a7::a8::a9::a10::a11::x::e)[12]?=oQ (Ga x):=(rfl)
def Be (kvs:List (Int×D))(v:D):D->Option (List (Int×D))
 | .int n=>if kvs.length<1000000 then Ga (mL kvs n v) else Gb
 | _=>Gb
theorem zz3 (kvs:List (Int×D))(v:D)(n:Int):Be kvs v (.int n)=if kvs.length<1000000 then Ga (mL kvs n v) else Gb:=(rfl)
theorem WF (i:Nat)(f g:FV)(ψ:En)(oa:Option Gj)(kvs:List (Int×D))(h:ψ[i]?=Ga (.dki oa kvs)):xh i f g ψ=(g ψ).bind λv=>(f ψ).bind λd=>(Be kvs v d).bind λr=>Ga (.nx (ψ.set i (.dki oa r))):=by
 unfold xh
 congr 1;funext v;congr 1;funext d
 rw[h];cases d<;>try rfl
 show(if _ then _ else _)=(if _ then _ else _:Option _).bind _;split<;>rfl
theorem Vz (a0 a1:Sl)(oa:Option Gj)(kvs:List (Int×D))(e:En)(f g:FV):xh 2 f g (a0::a1::.dki oa kvs::e)=(g (a0::a1::.dki oa kvs::e)).bind λv=>(f (a0::a1::.dki oa kvs::e)).bind λd=>(Be kvs v d).bind λr=>Ga (.nx (a0::a1::.dki oa r::e)):=WF _ _ _ _ _ _ rfl
theorem zuM (e:En):nu [] e=[]:=(rfl)
theorem Zz (i:Nat)(ix:List Nat)(e:En):nu (i::ix) e=oQ e[i]?::nu ix e:=(rfl)
theorem zuN (d:D):oQ (Ga (.val d))=.val d:=(rfl)
theorem zuO (d:List D):oQ (Ga (.own d))=.own d:=(rfl)
theorem zEC (i:Nat)(e:En):zp i (.nx e)=.nx (frzAt i e):=(rfl)
theorem Ti (d:D):gO (Ga (.rt d))=Ga d:=(rfl)
theorem zCQ (d:List D):rH (Ga (.ro d))=Ga d:=(rfl)
theorem zED (b:Bool):ly (.bool b)=Ga b:=(rfl)
theorem zz6 (b:Bool):An (.bool b)=Ga b:=(rfl)
theorem Xx (d:List D):wO (.list d)=Ga d:=(rfl)
theorem ZT (d:List D):xW (.tuple d)=Ga d:=(rfl)
theorem SU (d:List D):toS (.list d)=Ga d:=(rfl)
theorem Ri (d:List D):toS (.tuple d)=Ga d:=(rfl)
theorem zEG (i:Int):Ed (.int i)=Ga (Ga i):=(rfl)
theorem Xz (i j:Int):iX (.int i) (.int j)=Ga (.int (i+j)):=(rfl)
theorem zEI (i j:Int):lM (.int i) (.int j)=Ga (.int (i-j)):=(rfl)
theorem zEJ (i:Int):tW (.int i)=Ga (.int (-i)):=(rfl)
theorem zF2 (i j:Int):rj (.int i) (.int j)=Ga (.bool (decide (i<j))):=(rfl)
theorem ZO (i j:Int):pC (.int i) (.int j)=Ga (.bool (decide (i<=j))):=(rfl)
theorem zF4 (i j:Int):pB (.int i) (.int j)=Ga (.bool (decide (j<i))):=(rfl)
theorem zF5 (i j:Int):zW (.int i) (.int j)=Ga (.bool (decide (j<=i))):=(rfl)
theorem zEK (d:D)(k:Int):iI d (.int k)=(pz d).bind λkvs=>nr kvs k:=(rfl)
theorem zCR (d:D)(k:Int)(x:D):zl d (.int k) x=(pz d).bind λkvs=>Ga ((nr kvs k).getD x):=(rfl)
theorem zCS (d:D)(k:Int):ls (.int k) d=(pz d).bind λkvs=>Ga (.bool (!(nr kvs k).isSome)):=(rfl)
theorem Yi (i j:Int):Dt (.int i) (.int j)=Ga (.int (vK i j)):=(rfl)
theorem zEM (i j:Int):iT (.int i) (.int j)=Ga (.bool (decide (i=j))):=by rw[sU];rfl
theorem El (i j:Int):lL (.int i) (.int j)=Ga (.bool (decide (¬i=j))):=by rw[NE];by_cases h:i=j<;>simp[h]
theorem Yh (d:List D)(i:Int):gC (.tuple d) (.int i)=atI d i:=(rfl)
theorem Vp (d:List D)(i:Int):gC (.list d) (.int i)=atI d i:=(rfl)
theorem zEP (d:List D)(i:Int):yr d (.int i)=atI d i:=(rfl)
theorem zz7 (x0 x1:D):atI [x0,x1] 0=Ga x0:=(rfl)
theorem UI (x0 x1:D):atI [x0,x1] 1=Ga x1:=(rfl)
theorem Zy (x0 x1 x2:D):atI [x0,x1,x2] 1=Ga x1:=(rfl)
theorem zAa (x0 x1 x2:D):atI [x0,x1,x2] 2=Ga x2:=(rfl)
theorem Xq (d:List D):iy (.list d)=Ga (.int d.length):=(rfl)
theorem Vv (d:List D):iy (.tuple d)=Ga (.int d.length):=(rfl)
theorem Xe (d:List D):oH d=Ga (.tuple d):=(rfl)
theorem zxA (c:ib)(φ:D->Option D)(f:FV)(e:En):oI 0 c φ f (.fn c::e)=(f (.fn c::e)).bind φ:=Ge rfl
theorem zxB (c:ib)(fm:List D->Option D)(g:FL)(e:En):lw 0 c fm g (.fn c::e)=(g (.fn c::e)).bind fm:=Ge rfl
theorem zxC (a0:Sl)(c:ib)(fm:List D->Option D)(g:FL)(e:En):lw 1 c fm g (a0::.fn c::e)=(g (a0::.fn c::e)).bind fm:=Ge rfl
theorem zxD (P:Gj):pL (.tab P)=.tab P:=(rfl)
theorem zAb (c:ib):pL (.fn c)=.fn c:=(rfl)
theorem ZF:iR .none .none=Ga (.bool true):=(rfl)
theorem zuP:iY .none .none=Ga (.bool false):=(rfl)
theorem zAd (x:List D):iR (.tuple x) .none=Ga (.bool false):=(rfl)
theorem Xf (x:List D):sk "tuple" (.tuple x)=Ga (.bool true):=(rfl)
theorem zuQ (x:Int):iY (.int x) .none=Ga (.bool true):=(rfl)
theorem zrB (x:Int):sk "int" (.int x)=Ga (.bool true):=(rfl)
theorem YA (x:Int):sk "bool" (.int x)=Ga (.bool false):=(rfl)
theorem zuR {α:Type}(a b:α):(if false=true then a else b)=b:=Gf jq
def lX (I:En->Prop)(o:Option sA):Prop:=∃ e,o=Ga (.nx e)/\I e
theorem oy {I:En->Prop}{e:En}(h:I e):lX I (Ga (.nx e)):=⟨e,rfl,h⟩
theorem HB {I J:En->Prop}{o:Option sA}(h:lX I o)(q:∀ e,I e->J e):lX J o:=by
 obtain⟨e,rfl,hI⟩:=h;exact⟨e,rfl,q e hI⟩
theorem DG {t:FT}{g:FS}{f:Nat->D}(I:Nat->En->Prop)(n:Nat)(st:∀ k,k<n->∀ ψ,I k ψ->lX (I (k+1)) ((t (f k) ψ).bind g)):∀ (m a:Nat) (ψ:En),a+m=n->I a ψ->lX (I n) (iP t g ((qw a m).map f) ψ)
 | 0,a,ψ,e,h=>by
  obtain rfl:a=n:=by omega
  exact⟨ψ,rfl,h⟩
 | m+1,a,ψ,e,h=>by
  obtain⟨e2,h1,h2⟩:=st a (by omega) ψ h;obtain⟨e1,x1,x2⟩:=qI.mp h1;obtain⟨z,y1,y2⟩:=DG I n st m (a+1) e2 (by omega) h2;refine⟨z,?_,y2⟩;rw[qJ,jI];unfold iP;rw[x1,jn,x2];exact y1
theorem AB {t:FT}{g k:FS}{f:Nat->D}{ψ:En}{R:Option sA}(n:Nat)(I:Nat->En->Prop)(h0:I 0 ψ)(st:∀ k,k<n->∀ ψ,I k ψ->lX (I (k+1)) ((t (f k) ψ).bind g))(q:∀ e,I n e->k e=R):mf (iP t g ((je n).map f) ψ) k=R:=by
 obtain⟨e,h1,h2⟩:=DG I n st n 0 ψ (qf _) h0;rw[uF,h1];exact q e h2
theorem NC {α:Type}{t:FT}{g:FS}(f:α->D)(I:List α->En->Prop)(as:List α)(st:∀ pre a suf,as=pre++a::suf->∀ ψ,I pre ψ->lX (I (pre++[a])) ((t (f a) ψ).bind g)):∀ (suf pre:List α) (ψ:En),as=pre++suf->I pre ψ->lX (I as) (iP t g (suf.map f) ψ)
 | [],pre,ψ,e,h=>⟨ψ,rfl,by rw[e,kg];exact h⟩
 | a::r,pre,ψ,e,h=>by
  obtain⟨e2,h1,h2⟩:=st pre a r e ψ h;obtain⟨e1,x1,x2⟩:=qI.mp h1;obtain⟨z,y1,y2⟩:=NC f I as st r (pre++[a]) e2 (by rw[e,kP];rfl) h2;refine⟨z,?_,y2⟩;rw[jI];unfold iP;rw[x1,jn,x2];exact y1
theorem Ex {α:Type}{t:FT}{g k:FS}{ψ:En}{R:Option sA}(f:α->D)(I:List α->En->Prop)(as:List α)(h0:I [] ψ)(st:∀ pre a suf,as=pre++a::suf->∀ ψ,I pre ψ->lX (I (pre++[a])) ((t (f a) ψ).bind g))(q:∀ e,I as e->k e=R):mf (iP t g (as.map f) ψ) k=R:=by
 obtain⟨e,h1,h2⟩:=NC f I as st as [] ψ rfl h0;rw[h1];exact q e h2
theorem zxE {α:Type}{t:FT}{g:FS}{ψ:En}(f:α->D)(I:List α->En->Prop)(as:List α)(h0:I [] ψ)(st:∀ pre a suf,as=pre++a::suf->∀ ψ,I pre ψ->lX (I (pre++[a])) ((t (f a) ψ).bind g)):lX (I as) (iP t g (as.map f) ψ):=NC f I as st as [] ψ rfl h0
theorem pr (fi:FL)(fc:FB)(fe:FV)(ix:List Nat)(ψ:En):ip fi fc fe ix ψ=(fi ψ).bind λds=>if ds.length<=1000000 then lc fc fe (nu ix ψ) ds else Gb:=(rfl)
end
theorem Wz:typeLookup (.type "list") "keys"=pure Gb:=by rw[typeLookup_type,builtinLookup_eq_fast];kernel_rfl
theorem WB:typeLookup (.type "list") (jC "__getattr__")=pure Gb:=by rw[typeLookup_type,builtinLookup_eq_fast];kernel_rfl
theorem Ny:Slot "list" "__getattribute__" "list.__getattribute__" :=
 .of (owner:="list") (n:="__getattribute__") (by rw[typeLookup_type,builtinLookup_eq_fast];kernel_rfl) (by nofun) (by nofun) (by nofun) (by first|exact .inl (by nofun)|exact .inr (by nofun)) (by rw[isSubtype_type];kernel_rfl)
theorem zAe:entryFor table "list.__getattribute__"=Ga Builtin.«object.__getattribute__»:=entryFor_alias (id':="object.__getattribute__") (by kernel_rfl) rfl (by nofun) (by kernel_rfl)
theorem zCY (a b:Gg):argsOk "list.__getattribute__" ⟨[a,b],[]⟩:=by unfold argsOk;kernel_rfl
section
variable {prog:Program}{w:World}{A:Around}{E:Gg->Gh->Prop}{s:Gh}
theorem Vx {l:Gj}{its:Array Gg}{Q:Option Gg->Gh->Prop}(hh:A.handled=Gb)(hl:PlainL s.heap l its)
  (h:∀ (h':Heap) (tk:Nat),(∀ b o,s.heap.get? b=Ga o->h'.get? b=Ga o)->Q Gb { s with heap:=h',toks:=tk }) :
  wpAny (model prog w) A (getAttr? (.ref l) (jC "keys")) Q E s:=by
 have ty:s.TypeIs (.ref l) "list":=let ⟨o,_,ho,hc,_⟩:=hl;⟨o,ho,hc⟩
 unfold getAttr?;refine gk (wpAny_mkText ?_);unfold getAttrBy?;refine gk (wpAny_attempt ?_);unfold getAttrBy;refine wpAny_holding ?_;refine gk (wpAny_typeOf (s:={ s with toks:=s.toks+1 }) ty ?_);refine gk (wpAny_of_eq Ny.lookup ?_);dsimp only;rw[Gf (by decide)];unfold getAttrByItsOwn;refine gk (gm ?_);refine gk (wpAny_attempt (wpAny_holding ?_));show wpAny _ _ (boundAndCalled _ _ _) _ _ _;unfold boundAndCalled;refine gk (wpAny_of_eq (Ny.bind (.ref l)) ?_);dsimp only;show wpAny _ _ (call (.builtin "list.__getattribute__") [.ref l,.str (jC "keys") s.toks]) _ _ _;refine wpAny_call_entry Ny (s:={ s with toks:=s.toks+1 }) ty zAe ?_ (zCY _ _);unfold Builtin.«object.__getattribute__»;refine gk ?_;unfold slotArgs;show wpAny _ _ (pure _) _ _ _;refine gm ?_;dsimp only;refine gk (gm ?_);refine gk (wpAny_typeOf (s:={ s with toks:=s.toks+1 }) ty ?_);refine gk ?_;unfold J7;refine gk (wpAny_of_eq Wz ?_);refine gk (gm ?_);unfold JA;refine gk (gm ?_);dsimp only;unfold JS;obtain⟨o,n,ho,hc,hd,ha⟩:=hl;have own:wpAny (model prog w) A.in1 (v8 (jC "keys") (kJ l)) (λr z=>r=Gb/\z={ s with toks:=s.toks+1 }) (λ_ _=>False) { s with toks:=s.toks+1 }:=by
  unfold v8 J4;refine gk (gk (wpAny_load ho ?_));rw[ha];dsimp only;unfold instanceDict;refine gk (wpAny_load ho ?_);dsimp only;rw[hc];dsimp only;rw[hd];dsimp only;refine gm ?_;exact gm ⟨rfl,rfl⟩
 refine gk (wpAny_mono own (λr z ⟨e1,e2⟩=>?_) ?_)
 .subst e1;subst e2;dsimp only;refine gk (gm ?_);show wpAny _ _ (rule "getattr.missing" >>= λ_=>pure JN) _ _ _;refine gk (wpAny_rule (gm ?_));dsimp only;rw[Gf (by decide),Gf (by decide)];unfold JB typeNameOfCut shownTypeOf;refine gk (gk (gk (wpAny_typeOf (s:={ s with toks:=s.toks+1 }) ty ?_)));rw[Gf (by decide)];refine gm ?_;show wpAny _ _ (pure ((Manifest.find? "list").elim "list" λx=>x.tpName)) _ _ _;refine gm ?_;refine wpAny_raiseAttrError (s:={ s with toks:=s.toks+1 }) (by simp[hh]) (λh' tk e ne=>?_) ?_
  .obtain⟨tt,uu,te⟩:=ne.there;have tI:Shared.TypeIs { s with heap:=h',toks:=tk } (.ref e) "AttributeError":=⟨_,te,rfl⟩;unfold getattributeRaised;refine gk (wpAny_isInstance (T:="AttributeError") (b:=true) tI sub_AttributeError ?_);rw[Ge rfl];unfold hookBehind;rw[Gf (by decide)];refine gk (wpAny_of_eq WB ?_);show wpAny _ _ (throw (kJ e) >>= _) _ _ _;refine gk (wpAny_throw ?_);refine gk (wpAny_isInstance (T:="AttributeError") (b:=true) tI sub_AttributeError ?_);rw[Ge rfl];exact gm (h h' tk ne.keeps)
  .exact attrMsg_fits (by nofun) (by nofun)
 .exact λ_ _ z=>z.elim
end
theorem Qa:entryFor table "dict.update.loop"=Ga Builtin.«dict.update.loop»:=entryFor_of_tree (id (Eq.refl (entriesT.find (code "dict.update.loop"))))
theorem EF:plainId "dict.update.loop"=true:=by nofun
def xU (val:Nat->Int×Gg):Nat->List (Int×Gg)
 | 0=>[]
 | i+1=>stored (xU val i) (val i).1 (val i).2
theorem Oo (val:Nat->Int×Gg):∀ i,(xU val i).length<=i
 | 0=>jh _
 | i+1=>by
  have:=Oo val i;show(stored (xU val i) (val i).1 (val i).2).length<=i+1;unfold stored;split
  .rw[jb];omega
  .rw[jr];show _+1<=_;omega
section
variable {prog:Program}{w:World}{A:Around}{R:Result->Gh->Prop}{I:Gj}{fp wr:List Gj}{G:Array GenState->Array GenState->Prop}{n:Nat}{P:Nat->Gg->Prop}{St:Nat->Gh->Prop}
theorem DictOf.at' {h h':Heap}{a:Gj}{l:List (Int×Gg)}(d:h.DictOf (intKind prog w) a l)(k:∀ o,h.get? a=Ga o->h'.get? a=Ga o):h'.DictOf (intKind prog w) a l :=
 let ⟨o,es,ep,ho,r⟩:=d;⟨o,es,ep,k o ho,r⟩
theorem zCZ (W:WalksS prog w A.in1 I fp wr G n P St)(S:Gj)(nS:S∉fp)(val:Nat->Int×Gg)(hn:n<=1000000)(base:Heap)
  (vl:∀ i v,P i v->∃ (a:Gj) (t:Tok) (o:Obj) (e:Nat),v=.ref a/\a∉S::wr/\base.get? a=Ga o/\o.cls=.type "tuple"/\o.data=.seq #[.int (val i).1 t,(val i).2] e) :
  ∀ (k i:Nat) (s:Gh) (z:Int) (tz:Tok),n-i=k->i<=n->St i s->s.heap.DictOf (intKind prog w) S (xU val i)->(∀ a o,a∉S::wr->base.get? a=Ga o->s.heap.get? a=Ga o) ->
   (∀ z1,Moved (S::wr) G s z1->z1.heap.DictOf (intKind prog w) S (xU val n)->R (.ok (.ret .none)) z1) ->
   codeAny (model prog w) A (.builtin "dict.update.loop" ⟨[.ref S,.ref I,.int z tz,.none],[]⟩) R s:=by
 have nW:S∉wr:=λh=>nS (W.sub _ h);have sb:∀ b∈wr,b∈S::wr:=λb hb=>jj _ hb;intro k;induction k with
 | zero =>
  intro i s z tz ek li u0 c0 bs fin
  have ei:i=n:=by omega
  subst ei;refine codeAny_builtin Qa ?_;rw[Jl EF];show wpAny _ A.in1 (pyNext (.ref I) >>= _) _ _ s;refine gk (W.done s _ _ u0 λz1 mv=>?_);show wpAny _ A.in1 (Builtin.Dict.addKeywords S [] >>= λ_=>ret km) _ _ z1;refine gk (gm ?_);exact gm (fin z1 (mv.mono sb) (DictOf.at' c0 λo ho=>mv.heap S _ nW ho))
 | succ k ih =>
  intro i s z tz ek li u0 c0 bs fin
  have l0:i<n:=by omega
  refine codeAny_builtin Qa ?_;rw[Jl EF];show wpAny _ A.in1 (pyNext (.ref I) >>= _) _ _ s;refine gk (W.item i s _ _ l0 u0 λv z1 hp0 u1 mv=>?_);obtain⟨a,t,o,e,rfl,na,ho,hc,hd⟩:=vl i v hp0;have ho1:z1.heap.get? a=Ga o:=mv.heap a o (λh=>na (sb a h)) (bs a o na ho);have c1:=DictOf.at' c0 λo ho=>mv.heap S _ nW ho;dsimp only;refine gk (wpAny_holding ?_);refine gk (wpAny_tryCatch ?_);unfold Builtin.Dict.pairItems;refine gk (wpAny_typeOf (T:="tuple") ⟨o,ho1,hc⟩ ?_);rw[Ge (by decide)];refine gk (wpAny_seqItems ho1 hd (gm ?_));show wpAny _ A.in1 (holding [qi (val i).1 t,(val i).2] (dictSet S (.int (val i).1 t) (val i).2)) _ _ z1;refine wpAny_holding ?_;refine wpAny_dictSet_pairs (knd:=intKind prog w) (k:=(val i).1) (intKind_is _ _ _ _) c1 (λh' c2 sbu=>?_) (by have:=Oo val i;rw[sizeLine_eq];omega);refine gm ⟨plainId_quiet EF _,ih (i+1) _ _ _ (by omega) l0 (W.frame _ z1 _ _ u1 (uP _) λb hb o e=>?_) c2 (λb o' nb hb=>?_) λz2 mv2 c3=>?_⟩
  .rw[sbu.2 b (λh:b=S=>nS (by rw[<- h];exact hb))];exact e
  .show h'.get? b=Ga o';rw[sbu.2 b (λh:b=S=>nb (by rw[h];exact jf))];exact mv.heap b o' (λh=>nb (sb b h)) (bs b o' nb hb)
  .refine fin z2 (Moved.trans W.gtrans ((mv.mono sb).then_heap (uP _) λb o hb e=>?_) mv2) c3;rw[sbu.2 b (λh:b=S=>hb (by rw[h];exact jf))];exact e
end
section
variable {prog:Program}{w:World}{A:Around}{E:Gg->Gh->Prop}{s:Gh}
theorem zAf {M:Model}{self a:Gg}{Q:Unit->Gh->Prop}(hT:s.TypeIs self "dict")(h:Q () s):wpAny M A (checkBuiltinCall "dict.__init__" ⟨[self,a],[]⟩) Q E s:=by
 unfold checkBuiltinCall;rw[show builtinKind "dict.__init__"=Ga .slot from by nofun,show splitId "dict.__init__"=Ga ("dict","__init__") from by nofun];dsimp only;refine gk (wpAny_isInstance (T:="dict") (b:=true) hT F.kt_called_dict.sub ?_);rw[Gf (by decide)];exact wpAny_of_eq (F.args_dict_init_2 self a) h
set_option maxHeartbeats 3200000 in
theorem zC0 {l:Gj}{its:Array Gg}{val:Nat->Int×Gg}{Q:Gg->Gh->Prop}(hh:A.handled=Gb)(hl:PlainL s.heap l its)(hn:its.size<=1000000)
  (vl:∀ (i:Nat) (v:Gg),its[i]?=Ga v->∃ (a:Gj) (t:Tok) (o:Obj) (e:Nat),v=.ref a/\s.heap.get? a=Ga o/\o.cls=.type "tuple"/\o.data=.seq #[.int (val i).1 t,(val i).2] e)
  (h:∀ (h':Heap) (tk:Nat),h'.DictOf (intKind prog w) s.heap.objs.size (xU val its.size)->(∀ b o,b<s.heap.objs.size->s.heap.get? b=Ga o->h'.get? b=Ga o)->Q (.ref s.heap.objs.size) { s with heap:=h',toks:=tk }) :
  wpAny (model prog w) A (call (.type "dict") [.ref l]) Q E s:=by
 generalize hob:({ cls:=.type "dict",data:=.dict #[] }:Obj)=ob;have obc:ob.cls=.type "dict":=by rw[<- hob]
 have obf:ob.isFreed=false:=by rw[<- hob];rfl
 obtain⟨c,tl,m0⟩:=F.kt_called_dict.mro;have m1:=F.kt_called_dict.made;have m2:=F.kt_called_dict.sub;refine wpAny_call (codeAny_of_tree ?_);show wpAny _ _ (callAny (.type "dict") _) _ _ _;refine gm ⟨Code.quiet_builtin _ (by nofun),codeAny_builtin (F.entry_type_call) ?_⟩;rw[Around.under_plain (weight_type_call_type "dict" [.ref l] []) rfl];have m3:=F.kt_called_dict.notType;have m4:=F.kt_called_dict.canCreate;have m5:=F.kt_typeCall_dict_1 (.ref l)
 repeat (any_goals (first|assumption|wp_step))
 refine codeAny_mono (kt_code_dict_new (.ref l) (E:=E) (Q₁:=λobj z=>obj=.ref s.heap.objs.size/\z={ s with heap:=s.heap.push ob }) (by subst hob;exact⟨rfl,rfl⟩)) λr z hr=>?_;cases r with
 | error e=>exact hr
 | ok fl =>
  cases fl with
  | ret obj =>
   obtain⟨rfl,rfl⟩:=hr;have gS:(s.heap.push ob).get? s.heap.objs.size=Ga ob:=jy _ obf;have gT:Shared.TypeIs { s with heap:=s.heap.push ob } (.ref s.heap.objs.size) "dict":=⟨_,gS,obc⟩;have n1:=F.kt_called_dict.init.lookup;have n2:=F.kt_called_dict.init.bind (.ref s.heap.objs.size)
   repeat (any_goals (first|assumption|wp_step))
   refine codeAny_mono (codeAny_call_builtin (R:=wants (λr z=>r=.none/\∃ h' tk,z={ s with heap:=h',toks:=tk }/\h'.DictOf (intKind prog w) s.heap.objs.size (xU val its.size) /\
     (∀ b o,b<s.heap.objs.size->s.heap.get? b=Ga o->h'.get? b=Ga o)) E) F.kt_called_dict.init.plain F.entry_dict_init (zAf gT ?_)) λr2 z2 hr2=>?_
   .have pl1:PlainL (s.heap.push ob) l its:=let ⟨o,n,ho,r⟩:=hl;⟨o,n,jd _ ho,r⟩
    have lT:Shared.TypeIs { s with heap:=s.heap.push ob } (.ref l) "list":=let ⟨o,_,ho,hc,_⟩:=pl1;⟨o,ho,hc⟩
    have lS:l<s.heap.objs.size:=let ⟨o,_,ho,_⟩:=hl;jm ho
    have d0:(s.heap.push ob).DictOf (intKind prog w) s.heap.objs.size []:=⟨ob,#[],0,gS,by subst hob;exact⟨rfl,rfl,rfl⟩,by subst hob;rfl,λe he=>by simp at he,.nil,kY⟩;unfold Builtin.«dict.__init__» Builtin.Dict.selfAndRest;refine gk (gk (wpAny_notOrdered_dict gT (gk (gm (gm ?_)))));show wpAny _ _ (qK "dict.__init__" s.heap.objs.size (.ref l) [] .none) _ _ _;unfold qK;refine gk (wpAny_typeOf lT ?_);rw[Ge (by decide)];refine gk (Vx (its:=its) (by simp[hh]) pl1 λh2 tk2 kp2=>?_);rw[Ge (show(Gb:Option Gg).isNone=true from rfl)];refine gk (wpAny_rule ?_);have pl2:PlainL h2 l its:=let ⟨o,n,ho,r⟩:=pl1;⟨o,n,kp2 _ _ ho,r⟩
    have d2:=DictOf.at' d0 λo ho=>kp2 _ _ ho;have sS:s.heap.objs.size<h2.objs.size:=jm (kp2 _ _ gS);refine gk (wpAny_pyIter_list (s:={ s with heap:=h2,toks:=tk2 }) pl2.isList ?_);refine gm ⟨plainId_quiet EF _,?_⟩;have h3:A.in1.in1.handled=Gb:=by simp[hh]
    have ne1:l≠h2.objs.size:=jE (qN lS sS);have ne2:s.heap.objs.size∉[h2.objs.size,l]:=λz=>by
     rcases ju.mp z with z|z
     .exact absurd z (jE sS)
     .exact absurd (jk.mp z) (uS lS)
    have oth:∀ b,b<s.heap.objs.size->b∉s.heap.objs.size::[h2.objs.size]:=λb lb z=>by
     rcases ju.mp z with z|z
     .exact absurd z (jE lb)
     .exact absurd (jk.mp z) (jE (qN lb sS))
    refine zCZ ((Walks.list h3 _ l ne1 its).toS) s.heap.objs.size ne2 val hn s.heap (λi v hv=>?_) (its.size-0) 0 _ 0 0 (by omega) (jO _) ⟨⟨_,jy _ rfl,rfl,rfl⟩,pl2.isList.push _⟩ ?b0 ?b1 ?b2
    .obtain⟨a,t,o,e,e1,e2,e3,e4⟩:=vl i v hv;exact⟨a,t,o,e,e1,oth a (jm e2),e2,e3,e4⟩
    case b0=>exact DictOf.at' d2 λo ho=>jd _ ho
    case b1=>exact λa o _ ha=>jd _ (kp2 _ _ (jd _ ha))
    case b2 =>
     intro z1 mv c1;obtain⟨h',g',d',tk',os'⟩:=z1;have eg:g'=s.gens:=mv.gens;have ed:d'=s.drawn:=mv.drawn;have eo:os'=s.os:=mv.os;subst eg;subst ed;subst eo;exact⟨rfl,h',tk',rfl,c1,λb o lb eb=>mv.heap b o (oth b lb) (jd _ (kp2 _ _ (jd _ eb)))⟩
   .cases r2 with
    | error e=>exact hr2
    | ok f2 =>
     cases f2 with
     | ret r =>
      obtain⟨rfl,h',tk,rfl,c1,k1⟩:=hr2
      repeat (any_goals (first|assumption|wp_step))
      exact h _ _ c1 k1
     | _=>exact hr2.elim
  | _=>exact hr.elim
end
def tF:List D->Option (List (Int×D))
 | []=>Ga []
 | .tuple [.int k,d]::r=>(tF r).bind λl=>Ga ((k,d)::l)
 | _::_=>Gb
def DZ (ps:List (Int×D)):List (Int×D):=ps.foldl (λacc p=>mL acc p.1 p.2) []
def FA (ws:List (Int×V)):List (Int×V):=ws.foldl (λacc p=>oo acc p.1 p.2) []
def EX (vs:List (Int×Gg)):List (Int×Gg):=vs.foldl (λacc p=>stored acc p.1 p.2) []
theorem PZ (l:List (Int×Gg)):∀ n,n<=l.length->xU (λi=>l.getD i (0,.none)) n=EX (l.take n)
 | 0,_=>rfl
 | n+1,h=>by
  show stored (xU _ n) _ _=_;rw[PZ l n (by omega),List.take_succ_eq_append_getElem (by omega)];unfold EX;rw[vg];show stored _ (l.getD n (0,.none)).1 (l.getD n (0,.none)).2=stored _ (l[n]'(by omega)).1 (l[n]'(by omega)).2;rw[jg,ji (by omega)];rfl
theorem Tc:∀ {ws:List (Int×V)} {vs:List (Int×Gg)} {a:List (Int×V)} {b:List (Int×Gg)},KV ws vs->KV a b->KV (ws.foldl (λacc p=>oo acc p.1 p.2) a) (vs.foldl (λacc p=>stored acc p.1 p.2) b)
 | _,_,_,_,.nil,q=>q
 | (k,v)::ws,(k',u)::vs,_,_,.cons h t,q=>by
  obtain⟨e,r⟩:=h;cases e;show KV (ws.foldl _ (oo _ k v)) (vs.foldl _ (stored _ k u));exact Tc (ws:=ws) (vs:=vs) t (q.put k r)
theorem Sk {K:ja}{F:Hp}:∀ {ps a:List (Int×D)} {ws b:List (Int×V)},iw K F ps ws->iw K F a b->iw K F (ps.foldl (λacc p=>mL acc p.1 p.2) a) (ws.foldl (λacc p=>oo acc p.1 p.2) b)
 | _,_,_,_,.nil,q=>q
 | (k,d)::ps,a,(_,v)::ws,b,.cons h t,q=>by
  show iw K F (ps.foldl _ (mL a k d)) (ws.foldl _ (oo b k v));exact Sk (ps:=ps) (ws:=ws) t (q.put h)
theorem Vq (a:List (Int×D))(k:Int)(d:D):(mL a k d).length<=a.length+1:=by
 unfold mL;split
 .rw[jb];omega
 .rw[jr];exact jh _
theorem Rf:∀ (ps a:List (Int×D)),rF a->a.length+ps.length<=1000000->rF (ps.foldl (λacc p=>mL acc p.1 p.2) a)
 | [],a,h,_=>h
 | p::ps,a,h,l=>by
  rw[jB] at l;show rF (ps.foldl _ (mL a p.1 p.2));exact Rf ps (mL a p.1 p.2) (OO h (by omega)) (by have:=Vq a p.1 p.2;omega)
variable {X:Cx}{pos:Pos}
theorem Po {ω:List (Gj×Obj)}{σ:St}{F H:Hp}{s:Gh}(I:gA X ω σ H s)(g:gq F H):∀ {ds:List D} {ps:List (Int×D)} {xs:List V} {its:List Gg},tF ds=Ga ps->gJ X.K F ds xs->hV xs its ->
  ∃ (ws:List (Int×V)) (vs:List (Int×Gg)),iw X.K F ps ws/\KV ws vs/\vs.length=its.length/\ps.length=its.length /\
   ∀ (i:Nat) (v:Gg),its[i]?=Ga v->∃ (p:Int×Gg) (a:Gj) (t:Tok) (o:Obj) (e:Nat),vs[i]?=Ga p/\v=.ref a/\s.heap.get? a=Ga o/\o.cls=.type "tuple"/\o.data=.seq #[.int p.1 t,p.2] e
 | [],ps,_,_,e,.nil,.nil=>by
  cases e;exact⟨[],[],.nil,.nil,rfl,rfl,λi v h=>by simp at h⟩
 | d::ds,ps,x::xs,u::its,e,.cons r t,.cons ru tu=>by
  obtain⟨k,d1,l,rfl,e2,rfl⟩:∃ k d1 l,d=.tuple [.int k,d1]/\tF ds=Ga l/\ps=(k,d1)::l:=by
   unfold tF at e;split at e
   .rename_i h;cases h
   .rename_i k d1 r h;cases h;obtain⟨l,e2,e3⟩:=gp e;cases e3;exact⟨_,_,l,rfl,e2,rfl⟩
   .cases e
  obtain⟨ws,vs,h1,h2,h3,h5,h4⟩:=Po I g e2 t tu;cases r with
  | @tup a ys _ hs rr =>
   cases rr with
   | cons r1 rr =>
    cases r1;cases rr with
    | cons r2 rr =>
     cases rr;rename_i v;obtain⟨its2,q1,⟨o,o1,o2,n,o3⟩,_⟩:=I.tuple (nq g hs);cases q1 with
     | cons a1 q1 =>
      obtain⟨t,rfl⟩:=a1;cases q1 with
      | cons a2 q1 =>
       cases q1;rename_i u2;cases ru;refine⟨(k,v)::ws,(k,u2)::vs,.cons r2 h1,.cons ⟨rfl,a2⟩ h2,congrArg qC h3,congrArg qC h5,λi w hw=>?_⟩;cases i with
       | zero=>cases hw;exact⟨_,a,t,o,n,rfl,rfl,o1,o2,o3⟩
       | succ i=>exact h4 i w hw
theorem Xk (hc:X.calm=true):mh X (.type "dict") (λvs H Q=>∃ (F:Hp) (p:Gj) (xs:List V) (ds:List D) (ps:List (Int×D)),vs=[.ref p]/\gq F H/\lr X.K H p xs/\gJ X.K F ds xs/\tF ds=Ga ps/\ps.length<=1000000 /\
  ∀ a ws ep,H a=Gb->(a==sysModules)=false->iw X.K F (DZ ps) ws->Q (.ref a) (upd H a (.ext (nR a ws ep)))):=by
 intro ω s σ H vs us Q I r h;obtain⟨F,p,xs,ds,ps,rfl,g,hl,rr,ep,hz,q⟩:=h;obtain⟨u,rfl,ru⟩:=L2.vals1 r;cases ru;obtain⟨its,rv,pl,_⟩:=I.list hl;obtain⟨ws,vs,h1,h2,h3,h5,h4⟩:=Po I g ep rr rv;refine zC0 (its:=its.toArray) (val:=λi=>vs.getD i (0,.none)) (I.ok.hd hc) pl (by rw[jo,<- h5];exact hz) (λi v hv=>?_) λh' tk cs keep=>?_
 .rw[vS] at hv;obtain⟨p,a,t,o,e,e1,e2,e3,e4,e5⟩:=h4 i v hv;refine⟨a,t,o,e,e2,e3,e4,?_⟩;rw[e5];show _=Data.seq #[.int (vs.getD i (0,.none)).1 t,(vs.getD i (0,.none)).2] e;rw[jg,e1];rfl
 .rw[show its.toArray.size=vs.length from h3.symm,PZ vs vs.length (jh _),JX] at cs;obtain⟨o',es',ep',ho,hc',hd,hk,hp,_⟩:=cs;have dp:nR s.heap.objs.size (FA ws) ep' h':=⟨o',es',ho,hc',hd,Hh (Tc h2 .nil) hp λe h=>hk e (vm.mp h)⟩;exact⟨.ref _,_,I.laid (t':=tk) (o:=.ext (nR s.heap.objs.size (FA ws) ep')) (λb u hb=>keep b u (jm hb) hb) (jh _) (HP dp),rfl,q _ _ _ (I.hok.fresh (jh _)) (beq_eq_false_iff_ne.mpr (ui (jE I.big))) (Sk h1 .nil)⟩
theorem XR:bootBuiltins "dict"=Ga (.type "dict"):=by nofun
def we (f:FL):FV:=λψ=>(f ψ).bind λds=>(tF ds).bind λps=>if ps.length<=1000000 then Ga (re (DZ ps)) else Gb
theorem zC1 {e:Expr}{f:FL}{p:Pos}(hc:X.calm=true)(hg:Gl X "dict")(hm:X.mg "dict"=Gb)(ha:sE X e f)(hs:starEach [e] X.env=[(false,eval e X.env)]:=by rfl):PV X (.Call (.Name "dict" p) [e] [] pos) (we f):=by
 refine md (MF (Xk hc) hg hm XR ha (hs:=hs)) λσ H Q=>?_;rintro⟨H0,F,ψ,d,r,e,q⟩;obtain⟨ds,e1,e⟩:=gp e;obtain⟨ps,e2,e⟩:=gp e;split at e;rotate_left
 .cases e
 rename_i c;cases e;refine⟨H0,F,ψ,ds,r,e1,λb xs H1 F1 g1 f1 fh1 n1 hl rr=>⟨F1,b,xs,ds,ps,rfl,fh1,hl,rr,e2,c,λa ws ep ha sm rk=>?_⟩⟩;have s1:gq H1 (upd H1 a (.ext (nR a ws ep))):=gq.new ha;have s2:gq F1 (upd F1 a (.ext (nR a ws ep))):=gq.new (fh1.free ha);refine q (.ref a) _ (upd F1 a (.ext (nR a ws ep))) (g1.trans s1) (f1.trans s2) (fh1.up2 (fh1.free ha) ha trivial) (λb o hb nb=>?_) (.dci sm gU (Rf ps [] ⟨kY,jO _⟩ (by rw[va];omega)) (rk.mono s2));by_cases eb:b=a
 .rw[eb];exact g1.free ha
 .rw[gF eb] at hb;exact n1 b o hb nb
end T3
set_option maxHeartbeats 4000000
namespace T3
open PySem PySem.Spec PyProof.Rows L2
theorem fO {N P:List Str}{sc:Scope}(h:sc.kind=.function/\sc.isCoroutine=false/\sc.isGenerator=false/\N.Nodup/\N.take P.length=P/\(∀ x∈P,sc.names.lookup x=Ga .local\/sc.names.lookup x=Ga .cell)/\∀ y∈sc.names,y.2≠.free):gB N P sc:=⟨h.1,h.2.1,h.2.2.1,h.2.2.2.1,h.2.2.2.2.1,h.2.2.2.2.2.1,h.2.2.2.2.2.2⟩
theorem cO {N P N':List Str}{osc osc' scope:Scope}{x:Str}{fr:List Str}{ix:List Nat}(_:gB N P osc)(h:scope.kind=.function/\(∀ y∈scope.names,y.2≠.cell)/\(∀ y∈scope.names,y.2=.local->scope.names.lookup y.1=Ga .local)/\scope.names.lookup x=Ga .local/\(∀ y∈scope.names,y.2=.free->osc.names.lookup y.1=Ga .cell\/osc.names.lookup y.1=Ga .free)/\(∀ y∈fr,scope.names.lookup y=Ga .free)/\fr.length=ix.length/\(∀ p∈ix.zip fr,N[p.1]?=Ga p.2)/\ix.Nodup)(e1:N=N':=by rfl)(e2:osc=osc':=by rfl):tK N' osc' scope x fr ix:=by
 subst e1 e2;obtain⟨h1,h2,h3,h4,h5,h6,h7,h8,h9⟩:=h;exact⟨h1,h2,h3,h4,h5,h6,h7,λj i y a b=>h8 (i,y) (j7 (List.getElem?_zip_eq_some.mpr ⟨a,b⟩)),h9⟩
theorem cV {P:Program}{w:World}{K:ja}{mg:Str->Option Gg}{base:Heap}{k:Nat}{f:Gj}{fd:Gi}{ps:List Str}{fm fm':List D->Option D}(h:gN P w K mg base hG k f fd ps (iQ K fm'))(e:fm'=fm):gN P w K mg base hG k f fd ps (iQ K fm):=e▸h
theorem cW {P:Program}{w:World}{K:ja}{mg:Str->Option Gg}{base:Heap}{k:Nat}{f:Gj}{fd:Gi}{ps:List Str}{fm fm':List D->Option (List D)}(h:gN P w K mg base hG k f fd ps (tq K fm'))(e:fm'=fm):gN P w K mg base hG k f fd ps (tq K fm):=e▸h
section
variable {X:Cx}{k j:Nat}{f:Gj}{fd:Gi}{ps:List Str}{x:Str}{st:Stmt}{p pos:Pos}{e:Expr}{es:List Expr}{g:FL}
theorem vc {fm:List D->Option D}(F:gN X.prog X.w X.K X.mg X.base hG k f fd ps (iQ X.K fm))(W:Fn X.K X.mg x st ps f fd)(hr:lu j X.A)(ha:PL X (e::es) g)(hk:k<=j:=by decide)(hg:Gl X x:=by rfl)
  (hdb:(x==("__debug__":Str))=false:=by decide) (he:starEach (e::es) X.env=(false,eval e X.env)::starEach es X.env:=by rfl) (hpl:(backTo pos (starEach es X.env)).any (·.1)=false:=by rfl) :
  PV X (.Call (.Name x p) (e::es) [] pos) (λψ=>(g ψ).bind fm):=CS F (hr.mono hk) W.m W.F.kp W.b ha hg hdb he hpl
end
end T3
noncomputable section
namespace Law
noncomputable section
open PySem PySem.Spec PyProof.Rows L2 T3
def iE (i:Nat):Stmt:=PySem.Challenge.pw_roundfall_k55_whole_soon_is_sharp.main.body.getD i (.Pass ⟨0,0,0,0⟩)
noncomputable section
open PySem PySem.W PySem.Spec PyProof.Rows L2
def ic (i:Nat)(x:Str)(d:Gg)(m:Str)(t:Nat)(c:Gj):Obj:=⟨.type "function",Gb,.func (fnOf x x (nD (iE i)) (lE (iE i)) (gs (iE i)) .none .none d (.str m t) Gb (.ref c) .none),#[]⟩
def rV:Nat->Gg
 | 0=>.none
 | n+1=>.ref (n+1)
def ie (x:Str)(t1 t2 t3:Nat)(i1 i2 i3 i4 i5:Int)(r1:Gj)(i6:Int)(r2 r3 r4 r5:Gj)(i7 i8:Int)(t4:Nat):Obj:=⟨.type "code",Gb,.fields #[.str x t1,.str x t2,.str "/claim/cut.py" t3,.int i1 0,.int i2 0,.int i3 0,.int i4 0,.int i5 0,rV r1,.bool true,.int i6 0,rV r2,.none,rV r3,rV r4,rV r5,.int i7 0,.int i8 0,.str "/claim/cut.py" t4],#[]⟩
def eV (P:Params)(x:Str)(t:Nat)(v:Gg):DictEntry:=⟨J5 P x,.str x t,v⟩
def eR (P:Params)(x:Str)(t:Nat)(a:Gj):DictEntry:=⟨J5 P x,.str x t,.ref a⟩
def bO:Obj:=⟨.type "module",Ga 0,.plain,#[]⟩
def Vh (P:Params):List DictEntry:=[eV P "__name__" 165 (.str ("law_roundfall_k55_whole_soon_is_sharp") 788),eV P "__doc__" 166 (.none),eV P "__package__" 167 (.none),eV P "__loader__" 168 (.builtin "__main__.__loader__#opaque"),eV P "__spec__" 169 (.none),eR P "__annotations__" 170 6,eR P "__builtins__" 171 4,eV P "__file__" 173 (.str ("/claim/cut.py") 172),eV P "__cached__" 174 (.none),eR P "RoundError" 206 24,eR P "NoBound" 222 37,eR P "NoNumbers" 238 49]
def eL1 (P:Params):List DictEntry:=[eR P "Closed" 254 61,eR P "is_whole" 263 70,eR P "bit_of" 272 77,eR P "has_hand" 280 84,eR P "mask_of" 289 91,eR P "hands_in" 295 96,eV P "LEAST_HANDS" 299 (.int 2 298),eV P "MOST_HANDS" 301 (.int 5 300),eV P "LAST_ROUND" 303 (.int 5 302),eR P "is_number" 310 103,eR P "are_numbers" 316 108,eR P "many_hands" 323 115]
def XD (P:Params):List DictEntry:=[eR P "fall_of" 332 122,eR P "without_fall" 338 127,eR P "with_fall" 349 134,eR P "with_number" 359 141,eR P "is_up" 369 148,eR P "who_is_up" 375 153,eR P "comes" 386 160,eR P "keeps" 394 167,eR P "with_reach_turned" 406 174,eR P "changed_while_hushed" 417 181,eR P "hushed" 423 186,eR P "all_heard" 431 191]
def Zk (P:Params):List DictEntry:=[eR P "is_found_out" 440 198,eR P "found_out" 446 203,eR P "waste_of" 452 208,eR P "closing_round" 460 215,eR P "is_open" 469 222,eR P "without_late_falls" 477 227,eR P "heard_falls" 483 232,eR P "fallen_next" 493 239,eR P "with_heard_next" 504 246,eR P "risen" 514 253,eR P "heard_healed" 520 258,eR P "made_heard" 534 265]
def eL4 (P:Params):List DictEntry:=[eR P "round_healed" 540 270,eR P "healed" 552 277,eR P "renumbered" 567 284,eR P "are_numbers_for" 575 291,eR P "chain_of" 587 298,eR P "view_behind" 595 303,eR P "views_behind" 601 308,eR P "views_of" 607 313,eR P "own_part" 614 320,eR P "rounds_of" 622 327,eR P "own_past" 631 334,eR P "parts_of" 641 341]
def eL5 (P:Params):List DictEntry:=[eR P "layers_of" 650 348,eR P "known" 657 355,eR P "least_known" 663 360,eR P "heard_of" 669 365,eR P "missing_in" 675 370,eR P "is_clean" 683 377,eR P "choice_by" 695 384,eR P "number_by" 706 391,eR P "told_by" 712 396,eR P "all_told" 718 401,eR P "torn_in" 724 406,eR P "strangers" 730 411]
def Vr (P:Params):List DictEntry:=[eR P "torn_on" 743 418,eR P "broken_from" 749 423,eR P "broken" 761 430,eR P "is_behind_bound" 771 437,eR P "least_where" 779 444,eR P "soon" 787 451,eR P "_law_cell_at" 797 458,eR P "_law_whole" 804 465,eR P "_law_mixed" 813 472,eR P "_law_numbers" 819 477,eR P "_law_falls" 825 482,eR P "_law_view" 839 489]
def XN (P:Params):List DictEntry:=[eR P "_law_views" 845 494,eR P "_law_good" 860 501,eR P "_law_told" 874 508,eR P "law" 880 513]
def mO (P:Params):Obj:=⟨.type "dict",Gb,.dict (vQ (Vh P++eL1 P++XD P++Zk P++eL4 P++eL5 P++Vr P++XN P)) 88,#[]⟩
def YH:List Obj:=[bO,ie "is_whole" 257 258 259 11 1 0 0 3 64 181 65 66 67 68 261 11 262,ic 6 "is_whole" (.none) "roundfall.masks" 255 69,ie "bit_of" 264 265 266 13 1 0 0 3 71 181 72 73 74 75 270 13 271,ic 7 "bit_of" (.none) "roundfall.masks" 255 76,ie "has_hand" 273 274 275 18 2 0 0 3 78 181 79 80 81 82 278 18 279,ic 8 "has_hand" (.none) "roundfall.masks" 255 83,ie "mask_of" 281 282 283 20 1 0 0 3 85 181 86 87 88 89 287 20 288,ic 9 "mask_of" (.none) "roundfall.masks" 255 90,ie "hands_in" 290 291 292 25 1 0 0 3 92 181 93 0 0 94 293 25 294,ic 10 "hands_in" (.none) "roundfall.masks" 255 95,ie "is_number" 304 305 306 31 1 0 0 3 97 181 98 99 100 101 308 31 309]
def oL1:List Obj:=[ic 15 "is_number" (.none) "roundfall.runs" 296 102,ie "are_numbers" 311 312 313 33 1 0 0 3 104 181 105 0 0 106 314 33 315,ic 16 "are_numbers" (.none) "roundfall.runs" 296 107,ie "many_hands" 317 318 319 37 1 0 0 3 109 181 110 111 112 113 321 37 322,ic 17 "many_hands" (.none) "roundfall.runs" 296 114,ie "fall_of" 324 325 326 39 2 0 0 3 116 181 117 118 119 120 330 39 331,ic 18 "fall_of" (.none) "roundfall.runs" 296 121,ie "without_fall" 333 334 335 44 2 0 0 3 123 181 124 0 0 125 336 44 337,ic 19 "without_fall" (.none) "roundfall.runs" 296 126,ie "with_fall" 339 340 341 46 4 0 0 3 128 181 129 130 131 132 347 46 348,ic 20 "with_fall" (.none) "roundfall.runs" 296 133,ie "with_number" 350 351 352 49 3 0 0 3 135 181 136 137 138 139 357 49 358]
def YW:List Obj:=[ic 21 "with_number" (.none) "roundfall.runs" 296 140,ie "is_up" 360 361 362 52 3 0 0 3 142 181 143 144 145 146 367 52 368,ic 22 "is_up" (.none) "roundfall.runs" 296 147,ie "who_is_up" 370 371 372 55 2 0 0 3 149 181 150 0 0 151 373 55 374,ic 23 "who_is_up" (.none) "roundfall.runs" 296 152,ie "comes" 376 377 378 57 4 0 0 3 154 181 155 156 157 158 384 57 385,ic 24 "comes" (.none) "roundfall.runs" 296 159,ie "keeps" 387 388 389 64 2 0 0 3 161 181 162 163 164 165 392 64 393,ic 25 "keeps" (.none) "roundfall.runs" 296 166,ie "with_reach_turned" 397 398 399 69 3 0 0 3 168 181 169 170 171 172 404 69 405,ic 27 "with_reach_turned" (.none) "roundfall.hushing" 395 173,ie "changed_while_hushed" 407 408 409 72 5 0 0 3 175 181 176 177 178 179 415 72 416]
def Zn:List Obj:=[ic 28 "changed_while_hushed" (.none) "roundfall.hushing" 395 180,ie "hushed" 418 419 420 74 4 0 0 3 182 181 183 0 0 184 421 74 422,ic 29 "hushed" (.none) "roundfall.hushing" 395 185,ie "all_heard" 426 427 428 86 2 0 0 3 187 181 188 0 0 189 429 86 430,ic 31 "all_heard" (.none) "roundfall.waste" 424 190,ie "is_found_out" 432 433 434 88 3 0 0 3 192 181 193 194 195 196 438 88 439,ic 32 "is_found_out" (.none) "roundfall.waste" 424 197,ie "found_out" 441 442 443 90 2 0 0 3 199 181 200 0 0 201 444 90 445,ic 33 "found_out" (.none) "roundfall.waste" 424 202,ie "waste_of" 447 448 449 95 1 0 0 3 204 181 205 0 0 206 450 95 451,ic 34 "waste_of" (.none) "roundfall.waste" 424 207,ie "closing_round" 453 454 455 97 2 0 0 3 209 181 210 211 212 213 458 97 459]
def Zo:List Obj:=[ic 35 "closing_round" (.none) "roundfall.waste" 424 214,ie "is_open" 461 462 463 101 3 0 0 3 216 181 217 218 219 220 467 101 468,ic 36 "is_open" (.none) "roundfall.waste" 424 221,ie "without_late_falls" 472 473 474 104 2 0 0 3 223 181 224 0 0 225 475 104 476,ic 38 "without_late_falls" (.none) "roundfall.healing" 470 226,ie "heard_falls" 478 479 480 106 2 0 0 3 228 181 229 0 0 230 481 106 482,ic 39 "heard_falls" (.none) "roundfall.healing" 470 231,ie "fallen_next" 484 485 486 109 4 0 0 3 233 181 234 235 236 237 491 109 492,ic 40 "fallen_next" (.none) "roundfall.healing" 470 238,ie "with_heard_next" 494 495 496 111 3 0 0 3 240 181 241 242 243 244 502 111 503,ic 41 "with_heard_next" (.none) "roundfall.healing" 470 245,ie "risen" 505 506 507 116 4 0 0 3 247 181 248 249 250 251 512 116 513]
def oL5:List Obj:=[ic 42 "risen" (.none) "roundfall.healing" 470 252,ie "heard_healed" 515 516 517 118 3 0 0 3 254 181 255 0 0 256 518 118 519,ic 43 "heard_healed" (.none) "roundfall.healing" 470 257,ie "made_heard" 521 522 523 126 4 0 0 3 259 181 260 261 262 263 532 126 533,ic 44 "made_heard" (.none) "roundfall.healing" 470 264,ie "round_healed" 535 536 537 134 3 0 0 3 266 181 267 0 0 268 538 134 539,ic 45 "round_healed" (.none) "roundfall.healing" 470 269,ie "healed" 541 542 543 141 3 0 0 3 271 181 272 273 274 275 550 141 551,ic 46 "healed" (.none) "roundfall.healing" 470 276,ie "renumbered" 555 556 557 150 3 0 0 3 278 181 279 280 281 282 565 150 566,ic 48 "renumbered" (.none) "roundfall.chains" 553 283,ie "are_numbers_for" 568 569 570 158 2 0 0 3 285 181 286 287 288 289 573 158 574]
def oL6:List Obj:=[ic 49 "are_numbers_for" (.none) "roundfall.chains" 553 290,ie "chain_of" 576 577 578 160 4 0 0 3 292 181 293 294 295 296 585 160 586,ic 50 "chain_of" (.none) "roundfall.chains" 553 297,ie "view_behind" 590 591 592 169 4 0 0 3 299 181 300 0 0 301 593 169 594,ic 52 "view_behind" (.none) "roundfall.views" 588 302,ie "views_behind" 596 597 598 172 3 0 0 3 304 181 305 0 0 306 599 172 600,ic 53 "views_behind" (.none) "roundfall.views" 588 307,ie "views_of" 602 603 604 175 2 0 0 3 309 181 310 0 0 311 605 175 606,ic 54 "views_of" (.none) "roundfall.views" 588 312,ie "own_part" 608 609 610 180 1 0 0 3 314 181 315 316 317 318 612 180 613,ic 55 "own_part" (.none) "roundfall.views" 588 319,ie "rounds_of" 615 616 617 182 1 0 0 3 321 181 322 323 324 325 620 182 621]
def oL7:List Obj:=[ic 56 "rounds_of" (.none) "roundfall.views" 588 326,ie "own_past" 623 624 625 188 2 0 0 3 328 181 329 330 331 332 629 188 630,ic 57 "own_past" (.none) "roundfall.views" 588 333,ie "parts_of" 632 633 634 192 1 0 0 3 335 181 336 337 338 339 639 192 640,ic 58 "parts_of" (.none) "roundfall.views" 588 340,ie "layers_of" 642 643 644 199 1 0 0 3 342 181 343 344 345 346 648 199 649,ic 59 "layers_of" (.none) "roundfall.views" 588 347,ie "known" 651 652 653 204 1 0 0 3 349 181 350 351 352 353 655 204 656,ic 60 "known" (.none) "roundfall.views" 588 354,ie "least_known" 658 659 660 206 1 0 0 3 356 181 357 0 0 358 661 206 662,ic 61 "least_known" (.none) "roundfall.views" 588 359,ie "heard_of" 664 665 666 208 1 0 0 3 361 181 362 0 0 363 667 208 668]
def oL8:List Obj:=[ic 62 "heard_of" (.none) "roundfall.views" 588 364,ie "missing_in" 670 671 672 211 1 0 0 3 366 181 367 0 0 368 673 211 674,ic 63 "missing_in" (.none) "roundfall.views" 588 369,ie "is_clean" 676 677 678 214 1 0 0 3 371 181 372 373 374 375 681 214 682,ic 64 "is_clean" (.none) "roundfall.views" 588 376,ie "choice_by" 686 687 688 222 2 0 0 3 378 181 379 380 381 382 693 222 694,ic 66 "choice_by" (.none) "roundfall.plays" 684 383,ie "number_by" 698 699 700 229 2 0 0 3 385 181 386 387 388 389 704 229 705,ic 68 "number_by" (.none) "roundfall.breaking" 696 390,ie "told_by" 707 708 709 232 3 0 0 3 392 181 393 0 0 394 710 232 711,ic 69 "told_by" (.none) "roundfall.breaking" 696 395,ie "all_told" 713 714 715 235 2 0 0 3 397 181 398 0 0 399 716 235 717]
def oL9:List Obj:=[ic 70 "all_told" (.none) "roundfall.breaking" 696 400,ie "torn_in" 719 720 721 237 2 0 0 3 402 181 403 0 0 404 722 237 723,ic 71 "torn_in" (.none) "roundfall.breaking" 696 405,ie "strangers" 725 726 727 240 2 0 0 3 407 181 408 0 0 409 728 240 729,ic 72 "strangers" (.none) "roundfall.breaking" 696 410,ie "torn_on" 731 732 733 242 4 0 0 3 412 181 413 414 415 416 741 242 742,ic 73 "torn_on" (.none) "roundfall.breaking" 696 417,ie "broken_from" 744 745 746 252 5 0 0 3 419 181 420 0 0 421 747 252 748,ic 74 "broken_from" (.none) "roundfall.breaking" 696 422,ie "broken" 750 751 752 259 4 0 0 3 424 181 425 426 427 428 759 259 760,ic 75 "broken" (.none) "roundfall.breaking" 696 429,ie "is_behind_bound" 764 765 766 270 2 0 0 3 431 181 432 433 434 435 769 270 770]
def Uj:List Obj:=[ic 77 "is_behind_bound" (.none) "roundfall.rules" 762 436,ie "least_where" 772 773 774 272 2 0 0 3 438 181 439 440 441 442 777 272 778,ic 78 "least_where" (.none) "roundfall.rules" 762 443,ie "soon" 780 781 782 274 2 0 0 3 445 181 446 447 448 449 785 274 786,ic 79 "soon" (.none) "roundfall.rules" 762 450,ie "_law_cell_at" 790 791 792 277 2 0 0 3 452 181 453 454 455 456 795 277 796,ic 81 "_law_cell_at" (.none) "law_roundfall_k55_whole_soon_is_sharp" 788 457,ie "_law_whole" 798 799 800 281 1 0 0 3 459 181 460 461 462 463 802 281 803,ic 82 "_law_whole" (.none) "law_roundfall_k55_whole_soon_is_sharp" 788 464,ie "_law_mixed" 805 806 807 283 2 0 0 3 466 181 467 468 469 470 811 283 812,ic 83 "_law_mixed" (.none) "law_roundfall_k55_whole_soon_is_sharp" 788 471,ie "_law_view" 826 827 828 306 4 0 0 3 483 181 484 485 486 487 837 306 838]
def Uh:List Obj:=[ic 86 "_law_view" (.none) "law_roundfall_k55_whole_soon_is_sharp" 788 488,ie "_law_views" 840 841 842 317 2 0 0 3 490 181 491 0 0 492 843 317 844,ic 87 "_law_views" (.none) "law_roundfall_k55_whole_soon_is_sharp" 788 493,ie "_law_good" 846 847 848 325 3 0 0 3 495 181 496 497 498 499 858 325 859,ic 88 "_law_good" (.none) "law_roundfall_k55_whole_soon_is_sharp" 788 500,ie "_law_told" 861 862 863 346 3 0 0 3 502 181 503 504 505 506 872 346 873,ic 89 "_law_told" (.none) "law_roundfall_k55_whole_soon_is_sharp" 788 507,ie "law" 875 876 877 357 1 0 0 3 509 181 510 0 0 511 878 357 879,ic 90 "law" (.none) "law_roundfall_k55_whole_soon_is_sharp" 788 512]
def oA:List (List Obj):=[YH,oL1,YW,Zn,Zo,oL5,oL6,oL7,oL8,oL9,Uj,Uh]
def kO (i j:Nat):Obj:=(oA.getD i []).getD j ⟨.none,Gb,.plain,#[]⟩
def KK:Params->Frag:=λP=>(nat_lit 3,mO P)::(nat_lit 4,kO 0 0)::(nat_lit 69,kO 0 1)::(nat_lit 70,kO 0 2)::(nat_lit 76,kO 0 3)::(nat_lit 77,kO 0 4)::(nat_lit 83,kO 0 5)::(nat_lit 84,kO 0 6)::(nat_lit 90,kO 0 7)::(nat_lit 91,kO 0 8)::(nat_lit 95,kO 0 9)::(nat_lit 96,kO 0 10)::(nat_lit 102,kO 0 11)::(nat_lit 103,kO 1 0)::(nat_lit 107,kO 1 1)::(nat_lit 108,kO 1 2)::(nat_lit 114,kO 1 3)::(nat_lit 115,kO 1 4)::(nat_lit 121,kO 1 5)::(nat_lit 122,kO 1 6)::(nat_lit 126,kO 1 7)::(nat_lit 127,kO 1 8)::(nat_lit 133,kO 1 9)::(nat_lit 134,kO 1 10)::(nat_lit 140,kO 1 11)::(nat_lit 141,kO 2 0)::(nat_lit 147,kO 2 1)::(nat_lit 148,kO 2 2)::(nat_lit 152,kO 2 3)::(nat_lit 153,kO 2 4)::(nat_lit 159,kO 2 5)::(nat_lit 160,kO 2 6)::(nat_lit 166,kO 2 7)::(nat_lit 167,kO 2 8)::(nat_lit 173,kO 2 9)::(nat_lit 174,kO 2 10)::(nat_lit 180,kO 2 11)::(nat_lit 181,kO 3 0)::(nat_lit 185,kO 3 1)::(nat_lit 186,kO 3 2)::(nat_lit 190,kO 3 3)::(nat_lit 191,kO 3 4)::(nat_lit 197,kO 3 5)::(nat_lit 198,kO 3 6)::(nat_lit 202,kO 3 7)::(nat_lit 203,kO 3 8)::(nat_lit 207,kO 3 9)::(nat_lit 208,kO 3 10)::(nat_lit 214,kO 3 11)::(nat_lit 215,kO 4 0)::(nat_lit 221,kO 4 1)::(nat_lit 222,kO 4 2)::(nat_lit 226,kO 4 3)::(nat_lit 227,kO 4 4)::(nat_lit 231,kO 4 5)::(nat_lit 232,kO 4 6)::(nat_lit 238,kO 4 7)::(nat_lit 239,kO 4 8)::(nat_lit 245,kO 4 9)::(nat_lit 246,kO 4 10)::(nat_lit 252,kO 4 11)::(nat_lit 253,kO 5 0)::(nat_lit 257,kO 5 1)::(nat_lit 258,kO 5 2)::(nat_lit 264,kO 5 3)::(nat_lit 265,kO 5 4)::(nat_lit 269,kO 5 5)::(nat_lit 270,kO 5 6)::(nat_lit 276,kO 5 7)::(nat_lit 277,kO 5 8)::(nat_lit 283,kO 5 9)::(nat_lit 284,kO 5 10)::(nat_lit 290,kO 5 11)::(nat_lit 291,kO 6 0)::(nat_lit 297,kO 6 1)::(nat_lit 298,kO 6 2)::(nat_lit 302,kO 6 3)::(nat_lit 303,kO 6 4)::(nat_lit 307,kO 6 5)::(nat_lit 308,kO 6 6)::(nat_lit 312,kO 6 7)::(nat_lit 313,kO 6 8)::(nat_lit 319,kO 6 9)::(nat_lit 320,kO 6 10)::(nat_lit 326,kO 6 11)::(nat_lit 327,kO 7 0)::(nat_lit 333,kO 7 1)::(nat_lit 334,kO 7 2)::(nat_lit 340,kO 7 3)::(nat_lit 341,kO 7 4)::(nat_lit 347,kO 7 5)::(nat_lit 348,kO 7 6)::(nat_lit 354,kO 7 7)::(nat_lit 355,kO 7 8)::(nat_lit 359,kO 7 9)::(nat_lit 360,kO 7 10)::(nat_lit 364,kO 7 11)::(nat_lit 365,kO 8 0)::(nat_lit 369,kO 8 1)::(nat_lit 370,kO 8 2)::(nat_lit 376,kO 8 3)::(nat_lit 377,kO 8 4)::(nat_lit 383,kO 8 5)::(nat_lit 384,kO 8 6)::(nat_lit 390,kO 8 7)::(nat_lit 391,kO 8 8)::(nat_lit 395,kO 8 9)::(nat_lit 396,kO 8 10)::(nat_lit 400,kO 8 11)::(nat_lit 401,kO 9 0)::(nat_lit 405,kO 9 1)::(nat_lit 406,kO 9 2)::(nat_lit 410,kO 9 3)::(nat_lit 411,kO 9 4)::(nat_lit 417,kO 9 5)::(nat_lit 418,kO 9 6)::(nat_lit 422,kO 9 7)::(nat_lit 423,kO 9 8)::(nat_lit 429,kO 9 9)::(nat_lit 430,kO 9 10)::(nat_lit 436,kO 9 11)::(nat_lit 437,kO 10 0)::(nat_lit 443,kO 10 1)::(nat_lit 444,kO 10 2)::(nat_lit 450,kO 10 3)::(nat_lit 451,kO 10 4)::(nat_lit 457,kO 10 5)::(nat_lit 458,kO 10 6)::(nat_lit 464,kO 10 7)::(nat_lit 465,kO 10 8)::(nat_lit 471,kO 10 9)::(nat_lit 472,kO 10 10)::(nat_lit 488,kO 10 11)::(nat_lit 489,kO 11 0)::(nat_lit 493,kO 11 1)::(nat_lit 494,kO 11 2)::(nat_lit 500,kO 11 3)::(nat_lit 501,kO 11 4)::(nat_lit 507,kO 11 5)::(nat_lit 508,kO 11 6)::(nat_lit 512,kO 11 7)::(nat_lit 513,kO 11 8)::[]
def KA:List Gj:=nat_lit 3::nat_lit 4::nat_lit 69::nat_lit 70::nat_lit 76::nat_lit 77::nat_lit 83::nat_lit 84::nat_lit 90::nat_lit 91::nat_lit 95::nat_lit 96::nat_lit 102::nat_lit 103::nat_lit 107::nat_lit 108::nat_lit 114::nat_lit 115::nat_lit 121::nat_lit 122::nat_lit 126::nat_lit 127::nat_lit 133::nat_lit 134::nat_lit 140::nat_lit 141::nat_lit 147::nat_lit 148::nat_lit 152::nat_lit 153::nat_lit 159::nat_lit 160::nat_lit 166::nat_lit 167::nat_lit 173::nat_lit 174::nat_lit 180::nat_lit 181::nat_lit 185::nat_lit 186::nat_lit 190::nat_lit 191::nat_lit 197::nat_lit 198::nat_lit 202::nat_lit 203::nat_lit 207::nat_lit 208::nat_lit 214::nat_lit 215::nat_lit 221::nat_lit 222::nat_lit 226::nat_lit 227::nat_lit 231::nat_lit 232::nat_lit 238::nat_lit 239::nat_lit 245::nat_lit 246::nat_lit 252::nat_lit 253::nat_lit 257::nat_lit 258::nat_lit 264::nat_lit 265::nat_lit 269::nat_lit 270::nat_lit 276::nat_lit 277::nat_lit 283::nat_lit 284::nat_lit 290::nat_lit 291::nat_lit 297::nat_lit 298::nat_lit 302::nat_lit 303::nat_lit 307::nat_lit 308::nat_lit 312::nat_lit 313::nat_lit 319::nat_lit 320::nat_lit 326::nat_lit 327::nat_lit 333::nat_lit 334::nat_lit 340::nat_lit 341::nat_lit 347::nat_lit 348::nat_lit 354::nat_lit 355::nat_lit 359::nat_lit 360::nat_lit 364::nat_lit 365::nat_lit 369::nat_lit 370::nat_lit 376::nat_lit 377::nat_lit 383::nat_lit 384::nat_lit 390::nat_lit 391::nat_lit 395::nat_lit 396::nat_lit 400::nat_lit 401::nat_lit 405::nat_lit 406::nat_lit 410::nat_lit 411::nat_lit 417::nat_lit 418::nat_lit 422::nat_lit 423::nat_lit 429::nat_lit 430::nat_lit 436::nat_lit 437::nat_lit 443::nat_lit 444::nat_lit 450::nat_lit 451::nat_lit 457::nat_lit 458::nat_lit 464::nat_lit 465::nat_lit 471::nat_lit 472::nat_lit 488::nat_lit 489::nat_lit 493::nat_lit 494::nat_lit 500::nat_lit 501::nat_lit 507::nat_lit 508::nat_lit 512::nat_lit 513::[]
theorem zGy (P:Params):(KK P).lookup 510=Gb:=by kernel_rfl
theorem zFL (P:Params):codeHdIn (KK P) 512 510=true:=by kernel_rfl
end
open PySem PySem.W PySem.Spec PyProof.Rows L2 T3
abbrev pU:Program:=PySem.Challenge.pw_roundfall_k55_whole_soon_is_sharp
def qv0:Program:=view pU (je 199)
theorem zqR (P:Params):KA=(KK P).map (·.1):=by kernel_rfl
abbrev xt0 (s:Gh):Bool:=xlAt qv0 [] s&&recOk [] s
abbrev oS (p q:Program)(Xt:Gh->Bool)(s:Gh):=openSeen q [] (importedModules p.main.body) Xt true s
abbrev oE (p:Program)(w:World):=openEnds treeTable p w 9000
theorem XS {p q:Program}{Xt:Gh->Bool}{α:Type}{Yf:Gh->α}{Ya:World->α}
  (h1:∀ w,(oE p w).map (λs=>(oS p q Xt s).1)=Ga (expectedOf q)) (h2:∀ w,(oE p w).map (λs=>((oS p q Xt s).2.1,(oS p q Xt s).2.2.2.2.2.2.2.1))=Ga (bltViewBooted,wideGood q))
  (h3:∀ w,(oE p w).map (λs=>(oS p q Xt s).2.2.1)=Ga true) (h4:∀ w,(oE p w).map (λs=>(oS p q Xt s).2.2.2.2.2.1)=Ga (plainGoodE q (looseW q []))) (h6:∀ w,(oE p w).map (λs=>((oS p q Xt s).2.2.2.1,(oS p q Xt s).2.2.2.2.1,(oS p q Xt s).2.2.2.2.2.2.1,(oS p q Xt s).2.2.2.2.2.2.2.2))=Ga (true,pinGoodD (drecsOf q),plainGoodD q [],clsGoodW q [])) (h5:∀ w,(oE p w).map Yf=Ga (Ya w)):LeftO p q [] Xt Yf Ya 9000:=λw=>by
 have a1:=h1 w;have a2:=h2 w;have a3:=h3 w;have a4:=h4 w;have a5:=h5 w;have a6:=h6 w;clear h1 h2 h3 h4 h5 h6;unfold oE at *;generalize openEnds treeTable p w 9000=E at *;cases E with
 | none=>cases a1
 | some s =>
  obtain⟨b1,b2⟩:=Prod.mk.inj (jD a2);obtain⟨c1,c2⟩:=Prod.mk.inj (jD a6);obtain⟨c2,c3⟩:=Prod.mk.inj c2;obtain⟨c3,c4⟩:=Prod.mk.inj c3;have e:oS p q Xt s=openGood q []:=Prod.ext (jD a1) (Prod.ext b1 (Prod.ext (jD a3) (Prod.ext c1 (Prod.ext c2 (Prod.ext (jD a4) (Prod.ext c3 (Prod.ext b2 c4)))))));show Ga (oS p q Xt s,Yf s)=Ga (openGood q [],Ya w);rw[e,show Yf s=Ya w from jD a5]
set_option maxHeartbeats 0 in
theorem TJ:∀ w:World,(oE pU w).map (λs=>(oS pU qv0 xt0 s).1)=Ga (expectedOf qv0):=by
 intro w;unfold oE oS openEnds fencedOpening topFrom;rw[Fast.te14364793385576792824,Fast.te14082659384304107361,Fast.te10274390034422433532,Fast.te4187177175401517315]
 kernel_rfl
set_option maxHeartbeats 0 in
theorem TL:∀ w:World,(oE pU w).map (λs=>((oS pU qv0 xt0 s).2.1,(oS pU qv0 xt0 s).2.2.2.2.2.2.2.1))=Ga (bltViewBooted,wideGood qv0):=by
 intro w;unfold oE oS openEnds fencedOpening topFrom;rw[Fast.te14364793385576792824,Fast.te14082659384304107361,Fast.te10274390034422433532,Fast.te4187177175401517315]
 kernel_rfl
set_option maxHeartbeats 0 in
theorem UA:∀ w:World,(oE pU w).map (λs=>(oS pU qv0 xt0 s).2.2.1)=Ga true:=by
 intro w;unfold oE oS openEnds fencedOpening topFrom;rw[Fast.te14364793385576792824,Fast.te14082659384304107361,Fast.te10274390034422433532,Fast.te4187177175401517315]
 kernel_rfl
set_option maxHeartbeats 0 in
theorem Uk:∀ w:World,(oE pU w).map (λs=>(oS pU qv0 xt0 s).2.2.2.2.2.1)=Ga (plainGoodE qv0 (looseW qv0 [])):=by
 intro w;unfold oE oS openEnds fencedOpening topFrom;rw[Fast.te14364793385576792824,Fast.te14082659384304107361,Fast.te10274390034422433532,Fast.te4187177175401517315]
 kernel_rfl
set_option maxHeartbeats 0 in
theorem Tq:∀ w:World,(oE pU w).map (λs=>((oS pU qv0 xt0 s).2.2.2.1,(oS pU qv0 xt0 s).2.2.2.2.1,(oS pU qv0 xt0 s).2.2.2.2.2.2.1,(oS pU qv0 xt0 s).2.2.2.2.2.2.2.2))=Ga (true,pinGoodD (drecsOf qv0),plainGoodD qv0 [],clsGoodW qv0 []):=by
 intro w;unfold oE oS openEnds fencedOpening topFrom;rw[Fast.te14364793385576792824,Fast.te14082659384304107361,Fast.te10274390034422433532,Fast.te4187177175401517315]
 kernel_rfl
set_option maxHeartbeats 0 in
theorem Tx:∀ w:World,(oE pU w).map (Hook.obs (ug Law.KK Law.KA Law.zqR [510]))=Ga (Hook.val (ug Law.KK Law.KA Law.zqR [510]) w):=by
 intro w;unfold oE openEnds fencedOpening topFrom;rw[Fast.te14364793385576792824,Fast.te14082659384304107361,Fast.te10274390034422433532]
 kernel_rfl
theorem lf0:LeftO pU qv0 [] xt0 (Hook.obs (ug Law.KK Law.KA Law.zqR [510])) (Hook.val (ug Law.KK Law.KA Law.zqR [510])) 9000:=XS TJ TL UA Uk Tq Tx
set_option maxHeartbeats 0 in
theorem ws0:PySem.Challenge.rw_roundfall_k55_whole_soon_is_sharp.wellSaid=true:=by
 rw[Fast.te9446332074065402090]
 kernel_rfl
abbrev Nh:Stmt:=iE 6
abbrev GG:Stmt:=iE 7
abbrev Kv:Stmt:=iE 8
abbrev Hv:Stmt:=iE 9
abbrev Ma:Stmt:=iE 10
abbrev II:Stmt:=iE 15
abbrev HF:Stmt:=iE 16
abbrev MP:Stmt:=iE 17
abbrev LG:Stmt:=iE 18
abbrev Gy:Stmt:=iE 19
abbrev Gw:Stmt:=iE 20
abbrev Nr:Stmt:=iE 21
abbrev HL:Stmt:=iE 22
abbrev MM:Stmt:=iE 23
abbrev Kp:Stmt:=iE 24
abbrev HN:Stmt:=iE 25
abbrev Kd:Stmt:=iE 27
abbrev KL:Stmt:=iE 28
abbrev Na:Stmt:=iE 29
abbrev Ms:Stmt:=iE 31
abbrev Nk:Stmt:=iE 32
abbrev HQ:Stmt:=iE 33
abbrev HV:Stmt:=iE 34
abbrev LS:Stmt:=iE 35
abbrev Ki:Stmt:=iE 36
abbrev Nd:Stmt:=iE 38
abbrev Iu:Stmt:=iE 39
abbrev IL:Stmt:=iE 40
abbrev Mt:Stmt:=iE 41
abbrev GJ:Stmt:=iE 42
abbrev Ld:Stmt:=iE 43
abbrev Lb:Stmt:=iE 44
abbrev Nt:Stmt:=iE 45
abbrev GN:Stmt:=iE 46
abbrev MQ:Stmt:=iE 48
abbrev Ha:Stmt:=iE 49
abbrev Mg:Stmt:=iE 50
abbrev LV:Stmt:=iE 52
abbrev Nz:Stmt:=iE 53
abbrev Ll:Stmt:=iE 54
abbrev Hf:Stmt:=iE 55
abbrev Lj:Stmt:=iE 56
abbrev LO:Stmt:=iE 57
abbrev KP:Stmt:=iE 58
abbrev Ng:Stmt:=iE 59
abbrev NI:Stmt:=iE 60
abbrev ME:Stmt:=iE 61
abbrev Ig:Stmt:=iE 62
abbrev LK:Stmt:=iE 63
abbrev KH:Stmt:=iE 64
abbrev Ka:Stmt:=iE 66
abbrev LR:Stmt:=iE 68
abbrev MI:Stmt:=iE 69
abbrev NF:Stmt:=iE 70
abbrev LW:Stmt:=iE 71
abbrev Mn:Stmt:=iE 72
abbrev MB:Stmt:=iE 73
abbrev LB:Stmt:=iE 74
abbrev LC:Stmt:=iE 75
abbrev Ia:Stmt:=iE 77
abbrev KJ:Stmt:=iE 78
abbrev KZ:Stmt:=iE 79
abbrev IT:Stmt:=iE 81
abbrev NL:Stmt:=iE 82
abbrev GI:Stmt:=iE 83
abbrev Kt:Stmt:=iE 86
abbrev LZ:Stmt:=iE 87
abbrev GR:Stmt:=iE 88
abbrev GO:Stmt:=iE 89
abbrev xr:Stmt:=iE 90
structure Qu where
 a_q45:Gj
 d_q45:Gi
 a_q60:Gj
 d_q60:Gi
 a_q48:Gj
 d_q48:Gi
 a_q57:Gj
 d_q57:Gi
 a_q40:Gj
 d_q40:Gi
 a_q37:Gj
 d_q37:Gi
 a_q13:Gj
 d_q13:Gi
 a_q22:Gj
 d_q22:Gi
 a_q55:Gj
 d_q55:Gi
 a_q11:Gj
 d_q11:Gi
 a_q31:Gj
 d_q31:Gi
 a_q16:Gj
 d_q16:Gi
 a_q64:Gj
 d_q64:Gi
 a_q32:Gj
 d_q32:Gi
 a_q63:Gj
 d_q63:Gi
 a_q65:Gj
 d_q65:Gi
 a_q2:Gj
 d_q2:Gi
 a_q0:Gj
 d_q0:Gi
 a_q59:Gj
 d_q59:Gi
 a_q26:Gj
 d_q26:Gi
 a_q10:Gj
 d_q10:Gi
 a_q36:Gj
 d_q36:Gi
 a_q49:Gj
 d_q49:Gi
 a_q6:Gj
 d_q6:Gi
 a_q53:Gj
 d_q53:Gi
 a_q1:Gj
 d_q1:Gi
 a_q17:Gj
 d_q17:Gi
 a_q12:Gj
 d_q12:Gi
 a_q4:Gj
 d_q4:Gi
 a_q66:Gj
 d_q66:Gi
 a_q8:Gj
 d_q8:Gi
 a_q23:Gj
 d_q23:Gi
 a_q9:Gj
 d_q9:Gi
 a_q62:Gj
 d_q62:Gi
 a_q24:Gj
 d_q24:Gi
 a_q5:Gj
 d_q5:Gi
 a_q50:Gj
 d_q50:Gi
 a_q20:Gj
 d_q20:Gi
 a_q7:Gj
 d_q7:Gi
 a_q39:Gj
 d_q39:Gi
 a_q46:Gj
 d_q46:Gi
 a_q25:Gj
 d_q25:Gi
 a_q42:Gj
 d_q42:Gi
 a_q43:Gj
 d_q43:Gi
 a_q30:Gj
 d_q30:Gi
 a_q67:Gj
 d_q67:Gi
 a_q19:Gj
 d_q19:Gi
 a_q38:Gj
 d_q38:Gi
 a_q21:Gj
 d_q21:Gi
 a_q47:Gj
 d_q47:Gi
 a_q33:Gj
 d_q33:Gi
 a_q28:Gj
 d_q28:Gi
 a_q58:Gj
 d_q58:Gi
 a_q52:Gj
 d_q52:Gi
 a_q54:Gj
 d_q54:Gi
 a_q34:Gj
 d_q34:Gi
 a_q56:Gj
 d_q56:Gi
 a_q15:Gj
 d_q15:Gi
 a_q61:Gj
 d_q61:Gi
 a_q3:Gj
 d_q3:Gi
 a_q18:Gj
 d_q18:Gi
 a_q68:Gj
 d_q68:Gi
 a_q14:Gj
 d_q14:Gi
 a_q35:Gj
 d_q35:Gi
 a_q27:Gj
 d_q27:Gi
 a_q44:Gj
 d_q44:Gi
 a_q29:Gj
 d_q29:Gi
 a_q41:Gj
 d_q41:Gi
 a_q51:Gj
 d_q51:Gi
 a_q69:Gj
 d_q69:Gi
 c0:Gj
 Pt:Gj
structure iH (K:ja)(mg:Str->Option Gg)(t:Qu):Prop where
 q45:Fn K mg "is_whole" Nh ["thing"] t.a_q45 t.d_q45
 q60:Fn K mg "bit_of" GG ["hand"] t.a_q60 t.d_q60
 q48:Fn K mg "has_hand" Kv ["mask","hand"] t.a_q48 t.d_q48
 q57:Fn K mg "mask_of" Hv ["hands"] t.a_q57 t.d_q57
 q40:Fn K mg "hands_in" Ma ["mask"] t.a_q40 t.d_q40
 q37:Fn K mg "is_number" II ["thing"] t.a_q37 t.d_q37
 q13:Fn K mg "are_numbers" HF ["thing"] t.a_q13 t.d_q13
 q22:Fn K mg "many_hands" MP ["run"] t.a_q22 t.d_q22
 q55:Fn K mg "fall_of" LG ["run","hand"] t.a_q55 t.d_q55
 q11:Fn K mg "without_fall" Gy ["run","hand"] t.a_q11 t.d_q11
 q31:Fn K mg "with_fall" Gw ["run","hand","at","reached"] t.a_q31 t.d_q31
 q16:Fn K mg "with_number" Nr ["run","hand","number"] t.a_q16 t.d_q16
 q64:Fn K mg "is_up" HL ["run","hand","rounds"] t.a_q64 t.d_q64
 q32:Fn K mg "who_is_up" MM ["run","rounds"] t.a_q32 t.d_q32
 q63:Fn K mg "comes" Kp ["run","by","to","at"] t.a_q63 t.d_q63
 q65:Fn K mg "keeps" HN ["run","bound"] t.a_q65 t.d_q65
 q2:Fn K mg "with_reach_turned" Kd ["run","hand","to"] t.a_q2 t.d_q2
 q0:Fn K mg "changed_while_hushed" KL ["run","other","hand","at","rounds"] t.a_q0 t.d_q0
 q59:Fn K mg "hushed" Na ["run","hand","at","rounds"] t.a_q59 t.d_q59
 q26:Fn K mg "all_heard" Ms ["fall","up"] t.a_q26 t.d_q26
 q10:Fn K mg "is_found_out" Nk ["fall","up","rounds"] t.a_q10 t.d_q10
 q36:Fn K mg "found_out" HQ ["run","rounds"] t.a_q36 t.d_q36
 q49:Fn K mg "waste_of" HV ["run"] t.a_q49 t.d_q49
 q6:Fn K mg "closing_round" LS ["run","bound"] t.a_q6 t.d_q6
 q53:Fn K mg "is_open" Ki ["run","bound","rounds"] t.a_q53 t.d_q53
 q1:Fn K mg "without_late_falls" Nd ["run","rounds"] t.a_q1 t.d_q1
 q17:Fn K mg "heard_falls" Iu ["run","at"] t.a_q17 t.d_q17
 q12:Fn K mg "fallen_next" IL ["run","hand","at","rounds"] t.a_q12 t.d_q12
 q4:Fn K mg "with_heard_next" Mt ["run","at","rounds"] t.a_q4 t.d_q4
 q66:Fn K mg "risen" GJ ["run","hand","at","rounds"] t.a_q66 t.d_q66
 q8:Fn K mg "heard_healed" Ld ["run","at","rounds"] t.a_q8 t.d_q8
 q23:Fn K mg "made_heard" Lb ["run","hand","at","rounds"] t.a_q23 t.d_q23
 q9:Fn K mg "round_healed" Nt ["run","at","rounds"] t.a_q9 t.d_q9
 q62:Fn K mg "healed" GN ["run","bound","rounds"] t.a_q62 t.d_q62
 q24:Fn K mg "renumbered" MQ ["run","numbers","rounds"] t.a_q24 t.d_q24
 q5:Fn K mg "are_numbers_for" Ha ["run","thing"] t.a_q5 t.d_q5
 q50:Fn K mg "chain_of" Mg ["run","bound","rounds","numbers"] t.a_q50 t.d_q50
 q20:Fn K mg "view_behind" LV ["run","views","hand","at"] t.a_q20 t.d_q20
 q7:Fn K mg "views_behind" Nz ["run","views","at"] t.a_q7 t.d_q7
 q39:Fn K mg "views_of" Ll ["run","rounds"] t.a_q39 t.d_q39
 q46:Fn K mg "own_part" Hf ["view"] t.a_q46 t.d_q46
 q25:Fn K mg "rounds_of" Lj ["view"] t.a_q25 t.d_q25
 q42:Fn K mg "own_past" LO ["view","rounds"] t.a_q42 t.d_q42
 q43:Fn K mg "parts_of" KP ["views"] t.a_q43 t.d_q43
 q30:Fn K mg "layers_of" Ng ["view"] t.a_q30 t.d_q30
 q67:Fn K mg "known" NI ["view"] t.a_q67 t.d_q67
 q19:Fn K mg "least_known" ME ["view"] t.a_q19 t.d_q19
 q38:Fn K mg "heard_of" Ig ["view"] t.a_q38 t.d_q38
 q21:Fn K mg "missing_in" LK ["view"] t.a_q21 t.d_q21
 q47:Fn K mg "is_clean" KH ["view"] t.a_q47 t.d_q47
 q33:Fn K mg "choice_by" Ka ["rule","view"] t.a_q33 t.d_q33
 q28:Fn K mg "number_by" LR ["rule","view"] t.a_q28 t.d_q28
 q58:Fn K mg "told_by" MI ["rule","run","rounds"] t.a_q58 t.d_q58
 q52:Fn K mg "all_told" NF ["told","number"] t.a_q52 t.d_q52
 q54:Fn K mg "torn_in" LW ["run","told"] t.a_q54 t.d_q54
 q34:Fn K mg "strangers" Mn ["told","number"] t.a_q34 t.d_q34
 q56:Fn K mg "torn_on" MB ["rule","chain","number","rounds"] t.a_q56 t.d_q56
 q15:Fn K mg "broken_from" LB ["rule","run","bound","rounds","number"] t.a_q15 t.d_q15
 q61:Fn K mg "broken" LC ["rule","run","bound","rounds"] t.a_q61 t.d_q61
 q3:Fn K mg "is_behind_bound" Ia ["view","bound"] t.a_q3 t.d_q3
 q18:Fn K mg "least_where" KJ ["tells","view"] t.a_q18 t.d_q18
 q68:Fn K mg "soon" KZ ["view","bound"] t.a_q68 t.d_q68
 q14:Fn K mg "_law_cell_at" IT ["script","k"] t.a_q14 t.d_q14
 q35:Fn K mg "_law_whole" NL ["found"] t.a_q35 t.d_q35
 q27:Fn K mg "_law_mixed" GI ["number","k"] t.a_q27 t.d_q27
 q44:Fn K mg "_law_view" Kt ["before","ends","hand","at"] t.a_q44 t.d_q44
 q29:Fn K mg "_law_views" LZ ["run","rounds"] t.a_q29 t.d_q29
 q41:Fn K mg "_law_good" GR ["run","many","most"] t.a_q41 t.d_q41
 q51:Fn K mg "_law_told" GO ["rule","run","rounds"] t.a_q51 t.d_q51
 q69:Fn K mg "law" xr ["script"] t.a_q69 t.d_q69
 b_abs:mg "abs"=Gb
 b_all:mg "all"=Gb
 b_bool:mg "bool"=Gb
 b_dict:mg "dict"=Gb
 b_int:mg "int"=Gb
 b_isinstance:mg "isinstance"=Gb
 b_len:mg "len"=Gb
 b_list:mg "list"=Gb
 b_max:mg "max"=Gb
 b_min:mg "min"=Gb
 b_range:mg "range"=Gb
 b_reversed:mg "reversed"=Gb
 b_sorted:mg "sorted"=Gb
 b_sum:mg "sum"=Gb
 b_tuple:mg "tuple"=Gb
 lam_cd:t.d_q69.code=.ref t.c0
 lam_hd:qH K t.c0 t.Pt=true
 lam_bm:∃ bm o,mg "__builtins__"=Ga (.ref bm)/\bm≠builtinsNs/\bm≠mainGlobals/\K.lookup bm=Ga o/\o.cls=.type "module"/\o.dict=Ga builtinsNs/\o.data=.plain
 c_LAST_ROUND:∃ t,mg "LAST_ROUND"=Ga (.int 5 t)
 c_LEAST_HANDS:∃ t,mg "LEAST_HANDS"=Ga (.int 2 t)
 c_MOST_HANDS:∃ t,mg "MOST_HANDS"=Ga (.int 5 t)
variable {P:Program}{w:World}{K:ja}{mg:Str->Option Gg}{base:Heap}{t:Qu}
theorem zpU:gB ["thing"] ["thing"] (gs Nh):=fO (by nofun)
abbrev fZ:=gv 0
abbrev be:=Ch (nZ (sk "int") fZ) (Tb (nZ (sk "bool") fZ))
def Nq:FS:=lY be
def yS:List D->Option D:=ik 1 1 Nq
theorem RT (T:iH K mg t):gN P w K mg base hG 1 t.a_q45 t.d_q45 ["thing"] (iQ K yS) :=
 cV (iZ T.q45.F zpU λ_ _ _ _ _ _ hr=>gK (ii (zA (tZ (T:="int") (by decide) rfl T.b_isinstance rfl T.b_int boot_int (gn 0)) (wF (Mp (tZ (T:="bool") (by decide) rfl T.b_isinstance rfl T.b_bool boot_bool (gn 0))))))) rfl
theorem Ej:gB ["hand","bit","step"] ["hand"] (gs GG):=fO (by nofun)
abbrev ga:=gv 1
abbrev fF:=iu (.int 1)
abbrev fG:=iu (.int 2)
abbrev cH:=ir 1 (gL nE ga fG)
abbrev eU:=my iL fZ
abbrev fV:=mD 2
def GA:FS:=gX (ir 1 fF) (gX (nl eU fV cH) (iM ga))
def xo:List D->Option D:=ik 1 3 GA
theorem MH (T:iH K mg t):gN P w K mg base hG 1 t.a_q60 t.d_q60 ["hand"] (iQ K xo) :=
 iZ T.q60.F Ej λ_ _ _ _ _ _ hr=>gR (la 1 gz Ej.nd) (gR (nG PassesOwn.never rfl (oY rfl T.b_range (gn 0)) (mJ 2 Ej.nd) (gK (la 1 (Ba (gn 1) gz) Ej.nd))) (gK (ii (gn 1))))
theorem zpV:gB ["mask","hand"] ["mask","hand"] (gs Kv):=fO (by nofun)
abbrev eJ:=gu ga (ig)
abbrev fH:=iu (.int 0)
def Xi:FS:=iM (gL lL (gL IG fZ (gG xo eJ)) fH)
def tQ:List D->Option D:=ik 2 2 Xi
theorem DP (T:iH K mg t):gN P w K mg base hG 2 t.a_q48 t.d_q48 ["mask","hand"] (iQ K tQ) :=
 iZ T.q48.F zpV λ_ _ _ _ _ _ hr=>gK (ii (Uu (mj hr) (zDE (gn 0) (vc (MH T) T.q60 hr (gr (gn 1) gD))) gz))
theorem EE:gB ["hands","mask","hand"] ["hands"] (gs Hv):=fO (by nofun)
abbrev gb:=gv 2
abbrev eL:=gu gb (ig)
abbrev bS:=gL Eh ga (gG xo eL)
abbrev bz:=ir 1 bS
def KO:FS:=gX (ir 1 fH) (gX (nl (nw fZ) fV bz) (iM ga))
def wk:List D->Option D:=ik 1 3 KO
theorem Fe (T:iH K mg t):gN P w K mg base hG 2 t.a_q57 t.d_q57 ["hands"] (iQ K wk) :=
 iZ T.q57.F EE λ_ _ _ _ _ _ hr=>gR (la 1 gz EE.nd) (gR (nG PassesOwn.never rfl (nk (gn 0)) (mJ 2 EE.nd) (gK (la 1 (zFN (gn 1) (vc (MH T) T.q60 hr (gr (gn 2) gD))) EE.nd))) (gK (ii (gn 1))))
theorem RF:gB ["mask"] ["mask"] (gs Ma):=fO (by nofun)
abbrev eM:=gu fZ (ig)
abbrev cY:=gu ga eM
abbrev bZ:=gG tQ cY
abbrev dX:=my iL (un Bf fZ)
def Il:FS:=wR (ip dX (nz bZ) fZ [0])
def za:List D->Option (List D):=wY 1 1 Il
theorem Wm (T:iH K mg t):gN P w K mg base hG 3 t.a_q40 t.d_q40 ["mask"] (tq K za) :=
 EL T.q40.F RF λ_ _ _ _ _ _ hr=>gK (MY (oP rfl (cO RF (fr:=["mask"]) (by nofun)) (oY rfl T.b_range (zDK (gn 0))) (pH (by nofun) rfl (λcl C s H fp ω=>ny (vc (DP T) T.q48 hr (gr (gn 1) (gr (gn 0) gD)))) (λcl C s H fp ω=>gn 0))))
theorem zoG:gB ["thing"] ["thing"] (gs II):=fO (by nofun)
abbrev fv:=lQ (.int 10)
abbrev fw:=lQ (.int 60)
abbrev cr:=gw sf fv fw
abbrev eW:=gI fZ (lD)
def LD:FS:=lY (Ch (gY yS eW) (GM rj rj (nZ tW cr) fZ cr))
def Az:List D->Option D:=ik 1 1 LD
theorem zoH (T:iH K mg t):gN P w K mg base hG 2 t.a_q37 t.d_q37 ["thing"] (iQ K Az) :=
 cV (iZ T.q37.F zoG λ_ _ _ _ _ _ hr=>gK (ii (zA (vc (RT T) T.q45 hr (gr (gn 0) gD)) (wF (Oy zo zo (pA λ_ _ _=>.bl _) (pA λ_ _ _=>.bl _) (rN (Fw gz gz)) (gn 0) (Fw gz gz)))))) rfl
theorem PF:gB ["thing"] ["thing"] (gs HF):=fO (by nofun)
abbrev fx:=lQ (.int 2)
abbrev eh:=lY (lQ (.bool false))
abbrev fI:=sk "tuple"
abbrev cM:=og (lO (nZ fI fZ))
abbrev ft:=nZ iy fZ
def Hy:FS:=gy (gP (iA cM (og (Os pC pC fx ft (lQ (.int 5))))) eh gW) (lY (pX rZ (ip (mX fZ) (λ_=>Ga true) (gY Az eW) [])))
def AV:List D->Option D:=ik 1 1 Hy
theorem zl9 (T:iH K mg t):gN P w K mg base hG 3 t.a_q13 t.d_q13 ["thing"] (iQ K AV) :=
 cV (iZ T.q13.F PF λ_ _ _ _ _ _ hr=>gR (lh (nU.b (mQ (oF (ny (tZ (T:="tuple") (by decide) rfl T.b_isinstance rfl T.b_tuple boot_tuple (gn 0)))) (sr (oF (zBT wA wA (pA λ_ _ _=>.bl _) (pA λ_ _ _=>.bl _) (Le T.c_LEAST_HANDS) (nN rfl T.b_len (gn 0)) (Le T.c_MOST_HANDS)))))) (gK (ii (nL))) lU) (gK (ii (NJ rfl rfl T.b_all (PO.sh (oP rfl (cO PF (fr:=[]) (by nofun)) (nk (gn 0)) (pJ (by nofun) rfl (λcl C s H fp ω=>vc (zoH T) T.q37 hr (gr (gn 0) gD))))))))) rfl
theorem znF:gB ["run"] ["run"] (gs MP):=fO (by nofun)
abbrev dC:=gL gC fZ fH
def zoI:FS:=iM (un iy dC)
def pe:List D->Option D:=ik 1 1 zoI
theorem AX (T:iH K mg t):gN P w K mg base hG 1 t.a_q22 t.d_q22 ["run"] (iQ K pe) :=
 iZ T.q22.F znF λ_ _ _ _ _ _ hr=>gK (ii (nN rfl T.b_len (gH (gn 0) gz)))
theorem SO:gB ["run","hand","fall"] ["run","hand"] (gs LG):=fO (by nofun)
abbrev fR:=iu .none
abbrev dE:=gL gC gb fH
abbrev aR:=mM (iJ iT dE ga) (iM gb) (mW)
abbrev dD:=gL gC fZ fF
abbrev cT:=nw dD
abbrev eX:=iM fR
def Ht:FS:=gX (nl cT fV aR) eX
def Ag:List D->Option D:=ik 2 3 Ht
theorem DE (T:iH K mg t):gN P w K mg base hG 1 t.a_q55 t.d_q55 ["run","hand"] (iQ K Ag) :=
 iZ T.q55.F SO λ_ _ _ _ _ _ hr=>gR (nG PassesOwn.never rfl (nk (gH (gn 0) gz)) (mJ 2 SO.nd) (gK (lh (oC (mj hr) (gH (gn 2) gz) (gn 1)) (gK (ii (gn 2))) lU))) (gK (ii nQ))
theorem QN:gB ["run","hand"] ["run","hand"] (gs Gy):=fO (by nofun)
abbrev fA:=lQ (.int 1)
abbrev fy:=lQ (.int 0)
abbrev dk:=gw gC fZ fA
abbrev di:=gw gC fZ fy
abbrev bT:=gZ lL di ga
abbrev cS:=mX dk
def Kl:FS:=lY (nY (gI di (gI (pX oH (ip cS bT fZ [1])) lD)))
def CY:List D->Option D:=ik 2 2 Kl
theorem Iy (T:iH K mg t):gN P w K mg base hG 1 t.a_q11 t.d_q11 ["run","hand"] (iQ K CY) :=
 cV (iZ T.q11.F QN λ_ _ _ _ _ _ hr=>gK (ii (ox (gr (gH (gn 0) gz) (gr (yI rfl T.b_tuple (PO.sh (oP rfl (cO QN (fr:=["hand"]) (by nofun)) (nk (gH (gn 0) gz)) (pH (by nofun) rfl (λcl C s H fp ω=>pW (mj hr) (gH (gn 0) gz) (gn 1)) (λcl C s H fp ω=>gn 0))))) gD))))) rfl
theorem SM:gB ["run","hand","at","reached","others"] ["run","hand","at","reached"] (gs Gw):=fO (by nofun)
abbrev gc:=gv 4
abbrev ge:=gv 3
abbrev eZ:=gI ga (lD)
abbrev dF:=gI fZ eZ
abbrev fg:=gI ge (lD)
abbrev dG:=gI gb fg
abbrev cu:=gI ga dG
def IK:FS:=gy (iW 4 (gw gC (gY CY dF) fA)) (lY (nY (gI di (gI (pX oH (QI (Nc (gw iX gc (nY (gI (nY cu) lD)))))) lD))))
def xy:List D->Option D:=ik 4 5 IK
theorem Gz (T:iH K mg t):gN P w K mg base hG 2 t.a_q31 t.d_q31 ["run","hand","at","reached"] (iQ K xy) :=
 cV (iZ T.q31.F SM λ_ _ _ _ _ _ hr=>gR (la 4 (gH (vc (Iy T) T.q11 hr (gr (gn 0) (gr (gn 1) gD))) gz) SM.nd) (gK (ii (ox (gr (gH (gn 0) gz) (gr (yI rfl T.b_tuple (PO.sh (zwT rfl T.b_sorted (nT (gn 4) (ox (gr (ox (gr (gn 1) (gr (gn 2) (gr (gn 3) gD)))) gD)))))) gD)))))) rfl
theorem Sc:gB ["run","hand","number","numbers"] ["run","hand","number"] (gs Nr):=fO (by nofun)
abbrev fj:=gI gb (lD)
abbrev dh:=gw iX ga fA
def Nl:FS:=gy (iW 3 di) (lY (nY (gI (gw iX (gw iX (oM ge oU (Bb ga)) (nY fj)) (oM ge (Bb dh) oU)) (gI dk lD))))
def tH:List D->Option D:=ik 3 4 Nl
theorem Vy (T:iH K mg t):gN P w K mg base hG 1 t.a_q16 t.d_q16 ["run","hand","number"] (iQ K tH) :=
 cV (iZ T.q16.F Sc λ_ _ _ _ _ _ hr=>gR (la 3 (gH (gn 0) gz) Sc.nd) (gK (ii (ox (gr (nT (nT (tE (gn 3) wE (sW (gn 1))) (ox (gr (gn 2) gD))) (tE (gn 3) (sW (nT (gn 1) gz)) wE)) (gr (gH (gn 0) gz) gD)))))) rfl
theorem Rw:gB ["run","hand","rounds","fall"] ["run","hand","rounds"] (gs HL):=fO (by nofun)
abbrev cZ:=gu fZ eJ
abbrev cb:=gG Ag cZ
def Kz:FS:=gX (ir 3 cb) (iM (FH (gL iR ge fR) (gL pB (gL gC ge fF) gb)))
def AF:List D->Option D:=ik 3 4 Kz
theorem Tp (T:iH K mg t):gN P w K mg base hG 2 t.a_q64 t.d_q64 ["run","hand","rounds"] (iQ K AF) :=
 iZ T.q64.F Rw λ_ _ _ _ _ _ hr=>gR (la 3 (vc (DE T) T.q55 hr (gr (gn 0) (gr (gn 1) gD))) Rw.nd) (gK (ii (Dh (DA (gn 3) nQ) (wF (Tt (gH (gn 3) gz) (gn 2))))))
theorem Oq:gB ["run","rounds"] ["run","rounds"] (gs MM):=fO (by nofun)
abbrev bh:=gG AF (gu gb cZ)
def KG:FS:=wR (ip (my iL (gG pe eM)) (nz bh) fZ [1,0])
def sw:List D->Option (List D):=wY 2 2 KG
theorem AO (T:iH K mg t):gN P w K mg base hG 3 t.a_q32 t.d_q32 ["run","rounds"] (tq K sw) :=
 EL T.q32.F Oq λ_ _ _ _ _ _ hr=>gK (MY (oP rfl (cO Oq (fr:=["rounds","run"]) (by nofun)) (oY rfl T.b_range (vc (AX T) T.q22 hr (gr (gn 0) gD))) (pH (by nofun) rfl (λcl C s H fp ω=>ny (vc (Tp T) T.q64 hr (gr (gn 2) (gr (gn 0) (gr (gn 1) gD))))) (λcl C s H fp ω=>gn 0))))
theorem RV:gB ["run","by","to","at","fall"] ["run","by","to","at"] (gs Kp):=fO (by nofun)
abbrev eO:=gu ge (ig)
abbrev da:=gu gb eO
abbrev bK:=gu fZ da
abbrev aX:=nz (gG AF bK)
abbrev bu:=gu (gL gC gc fG) eL
abbrev dH:=gL gC gc fF
abbrev em:=iM (iu (.bool false))
def IB:FS:=gX (mM (tU (iJ iT ga gb) (rK aX)) em mW) (gX (ir 4 cb) (gX (mM (tU (iJ iR gc fR) (iJ pB dH ge)) (iM (iu (.bool true))) mW) (iM (zI (gL iT dH ge) (gG tQ bu)))))
def CK:List D->Option D:=ik 4 5 IB
theorem WW (T:iH K mg t):gN P w K mg base hG 3 t.a_q63 t.d_q63 ["run","by","to","at"] (iQ K CK) :=
 iZ T.q63.F RV λ_ _ _ _ _ _ hr=>gR (lh (nU.b (mQ (oC (mj hr) (gn 1) (gn 2)) (sr (oF (ny (vc (Tp T) T.q64 hr (gr (gn 0) (gr (gn 2) (gr (gn 3) gD))))))))) (gK (ii (nL))) lU) (gR (la 4 (vc (DE T) T.q55 hr (gr (gn 0) (gr (gn 1) gD))) RV.nd) (gR (lh (nU.b (mQ (yj (gn 4) nQ) (sr (sP (gH (gn 4) gz) (gn 3))))) (gK (ii (nL))) lU) (gK (ii (zA (yf (mj hr) (gH (gn 4) gz) (gn 3)) (wF (vc (DP T) T.q48 hr (gr (gH (gn 4) gz) (gr (gn 2) gD)))))))))
theorem zuU:gB ["run","bound"] ["run","bound"] (gs HN):=fO (by nofun)
abbrev cI:=un iy dD
def GC:FS:=gX (mM (rK (nz (gG yS eJ))) em mW) (iM (zI (zt pC pC fH ga (gL lM (gG pe eM) fG)) (gL pC cI ga)))
def NG:List D->Option D:=ik 2 2 GC
theorem zuV (T:iH K mg t):gN P w K mg base hG 2 t.a_q65 t.d_q65 ["run","bound"] (iQ K NG) :=
 iZ T.q65.F zuU λ_ _ _ _ _ _ hr=>gR (lh (oF (ny (vc (RT T) T.q45 hr (gr (gn 1) gD)))) (gK (ii (nL))) lU) (gK (ii (zA (Oy wA wA (pA λ_ _ _=>.bl _) (pA λ_ _ _=>.bl _) gz (gn 1) (wI (vc (AX T) T.q22 hr (gr (gn 0) gD)) gz)) (wF (UE (nN rfl T.b_len (gH (gn 0) gz)) (gn 1))))))
theorem Th:gB ["run","hand","to","fall"] ["run","hand","to"] (gs Kd):=fO (by nofun)
def MJ:FS:=gy (iW 3 (gY Ag dF)) (lY (gY xy (gI fZ (gI ga (gI (gw gC ge fA) (gI (gw Dt (gw gC ge fx) (gY xo fj)) lD))))))
def zf:List D->Option D:=ik 3 4 MJ
theorem Ph (T:iH K mg t):gN P w K mg base hG 3 t.a_q2 t.d_q2 ["run","hand","to"] (iQ K zf) :=
 cV (iZ T.q2.F Th λ_ _ _ _ _ _ hr=>gR (la 3 (vc (DE T) T.q55 hr (gr (gn 0) (gr (gn 1) gD))) Th.nd) (gK (ii (vc (Gz T) T.q31 hr (gr (gn 0) (gr (gn 1) (gr (gH (gn 3) gz) (gr (zDV (gH (gn 3) gz) (vc (MH T) T.q60 hr (gr (gn 2) gD))) gD)))))))) rfl
theorem zf9:gB ["run","other","hand","at","rounds"] ["run","other","hand","at","rounds"] (gs KL):=fO (by nofun)
abbrev bL:=gu gb (gu ge (gu gc ig))
def Ku (oO:List D->Option (List D)):FS:=iM (gL iX (mm (ou oO (gu fZ bL))) (mm (BD (ou oO (gu ga bL)))))
theorem OM (T:iH K mg t){n:Nat}{fm:List D->Option (List D)}(R:gN P w K mg base hG (n+4) t.a_q59 t.d_q59 ["run","hand","at","rounds"] (tq K fm)):gN P w K mg base hG (n+4+1) t.a_q0 t.d_q0 ["run","other","hand","at","rounds"] (iQ K (ik 5 5 (Ku fm))) :=
 iZ T.q0.F zf9 λ_ _ _ _ _ _ hr=>gK (ii (nT (PO.v (sv R (hr.mono (by omega)) T.q59.m T.q59.F.kp T.q59.b (gr (gn 0) (gr (gn 2) (gr (gn 3) (gr (gn 4) gD)))))) (PO.v (MV rfl rfl T.b_list rfl T.b_reversed (PO.sh (sv R (hr.mono (by omega)) T.q59.m T.q59.F.kp T.q59.b (gr (gn 1) (gr (gn 2) (gr (gn 3) (gr (gn 4) gD))))))))))
theorem Ai:gB ["run","hand","at","rounds","other","others","path","last","fewer"] ["run","hand","at","rounds"] (gs Na):=fO (by nofun)
abbrev gh:=gv 7
abbrev gi:=gv 8
abbrev gf:=gv 5
abbrev eD:=un tW fF
abbrev bE:=mm (ou sw (gu fZ eL))
abbrev bi:=nw bE
abbrev dw:=gL iX gb fF
abbrev bj:=gu dw eO
abbrev db:=gu ga (gu gc ig)
abbrev eQ:=gu gf (ig)
def zuW (oO:List D->Option (List D))(pR:List D->Option D):FS:=gX (mM (iJ pB gb ge) (wR eM) mW) (gX (zK 5 (si 5 (ip bi (iJ lL fZ ga) fZ [1]))) (gX (si 6 (ou oO (gu fZ (gu ga bj)))) (gX (yb 6 (gG xy (gu fZ (gu ga (gu gb (gu (gG wk eQ) ig)))))) (gX (nl (nw gf) (mD 4) (gX (ir 7 (CU (gl 6) eD)) (gX (ir 8 (gG zf (gu gh db))) (Du 6 (NA (gG pR (gu gh (gu gi (gu gc bj)))) (xE fF) (Hr)))))) (wR (go 6))))))
def oO:Nat->List D->Option (List D)
 | 0=>λ_=>Gb
 | n+1=>wY 4 9 (zuW (oO n) (ik 5 5 (Ku (oO n))))
def pR (n:Nat):List D->Option D:=ik 5 5 (Ku (oO n))
theorem GY (T:iH K mg t):∀ n,gN P w K mg base hG (2*n+4) t.a_q59 t.d_q59 ["run","hand","at","rounds"] (tq K (oO n))
 | 0=>Ur
 | n+1=>by
  have R:=GY T n;have R2:=OM T R;have e:2*(n+1)+4=2*n+4+1+1:=by omega
  rw[e];exact EL T.q59.F Ai λ_ _ _ _ _ _ hr=>gR (lh (sP (gn 2) (gn 3)) (gK (MY (rp (gr (gn 0) gD)))) lU) (gR (Au 5 (AZ 5 rfl (cO Ai (fr:=["hand"]) (by nofun)) (nk (PO.v (sv (AO T) (hr.mono (by omega)) T.q32.m T.q32.F.kp T.q32.b (gr (gn 0) (gr (gn 2) gD))))) (pH (by nofun) rfl (λcl C s H fp ω=>pW (mj hr) (gn 0) (gn 1)) (λcl C s H fp ω=>gn 0)) Ai.nd)) (gR (wd 6 (sv R (hr.mono (by omega)) T.q59.m T.q59.F.kp T.q59.b (gr (gn 0) (gr (gn 1) (gr (nT (gn 2) gz) (gr (gn 3) gD))))) Ai.nd) (gR (xO 6 (CS (Gz T) (hr.mono (by omega)) T.q31.m T.q31.F.kp T.q31.b (gr (gn 0) (gr (gn 1) (gr (gn 2) (gr (CS (Fe T) (hr.mono (by omega)) T.q57.m T.q57.F.kp T.q57.b (gr (gn 5) gD)) gD)))))) (gR (nG PassesOwn.never rfl (nk (gn 5)) (mJ 4 Ai.nd) (gR (la 7 (wN (su 6) (rN gz)) Ai.nd) (gR (la 8 (CS (Ph T) (hr.mono (by omega)) T.q2.m T.q2.F.kp T.q2.b (gr (gn 7) (gr (gn 1) (gr (gn 4) gD)))) Ai.nd) (gK (zO 6 (tE (CS R2 (hr.mono (by omega)) T.q0.m T.q0.F.kp T.q0.b (gr (gn 7) (gr (gn 8) (gr (gn 4) (gr (nT (gn 2) gz) (gr (gn 3) gD)))))) (sW gz) wE)))))) (gK (yW 6))))))
theorem Qe (T:iH K mg t)(n:Nat):gN P w K mg base hG (2*n+4+1) t.a_q0 t.d_q0 ["run","other","hand","at","rounds"] (iQ K (pR n)):=OM T (GY T n)
theorem Ra:gB ["fall","up"] ["fall","up"] (gs Ms):=fO (by nofun)
abbrev aS:=gG tQ (gu (gL gC ga fG) eM)
def Hb:FS:=iM (sn rZ (ip (nw ga) (λ_=>Ga true) aS [0]))
def yU:List D->Option D:=ik 2 2 Hb
theorem RU (T:iH K mg t):gN P w K mg base hG 3 t.a_q26 t.d_q26 ["fall","up"] (iQ K yU) :=
 iZ T.q26.F Ra λ_ _ _ _ _ _ hr=>gK (ii (NJ rfl rfl T.b_all (PO.sh (oP rfl (cO Ra (fr:=["fall"]) (by nofun)) (nk (gn 1)) (pJ (by nofun) rfl (λcl C s H fp ω=>vc (DP T) T.q48 hr (gr (gH (gn 1) gz) (gr (gn 0) gD))))))))
theorem zlF:gB ["fall","up","rounds"] ["fall","up","rounds"] (gs Nk):=fO (by nofun)
def HD:FS:=iM (FH (gL rj dD gb) (zI (gL iT dD gb) (Mf (gG yU cZ))))
def BS:List D->Option D:=ik 3 3 HD
theorem Zr (T:iH K mg t):gN P w K mg base hG 4 t.a_q10 t.d_q10 ["fall","up","rounds"] (iQ K BS) :=
 iZ T.q10.F zlF λ_ _ _ _ _ _ hr=>gK (ii (Dh (Ln (gH (gn 0) gz) (gn 2)) (wF (zA (yf (mj hr) (gH (gn 0) gz) (gn 2)) (wF (Mp (vc (RU T) T.q26 hr (gr (gn 0) (gr (gn 1) gD)))))))))
theorem HW:gB ["run","rounds","up"] ["run","rounds"] (gs HQ):=fO (by nofun)
abbrev bM:=gu fZ (gu gb eJ)
abbrev aY:=nz (gG BS bM)
abbrev bF:=mm (ou sw cZ)
def Km:FS:=gX (ir 2 bF) (gX (mM (iJ iT (un iy gb) fH) (iM fH) mW) (iM (gG wk (gu (mm (ip cT aY dC [1,2])) ig))))
def Av:List D->Option D:=ik 2 3 Km
theorem Zl (T:iH K mg t):gN P w K mg base hG 5 t.a_q36 t.d_q36 ["run","rounds"] (iQ K Av) :=
 iZ T.q36.F HW λ_ _ _ _ _ _ hr=>gR (la 2 (PO.v (sv (AO T) (hr.mono (by decide)) T.q32.m T.q32.F.kp T.q32.b (gr (gn 0) (gr (gn 1) gD)))) HW.nd) (gR (lh (oC (mj hr) (nN rfl T.b_len (gn 2)) gz) (gK (ii gz)) lU) (gK (ii (vc (Fe T) T.q57 hr (gr (PO.v (oP rfl (cO HW (fr:=["rounds","up"]) (by nofun)) (nk (gH (gn 0) gz)) (pH (by nofun) rfl (λcl C s H fp ω=>ny (vc (Zr T) T.q10 hr (gr (gn 0) (gr (gn 2) (gr (gn 1) gD))))) (λcl C s H fp ω=>gH (gn 0) gz)))) gD)))))
theorem Td:gB ["run"] ["run"] (gs HV):=fO (by nofun)
abbrev aG:=un iy (mm (ou za (gu (gG Av cY) ig)))
abbrev aA:=gL lM aG fZ
abbrev aZ:=yw pY fF (gL iX (iu (.int 5)) fF)
abbrev dY:=gu fH (ig)
abbrev de:=mm dY
def Mu:FS:=iM (sn BH (xR (gL iX de (mm (ip aZ (λ_=>Ga true) aA [0])))))
def No:List D->Option D:=ik 1 1 Mu
theorem zpX (T:iH K mg t):gN P w K mg base hG 6 t.a_q49 t.d_q49 ["run"] (iQ K No) :=
 iZ T.q49.F Td λ_ _ _ _ _ _ hr=>gK (ii (VA rfl rfl T.b_max (PV.sh (nT (PO.v (rp (gr gz gD))) (PO.v (oP rfl (cO Td (fr:=["run"]) (by nofun)) (LY rfl T.b_range gz (nT (Le T.c_LAST_ROUND) gz)) (pJ (by nofun) rfl (λcl C s H fp ω=>wI (nN rfl T.b_len (PO.v (sv (Wm T) (hr.mono (by decide)) T.q40.m T.q40.F.kp T.q40.b (gr (vc (Zl T) T.q36 hr (gr (gn 1) (gr (gn 0) gD))) gD)))) (gn 0)))))))))
theorem ZP:gB ["run","bound"] ["run","bound"] (gs LS):=fO (by nofun)
abbrev dy:=gL iX ga fF
def IC:FS:=gX (mM (rK (nz (gG NG cZ))) (Di) mW) (iM (gL lM dy (gG No eM)))
def Kc:List D->Option D:=ik 2 2 IC
theorem zkO (T:iH K mg t):gN P w K mg base hG 7 t.a_q6 t.d_q6 ["run","bound"] (iQ K Kc) :=
 iZ T.q6.F ZP λ_ _ _ _ _ _ hr=>gR (lh (oF (ny (vc (zuV T) T.q65 hr (gr (gn 0) (gr (gn 1) gD))))) (gK Ek) lU) (gK (ii (wI (nT (gn 1) gz) (vc (zpX T) T.q49 hr (gr (gn 0) gD)))))
theorem zrD:gB ["run","bound","rounds"] ["run","bound","rounds"] (gs Ki):=fO (by nofun)
def Lu:FS:=iM (gL rj gb (gG Kc cZ))
def sZ:List D->Option D:=ik 3 3 Lu
theorem OJ (T:iH K mg t):gN P w K mg base hG 8 t.a_q53 t.d_q53 ["run","bound","rounds"] (iQ K sZ) :=
 iZ T.q53.F zrD λ_ _ _ _ _ _ hr=>gK (ii (Ln (gn 2) (vc (zkO T) T.q6 hr (gr (gn 0) (gr (gn 1) gD)))))
theorem Rq:gB ["run","rounds"] ["run","rounds"] (gs Nd):=fO (by nofun)
abbrev bU:=gZ pC dk ga
def IZ:FS:=lY (nY (gI di (gI (pX oH (ip cS bU fZ [1])) lD)))
def yP:List D->Option D:=ik 2 2 IZ
theorem WO (T:iH K mg t):gN P w K mg base hG 1 t.a_q1 t.d_q1 ["run","rounds"] (iQ K yP) :=
 cV (iZ T.q1.F Rq λ_ _ _ _ _ _ hr=>gK (ii (ox (gr (gH (gn 0) gz) (gr (yI rfl T.b_tuple (PO.sh (oP rfl (cO Rq (fr:=["rounds"]) (by nofun)) (nk (gH (gn 0) gz)) (pH (by nofun) rfl (λcl C s H fp ω=>BA (gH (gn 0) gz) (gn 1)) (λcl C s H fp ω=>gn 0))))) gD))))) rfl
theorem Ml:gB ["run","at","up"] ["run","at"] (gs Iu):=fO (by nofun)
abbrev bV:=gZ iT dk ga
abbrev dJ:=gI fZ fj
def IA:FS:=gy (iW 2 (oD (sY sw dF))) (lY (oD (ip cS (AK bV (lO (gY yU dJ))) fZ [1,2])))
def yG:List D->Option D:=ik 2 3 IA
theorem Pe (T:iH K mg t):gN P w K mg base hG 4 t.a_q17 t.d_q17 ["run","at"] (iQ K yG) :=
 cV (iZ T.q17.F Ml λ_ _ _ _ _ _ hr=>gR (la 2 (PO.v (sv (AO T) (hr.mono (by decide)) T.q32.m T.q32.F.kp T.q32.b (gr (gn 0) (gr (gn 1) gD)))) Ml.nd) (gK (ii (PO.v (oP rfl (cO Ml (fr:=["at","up"]) (by nofun)) (nk (gH (gn 0) gz)) (pH (by nofun) rfl (λcl C s H fp ω=>nU.b (EC (oC (mj hr) (gH (gn 0) gz) (gn 1)) (EZ (ny (vc (RU T) T.q26 hr (gr (gn 0) (gr (gn 2) gD))))))) (λcl C s H fp ω=>gn 0))))))) rfl
theorem zmB:gB ["run","hand","at","rounds"] ["run","hand","at","rounds"] (gs IL):=fO (by nofun)
abbrev ce:=gG CY cZ
def znJ:FS:=iM (wD (iJ rj gb ge) (gG xy (gu fZ (gu ga (gu dw dY)))) ce)
def QY:List D->Option D:=ik 4 4 znJ
theorem Vf (T:iH K mg t):gN P w K mg base hG 3 t.a_q12 t.d_q12 ["run","hand","at","rounds"] (iQ K QY) :=
 iZ T.q12.F zmB λ_ _ _ _ _ _ hr=>gK (ii (yi (zF (gn 2) (gn 3)) (vc (Gz T) T.q31 hr (gr (gn 0) (gr (gn 1) (gr (nT (gn 2) gz) (gr gz gD))))) (vc (Iy T) T.q11 hr (gr (gn 0) (gr (gn 1) gD)))))
theorem EM:gB ["run","at","rounds","later","fall"] ["run","at","rounds"] (gs Mt):=fO (by nofun)
abbrev df:=gu ga eL
abbrev dL:=gL gC gc fH
def UU:FS:=gX (ir 3 fZ) (gX (nl (nw (gG yG cZ)) (mD 4) (ir 3 (gG QY (gu ge (gu dL df))))) (iM ge))
def ON:List D->Option D:=ik 3 5 UU
theorem zjB (T:iH K mg t):gN P w K mg base hG 5 t.a_q4 t.d_q4 ["run","at","rounds"] (iQ K ON) :=
 iZ T.q4.F EM λ_ _ _ _ _ _ hr=>gR (la 3 (gn 0) EM.nd) (gR (nG PassesOwn.never rfl (nk (vc (Pe T) T.q17 hr (gr (gn 0) (gr (gn 1) gD)))) (mJ 4 EM.nd) (gK (la 3 (vc (Vf T) T.q12 hr (gr (gn 3) (gr (gH (gn 4) gz) (gr (gn 1) (gr (gn 2) gD))))) EM.nd))) (gK (ii (gn 3))))
theorem zuX:gB ["run","hand","at","rounds"] ["run","hand","at","rounds"] (gs GJ):=fO (by nofun)
abbrev bN:=gu ga da
def zxK:FS:=iM (mm (BD (ou (oO 12) (gu ce bN))))
def Tl:List D->Option D:=ik 4 4 zxK
theorem XO (T:iH K mg t):gN P w K mg base hG 29 t.a_q66 t.d_q66 ["run","hand","at","rounds"] (iQ K Tl) :=
 iZ T.q66.F zuX λ_ _ _ _ _ _ hr=>gK (ii (PO.v (MV rfl rfl T.b_list rfl T.b_reversed (PO.sh (sv (GY T 12) (hr.mono (by decide)) T.q59.m T.q59.F.kp T.q59.b (gr (vc (Iy T) T.q11 hr (gr (gn 0) (gr (gn 1) gD))) (gr (gn 1) (gr (gn 2) (gr (gn 3) gD)))))))))
theorem CP:gB ["run","at","rounds","hands","path","hand"] ["run","at","rounds"] (gs Ld):=fO (by nofun)
abbrev eA:=nZ tW fA
abbrev fT:=lG 5
abbrev dM:=gI ga fj
abbrev cw:=gI fZ dM
abbrev eS:=Bb fA
abbrev fN:=Ar (go 4)
def Mo:FS:=gy (BQ 3 (wo 3 (ip (mX (gY yG dF)) (λ_=>Ga true) di []))) (gy (wo 4 eW) (gy (gP (gZ pB (nZ iy ge) fy) (oh 4 (gY ON cw)) gW) (gy (mn (mX ge) fT (tX 4 (oM (gY Tl (gI (BI (gl 4) eA) (gI gf (gI dh fj)))) eS oU))) fN)))
def zR:List D->Option (List D):=wY 3 6 Mo
theorem RD (T:iH K mg t):gN P w K mg base hG 30 t.a_q8 t.d_q8 ["run","at","rounds"] (tq K zR) :=
 cW (EL T.q8.F CP λ_ _ _ _ _ _ hr=>gR (Au 3 (AZ 3 rfl (cO CP (fr:=[]) (by nofun)) (nk (vc (Pe T) T.q17 hr (gr (gn 0) (gr (gn 1) gD)))) (pJ (by nofun) rfl (λcl C s H fp ω=>gH (gn 0) gz)) CP.nd)) (gR (wd 4 (rp (gr (gn 0) gD)) CP.nd) (gR (lh (sP (nN rfl T.b_len (gn 3)) gz) (gK (xO 4 (vc (zjB T) T.q4 hr (gr (gn 0) (gr (gn 1) (gr (gn 2) gD)))))) lU) (gR (nG PassesOwn.never rfl (nk (gn 3)) (mJ 5 CP.nd) (gK (zO 4 (tE (vc (XO T) T.q66 hr (gr (wN (su 4) (rN gz)) (gr (gn 5) (gr (nT (gn 1) gz) (gr (gn 2) gD))))) (sW gz) wE)))) (gK (yW 4)))))) rfl
theorem Ce:gB ["run","hand","at","rounds","path","to","last","more"] ["run","hand","at","rounds"] (gs Lb):=fO (by nofun)
abbrev gj:=gv 6
def XZ:FS:=gX (si 4 eM) (gX (nl bi (mD 5) (gX (ir 6 (CU (gl 4) eD)) (mM (rK (nz (gG tQ (gu (gL gC (gG Ag (gu gj eJ)) fG) eQ)))) (gX (ir 7 (gG zf (gu gj (gu ga eQ)))) (Du 4 (NA (gG (pR 12) (gu gj (gu gh (gu gf bj)))) (xE fF) (Hr)))) mW))) (wR (go 4)))
def Rv:List D->Option D:=ik 4 8 XZ
theorem Yb (T:iH K mg t):gN P w K mg base hG 30 t.a_q23 t.d_q23 ["run","hand","at","rounds"] (iQ K Rv) :=
 iZ T.q23.F Ce λ_ _ _ _ _ _ hr=>gR (wd 4 (rp (gr (gn 0) gD)) Ce.nd) (gR (nG PassesOwn.never rfl (nk (PO.v (sv (AO T) (hr.mono (by decide)) T.q32.m T.q32.F.kp T.q32.b (gr (gn 0) (gr (gn 2) gD))))) (mJ 5 Ce.nd) (gR (la 6 (wN (su 4) (rN gz)) Ce.nd) (gK (lh (oF (ny (vc (DP T) T.q48 hr (gr (gH (vc (DE T) T.q55 hr (gr (gn 6) (gr (gn 1) gD))) gz) (gr (gn 5) gD))))) (gR (la 7 (vc (Ph T) T.q2 hr (gr (gn 6) (gr (gn 1) (gr (gn 5) gD)))) Ce.nd) (gK (zO 4 (tE (vc (Qe T 12) T.q0 hr (gr (gn 6) (gr (gn 7) (gr (gn 5) (gr (nT (gn 2) gz) (gr (gn 3) gD)))))) (sW gz) wE)))) lU)))) (gK (yW 4)))
theorem Ck:gB ["run","at","rounds","path","hands","hand"] ["run","at","rounds"] (gs Nt):=fO (by nofun)
abbrev cN:=BI (gl 3) eA
abbrev fP:=Ar (go 3)
def NK:FS:=gy (wo 3 (sY zR cw)) (gy (BQ 4 (wo 4 (ip (mX (gw gC cN fA)) bV di [1]))) (gy (mn (mX gc) fT (gy (tX 3 (oM (gY Rv (gI cN (gI gf dM))) eS oU)) (tX 3 (oM (oD (sY zR (gI cN dM))) eS oU)))) fP))
def yO:List D->Option D:=ik 3 6 NK
theorem Vn (T:iH K mg t):gN P w K mg base hG 31 t.a_q9 t.d_q9 ["run","at","rounds"] (iQ K yO) :=
 cV (iZ T.q9.F Ck λ_ _ _ _ _ _ hr=>gR (wd 3 (sv (RD T) (hr.mono (by decide)) T.q8.m T.q8.F.kp T.q8.b (gr (gn 0) (gr (gn 1) (gr (gn 2) gD)))) Ck.nd) (gR (Au 4 (AZ 4 rfl (cO Ck (fr:=["at"]) (by nofun)) (nk (gH (wN (su 3) (rN gz)) gz)) (pH (by nofun) rfl (λcl C s H fp ω=>oC (mj hr) (gH (gn 0) gz) (gn 1)) (λcl C s H fp ω=>gH (gn 0) gz)) Ck.nd)) (gR (nG PassesOwn.never rfl (nk (gn 4)) (mJ 5 Ck.nd) (gR (zO 3 (tE (vc (Yb T) T.q23 hr (gr (wN (su 3) (rN gz)) (gr (gn 5) (gr (gn 1) (gr (gn 2) gD))))) (sW gz) wE)) (gK (zO 3 (tE (PO.v (sv (RD T) (hr.mono (by decide)) T.q8.m T.q8.F.kp T.q8.b (gr (wN (su 3) (rN gz)) (gr (gn 1) (gr (gn 2) gD))))) (sW gz) wE))))) (gK (yW 3))))) rfl
theorem Ei:gB ["run","bound","rounds","path","seen","step"] ["run","bound","rounds"] (gs GN):=fO (by nofun)
abbrev aE:=gI cN (gI (gw lM gb gf) fj)
abbrev eB:=wo 3 eW
def KY:FS:=gy eB (gy (iW 4 (gY yP dJ)) (gy (gP (gZ lL gc fZ) (oh 3 gc) gW) (gy (mn (tP iL gb) fT (tX 3 (oM (gY yO aE) eS oU))) fP)))
def AJ:List D->Option D:=ik 3 6 KY
theorem Yt (T:iH K mg t):gN P w K mg base hG 32 t.a_q62 t.d_q62 ["run","bound","rounds"] (iQ K AJ) :=
 cV (iZ T.q62.F Ei λ_ _ _ _ _ _ hr=>gR (wd 3 (rp (gr (gn 0) gD)) Ei.nd) (gR (la 4 (vc (WO T) T.q1 hr (gr (gn 0) (gr (gn 2) gD))) Ei.nd) (gR (lh (pW (mj hr) (gn 4) (gn 0)) (gK (xO 3 (gn 4))) lU) (gR (nG PassesOwn.never rfl (oY rfl T.b_range (gn 2)) (mJ 5 Ei.nd) (gK (zO 3 (tE (vc (Vn T) T.q9 hr (gr (wN (su 3) (rN gz)) (gr (wI (gn 2) (gn 5)) (gr (gn 2) gD)))) (sW gz) wE)))) (gK (yW 3)))))) rfl
theorem CO:gB ["run","numbers","rounds","path","hand","last","other"] ["run","numbers","rounds"] (gs MQ):=fO (by nofun)
abbrev aL:=gZ lL (gw gC (gw gC gf fy) gc) (gw gC ga gc)
abbrev aP:=gI gf (gI gj (gI gc (gI fA fj)))
abbrev bo:=gI gf (gI gc (gI (gw gC ga gc) lD))
abbrev ci:=iW 5 cN
def HG:FS:=gy eB (gy (mn (tP iL (gY pe eW)) (lG 4) (gy ci (gP aL (gy (iW 6 (gY tH bo)) (tX 3 (oM (gY (pR 12) aP) eS oU))) gW))) fP)
def zq:List D->Option D:=ik 3 7 HG
theorem Xr (T:iH K mg t):gN P w K mg base hG 30 t.a_q24 t.d_q24 ["run","numbers","rounds"] (iQ K zq) :=
 cV (iZ T.q24.F CO λ_ _ _ _ _ _ hr=>gR (wd 3 (rp (gr (gn 0) gD)) CO.nd) (gR (nG PassesOwn.never rfl (oY rfl T.b_range (vc (AX T) T.q22 hr (gr (gn 0) gD))) (mJ 4 CO.nd) (gR (la 5 (wN (su 3) (rN gz)) CO.nd) (gK (lh (pW (mj hr) (gH (gH (gn 5) gz) (gn 4)) (gH (gn 1) (gn 4))) (gR (la 6 (vc (Vy T) T.q16 hr (gr (gn 5) (gr (gn 4) (gr (gH (gn 1) (gn 4)) gD)))) CO.nd) (gK (zO 3 (tE (vc (Qe T 12) T.q0 hr (gr (gn 5) (gr (gn 6) (gr (gn 4) (gr gz (gr (gn 2) gD)))))) (sW gz) wE)))) lU)))) (gK (yW 3)))) rfl
theorem Wt:gB ["run","thing"] ["run","thing"] (gs Ha):=fO (by nofun)
def MT:FS:=lY (Ch (gY AV eZ) (gw iT (nZ iy ga) (gY pe eW)))
def zx:List D->Option D:=ik 2 2 MT
theorem ZK (T:iH K mg t):gN P w K mg base hG 4 t.a_q5 t.d_q5 ["run","thing"] (iQ K zx) :=
 cV (iZ T.q5.F Wt λ_ _ _ _ _ _ hr=>gK (ii (zA (vc (zl9 T) T.q13 hr (gr (gn 1) gD)) (wF (yf (mj hr) (nN rfl T.b_len (gn 1)) (vc (AX T) T.q22 hr (gr (gn 0) gD))))))) rfl
theorem IV:gB ["run","bound","rounds","numbers","still_open","path"] ["run","bound","rounds","numbers"] (gs Mg):=fO (by nofun)
def GK:FS:=gy (iW 4 (gY sZ cw)) (gy (gP (og (lO (gY zx (gI fZ fg)))) Ft gW) (gy (gP (og (lO gc)) Ft gW) (gy (iW 5 (gY AJ cw)) (lY (gw iX gf (oM (gY zq (gI (gw gC gf eA) (gI ge fj))) eS oU))))))
def zc:List D->Option D:=ik 4 6 GK
theorem zpY (T:iH K mg t):gN P w K mg base hG 33 t.a_q50 t.d_q50 ["run","bound","rounds","numbers"] (iQ K zc) :=
 cV (iZ T.q50.F IV λ_ _ _ _ _ _ hr=>gR (la 4 (vc (OJ T) T.q53 hr (gr (gn 0) (gr (gn 1) (gr (gn 2) gD)))) IV.nd) (gR (lh (oF (ny (vc (ZK T) T.q5 hr (gr (gn 0) (gr (gn 3) gD))))) (gK Ek) lU) (gR (lh (oF (ny (gn 4))) (gK Ek) lU) (gR (la 5 (vc (Yt T) T.q62 hr (gr (gn 0) (gr (gn 1) (gr (gn 2) gD)))) IV.nd) (gK (ii (nT (gn 5) (tE (vc (Xr T) T.q24 hr (gr (gH (gn 5) (rN gz)) (gr (gn 3) (gr (gn 2) gD)))) (sW gz) wE)))))))) rfl
theorem Kj:gB ["run","views","hand","at","parts"] ["run","views","hand","at"] (gs LV):=fO (by nofun)
abbrev aQ:=gG CK (gu ge bM)
abbrev ak:=wD (tU (iJ iT fZ gb) (nz aQ)) (gL gC gc fZ) fR
abbrev ee:=my iL (un iy ga)
def Kh:FS:=gX (zK 4 (si 4 (ip ee (λ_=>Ga true) ak [3,2,0,1]))) (iM (pV (gu gb (gu (sn oH (xR gc)) ig))))
def DY:List D->Option D:=ik 4 5 Kh
theorem Wj (T:iH K mg t):gN P w K mg base hG 4 t.a_q20 t.d_q20 ["run","views","hand","at"] (iQ K DY) :=
 iZ T.q20.F Kj λ_ _ _ _ _ _ hr=>gR (Au 4 (AZ 4 rfl (cO Kj (fr:=["at","hand","run","views"]) (by nofun)) (oY rfl T.b_range (nN rfl T.b_len (gn 1))) (pJ (by nofun) rfl (λcl C s H fp ω=>yi (nU.b (mQ (oC (mj hr) (gn 0) (gn 2)) (sr (ny (vc (WW T) T.q63 hr (gr (gn 3) (gr (gn 0) (gr (gn 2) (gr (gn 1) gD))))))))) (gH (gn 4) (gn 0)) nQ)) Kj.nd)) (gK (ii (ox (gr (gn 2) (gr (yI rfl T.b_tuple (PV.sh (gn 4))) gD)))))
theorem Li:gB ["run","views","at","up"] ["run","views","at"] (gs Nz):=fO (by nofun)
abbrev ax:=wD (iJ zD fZ ge) (gG DY (gu gb (gu gc cZ))) fR
def HH:FS:=gX (ir 3 bE) (iM (mm (ip ee (λ_=>Ga true) ax [2,0,3,1])))
def Ee:List D->Option D:=ik 3 4 HH
theorem XU (T:iH K mg t):gN P w K mg base hG 5 t.a_q7 t.d_q7 ["run","views","at"] (iQ K Ee) :=
 iZ T.q7.F Li λ_ _ _ _ _ _ hr=>gR (la 3 (PO.v (sv (AO T) (hr.mono (by decide)) T.q32.m T.q32.F.kp T.q32.b (gr (gn 0) (gr (gn 2) gD)))) Li.nd) (gK (ii (PO.v (oP rfl (cO Li (fr:=["at","run","up","views"]) (by nofun)) (oY rfl T.b_range (nN rfl T.b_len (gn 1))) (pJ (by nofun) rfl (λcl C s H fp ω=>yi (TY (mj hr) (gn 0) (gn 3)) (vc (Wj T) T.q20 hr (gr (gn 2) (gr (gn 4) (gr (gn 0) (gr (gn 1) gD))))) nQ))))))
theorem Cj:gB ["run","rounds","views","at"] ["run","rounds"] (gs Ll):=fO (by nofun)
abbrev dN:=gL gC ga fH
abbrev aM:=pV (gu fZ (gu (gL gC dN fZ) ig))
abbrev aU:=ir 2 (gG Ee bK)
def Hk:FS:=gX (zK 2 (si 2 (ip (my iL (gG pe eM)) (λ_=>Ga true) aM [0]))) (gX (nl (yw pY fF dy) (mD 3) aU) (iM gb))
def Cw:List D->Option D:=ik 2 4 Hk
theorem Zm (T:iH K mg t):gN P w K mg base hG 6 t.a_q39 t.d_q39 ["run","rounds"] (iQ K Cw) :=
 iZ T.q39.F Cj λ_ _ _ _ _ _ hr=>gR (Au 2 (AZ 2 rfl (cO Cj (fr:=["run"]) (by nofun)) (oY rfl T.b_range (vc (AX T) T.q22 hr (gr (gn 0) gD))) (pJ (by nofun) rfl (λcl C s H fp ω=>ox (gr (gn 0) (gr (gH (gH (gn 1) gz) (gn 0)) gD)))) Cj.nd)) (gR (nG PassesOwn.never rfl (LY rfl T.b_range gz (nT (gn 1) gz)) (mJ 3 Cj.nd) (gK (la 2 (vc (XU T) T.q7 hr (gr (gn 0) (gr (gn 2) (gr (gn 3) gD)))) Cj.nd))) (gK (ii (gn 2))))
theorem VG:gB ["view"] ["view"] (gs Hf):=fO (by nofun)
def Im:FS:=iM (gL gC dD dC)
def zY:List D->Option D:=ik 1 1 Im
theorem Hw (T:iH K mg t):gN P w K mg base hG 1 t.a_q46 t.d_q46 ["view"] (iQ K zY) :=
 iZ T.q46.F VG λ_ _ _ _ _ _ hr=>gK (ii (gH (gH (gn 0) gz) (gH (gn 0) gz)))
theorem FG:gB ["view","rounds"] ["view"] (gs Lj):=fO (by nofun)
abbrev dm:=gG zY eM
abbrev cB:=ir 0 dm
abbrev cJ:=ir 1 dy
abbrev aH:=gX cB cJ
abbrev bP:=un fI dD
abbrev bC:=nz bP
def NN:FS:=gX (ir 1 fH) (gX (mz bC aH 100) (iM ga))
def rO:List D->Option D:=ik 1 2 NN
theorem BX (T:iH K mg t):gN P w K mg base hG 2 t.a_q25 t.d_q25 ["view"] (iQ K rO) :=
 iZ T.q25.F FG λ_ _ _ _ _ _ hr=>gR (la 1 gz FG.nd) (gR (SR 100 PassesOwn.never (ny (tZ (T:="tuple") (by decide) rfl T.b_isinstance rfl T.b_tuple boot_tuple (gH (gn 0) gz))) (gR (la 0 (vc (Hw T) T.q46 hr (gr (gn 0) gD)) FG.nd) (gK (la 1 (nT (gn 1) gz) FG.nd)))) (gK (ii (gn 1))))
theorem Ni:gB ["view","rounds","step"] ["view","rounds"] (gs LO):=fO (by nofun)
def GZ:FS:=gX (nl (my iL (gL lM (gG rO eM) ga)) fV cB) (iM fZ)
def Cd:List D->Option D:=ik 2 3 GZ
theorem zp1 (T:iH K mg t):gN P w K mg base hG 3 t.a_q42 t.d_q42 ["view","rounds"] (iQ K Cd) :=
 iZ T.q42.F Ni λ_ _ _ _ _ _ hr=>gR (nG PassesOwn.never rfl (oY rfl T.b_range (wI (vc (BX T) T.q25 hr (gr (gn 0) gD)) (gn 1))) (mJ 2 Ni.nd) (gK (la 0 (vc (Hw T) T.q46 hr (gr (gn 0) gD)) Ni.nd))) (gK (ii (gn 0)))
theorem EY:gB ["views","parts","view","part"] ["views"] (gs KP):=fO (by nofun)
abbrev dO:=gL gC gb fF
abbrev cU:=nw dO
abbrev dP:=iJ iY ge fR
def GU:FS:=gX (Np 1) (gX (nl (nw fZ) fV (nl cU (mD 3) (mM dP (zV 1 ge) mW))) (TM 1 (iM (mm (my wt ga)))))
def EH:List D->Option D:=ik 1 4 GU
theorem Yu (T:iH K mg t):gN P w K mg base hG 1 t.a_q43 t.d_q43 ["views"] (iQ K EH) :=
 iZ T.q43.F EY λ_ _ _ _ _ _ hr=>gR (VF 1 EY.nd) (gR (nG PassesOwn.never rfl (nk (gn 0)) (mJ 2 EY.nd) (gK (nG PassesOwn.never rfl (nk (gH (gn 2) gz)) (mJ 3 EY.nd) (gK (lh (AC (gn 3) nQ) (gK (zzH 1 (mj hr) (gn 3))) lU))))) (gK (Ii 1 (ii (PO.v (zBZ rfl rfl T.b_list (gn 1)))))))
theorem Hm:gB ["view","layers","step"] ["view"] (gs Ng):=fO (by nofun)
abbrev bf:=gG EH (gu (CU (gl 1) eD) ig)
def Lw:FS:=gX (si 1 (gu (mm eM) ig)) (gX (nl (my iL (gG rO eM)) fV (yb 1 bf)) (iM (mm (BD (gl 1)))))
def AQ:List D->Option D:=ik 1 3 Lw
theorem zoL (T:iH K mg t):gN P w K mg base hG 3 t.a_q30 t.d_q30 ["view"] (iQ K AQ) :=
 iZ T.q30.F Hm λ_ _ _ _ _ _ hr=>gR (wd 1 (rp (gr (PO.v (rp (gr (gn 0) gD))) gD)) Hm.nd) (gR (nG PassesOwn.never rfl (oY rfl T.b_range (vc (BX T) T.q25 hr (gr (gn 0) gD))) (mJ 2 Hm.nd) (gK (xO 1 (vc (Yu T) T.q43 hr (gr (wN (su 1) (rN gz)) gD))))) (gK (ii (PO.v (MV rfl rfl T.b_list rfl T.b_reversed (su 1))))))
theorem YT:gB ["view"] ["view"] (gs NI):=fO (by nofun)
abbrev dq:=gG AQ eM
abbrev bB:=gL gC dq fH
abbrev bg:=xR bB
def KN:FS:=iM (mm (BC bg))
def DT:List D->Option D:=ik 1 1 KN
theorem zu0 (T:iH K mg t):gN P w K mg base hG 4 t.a_q67 t.d_q67 ["view"] (iQ K DT) :=
 iZ T.q67.F YT λ_ _ _ _ _ _ hr=>gK (ii (PO.v (zy9 rfl T.b_sorted (PV.sh (gH (vc (zoL T) T.q30 hr (gr (gn 0) gD)) gz)))))
theorem QS:gB ["view"] ["view"] (gs ME):=fO (by nofun)
abbrev cQ:=nw (gG DT eM)
def NM:FS:=iM (sn pb (ip cQ (λ_=>Ga true) dD []))
def Ci:List D->Option D:=ik 1 1 NM
theorem zmE (T:iH K mg t):gN P w K mg base hG 5 t.a_q19 t.d_q19 ["view"] (iQ K Ci) :=
 iZ T.q19.F QS λ_ _ _ _ _ _ hr=>gK (ii (zDR rfl rfl T.b_min (PO.sh (oP rfl (cO QS (fr:=[]) (by nofun)) (nk (vc (zu0 T) T.q67 hr (gr (gn 0) gD))) (pJ (by nofun) rfl (λcl C s H fp ω=>gH (gn 0) gz))))))
theorem Nf:gB ["view","parts"] ["view"] (gs Ig):=fO (by nofun)
abbrev cj:=iJ iY (gL gC ga fZ) fR
abbrev cR:=ir 1 dD
def Ic:FS:=gX cR (iM (gG wk (gu (mm (ip ee cj fZ [1])) ig)))
def As:List D->Option D:=ik 1 2 Ic
theorem QK (T:iH K mg t):gN P w K mg base hG 3 t.a_q38 t.d_q38 ["view"] (iQ K As) :=
 iZ T.q38.F Nf λ_ _ _ _ _ _ hr=>gR (la 1 (gH (gn 0) gz) Nf.nd) (gK (ii (vc (Fe T) T.q57 hr (gr (PO.v (oP rfl (cO Nf (fr:=["parts"]) (by nofun)) (oY rfl T.b_range (nN rfl T.b_len (gn 1))) (pH (by nofun) rfl (λcl C s H fp ω=>AC (gH (gn 1) (gn 0)) nQ) (λcl C s H fp ω=>gn 0)))) gD))))
theorem IE:gB ["view","parts"] ["view"] (gs LK):=fO (by nofun)
abbrev ck:=iJ iR (gL gC ga fZ) fR
def My:FS:=gX cR (iM (gG wk (gu (mm (ip ee ck fZ [1])) ig)))
def DQ:List D->Option D:=ik 1 2 My
theorem znN (T:iH K mg t):gN P w K mg base hG 3 t.a_q21 t.d_q21 ["view"] (iQ K DQ) :=
 iZ T.q21.F IE λ_ _ _ _ _ _ hr=>gR (la 1 (gH (gn 0) gz) IE.nd) (gK (ii (vc (Fe T) T.q57 hr (gr (PO.v (oP rfl (cO IE (fr:=["parts"]) (by nofun)) (oY rfl T.b_range (nN rfl T.b_len (gn 1))) (pH (by nofun) rfl (λcl C s H fp ω=>yj (gH (gn 1) (gn 0)) nQ) (λcl C s H fp ω=>gn 0)))) gD))))
theorem Qi:gB ["view","rounds"] ["view"] (gs KH):=fO (by nofun)
abbrev dz:=iJ iT ga fH
def Mj:FS:=gX (ir 1 (gG rO eM)) (gX (mM dz em mW) (gX (mM (iJ iT ga fF) (iM (gL iT (gG DQ eM) fH)) mW) (iM (gL iT (gG As eM) (gG As (gu dm ig))))))
def zX:List D->Option D:=ik 1 2 Mj
theorem VY (T:iH K mg t):gN P w K mg base hG 4 t.a_q47 t.d_q47 ["view"] (iQ K zX) :=
 iZ T.q47.F Qi λ_ _ _ _ _ _ hr=>gR (la 1 (vc (BX T) T.q25 hr (gr (gn 0) gD)) Qi.nd) (gR (lh (oC (mj hr) (gn 1) gz) (gK (ii (nL))) lU) (gR (lh (oC (mj hr) (gn 1) gz) (gK (ii (yf (mj hr) (vc (znN T) T.q21 hr (gr (gn 0) gD)) gz))) lU) (gK (ii (yf (mj hr) (vc (QK T) T.q38 hr (gr (gn 0) gD)) (vc (QK T) T.q38 hr (gr (vc (Hw T) T.q46 hr (gr (gn 0) gD)) gD)))))))
theorem MK:gB ["rule","view","rounds","number"] ["rule","view"] (gs Ka):=fO (by nofun)
def zp4 (c:ib)(φ:D->Option D):FS:=gX (nl (my iL (gL iX (gG rO eJ) fF)) fV (gX (ir 3 (oI 0 c φ (gG Cd df))) (mM dP (iM (pV da)) mW))) eX
def AD (c:ib)(φ:D->Option D):List D->Option D:=rX 0 2 4 c (zp4 c φ)
theorem zoM (T:iH K mg t){c:ib}{φ:D->Option D}(hC:ng P w K mg base 8 c φ):gN P w K mg base hG 9 t.a_q33 t.d_q33 ["rule","view"] (wC K 0 c (AD c φ)) :=
 Al T.q33.F MK (by decide) λ_ _ _ _ _ _ hr=>gR (nG PassesOwn.never rfl (oY rfl T.b_range (nT (vc (BX T) T.q25 hr (gr (gn 1) gD)) gz)) (mJ 2 MK.nd) (gR (la 3 (PQ 0 hC (hr.mono (by decide)) (vc (zp1 T) T.q42 hr (gr (gn 1) (gr (gn 2) gD)))) MK.nd) (gK (lh (AC (gn 3) nQ) (gK (ii (ox (gr (gn 2) (gr (gn 3) gD))))) lU)))) (gK (ii nQ))
theorem Py:gB ["rule","view","choice"] ["rule","view"] (gs LR):=fO (by nofun)
def zp5 (c:ib)(φ:D->Option D):FS:=gX (ir 2 (lw 0 c (AD c φ) eJ)) (iM (wD (iJ iR gb fR) fR dO))
def Ah (c:ib)(φ:D->Option D):List D->Option D:=rX 0 2 3 c (zp5 c φ)
theorem Wl (T:iH K mg t){c:ib}{φ:D->Option D}(hC:ng P w K mg base 8 c φ):gN P w K mg base hG 10 t.a_q28 t.d_q28 ["rule","view"] (wC K 0 c (Ah c φ)) :=
 Al T.q28.F Py (by decide) λ_ _ _ _ _ _ hr=>gR (la 2 (zd 0 (zoM T hC) (hr.mono (by decide)) T.q33.m T.q33.F.kp T.q33.b (gr (gn 1) gD)) Py.nd) (gK (ii (yi (yj (gn 2) nQ) nQ (gH (gn 2) gz))))
theorem HZ:gB ["rule","run","rounds","views"] ["rule","run","rounds"] (gs MI):=fO (by nofun)
def Xn (c:ib)(φ:D->Option D):FS:=gX (ir 3 (gG Cw df)) (iM (mm (ip (nw (mm (ou sw df))) (λ_=>Ga true) (pV (gu fZ (gu (lw 1 c (Ah c φ) (gu (gL gC gb fZ) ig)) ig))) [0,3])))
def mY (c:ib)(φ:D->Option D):List D->Option D:=rX 0 3 4 c (Xn c φ)
theorem EU (T:iH K mg t){c:ib}{φ:D->Option D}(hC:ng P w K mg base 8 c φ):gN P w K mg base hG 11 t.a_q58 t.d_q58 ["rule","run","rounds"] (wC K 0 c (mY c φ)) :=
 Al T.q58.F HZ (by decide) λ_ _ _ _ _ _ hr=>gR (la 3 (vc (Zm T) T.q39 hr (gr (gn 1) (gr (gn 2) gD))) HZ.nd) (gK (ii (PO.v (oP rfl (cO HZ (fr:=["rule","views"]) (by nofun)) (nk (PO.v (sv (AO T) (hr.mono (by decide)) T.q32.m T.q32.F.kp T.q32.b (gr (gn 1) (gr (gn 2) gD))))) (pJ (by nofun) rfl (λcl C s H fp ω=>ox (gr (gn 0) (gr (zd 1 (Wl T hC) (hr.mono (by decide)) T.q28.m T.q28.F.kp T.q28.b (gr (gH (gn 2) (gn 0)) gD)) gD))))))))
theorem RW:gB ["told","number"] ["told","number"] (gs NF):=fO (by nofun)
abbrev bQ:=gw iT dk ga
def Lv:FS:=lY (pX rZ (ip (mX fZ) (λ_=>Ga true) bQ [1]))
def oG:List D->Option D:=ik 2 2 Lv
theorem OA (T:iH K mg t):gN P w K mg base hG 1 t.a_q52 t.d_q52 ["told","number"] (iQ K oG) :=
 cV (iZ T.q52.F RW λ_ _ _ _ _ _ hr=>gK (ii (NJ rfl rfl T.b_all (PO.sh (oP rfl (cO RW (fr:=["number"]) (by nofun)) (nk (gn 0)) (pJ (by nofun) rfl (λcl C s H fp ω=>yf (mj hr) (gH (gn 0) gz) (gn 1)))))))) rfl
theorem IU:gB ["run","told","unlike"] ["run","told"] (gs LW):=fO (by nofun)
abbrev fS:=jC "torn"
abbrev dr:=gw gC ga fy
abbrev bw:=gw gC dr fA
abbrev aB:=gZ lL dk bw
def Kx:FS:=gy (BQ 2 (wo 2 (ip (mX ga) aB di [1]))) (lY (nY (gI (lQ (.str fS)) (gI fZ (gI (gw gC dr fy) (gI (gw gC gb fy) lD))))))
def sD:List D->Option D:=ik 2 3 Kx
theorem OE (T:iH K mg t):gN P w K mg base hG 1 t.a_q54 t.d_q54 ["run","told"] (iQ K sD) :=
 cV (iZ T.q54.F IU λ_ _ _ _ _ _ hr=>gR (Au 2 (AZ 2 rfl (cO IU (fr:=["told"]) (by nofun)) (nk (gn 1)) (pH (by nofun) rfl (λcl C s H fp ω=>pW (mj hr) (gH (gn 0) gz) (gH (gH (gn 1) gz) gz)) (λcl C s H fp ω=>gH (gn 0) gz)) IU.nd)) (gK (ii (ox (gr LI (gr (gn 0) (gr (gH (gH (gn 1) gz) gz) (gr (gH (gn 2) gz) gD)))))))) rfl
theorem PH:gB ["told","number"] ["told","number"] (gs Mn):=fO (by nofun)
abbrev fQ:=lQ .none
abbrev az:=AK (gZ iY dk fQ) (gZ lL dk ga)
def IQ:FS:=lY (oD (ip (mX fZ) az di [1]))
def yJ:List D->Option D:=ik 2 2 IQ
theorem zoO (T:iH K mg t):gN P w K mg base hG 1 t.a_q34 t.d_q34 ["told","number"] (iQ K yJ) :=
 cV (iZ T.q34.F PH λ_ _ _ _ _ _ hr=>gK (ii (PO.v (oP rfl (cO PH (fr:=["number"]) (by nofun)) (nk (gn 0)) (pH (by nofun) rfl (λcl C s H fp ω=>nU.b (EC (AC (gH (gn 0) gz) nQ) (EZ (pW (mj hr) (gH (gn 0) gz) (gn 1))))) (λcl C s H fp ω=>gH (gn 0) gz)))))) rfl
theorem AW:gB ["rule","chain","number","rounds","low","high","middle"] ["rule","chain","number","rounds"] (gs MB):=fO (by nofun)
def zsM (c:ib)(φ:D->Option D):FS:=gX (ir 4 fH) (gX (ir 5 (gL lM (un iy ga) fF)) (gX (mz (iJ pB (gL lM gf gc) fF) (gX (ir 6 (gL nX (gL iX gc gf) fG)) (mM (nz (gG oG (gu (lw 0 c (mY c φ) (gu (gL gC ga gj) eO)) eL))) (ir 4 gj) (ir 5 gj))) 100) (iM (gG sD (gu (gL gC ga gf) (gu (lw 0 c (mY c φ) (gu (gL gC ga gf) eO)) ig))))))
def zZ (c:ib)(φ:D->Option D):List D->Option D:=rX 0 4 7 c (zsM c φ)
theorem Xu (T:iH K mg t){c:ib}{φ:D->Option D}(hC:ng P w K mg base 8 c φ):gN P w K mg base hG 12 t.a_q56 t.d_q56 ["rule","chain","number","rounds"] (wC K 0 c (zZ c φ)) :=
 Al T.q56.F AW (by decide) λ_ _ _ _ _ _ hr=>gR (la 4 gz AW.nd) (gR (la 5 (wI (nN rfl T.b_len (gn 1)) gz) AW.nd) (gR (SR 100 PassesOwn.never (sP (wI (gn 5) (gn 4)) gz) (gR (la 6 (CA (nT (gn 4) (gn 5)) gz) AW.nd) (gK (lh (ny (vc (OA T) T.q52 hr (gr (zd 0 (EU T hC) (hr.mono (by decide)) T.q58.m T.q58.F.kp T.q58.b (gr (gH (gn 1) (gn 6)) (gr (gn 3) gD))) (gr (gn 2) gD)))) (gK (la 4 (gn 6) AW.nd)) (gK (la 5 (gn 6) AW.nd)))))) (gK (ii (vc (OE T) T.q54 hr (gr (gH (gn 1) (gn 5)) (gr (zd 0 (EU T hC) (hr.mono (by decide)) T.q58.m T.q58.F.kp T.q58.b (gr (gH (gn 1) (gn 5)) (gr (gn 3) gD))) gD)))))))
theorem Cv:gB ["rule","run","bound","rounds","number","other","chain","hands"] ["rule","run","bound","rounds","number"] (gs LB):=fO (by nofun)
abbrev cK:=gL gC gj eD
abbrev fJ:=jC "strange"
def YI (c:ib)(φ:D->Option D):FS:=gX (ir 5 (wD (iJ iT gc fH) fF fH)) (gX (ir 6 (gG zc (gu ga (gu gb (gu ge (gu (sn oH (ip (my iL (gG pe eJ)) (λ_=>Ga true) ga [5])) ig)))))) (gX (ir 7 (gG yJ (gu (lw 0 c (mY c φ) (gu cK eO)) eQ))) (gX (mM (iJ pB (un iy gh) fH) (iM (pV (gu (iu (.str fJ)) (gu cK (gu (gL gC gh fH) ig))))) mW) (iM (lw 0 c (zZ c φ) (gu gj (gu gc eO)))))))
def yE (c:ib)(φ:D->Option D):List D->Option D:=rX 0 5 8 c (YI c φ)
theorem zmF (T:iH K mg t){c:ib}{φ:D->Option D}(hC:ng P w K mg base 8 c φ):gN P w K mg base hG 34 t.a_q15 t.d_q15 ["rule","run","bound","rounds","number"] (wC K 0 c (yE c φ)) :=
 Al T.q15.F Cv (by decide) λ_ _ _ _ _ _ hr=>gR (la 5 (yi (oC (mj hr) (gn 4) gz) gz gz) Cv.nd) (gR (la 6 (vc (zpY T) T.q50 hr (gr (gn 1) (gr (gn 2) (gr (gn 3) (gr (yI rfl T.b_tuple (PO.sh (oP rfl (cO Cv (fr:=["other"]) (by nofun)) (oY rfl T.b_range (vc (AX T) T.q22 hr (gr (gn 1) gD))) (pJ (by nofun) rfl (λcl C s H fp ω=>gn 1))))) gD))))) Cv.nd) (gR (la 7 (vc (zoO T) T.q34 hr (gr (zd 0 (EU T hC) (hr.mono (by decide)) T.q58.m T.q58.F.kp T.q58.b (gr (gH (gn 6) (rN gz)) (gr (gn 3) gD))) (gr (gn 5) gD))) Cv.nd) (gR (lh (sP (nN rfl T.b_len (gn 7)) gz) (gK (ii (ox (gr LI (gr (gH (gn 6) (rN gz)) (gr (gH (gn 7) gz) gD)))))) lU) (gK (ii (zd 0 (Xu T hC) (hr.mono (by decide)) T.q56.m T.q56.F.kp T.q56.b (gr (gn 6) (gr (gn 4) (gr (gn 3) gD)))))))))
theorem GH:gB ["rule","run","bound","rounds","told","number"] ["rule","run","bound","rounds"] (gs LC):=fO (by nofun)
def zu1 (c:ib)(φ:D->Option D):FS:=gX (mM (rK (nz (gG sZ bN))) (Di) mW) (gX (ir 4 (lw 0 c (mY c φ) (gu ga eO))) (gX (ir 5 (gL gC dL fF)) (gX (mM (rK (nz (gG oG (gu gc eQ)))) (iM (gG sD db)) mW) (gX (mM (iJ iR gf fR) eX mW) (iM (lw 0 c (yE c φ) (gu ga (gu gb (gu ge eQ)))))))))
def tD (c:ib)(φ:D->Option D):List D->Option D:=rX 0 4 6 c (zu1 c φ)
theorem VJ (T:iH K mg t){c:ib}{φ:D->Option D}(hC:ng P w K mg base 8 c φ):gN P w K mg base hG 35 t.a_q61 t.d_q61 ["rule","run","bound","rounds"] (wC K 0 c (tD c φ)) :=
 Al T.q61.F GH (by decide) λ_ _ _ _ _ _ hr=>gR (lh (oF (ny (vc (OJ T) T.q53 hr (gr (gn 1) (gr (gn 2) (gr (gn 3) gD)))))) (gK Ek) lU) (gR (la 4 (zd 0 (EU T hC) (hr.mono (by decide)) T.q58.m T.q58.F.kp T.q58.b (gr (gn 1) (gr (gn 3) gD))) GH.nd) (gR (la 5 (gH (gH (gn 4) gz) gz) GH.nd) (gR (lh (oF (ny (vc (OA T) T.q52 hr (gr (gn 4) (gr (gn 5) gD))))) (gK (ii (vc (OE T) T.q54 hr (gr (gn 1) (gr (gn 4) gD))))) lU) (gR (lh (yj (gn 5) nQ) (gK (ii nQ)) lU) (gK (ii (zd 0 (zmF T hC) (hr.mono (by decide)) T.q15.m T.q15.F.kp T.q15.b (gr (gn 1) (gr (gn 2) (gr (gn 3) (gr (gn 5) gD)))))))))))
theorem zjE:gB ["view","bound"] ["view","bound"] (gs Ia):=fO (by nofun)
def Mh:FS:=lY (gw zW (gY rO eW) dh)
def BN:List D->Option D:=ik 2 2 Mh
theorem VH (T:iH K mg t):gN P w K mg base hG 3 t.a_q3 t.d_q3 ["view","bound"] (iQ K BN) :=
 cV (iZ T.q3.F zjE λ_ _ _ _ _ _ hr=>gK (ii (Ts (vc (BX T) T.q25 hr (gr (gn 0) gD)) (nT (gn 1) gz)))) rfl
theorem zmG:gB ["tells","view"] ["tells","view"] (gs KJ):=fO (by nofun)
def Ky:FS:=lY (Bh (lO fZ) (gY Ci eZ) fQ)
def BZ:List D->Option D:=ik 2 2 Ky
theorem We (T:iH K mg t):gN P w K mg base hG 6 t.a_q18 t.d_q18 ["tells","view"] (iQ K BZ) :=
 cV (iZ T.q18.F zmG λ_ _ _ _ _ _ hr=>gK (ii (yi (ny (gn 0)) (vc (zmE T) T.q19 hr (gr (gn 1) gD)) nQ))) rfl
theorem zxL:gB ["view","bound"] ["view","bound"] (gs KZ):=fO (by nofun)
def Ko:FS:=lY (gY BZ (gI (Mr (gY BN dF) (gY zX eW)) eW))
def om:List D->Option D:=ik 2 2 Ko
theorem Hg (T:iH K mg t):gN P w K mg base hG 7 t.a_q68 t.d_q68 ["view","bound"] (iQ K om) :=
 cV (iZ T.q68.F zxL λ_ _ _ _ _ _ hr=>gK (ii (vc (We T) T.q18 hr (gr (Dh (vc (VH T) T.q3 hr (gr (gn 0) (gr (gn 1) gD))) (wF (vc (VY T) T.q47 hr (gr (gn 0) gD)))) (gr (gn 0) gD))))) rfl
theorem Zb:gB ["script","k"] ["script","k"] (gs IT):=fO (by nofun)
def GX:FS:=gy (gP (gZ rj ga ft) (lY (gw gC fZ ga)) gW) (lY fy)
def oZ:List D->Option D:=ik 2 2 GX
theorem Xd (T:iH K mg t):gN P w K mg base hG 1 t.a_q14 t.d_q14 ["script","k"] (iQ K oZ) :=
 cV (iZ T.q14.F Zb λ_ _ _ _ _ _ hr=>gR (lh (zF (gn 1) (nN rfl T.b_len (gn 0))) (gK (ii (gH (gn 0) (gn 1)))) lU) (gK (ii gz))) rfl
theorem zoP:gB ["found"] ["found"] (gs NL):=fO (by nofun)
def MN:FS:=lY be
def zB:List D->Option D:=ik 1 1 MN
theorem Fa (T:iH K mg t):gN P w K mg base hG 1 t.a_q35 t.d_q35 ["found"] (iQ K zB) :=
 cV (iZ T.q35.F zoP λ_ _ _ _ _ _ hr=>gK (ii (zA (tZ (T:="int") (by decide) rfl T.b_isinstance rfl T.b_int boot_int (gn 0)) (wF (Mp (tZ (T:="bool") (by decide) rfl T.b_isinstance rfl T.b_bool boot_bool (gn 0))))))) rfl
theorem Qo:gB ["number","k","mixed"] ["number","k"] (gs GI):=fO (by nofun)
def GT:FS:=gy (iW 2 (gw lP (gw iX (gw nE fZ (lQ (.int 48271))) (gw nE (gw nE ga ga) (lQ (.int 7919)))) (lQ (.int 2147483647)))) (lY (gw lP (gw nE gb gb) (lQ (.int 2147483629))))
def xV:List D->Option D:=ik 2 3 GT
theorem zoQ (T:iH K mg t):gN P w K mg base hG 1 t.a_q27 t.d_q27 ["number","k"] (iQ K xV) :=
 cV (iZ T.q27.F Qo λ_ _ _ _ _ _ hr=>gR (la 2 (zh (nT (Ba (gn 0) gz) (Ba (Ba (gn 1) (gn 1)) gz)) gz) Qo.nd) (gK (ii (zh (Ba (gn 2) (gn 2)) gz)))) rfl
theorem CW:gB ["before","ends","hand","at","parts","by","end","reached"] ["before","ends","hand","at"] (gs Kt):=fO (by nofun)
abbrev fC:=lQ (.int 4)
abbrev au:=oD (gI fA (gI fx (gI fC (gI (lQ (.int 8)) (gI (lQ (.int 16)) lD)))))
abbrev ac:=iA (gZ iT gf gb) (iA (gZ pB gj ge) (AK (gZ iT gj ge) (gZ iT (gw lP (gw nX gh (gw gC au gb)) fx) fA)))
abbrev fB:=lQ (.int 9)
abbrev bG:=nY (gI fB (gI fy lD))
abbrev fU:=lG 7
abbrev ao:=Fi 1 (Nx (Nj zl ga gf bG) (xZ (wp (lG 6) (wp fU Dd))))
abbrev fk:=lY fQ
abbrev fM:=wo 4 (lD)
def FI:FS:=gy (gP (gZ pC (gw gC (Nj zl ga gb bG) fy) ge) fk gW) (gy fM (gy (mn (tP iL ft) fT (gy ao (gP ac (oh 4 (gw gC fZ gf)) (oh 4 fQ)))) (lY (nY (gI gb (gI (pX oH (gl 4)) lD))))))
def yZ:List D->Option D:=ik 4 8 FI
theorem VO (T:iH K mg t):gN P w K mg base hG 1 t.a_q44 t.d_q44 ["before","ends","hand","at"] (iQ K yZ) :=
 cV (iZ T.q44.F CW λ_ _ _ _ _ _ hr=>gR (lh (BA (gH (Sa (gn 1) (gn 2) (ox (gr gz (gr gz gD)))) gz) (gn 3)) (gK (ii nQ)) lU) (gR (wd 4 (rp gD) CW.nd) (gR (nG PassesOwn.never rfl (oY rfl T.b_range (nN rfl T.b_len (gn 0))) (mJ 5 CW.nd) (gR (Ii 1 (Op (Sa (gn 1) (gn 5) (ox (gr gz (gr gz gD)))) (Ez rfl (wM (mJ 6 CW.nd) (wM (mJ 7 CW.nd) DX))))) (gK (lh (nU.b (mQ (oC (mj hr) (gn 5) (gn 2)) (mQ (sP (gn 6) (gn 3)) (sr (nU.b (EC (oC (mj hr) (gn 6) (gn 3)) (EZ (oC (mj hr) (zh (CA (gn 7) (gH (PO.v (rp (gr gz (gr gz (gr gz (gr gz (gr gz gD))))))) (gn 2))) gz) gz)))))))) (gK (xO 4 (gH (gn 0) (gn 5)))) (gK (xO 4 nQ)))))) (gK (ii (ox (gr (gn 2) (gr (yI rfl T.b_tuple (su 4)) gD)))))))) rfl
theorem xB:gB ["run","rounds","ends","hand","at","reached","made"] ["run","rounds"] (gs LZ):=fO (by nofun)
abbrev aI:=gI cN (gI gb dF)
abbrev aD:=gY yZ aI
abbrev aO:=nY (gI fZ (gI (gw gC dr fZ) lD))
abbrev bW:=wp (lG 3) (wp (lG 4) (wp fT Dd))
abbrev bD:=xZ bW
abbrev cx:=nZ iy di
abbrev bH:=tP iL cx
abbrev fq:=gI gf (lD)
abbrev dQ:=gI gc fq
abbrev bJ:=xh 2 ge (nY dQ)
def He:FS:=gy (MC 2) (gy (mn cS bD bJ) (gy (wo 6 (gI (oD (ip bH (λ_=>Ga true) aO [0])) lD)) (gy (mn (Tn pY fA dh) (lG 4) (Fi 2 (oh 6 (oD (ip bH (λ_=>Ga true) aD [4,2,6]))))) (Ar (go 6)))))
def zb:List D->Option D:=ik 2 7 He
theorem Wh (T:iH K mg t):gN P w K mg base hG 2 t.a_q29 t.d_q29 ["run","rounds"] (iQ K zb) :=
 cV (iZ T.q29.F xB λ_ _ _ _ _ _ hr=>gR (QR 2 xB.nd) (gR (nG PassesOwn.never rfl (nk (gH (gn 0) gz)) (Ez rfl (wM (mJ 3 xB.nd) (wM (mJ 4 xB.nd) (wM (mJ 5 xB.nd) DX)))) (gK (Qr 2 (gn 3) (ox (gr (gn 4) (gr (gn 5) gD)))))) (gR (wd 6 (rp (gr (PO.v (oP rfl (cO xB (fr:=["run"]) (by nofun)) (oY rfl T.b_range (nN rfl T.b_len (gH (gn 0) gz))) (pJ (by nofun) rfl (λcl C s H fp ω=>ox (gr (gn 0) (gr (gH (gH (gn 1) gz) (gn 0)) gD)))))) gD)) xB.nd) (gR (nG PassesOwn.never rfl (LY rfl T.b_range gz (nT (gn 1) gz)) (mJ 4 xB.nd) (gK (Ii 2 (xO 6 (PO.v (oP rfl (cO xB (fr:=["at","ends","made"]) (by nofun)) (oY rfl T.b_range (nN rfl T.b_len (gH (gn 0) gz))) (pJ (by nofun) rfl (λcl C s H fp ω=>vc (VO T) T.q44 hr (gr (wN (su 3) (rN gz)) (gr (gn 2) (gr (gn 0) (gr (gn 1) gD)))))))))))) (gK (yW 6)))))) rfl
theorem yz:gB ["run","many","most","number","last","fall","hand","at","reached"] ["run","many","most"] (gs GR):=fO (by nofun)
abbrev fE:=lQ (.int 3)
abbrev aa:=gP (iA (gZ pC gj gc) (iA (gZ zW gj ga) (iA (gZ rj gh fA) (iA (gZ pB gh (lQ (.int 5))) (iA (gZ rj gi fy) (gZ pB gi (gw gC (oD (gI fE (gI (lQ (.int 7)) (gI (lQ (.int 15)) (gI (lQ (.int 31)) lD))))) (gw lM ga fx)))))))) eh (gW)
abbrev ae:=gP (gZ iT (gw lP (gw nX gi (gw gC au gj)) fx) fA) eh (gW)
abbrev aj:=gP (iA (og (lO (gY zB (gI gj lD)))) (iA (og (lO (gY zB (gI gh lD)))) (og (lO (gY zB (gI gi lD)))))) eh (gW)
abbrev ar:=gP (iA (og (lO (nZ fI gf))) (gZ lL (nZ iy gf) fE)) eh (gW)
abbrev aW:=Nx gf (xZ (wp (lG 6) (wp fU (wp (lG 8) Dd))))
abbrev cL:=og (lO (gY zB fg))
abbrev eC:=lY (lQ (.bool true))
abbrev fK:=iW 4 gj
def Ij:FS:=gy (gP (iA cM (iA (gZ lL ft fx) (iA (og (lO (nZ fI di))) (og (lO (nZ fI dk)))))) eh gW) (gy (gP (iA (gZ lL cx ga) (gZ pB (nZ iy dk) gb)) eh gW) (gy (mn (mX di) (lG 3) (gP (iA cL (gZ zW (nZ Bp ge) cr)) eh gW)) (gy (iW 4 eA) (gy (mn cS fT (gy ar (gy aW (gy aj (gy aa (gy ae fK)))))) eC))))
def rg:List D->Option D:=ik 3 9 Ij
theorem Yy (T:iH K mg t):gN P w K mg base hG 2 t.a_q41 t.d_q41 ["run","many","most"] (iQ K rg) :=
 cV (iZ T.q41.F yz λ_ _ _ _ _ _ hr=>gR (lh (nU.b (mQ (oF (ny (tZ (T:="tuple") (by decide) rfl T.b_isinstance rfl T.b_tuple boot_tuple (gn 0)))) (mQ (pW (mj hr) (nN rfl T.b_len (gn 0)) gz) (mQ (oF (ny (tZ (T:="tuple") (by decide) rfl T.b_isinstance rfl T.b_tuple boot_tuple (gH (gn 0) gz)))) (sr (oF (ny (tZ (T:="tuple") (by decide) rfl T.b_isinstance rfl T.b_tuple boot_tuple (gH (gn 0) gz))))))))) (gK (ii (nL))) lU) (gR (lh (nU.b (mQ (pW (mj hr) (nN rfl T.b_len (gH (gn 0) gz)) (gn 1)) (sr (sP (nN rfl T.b_len (gH (gn 0) gz)) (gn 2))))) (gK (ii (nL))) lU) (gR (nG PassesOwn.never rfl (nk (gH (gn 0) gz)) (mJ 3 yz.nd) (gK (lh (nU.b (mQ (oF (ny (vc (Fa T) T.q35 hr (gr (gn 3) gD)))) (sr (Ix (zF0 rfl T.b_abs (gn 3)) (Fw gz gz))))) (gK (ii (nL))) lU))) (gR (la 4 (rN gz) yz.nd) (gR (nG PassesOwn.never rfl (nk (gH (gn 0) gz)) (mJ 5 yz.nd) (gR (lh (nU.b (mQ (oF (ny (tZ (T:="tuple") (by decide) rfl T.b_isinstance rfl T.b_tuple boot_tuple (gn 5)))) (sr (pW (mj hr) (nN rfl T.b_len (gn 5)) gz)))) (gK (ii (nL))) lU) (gR (Op (gn 5) (Ez rfl (wM (mJ 6 yz.nd) (wM (mJ 7 yz.nd) (wM (mJ 8 yz.nd) DX))))) (gR (lh (nU.b (mQ (oF (ny (vc (Fa T) T.q35 hr (gr (gn 6) gD)))) (mQ (oF (ny (vc (Fa T) T.q35 hr (gr (gn 7) gD)))) (sr (oF (ny (vc (Fa T) T.q35 hr (gr (gn 8) gD)))))))) (gK (ii (nL))) lU) (gR (lh (nU.b (mQ (BA (gn 6) (gn 4)) (mQ (Ix (gn 6) (gn 1)) (mQ (zF (gn 7) gz) (mQ (sP (gn 7) gz) (mQ (zF (gn 8) gz) (sr (sP (gn 8) (gH (PO.v (rp (gr gz (gr gz (gr gz (gr gz gD)))))) (wI (gn 1) gz)))))))))) (gK (ii (nL))) lU) (gR (lh (oC (mj hr) (zh (CA (gn 8) (gH (PO.v (rp (gr gz (gr gz (gr gz (gr gz (gr gz gD))))))) (gn 6))) gz) gz) (gK (ii (nL))) lU) (gK (la 4 (gn 6) yz.nd)))))))) (gK (ii (nL)))))))) rfl
theorem Aa:gB ["rule","run","rounds","made","told","hand","number","views"] ["rule","run","rounds"] (gs GO):=fO (by nofun)
def Vj (c:ib)(φ:D->Option D):FS:=gX (ir 3 (gG zb df)) (gX (si 4 ig) (gX (nl (my iL (un iy dN)) (mD 5) (mM (iJ iY (gL gC (gL gC ge gb) gf) fR) (gX (ir 6 fR) (gX (nl (nw ge) (mD 7) (mM (iJ iR gj fR) (ir 6 (oI 0 c φ (gL gC gh gf))) mW)) (yb 4 (pV (gu gf (gu gj ig)))))) mW)) (wR (go 4))))
def rW (c:ib)(φ:D->Option D):List D->Option D:=rX 0 3 8 c (Vj c φ)
theorem Qp (T:iH K mg t){c:ib}{φ:D->Option D}(hC:ng P w K mg base 8 c φ):gN P w K mg base hG 9 t.a_q51 t.d_q51 ["rule","run","rounds"] (wC K 0 c (rW c φ)) :=
 Al T.q51.F Aa (by decide) λ_ _ _ _ _ _ hr=>gR (la 3 (vc (Wh T) T.q29 hr (gr (gn 1) (gr (gn 2) gD))) Aa.nd) (gR (wd 4 (rp gD) Aa.nd) (gR (nG PassesOwn.never rfl (oY rfl T.b_range (nN rfl T.b_len (gH (gn 1) gz))) (mJ 5 Aa.nd) (gK (lh (AC (gH (gH (gn 3) (gn 2)) (gn 5)) nQ) (gR (la 6 nQ Aa.nd) (gR (nG PassesOwn.never rfl (nk (gn 3)) (mJ 7 Aa.nd) (gK (lh (yj (gn 6) nQ) (gK (la 6 (PQ 0 hC (hr.mono (by decide)) (gH (gn 7) (gn 5))) Aa.nd)) lU))) (gK (xO 4 (ox (gr (gn 5) (gr (gn 6) gD))))))) lU))) (gK (yW 4))))
theorem rf:gB ["script","k","mixed","many","numbers","j","found","run","told","hand","number","late","bound",".t"] ["script"] (gs xr):=fO (by nofun)
def SG:Scope:={ kind:=.function,names:=[(jC "view",.local),(jC "bound",.free),(jC "soon",.globalImplicit)],isGenerator:=false,isCoroutine:=false,more:=[] }
theorem zu2:sN "view" ["bound"] SG:=⟨rfl,rfl,rfl,by nofun,rfl,by nofun,by nofun,by nofun⟩
theorem OF:∀ y∈SG.names,y.2=.free->(gs xr).names.lookup y.1=Ga .cell\/(gs xr).names.lookup y.1=Ga .free:=by nofun
theorem XY:∀ (j i:Nat) (y:Str),([12]:List Nat)[j]?=Ga i->(["bound"]:List Str)[j]?=Ga y->(["script","k","mixed","many","numbers","j","found","run","told","hand","number","late","bound",".t"]:List Str)[i]?=Ga y:=λj i y h1 h2=>(by
  match j,h1,h2 with
  | 0,h1,h2=>cases h1;cases h2;rfl
  | j+1,h1,h2=>simp at h1)
def Rs:Scope:={ kind:=.function,names:=[(jC "seen",.local),(jC "bound",.free),(jC "soon",.globalImplicit)],isGenerator:=false,isCoroutine:=false,more:=[] }
theorem Yd:sN "seen" ["bound"] Rs:=⟨rfl,rfl,rfl,by nofun,rfl,by nofun,by nofun,by nofun⟩
theorem PD:∀ y∈Rs.names,y.2=.free->(gs xr).names.lookup y.1=Ga .cell\/(gs xr).names.lookup y.1=Ga .free:=by nofun
theorem Xo:∀ (j i:Nat) (y:Str),([12]:List Nat)[j]?=Ga i->(["bound"]:List Str)[j]?=Ga y->(["script","k","mixed","many","numbers","j","found","run","told","hand","number","late","bound",".t"]:List Str)[i]?=Ga y:=λj i y h1 h2=>(by
  match j,h1,h2 with
  | 0,h1,h2=>cases h1;cases h2;rfl
  | j+1,h1,h2=>simp at h1)
def SD:Scope:={ kind:=.function,names:=[(jC "asked",.local),(jC "bound",.free),(jC "soon",.globalImplicit)],isGenerator:=false,isCoroutine:=false,more:=[] }
theorem zu4:sN "asked" ["bound"] SD:=⟨rfl,rfl,rfl,by nofun,rfl,by nofun,by nofun,by nofun⟩
theorem QB:∀ y∈SD.names,y.2=.free->(gs xr).names.lookup y.1=Ga .cell\/(gs xr).names.lookup y.1=Ga .free:=by nofun
theorem Zi:∀ (j i:Nat) (y:Str),([12]:List Nat)[j]?=Ga i->(["bound"]:List Str)[j]?=Ga y->(["script","k","mixed","many","numbers","j","found","run","told","hand","number","late","bound",".t"]:List Str)[i]?=Ga y:=λj i y h1 h2=>(by
  match j,h1,h2 with
  | 0,h1,h2=>cases h1;cases h2;rfl
  | j+1,h1,h2=>simp at h1)
abbrev fW:=gv 12
abbrev dR:=gL gC gj fF
abbrev dS:=gL gC gj fG
abbrev dU:=gL gC gj (iu (.int 3))
abbrev eG:=xh 8 (gv 9) (gv 10)
abbrev eI:=gu fW (ig)
abbrev fX:=gv 11
def zC2 (mk:(D->Option D)->ib)(Pt:Gj):FS:=gX (nl (Mx tS fH (gL wz (iu (.int 63)) (un iy fZ)) (iu (.int 9))) (mD 1) (gX (ir 2 (gG xV (gu (sn wZ (xR (NA fZ (xE ga) (xE (gL iX ga (iu (.int 9))))))) eJ))) (gX (ir 3 (iu (.int 3))) (gX (mM (Uq dz (iJ iT (gL lP gb fG) fH)) (ir 3 (iu (.int 4))) mW) (gX (si 4 ig) (gX (nl (my iL ge) (mD 5) (yb 4 (gL lM (gL lP (gG oZ (gu fZ (gu (gL iX ga gf) ig))) (gL gC (mm (gu (gL nE fG (gL sf (iu (.int 10)) (iu (.int 59)))) (gu (iu (.int 3)) ig))) (gL lP (gL nX gb fG) fG))) fF))) (gX (ir 12 (gL iX fF (gL lP (gL nX gb (iu (.int 4))) (gL lM ge fG)))) (gX (ir 6 (mi 13 Pt mk (gG om cZ) tD [12] (gu (pV (gu (sn oH (gl 4)) (gu (pV ig) ig))) (gu fW eI)))) (gX (mM (tU (rK (nz (un fI gj))) (tU (iJ lL (un iy gj) (iu (.int 4))) (iJ lL (gL gC gj fH) (iu (.str fS))))) em mW) (gX (mM (rK (nz (gG rg (gu dR (gu ge eI))))) em mW) (gX (ir 7 (pV (gu (gL gC dR fH) (gu (sn oH (ip (nw (gL gC dR fF)) (iJ pC dD ga) fZ [12])) ig)))) (gX (HM 8) (gX (nl (nw (mi 13 Pt mk (gG om cZ) rW [12] (gu gh eI))) (KI (tY (mD 9) (tY (mD 10) (Bu)))) eG) (gX (mM (tU (iJ lL (un iy (gL gC gh fF)) fW) (tU (iJ ls dS gi) (tU (iJ ls dU gi) (rK (iJ rj dS dU))))) em mW) (gX (mM (iJ iT (gL iR (gL iI gi dS) fR) (gL iR (gL iI gi dU) fR)) em mW) (gX (ir 11 dS) (gX (mM (iJ iY (gL iI gi fX) fR) (ir 11 dU) mW) (mM (iJ iR (gL iI (we (xR (mi 13 Pt mk (gG om cZ) rW [12] (gu gh (gu (gL iX fW fF) ig))))) fX) fR) em mW)))))))))))))))))) (iM (iu (.bool true)))
def zkX (mk:(D->Option D)->ib)(Pt:Gj):List D->Option D:=Ab 1 14 Pt (zC2 mk Pt)
theorem zAh (T:iH K mg t):gN P w K mg base hG 36 t.a_q69 t.d_q69 ["script"] (spT K t.Pt (zkX (yh P w K mg base 8) t.Pt)) :=
 okT T.q69.F T.lam_cd rf (by decide) (by decide) λ_ _ _ _ _ hr=>gR (nG PassesOwn.never rfl (zDP rfl T.b_range gz (VN rfl rfl T.b_min gz (nN rfl T.b_len (gn 0))) gz) (mJ 1 rf.nd) (gR (la 2 (vc (zoQ T) T.q27 hr (gr (Wu rfl rfl T.b_sum (PV.sh (tE (gn 0) (sW (gn 1)) (sW (nT (gn 1) gz))))) (gr (gn 1) gD))) rf.nd) (gR (la 3 gz rf.nd) (gR (lh (nU.b (EC (oC (mj hr) (gn 1) gz) (EZ (oC (mj hr) (zh (gn 2) gz) gz)))) (gK (la 3 gz rf.nd)) lU) (gR (wd 4 (rp gD) rf.nd) (gR (nG PassesOwn.never rfl (oY rfl T.b_range (gn 3)) (mJ 5 rf.nd) (gK (xO 4 (wI (zh (vc (Xd T) T.q14 hr (gr (gn 0) (gr (nT (gn 1) (gn 5)) gD))) (gH (PO.v (rp (gr (Ba gz (Fw gz gz)) (gr gz gD)))) (zh (CA (gn 2) gz) gz))) gz)))) (gR (la 12 (nT gz (zh (CA (gn 2) gz) (wI (gn 3) gz))) rf.nd) (gR (la 6 (IX 13 (kl:=7) zu2 OF (by nofun) (λ_=>rfl) rfl XY (λ_ _ _ _ _ _ _=>rfl) (λqual fl cdl cl A outer s H hr=>vc (Hg T) T.q68 hr (gr (gn 0) (gr (gn 1) gD))) (λφ=>VJ T (Mm P w K mg base (7+1) φ)) (hr.mono (by decide)) T.q61.m T.q61.F.kp T.q61.b (Mi ⟨rfl,λh Y=>vA Y T.lam_hd,T.lam_bm⟩ OF (by nofun) (gr (ox (gr (yI rfl T.b_tuple (su 4)) (gr (ox gD) gD))) (gr (gn 12) (gr (gn 12) gD))))) rf.nd) (gR (lh (nU.b (mQ (oF (ny (tZ (T:="tuple") (by decide) rfl T.b_isinstance rfl T.b_tuple boot_tuple (gn 6)))) (mQ (pW (mj hr) (nN rfl T.b_len (gn 6)) gz) (sr (pW (mj hr) (gH (gn 6) gz) LI))))) (gK (ii (nL))) lU) (gR (lh (oF (ny (vc (Yy T) T.q41 hr (gr (gH (gn 6) gz) (gr (gn 3) (gr (gn 12) gD)))))) (gK (ii (nL))) lU) (gR (la 7 (ox (gr (gH (gH (gn 6) gz) gz) (gr (yI rfl T.b_tuple (PO.sh (oP rfl (cO rf (fr:=["bound"]) (by nofun)) (nk (gH (gH (gn 6) gz) gz)) (pH (by nofun) rfl (λcl C s H fp ω=>BA (gH (gn 0) gz) (gn 1)) (λcl C s H fp ω=>gn 0))))) gD))) rf.nd) (gR (QR 8 rf.nd) (gR (nG PassesOwn.never rfl (nk (IX 13 (kl:=7) Yd PD (by nofun) (λ_=>rfl) rfl Xo (λ_ _ _ _ _ _ _=>rfl) (λqual fl cdl cl A outer s H hr=>vc (Hg T) T.q68 hr (gr (gn 0) (gr (gn 1) gD))) (λφ=>Qp T (Mm P w K mg base (7+1) φ)) (hr.mono (by decide)) T.q51.m T.q51.F.kp T.q51.b (Mi ⟨rfl,λh Y=>vA Y T.lam_hd,T.lam_bm⟩ PD (by nofun) (gr (gn 7) (gr (gn 12) gD))))) (Ez rfl (wM (mJ 9 rf.nd) (wM (mJ 10 rf.nd) DX))) (gK (Qr 8 (gn 9) (gn 10)))) (gR (lh (nU.b (mQ (pW (mj hr) (nN rfl T.b_len (gH (gn 7) gz)) (gn 12)) (mQ (PK (gH (gn 6) gz) (gn 8)) (mQ (PK (gH (gn 6) gz) (gn 8)) (sr (oF (zF (gH (gn 6) gz) (gH (gn 6) gz)))))))) (gK (ii (nL))) lU) (gR (lh (oC (mj hr) (DA (Eu (gn 8) (gH (gn 6) gz)) nQ) (DA (Eu (gn 8) (gH (gn 6) gz)) nQ)) (gK (ii (nL))) lU) (gR (la 11 (gH (gn 6) gz) rf.nd) (gR (lh (AC (Eu (gn 8) (gn 11)) nQ) (gK (la 11 (gH (gn 6) gz) rf.nd)) lU) (gK (lh (yj (Eu (zC1 rfl rfl T.b_dict (PV.sh (IX 13 (kl:=7) zu4 QB (by nofun) (λ_=>rfl) rfl Zi (λ_ _ _ _ _ _ _=>rfl) (λqual fl cdl cl A outer s H hr=>vc (Hg T) T.q68 hr (gr (gn 0) (gr (gn 1) gD))) (λφ=>Qp T (Mm P w K mg base (7+1) φ)) (hr.mono (by decide)) T.q51.m T.q51.F.kp T.q51.b (Mi ⟨rfl,λh Y=>vA Y T.lam_hd,T.lam_bm⟩ QB (by nofun) (gr (gn 7) (gr (nT (gn 12) gz) gD)))))) (gn 11)) nQ) (gK (ii (nL))) lU))))))))))))))))))) (gK (ii (nL)))
set_option autoImplicit true in
theorem zEQ {K:ja}{mg:Str->Option Gg}{h:Heap}(X:K.In h)(G:h.Ns mainGlobals mg) (w_q45:iz K "is_whole" Nh cd_q45 a_q45 d_q45) (w_q60:iz K "bit_of" GG cd_q60 a_q60 d_q60) (w_q48:iz K "has_hand" Kv cd_q48 a_q48 d_q48) (w_q57:iz K "mask_of" Hv cd_q57 a_q57 d_q57) (w_q40:iz K "hands_in" Ma cd_q40 a_q40 d_q40) (w_q37:iz K "is_number" II cd_q37 a_q37 d_q37) (w_q13:iz K "are_numbers" HF cd_q13 a_q13 d_q13) (w_q22:iz K "many_hands" MP cd_q22 a_q22 d_q22) (w_q55:iz K "fall_of" LG cd_q55 a_q55 d_q55) (w_q11:iz K "without_fall" Gy cd_q11 a_q11 d_q11) (w_q31:iz K "with_fall" Gw cd_q31 a_q31 d_q31) (w_q16:iz K "with_number" Nr cd_q16 a_q16 d_q16) (w_q64:iz K "is_up" HL cd_q64 a_q64 d_q64) (w_q32:iz K "who_is_up" MM cd_q32 a_q32 d_q32) (w_q63:iz K "comes" Kp cd_q63 a_q63 d_q63) (w_q65:iz K "keeps" HN cd_q65 a_q65 d_q65) (w_q2:iz K "with_reach_turned" Kd cd_q2 a_q2 d_q2) (w_q0:iz K "changed_while_hushed" KL cd_q0 a_q0 d_q0) (w_q59:iz K "hushed" Na cd_q59 a_q59 d_q59) (w_q26:iz K "all_heard" Ms cd_q26 a_q26 d_q26) (w_q10:iz K "is_found_out" Nk cd_q10 a_q10 d_q10) (w_q36:iz K "found_out" HQ cd_q36 a_q36 d_q36) (w_q49:iz K "waste_of" HV cd_q49 a_q49 d_q49) (w_q6:iz K "closing_round" LS cd_q6 a_q6 d_q6) (w_q53:iz K "is_open" Ki cd_q53 a_q53 d_q53) (w_q1:iz K "without_late_falls" Nd cd_q1 a_q1 d_q1) (w_q17:iz K "heard_falls" Iu cd_q17 a_q17 d_q17) (w_q12:iz K "fallen_next" IL cd_q12 a_q12 d_q12) (w_q4:iz K "with_heard_next" Mt cd_q4 a_q4 d_q4) (w_q66:iz K "risen" GJ cd_q66 a_q66 d_q66) (w_q8:iz K "heard_healed" Ld cd_q8 a_q8 d_q8) (w_q23:iz K "made_heard" Lb cd_q23 a_q23 d_q23) (w_q9:iz K "round_healed" Nt cd_q9 a_q9 d_q9) (w_q62:iz K "healed" GN cd_q62 a_q62 d_q62) (w_q24:iz K "renumbered" MQ cd_q24 a_q24 d_q24) (w_q5:iz K "are_numbers_for" Ha cd_q5 a_q5 d_q5) (w_q50:iz K "chain_of" Mg cd_q50 a_q50 d_q50) (w_q20:iz K "view_behind" LV cd_q20 a_q20 d_q20) (w_q7:iz K "views_behind" Nz cd_q7 a_q7 d_q7) (w_q39:iz K "views_of" Ll cd_q39 a_q39 d_q39) (w_q46:iz K "own_part" Hf cd_q46 a_q46 d_q46) (w_q25:iz K "rounds_of" Lj cd_q25 a_q25 d_q25) (w_q42:iz K "own_past" LO cd_q42 a_q42 d_q42) (w_q43:iz K "parts_of" KP cd_q43 a_q43 d_q43) (w_q30:iz K "layers_of" Ng cd_q30 a_q30 d_q30) (w_q67:iz K "known" NI cd_q67 a_q67 d_q67) (w_q19:iz K "least_known" ME cd_q19 a_q19 d_q19) (w_q38:iz K "heard_of" Ig cd_q38 a_q38 d_q38) (w_q21:iz K "missing_in" LK cd_q21 a_q21 d_q21) (w_q47:iz K "is_clean" KH cd_q47 a_q47 d_q47) (w_q33:iz K "choice_by" Ka cd_q33 a_q33 d_q33) (w_q28:iz K "number_by" LR cd_q28 a_q28 d_q28) (w_q58:iz K "told_by" MI cd_q58 a_q58 d_q58) (w_q52:iz K "all_told" NF cd_q52 a_q52 d_q52) (w_q54:iz K "torn_in" LW cd_q54 a_q54 d_q54) (w_q34:iz K "strangers" Mn cd_q34 a_q34 d_q34) (w_q56:iz K "torn_on" MB cd_q56 a_q56 d_q56) (w_q15:iz K "broken_from" LB cd_q15 a_q15 d_q15) (w_q61:iz K "broken" LC cd_q61 a_q61 d_q61) (w_q3:iz K "is_behind_bound" Ia cd_q3 a_q3 d_q3) (w_q18:iz K "least_where" KJ cd_q18 a_q18 d_q18) (w_q68:iz K "soon" KZ cd_q68 a_q68 d_q68) (w_q14:iz K "_law_cell_at" IT cd_q14 a_q14 d_q14) (w_q35:iz K "_law_whole" NL cd_q35 a_q35 d_q35) (w_q27:iz K "_law_mixed" GI cd_q27 a_q27 d_q27) (w_q44:iz K "_law_view" Kt cd_q44 a_q44 d_q44) (w_q29:iz K "_law_views" LZ cd_q29 a_q29 d_q29) (w_q41:iz K "_law_good" GR cd_q41 a_q41 d_q41) (w_q51:iz K "_law_told" GO cd_q51 a_q51 d_q51) (w_q69:iz K "law" xr cd_q69 a_q69 d_q69) (z_abs:kb K mainGlobals "abs"=Ga Gb) (z_all:kb K mainGlobals "all"=Ga Gb) (z_bool:kb K mainGlobals "bool"=Ga Gb) (z_dict:kb K mainGlobals "dict"=Ga Gb) (z_int:kb K mainGlobals "int"=Ga Gb) (z_isinstance:kb K mainGlobals "isinstance"=Ga Gb) (z_len:kb K mainGlobals "len"=Ga Gb) (z_list:kb K mainGlobals "list"=Ga Gb) (z_max:kb K mainGlobals "max"=Ga Gb) (z_min:kb K mainGlobals "min"=Ga Gb) (z_range:kb K mainGlobals "range"=Ga Gb) (z_reversed:kb K mainGlobals "reversed"=Ga Gb) (z_sorted:kb K mainGlobals "sorted"=Ga Gb) (z_sum:kb K mainGlobals "sum"=Ga Gb) (z_tuple:kb K mainGlobals "tuple"=Ga Gb) {k_LAST_ROUND} (c_LAST_ROUND:kb K mainGlobals "LAST_ROUND"=Ga (Ga (.int 5 k_LAST_ROUND))) {k_LEAST_HANDS} (c_LEAST_HANDS:kb K mainGlobals "LEAST_HANDS"=Ga (Ga (.int 2 k_LEAST_HANDS))) {k_MOST_HANDS} (c_MOST_HANDS:kb K mainGlobals "MOST_HANDS"=Ga (Ga (.int 5 k_MOST_HANDS))) {c0 Pt bm:Gj} {slm:Array (Option Gg)} (l_1:cd_q69=.ref c0) (l_2:qH K c0 Pt=true) (l_3:kb K mainGlobals "__builtins__"=Ga (Ga (.ref bm))) (l_4:K.lookup bm=Ga ⟨.type "module",Ga builtinsNs,.plain,slm⟩) (l_5:bm≠builtinsNs) (l_6:bm≠mainGlobals) : ∃ t,iH K mg t/\t.Pt=Pt/\t.a_q69=a_q69/\∀ (s:Gh) (v:Gg),BindsTo s t.d_q69 ⟨[v],[]⟩ [("script",v)]:=by
 exact⟨⟨a_q45,d_q45,a_q60,d_q60,a_q48,d_q48,a_q57,d_q57,a_q40,d_q40,a_q37,d_q37,a_q13,d_q13,a_q22,d_q22,a_q55,d_q55,a_q11,d_q11,a_q31,d_q31,a_q16,d_q16,a_q64,d_q64,a_q32,d_q32,a_q63,d_q63,a_q65,d_q65,a_q2,d_q2,a_q0,d_q0,a_q59,d_q59,a_q26,d_q26,a_q10,d_q10,a_q36,d_q36,a_q49,d_q49,a_q6,d_q6,a_q53,d_q53,a_q1,d_q1,a_q17,d_q17,a_q12,d_q12,a_q4,d_q4,a_q66,d_q66,a_q8,d_q8,a_q23,d_q23,a_q9,d_q9,a_q62,d_q62,a_q24,d_q24,a_q5,d_q5,a_q50,d_q50,a_q20,d_q20,a_q7,d_q7,a_q39,d_q39,a_q46,d_q46,a_q25,d_q25,a_q42,d_q42,a_q43,d_q43,a_q30,d_q30,a_q67,d_q67,a_q19,d_q19,a_q38,d_q38,a_q21,d_q21,a_q47,d_q47,a_q33,d_q33,a_q28,d_q28,a_q58,d_q58,a_q52,d_q52,a_q54,d_q54,a_q34,d_q34,a_q56,d_q56,a_q15,d_q15,a_q61,d_q61,a_q3,d_q3,a_q18,d_q18,a_q68,d_q68,a_q14,d_q14,a_q35,d_q35,a_q27,d_q27,a_q44,d_q44,a_q29,d_q29,a_q41,d_q41,a_q51,d_q51,a_q69,d_q69,c0,Pt⟩,⟨iK X G w_q45,iK X G w_q60,iK X G w_q48,iK X G w_q57,iK X G w_q40,iK X G w_q37,iK X G w_q13,iK X G w_q22,iK X G w_q55,iK X G w_q11,iK X G w_q31,iK X G w_q16,iK X G w_q64,iK X G w_q32,iK X G w_q63,iK X G w_q65,iK X G w_q2,iK X G w_q0,iK X G w_q59,iK X G w_q26,iK X G w_q10,iK X G w_q36,iK X G w_q49,iK X G w_q6,iK X G w_q53,iK X G w_q1,iK X G w_q17,iK X G w_q12,iK X G w_q4,iK X G w_q66,iK X G w_q8,iK X G w_q23,iK X G w_q9,iK X G w_q62,iK X G w_q24,iK X G w_q5,iK X G w_q50,iK X G w_q20,iK X G w_q7,iK X G w_q39,iK X G w_q46,iK X G w_q25,iK X G w_q42,iK X G w_q43,iK X G w_q30,iK X G w_q67,iK X G w_q19,iK X G w_q38,iK X G w_q21,iK X G w_q47,iK X G w_q33,iK X G w_q28,iK X G w_q58,iK X G w_q52,iK X G w_q54,iK X G w_q34,iK X G w_q56,iK X G w_q15,iK X G w_q61,iK X G w_q3,iK X G w_q18,iK X G w_q68,iK X G w_q14,iK X G w_q35,iK X G w_q27,iK X G w_q44,iK X G w_q29,iK X G w_q41,iK X G w_q51,iK X G w_q69,j6 X G z_abs,j6 X G z_all,j6 X G z_bool,j6 X G z_dict,j6 X G z_int,j6 X G z_isinstance,j6 X G z_len,j6 X G z_list,j6 X G z_max,j6 X G z_min,j6 X G z_range,j6 X G z_reversed,j6 X G z_sorted,j6 X G z_sum,j6 X G z_tuple,w_q69.code.trans l_1,l_2,⟨bm,_,vY X G l_3,l_5,l_6,l_4,rfl,rfl,rfl⟩,⟨_,vY X G c_LAST_ROUND⟩,⟨_,vY X G c_LEAST_HANDS⟩,⟨_,vY X G c_MOST_HANDS⟩⟩,rfl,rfl,w_q69.bt (Q:=λfd=>∀ (s:Gh) (v:Gg),BindsTo s fd ⟨[v],[]⟩ [("script",v)]) λ_ _ _ _ _ _ _ _=>.of_eq rfl⟩
theorem zER {l:Program}{w:World}{K:ja}{mg:Str->Option Gg}{h:Heap}{fa a Pt:Gj}(X:K.In h)(G:h.Ns mainGlobals mg)(hmg:mg "law"=Ga (.ref fa))
  (z:∃ t,iH K mg t/\t.Pt=Pt/\t.a_q69=a/\∀ (s:Gh) (v:Gg),BindsTo s t.d_q69 ⟨[v],[]⟩ [("script",v)]) :
  ∃ fd:Gi,(∀ (s:Gh) (v:Gg),BindsTo s fd ⟨[v],[]⟩ [("script",v)])/\∀ base:Heap,K.In base->base.Ns mainGlobals mg->gN l w K mg base hG 36 fa fd ["script"] (λvs H Q E=>∀ mk,spT K Pt (zkX mk Pt) vs H Q E):=by
 obtain⟨t,T,rfl,_,hb⟩:=z;have e:=hmg.symm.trans T.q69.m;cases e;exact⟨t.d_q69,hb,λbase _ _=>(zAh T).imp λvs H Q E h=>h _⟩
end
noncomputable section
open PySem PySem.Spec PyProof.Rows L2 T3
theorem zp9 (x0:D):yS [x0]=gO (Nq [.val x0]):=rfl
theorem zoS (x0:D):Az [x0]=gO (LD [.val x0]):=rfl
theorem zmK (x0:D):AV [x0]=gO (Hy [.val x0]):=rfl
theorem YV (x0 x1:D):CY [x0,x1]=gO (Kl [.val x0,.val x1]):=rfl
theorem ZI (x0 x1 x2 x3:D):xy [x0,x1,x2,x3]=gO (IK [.val x0,.val x1,.val x2,.val x3,.no]):=rfl
theorem WS (x0 x1 x2:D):tH [x0,x1,x2]=gO (Nl [.val x0,.val x1,.val x2,.no]):=rfl
theorem zh0 (x0 x1 x2:D):zf [x0,x1,x2]=gO (MJ [.val x0,.val x1,.val x2,.no]):=rfl
abbrev cy:=gI gb (gI ge (gI gc lD))
def GQ (oO:List D->Option (List D)):FS:=lY (gw iX (oD (sY oO (gI fZ cy))) (oD (OB (sY oO (gI ga cy)))))
abbrev bA:=gI (gw iX gb fA) fg
abbrev dW:=gI ga (gI gc lD)
abbrev eH:=gZ lL fZ ga
def Cz (oO:List D->Option (List D))(pR:List D->Option D):FS:=gy (gP (gZ pB gb ge) (Ar eW) gW) (gy (BQ 5 (wo 5 (ip (mX (oD (sY sw dJ))) eH fZ [1]))) (gy (wo 6 (sY oO (gI fZ (gI ga bA)))) (gy (oh 6 (gY xy (gI fZ (gI ga (gI gb (gI (gY wk fq) lD)))))) (gy (mn (mX gf) (lG 4) (gy (iW 7 (BI (gl 6) eA)) (gy (iW 8 (gY zf (gI gh dW))) (tX 6 (oM (gY pR (gI gh (gI gi (gI gc bA)))) eS oU))))) (Ar (go 6))))))
theorem RP (n:Nat)(x0 x1 x2 x3:D):oO (n+1) [x0,x1,x2,x3]=rH (Cz (oO n) (pR n) [.val x0,.val x1,.val x2,.val x3,.no,.no,.no,.no,.no]):=rfl
theorem Qz (n:Nat)(x0 x1 x2 x3 x4:D):pR n [x0,x1,x2,x3,x4]=gO (GQ (oO n) [.val x0,.val x1,.val x2,.val x3,.val x4]):=rfl
theorem WT (x0 x1:D):yP [x0,x1]=gO (IZ [.val x0,.val x1]):=rfl
theorem zmM (x0 x1:D):yG [x0,x1]=gO (IA [.val x0,.val x1,.no]):=rfl
theorem zlL (x0 x1 x2:D):zR [x0,x1,x2]=rH (Mo [.val x0,.val x1,.val x2,.no,.no,.no]):=rfl
theorem YL (x0 x1 x2:D):yO [x0,x1,x2]=gO (NK [.val x0,.val x1,.val x2,.no,.no,.no]):=rfl
theorem zsO (x0 x1 x2:D):AJ [x0,x1,x2]=gO (KY [.val x0,.val x1,.val x2,.no,.no,.no]):=rfl
theorem znR (x0 x1 x2:D):zq [x0,x1,x2]=gO (HG [.val x0,.val x1,.val x2,.no,.no,.no,.no]):=rfl
theorem zjG (x0 x1:D):zx [x0,x1]=gO (MT [.val x0,.val x1]):=rfl
theorem zqA (x0 x1 x2 x3:D):zc [x0,x1,x2,x3]=gO (GK [.val x0,.val x1,.val x2,.val x3,.no,.no]):=rfl
abbrev dA:=gZ iT ga fy
def RA:FS:=gy (iW 1 (gY rO eW)) (gy (gP dA eh gW) (gy (gP (gZ iT ga fA) (lY (gw iT (gY DQ eW) fy)) gW) (lY (gw iT (gY As eW) (gY As (gI (gY zY eW) lD))))))
theorem zqB (x0:D):zX [x0]=gO (RA [.val x0,.no]):=rfl
abbrev aJ:=gP (gZ iY ge fQ) (lY (nY dG)) (gW)
def Rj (c:ib)(φ:D->Option D):FS:=gy (mn (tP iL (gw iX (gY rO eZ) fA)) (lG 2) (gy (iW 3 (oI 0 c φ (gY Cd dM))) aJ)) fk
theorem zoU (c:ib)(φ:D->Option D)(x0:D):AD c φ [x0]=gO (Rj c φ [.fn c,.val x0,.no,.no]):=rfl
abbrev aK:=lY (Bh (gZ iR gb fQ) fQ (gw gC gb fA))
def OU (c:ib)(φ:D->Option D):FS:=gy (iW 2 (lw 0 c (AD c φ) eZ)) aK
theorem zoV (c:ib)(φ:D->Option D)(x0:D):Ah c φ [x0]=gO (OU c φ [.fn c,.val x0,.no]):=rfl
abbrev dg:=gI (gw gC gb fZ) (lD)
def SB (c:ib)(φ:D->Option D):FS:=gy (iW 3 (gY Cw dM)) (lY (oD (ip (mX (oD (sY sw dM))) (λ_=>Ga true) (nY (gI fZ (gI (lw 1 c (Ah c φ) dg) lD))) [0,3])))
theorem Zv (c:ib)(φ:D->Option D)(x0 x1:D):mY c φ [x0,x1]=gO (SB c φ [.fn c,.val x0,.val x1,.no]):=rfl
theorem zqC (x0 x1:D):oG [x0,x1]=gO (Lv [.val x0,.val x1]):=rfl
theorem zrK (x0 x1:D):sD [x0,x1]=gO (Kx [.val x0,.val x1,.no]):=rfl
theorem zoW (x0 x1:D):yJ [x0,x1]=gO (IQ [.val x0,.val x1]):=rfl
abbrev bv:=iW 6 (gw nX (gw iX gc gf) fx)
abbrev bR:=gZ pB (gw lM gf gc) fA
abbrev bY:=gI (gw gC ga gj) fg
abbrev fL:=iW 5 gj
def Pr (c:ib)(φ:D->Option D):FS:=gy (iW 4 fy) (gy (iW 5 (gw lM (nZ iy ga) fA)) (gy (mz bR (gy bv (gP (lO (gY oG (gI (lw 0 c (mY c φ) bY) fj))) fK fL)) 100) (lY (gY sD (gI (gw gC ga gf) (gI (lw 0 c (mY c φ) (gI (gw gC ga gf) fg)) lD))))))
theorem Yl (c:ib)(φ:D->Option D)(x0 x1 x2:D):zZ c φ [x0,x1,x2]=gO (Pr c φ [.fn c,.val x0,.val x1,.val x2,.no,.no,.no]):=rfl
abbrev cz:=gw gC gj eA
def Re (c:ib)(φ:D->Option D):FS:=gy (iW 5 (Bh (gZ iT gc fy) fA fy)) (gy (iW 6 (gY zc (gI ga (gI gb (gI ge (gI (pX oH (ip (tP iL (gY pe eZ)) (λ_=>Ga true) ga [5])) lD)))))) (gy (iW 7 (gY yJ (gI (lw 0 c (mY c φ) (gI cz fg)) fq))) (gy (gP (gZ pB (nZ iy gh) fy) (lY (nY (gI (lQ (.str fJ)) (gI cz (gI (gw gC gh fy) lD))))) gW) (lY (lw 0 c (zZ c φ) (gI gj (gI gc fg)))))))
theorem zmN (c:ib)(φ:D->Option D)(x0 x1 x2 x3:D):yE c φ [x0,x1,x2,x3]=gO (Re c φ [.fn c,.val x0,.val x1,.val x2,.val x3,.no,.no,.no]):=rfl
def LQ (c:ib)(φ:D->Option D):FS:=gy (gP (og (lO (gY sZ cu))) Ft gW) (gy (iW 4 (lw 0 c (mY c φ) (gI ga fg))) (gy (iW 5 (gw gC (gw gC gc fy) fA)) (gy (gP (og (lO (gY oG dQ))) (lY (gY sD dW)) gW) (gy (gP (gZ iR gf fQ) fk gW) (lY (lw 0 c (yE c φ) (gI ga (gI gb (gI ge fq)))))))))
theorem Pb (c:ib)(φ:D->Option D)(x0 x1 x2:D):tD c φ [x0,x1,x2]=gO (LQ c φ [.fn c,.val x0,.val x1,.val x2,.no,.no]):=rfl
theorem zjH (x0 x1:D):BN [x0,x1]=gO (Mh [.val x0,.val x1]):=rfl
theorem XA (x0 x1:D):BZ [x0,x1]=gO (Ky [.val x0,.val x1]):=rfl
theorem Xg (x0 x1:D):om [x0,x1]=gO (Ko [.val x0,.val x1]):=rfl
theorem YS (x0 x1:D):oZ [x0,x1]=gO (GX [.val x0,.val x1]):=rfl
theorem Zp (x0:D):zB [x0]=gO (MN [.val x0]):=rfl
theorem zoY (x0 x1:D):xV [x0,x1]=gO (GT [.val x0,.val x1,.no]):=rfl
theorem QZ (x0 x1 x2 x3:D):yZ [x0,x1,x2,x3]=gO (FI [.val x0,.val x1,.val x2,.val x3,.no,.no,.no,.no]):=rfl
theorem zoZ (x0 x1:D):zb [x0,x1]=gO (He [.val x0,.val x1,.no,.no,.no,.no,.no]):=rfl
theorem VZ (x0 x1 x2:D):rg [x0,x1,x2]=gO (Ij [.val x0,.val x1,.val x2,.no,.no,.no,.no,.no,.no]):=rfl
abbrev ba:=gZ iY (gw gC (gw gC ge gb) gf) fQ
abbrev bI:=tP iL (nZ iy dr)
abbrev cX:=nY (gI gf (gI gj lD))
abbrev dZ:=gZ iR gj fQ
abbrev eE:=gw gC gh gf
def OI (c:ib)(φ:D->Option D):FS:=gy (iW 3 (gY zb dM)) (gy fM (gy (mn bI fT (gP ba (gy (iW 6 fQ) (gy (mn (mX ge) fU (gP dZ (iW 6 (oI 0 c φ eE)) gW)) (oh 4 cX))) gW)) fN))
theorem Wc (c:ib)(φ:D->Option D)(x0 x1:D):rW c φ [x0,x1]=gO (OI c φ [.fn c,.val x0,.val x1,.no,.no,.no,.no,.no]):=rfl
abbrev dt:=gw gC gj fA
abbrev af:=iW 7 (nY (gI (gw gC dt fy) (gI (pX oH (ip (mX (gw gC dt fA)) bU fZ [12])) lD)))
abbrev ag:=gP (iA (og (lO (nZ fI gj))) (iA (gZ lL (nZ iy gj) fC) (gZ lL (gw gC gj fy) (lQ (.str fS))))) eh (gW)
abbrev bp:=gw lP (gw nX gb fx) fx
abbrev ah:=gw gC (oD (gI (gw nE fx (gw sf fv (lQ (.int 59)))) (gI fE lD))) bp
abbrev aq:=gP (AK dA (gZ iT (gw lP gb fx) fy)) (iW 3 fC) (gW)
abbrev ay:=iW 12 (gw iX fA (gw lP (gw nX gb fC) (gw lM ge fx)))
abbrev eT:=gI fW (lD)
abbrev aF:=gI (nY (gI (pX oH (gl 4)) (gI (nY lD) lD))) (gI fW eT)
abbrev du:=gw gC gj fx
abbrev dv:=gw gC gj fE
abbrev aN:=og (gZ rj du dv)
abbrev aV:=gI dt (gI ge eT)
abbrev bc:=oM fZ (Bb ga) (Bb (gw iX ga fB))
abbrev br:=gZ lL (nZ iy (gw gC gh fA)) fW
abbrev bx:=gI gh (gI (gw iX fW fA) lD)
abbrev bX:=gI fZ (gI (gw iX ga gf) lD)
abbrev cA:=xZ (wp (lG 9) (wp (lG 10) Dd))
abbrev cD:=iW 11 du
abbrev cE:=iW 11 dv
abbrev dB:=gI gh eT
abbrev fu:=tP iL ge
abbrev fY:=MC 8
def Tj (mk:(D->Option D)->ib)(Pt:Gj):FS:=gy (mn (MU tS fy (gw wz (lQ (.int 63)) ft) fB) (lG 1) (gy (iW 2 (gY xV (gI (pX wZ (sK bc)) eZ))) (gy (iW 3 fE) (gy aq (gy fM (gy (mn fu fT (oh 4 (gw lM (gw lP (gY oZ bX) ah) fA))) (gy ay (gy (iW 6 (mi 13 Pt mk (gY om dF) tD [12] aF)) (gy ag (gy (gP (og (lO (gY rg aV))) eh gW) (gy af (gy fY (gy (mn (mX (mi 13 Pt mk (gY om dF) rW [12] dB)) cA eG) (gy (gP (iA br (iA (gZ ls du gi) (iA (gZ ls dv gi) aN))) eh gW) (gy (gP (gZ iT (gw iR (gw iI gi du) fQ) (gw iR (gw iI gi dv) fQ)) eh gW) (gy cD (gy (gP (gZ iY (gw iI gi fX) fQ) cE gW) (gP (gZ iR (gw iI (we (sK (mi 13 Pt mk (gY om dF) rW [12] bx))) fX) fQ) eh gW)))))))))))))))))) eC
theorem ZZ (mk:(D->Option D)->ib)(Pt:Gj)(x0:D):zkX mk Pt [x0]=gO (Tj mk Pt [.val x0,.no,.no,.no,.no,.no,.no,.no,.no,.no,.no,.no,.no,.tab Pt]):=rfl
end
open PySem T3
theorem Pa (a:Sl):∀ (ds:List D) (b:Int) (x:Sl),∃ x',iP (mD 2) (ir 1 (gL nE (gv 1) (iu (.int 2)))) ds [a,.val (.int b),x]=Ga (.nx [a,.val (.int (b*2^ds.length)),x'])
 | [],b,x=>⟨x,by simp[iP]⟩
 | d::r,b,x=>by
  obtain⟨x',e⟩:=Pa a r (b*2) (.val d);refine⟨x',?_⟩;have hm:nE (.int b) (.int 2)=Ga (.int (b*2)):=by simp[nE,dI,wq]
  unfold iP;simp only[mD,ir,gL,iu,gv,List.set_cons_succ,List.set_cons_zero,vI,List.getElem?_cons_zero,jn,hm];rw[show(gL nE (gv 1) (iu (.int 2)):FV)=λψ=>(gv 1 ψ).bind λx=>(iu (.int 2) ψ).bind λy=>nE x y from rfl] at e;refine e.trans ?_;rw[jB,Int.pow_succ',Int.mul_assoc]
theorem Lm (n:Int)(h0:0<=n)(h1:n<1000):xo [.int n]=Ga (.int (2^n.toNat)):=by
 show gO (GA [.val (.int n),.no,.no])=_;have hr:iL (.int n)=Ga (lN 0 n.toNat):=by unfold iL;dsimp only;rw[Ge (by constructor<;>omega)]
 obtain⟨x',e⟩:=Pa (.val (.int n)) (lN 0 n.toNat) 1 .no;have hl:(lN 0 n.toNat).length=n.toNat:=by simp[lN]
 rw[hl,Int.one_mul] at e;unfold GA;have e1:ir 1 (iu (.int 1)) [.val (.int n),.no,.no]=Ga (.nx [.val (.int n),.val (.int 1),.no]):=rfl;have e2:nl (my iL (gv 0)) (mD 2) (ir 1 (gL nE (gv 1) (iu (.int 2)))) [.val (.int n),.val (.int 1),.no]=Ga (.nx [.val (.int n),.val (.int (2^n.toNat)),x']):=by
  show(iL (.int n)).bind (λds=>iP _ _ ds _)=_;rw[hr];exact e
 show gO (mf (ir 1 (iu (.int 1)) [.val (.int n),.no,.no]) _)=_;rw[e1];show gO (mf (nl (my iL (gv 0)) (mD 2) (ir 1 (gL nE (gv 1) (iu (.int 2)))) [.val (.int n),.val (.int 1),.no]) _)=_;rw[e2];rfl
structure Fl where
 h:Nat
 a:Int
 m:Nat
def fd (f:Fl):D:=.tuple [.int f.h,.int f.a,.int f.m]
def rd (ns:List D)(fs:List Fl):D:=.tuple [.tuple ns,.tuple (fs.map fd)]
structure lH (n:Nat)(fs:List Fl):Prop where
 n2:2<=n
 n5:n<=5
 hb:∀ f∈fs,f.h<n
 mb:∀ f∈fs,f.m<32
 nd:(fs.map Fl.h).Nodup
 ab:∀ f∈fs,1<=f.a
 a5:∀ f∈fs,f.a<=5
def bk (d:D):Fl:=match d with
 | .tuple [.int a,.int b,.int c]=>⟨a.toNat,b,c.toNat⟩
 | _=>⟨0,0,0⟩
theorem WX {i j:Int}(h1:-(2^64)<i)(h2:i<2^64):wq i j=true:=by unfold wq;rw[Gc h1,Gc h2];rfl
theorem Pu {i:Nat}{f:FL}{ψ e:En}{d:List D}(h:f ψ=Ga d)(he:frzAt i (ψ.set i (.own d))=e):zK i (si i f) ψ=Ga (.nx e):=by rw[zFV (zFU h),he]
def mB (b0 b1 b2 b3 b4:Bool):Int:=(if b0 then 1 else 0)+(if b1 then 2 else 0)+(if b2 then 4 else 0)+(if b3 then 8 else 0)+(if b4 then 16 else 0)
def mE (fs:List Fl)(h:Nat):Option Fl:=fs.find? λf=>f.h==h
def up (fs:List Fl)(h:Nat)(r:Int):Bool:=match mE fs h with|some f=>decide (r<f.a)|none=>true
theorem VI (f:Fl)(h:Nat):iT (.int f.h) (.int h)=Ga (.bool (f.h==h)):=by
 rw[sU];congr 2;rw[jS,beq_iff_eq,beq_iff_eq];omega
theorem FD {fs:List Fl}{h:Nat}{f:Fl}(e:mE fs h=Ga f):f∈fs/\f.h=h:=⟨List.mem_of_find?_eq_some e,by have:=List.find?_some e;exact beq_iff_eq.mp this⟩
theorem Fk:∀ (n:Nat) (l:List Nat),l.Nodup->(∀ x∈l,x<n)->l.length<=n
 | 0,[],_,_=>jh _
 | 0,x::r,_,h=>absurd (h x jf) (qY _)
 | n+1,l,nd,h=>by
  by_cases hm:n∈l
  .have ih:=Fk n (l.erase n) (nd.erase n) (λx hx=>by
    have h1:=(nd.mem_erase_iff.mp hx);have h2:=h x h1.2;have h3:=h1.1;omega)
   rw[vF hm] at ih;omega
  .have ih:=Fk n l nd (λx hx=>by
    have h2:=h x hx;have h3:x≠n:=λe=>hm (e▸hx);omega)
   omega
def bt (m h:Nat):Bool:=decide ((m:Int)/(2^h)%2=1)
theorem zET (fs:List Fl)(nd:(fs.map Fl.h).Nodup)(h:Nat)(r:Int):fs.all (λf=>!(f.h==h&&decide (f.a<=r)))=up fs h r:=by
 unfold up;rw[jS,jJ];cases e:mE fs h with
 | none =>
  refine⟨λ_=>rfl,λ_ f hf=>?_⟩;have:=uY.mp e f hf;rw[kB] at this;rw[this];rfl
 | some g =>
  obtain⟨g1,g2⟩:=FD e;dsimp only;rw[decide_eq_true_eq];constructor
  .intro z;have:=z g g1;rw[g2,beq_self_eq_true,kC,kQ,decide_eq_false_iff_not] at this;omega
  .intro z f hf;rw[kQ,Bool.and_eq_false_iff];by_cases q:f.h=h
   .have:f=g:=by
     obtain⟨i,hi,ei⟩:=qd hf;obtain⟨j,hj,ej⟩:=qd g1;have a1:(fs.map Fl.h)[i]?=Ga h:=by rw[jA,ji hi,ei,v9,q]
     have a2:(fs.map Fl.h)[j]?=Ga h:=by rw[jA,ji hj,ej,v9,g2]
     have:=(List.getElem?_inj (by rw[jb];exact hi) nd).mp (a1.trans a2.symm);subst this;rw[<- ei,<- ej]
    rw[this];exact .inr (Gd (by omega))
   .exact .inl (by rw[<- kB,beq_iff_eq];exact q)
def Pd (b t:Nat)(at_:Int)(f:Fl):Bool:=!((f.h==t&&decide (f.a<=at_))||(f.h==b&&decide (f.a<at_)))&&!(f.h==b&&(decide (f.a=at_)&&!bt f.m t))
def cm (fs:List Fl)(b t:Nat)(at_:Int):Bool:=fs.all (Pd b t at_)
theorem wg {n:Nat}{fs:List Fl}(G:lH n fs)(b t:Nat)(r:Int):cm fs b t r=true↔∀ f∈fs,(f.h=t->r<f.a)/\(f.h=b->r<=f.a/\(f.a=r->bt f.m t=true)):=by
 unfold cm;rw[jJ];refine forall_congr' λf=>forall_congr' λ_=>?_;unfold Pd;by_cases h1:f.h=t<;>by_cases h2:f.h=b<;>by_cases h3:f.a<r<;>by_cases h4:f.a=r<;>by_cases h5:f.a<=r<;>cases h6:bt f.m t<;>simp[h1,h2,h3,h4,h5,h6]<;>omega
theorem oW {n:Nat}{fs:List Fl}(G:lH n fs)(h:Nat)(r:Int):up fs h r=true↔∀ f∈fs,f.h=h->r<f.a:=by
 rw[<- zET fs G.nd h r,jJ];refine forall_congr' λf=>forall_congr' λ_=>?_;by_cases h1:f.h=h<;>by_cases h2:f.a<=r<;>simp[h1,h2]<;>omega
def vw (ns:List D)(fs:List Fl):Nat->Nat->D
 | 0,h=>.tuple [.int h,ns.getD h .none]
 | r+1,h=>.tuple [.int h,.tuple ((je ns.length).map λo=>if o=h\/cm fs o h ((r+1:Nat):Int)=true then vw ns fs r o else .none)]
theorem Hj (ns:List D)(fs:List Fl)(r h:Nat)(hh:h<ns.length):zY [vw ns fs (r+1) h]=Ga (vw ns fs r h):=by
 have g:((je ns.length).map λo=>if o=h\/cm fs o h ((r+1:Nat):Int)=true then vw ns fs r o else .none)[h]?=Ga (vw ns fs r h):=by
  rw[jA,kZ hh,v9,Ge (k9 rfl)]
 show gO (Im [.val (vw ns fs (r+1) h)])=_;unfold Im;exact(congrArg gO (oz (d:=vw ns fs r h) ((oV (a:=.tuple ((je ns.length).map λo=>if o=h\/cm fs o h ((r+1:Nat):Int)=true then vw ns fs r o else .none)) (b:=.int h) rfl rfl).trans (Cc g)))).trans rfl
theorem So (ns:List D)(fs:List Fl)(hi:∀ d∈ns,∃ i:Int,d=.int i)(h:Nat)(hh:h<ns.length):∀ (r m:Nat) (j:Int),r<m->mz (nz (un (sk "tuple") (gL gC (gv 0) (iu (.int 1))))) (gX (ir 0 (gG zY (gu (gv 0) ig))) (ir 1 (gL iX (gv 1) (iu (.int 1))))) m [.val (vw ns fs r h),.val (.int j)]=Ga (.nx [.val (vw ns fs 0 h),.val (.int (j+r))])
 | 0,m,j,hm=>by
  obtain⟨m',rfl⟩:∃ m',m=m'+1:=⟨m-1,by omega⟩;unfold mz;have e:nz (un (sk "tuple") (gL gC (gv 0) (iu (.int 1)))) (frz [.val (vw ns fs 0 h),.val (.int j)])=Ga false:=by
   obtain⟨i,hi'⟩:=hi (ns[h]) (uz hh);refine yD (d:=.bool false) ((tB (a:=.int i) ((oV (a:=vw ns fs 0 h) (b:=.int 1) rfl rfl).trans ?_)).trans rfl) rfl;show Ga (ns.getD h .none)=_;rw[jg,ji hh,<- hi'];rfl
  rw[e,jn,Gf jq,show(j+((0:Nat):Int))=j by omega]
 | r+1,m,j,hm=>by
  obtain⟨m',rfl⟩:∃ m',m=m'+1:=⟨m-1,by omega⟩;have ih:=So ns fs hi h hh r m' (j+1) (by omega);unfold mz;have e:nz (un (sk "tuple") (gL gC (gv 0) (iu (.int 1)))) (frz [.val (vw ns fs (r+1) h),.val (.int j)])=Ga true:=rfl;have b1:gX (ir 0 (gG zY (gu (gv 0) ig))) (ir 1 (gL iX (gv 1) (iu (.int 1)))) [.val (vw ns fs (r+1) h),.val (.int j)]=Ga (.nx [.val (vw ns fs r h),.val (.int (j+1))]) :=
   (ni (e:=[.val (vw ns fs r h),.val (.int j)]) (xI ((mq (ds:=[vw ns fs (r+1) h]) rfl).trans (Hj ns fs r h hh)))).trans rfl
  rw[e,jn,Ge rfl,b1,jn];show mz _ _ m' [.val (vw ns fs r h),.val (.int (j+1))]=_;rw[ih,show j+1+(r:Int)=j+((r+1:Nat):Int) by omega]
theorem AM (ns:List D)(fs:List Fl)(hi:∀ d∈ns,∃ i:Int,d=.int i)(r h:Nat)(hh:h<ns.length)(hr:r<100):rO [vw ns fs r h]=Ga (.int r):=by
 show gO (NN [.val (vw ns fs r h),.no])=_;unfold NN;rw[ni (e:=[.val (vw ns fs r h),.val (.int 0)]) rfl,ni (So ns fs hi h hh r 100 0 hr),qg];rfl
theorem EO {t:FT}{g:FS}{α:Type}(f:α->D)(I:List α->En->Prop)(xs:List α)(st:∀ pre x suf,xs=pre++x::suf->∀ ψ,I pre ψ->∃ e1 e2,t (f x) ψ=Ga e1/\g e1=Ga (.nx e2)/\I (pre++[x]) e2) :
  ∀ suf pre ψ,xs=pre++suf->I pre ψ->∃ e,iP t g (suf.map f) ψ=Ga (.nx e)/\I xs e
 | [],pre,ψ,h,hI=>⟨ψ,rfl,(by rw[h,kg];exact hI)⟩
 | x::suf,pre,ψ,h,hI=>by
  obtain⟨e1,e2,h1,h2,h3⟩:=st pre x suf h ψ hI;obtain⟨e,h4,h5⟩:=EO f I xs st suf (pre++[x]) e2 (by rw[h,kP];rfl) h3;refine⟨e,?_,h5⟩;rw[jI];unfold iP;rw[h1,jn,h2];exact h4
theorem zEU {ns:List D}{fs:List Fl}{r a b:Nat}(h:vw ns fs r a=vw ns fs r b):a=b:=by
 have hd:∀ (r a:Nat),∃ d,vw ns fs r a=.tuple [.int (a:Int),d]:=λr a=>by cases r<;>exact⟨_,rfl⟩
 obtain⟨d1,e1⟩:=hd r a;obtain⟨d2,e2⟩:=hd r b;rw[e1,e2] at h;have:=Jm (J6 (PyData.tuple.inj h)).1;omega
theorem zC3 (ns:List D)(fs:List Fl)(r h:Nat):iY (vw ns fs r h) .none=Ga (.bool true):=by cases r<;>rfl
theorem Fv:∀ {xs:List D} {n:Nat},(∀ x∈xs,hE x n=true)->ml xs n=true
 | [],_,_=>by rw[ml]
 | x::xs,n,h=>by rw[ml,h x jf,Fv λy hy=>h y (jj _ hy)];rfl
theorem SX (ns:List D)(fs:List Fl)(hi:∀ d∈ns,∃ i:Int,d=.int i):∀ (r h m:Nat),2*r+1<=m->hE (vw ns fs r h) m=true
 | 0,h,m,hm=>by
  obtain⟨m',rfl⟩:∃ m',m=m'+1:=⟨m-1,by omega⟩;show hE (.tuple [.int h,ns.getD h .none]) (m'+1)=true;rw[hE];refine Fv λx hx=>?_;rcases ju.mp hx with rfl|hx
  .rw[hE]
  .cases jk.mp hx;by_cases hh:h<ns.length
   .obtain⟨i,e⟩:=hi _ (uz hh);rw[jg,ji hh];show hE ns[h] m'=true;rw[e,hE]
   .rw[jg,kr (by omega)];show hE uf m'=true;rw[hE]
 | r+1,h,m,hm=>by
  obtain⟨m',rfl⟩:∃ m',m=m'+2:=⟨m-2,by omega⟩;show hE (.tuple [.int h,.tuple ((je ns.length).map λo=>if o=h\/cm fs o h ((r+1:Nat):Int)=true then vw ns fs r o else .none)]) (m'+1+1)=true;rw[hE];refine Fv λx hx=>?_;rcases ju.mp hx with rfl|hx
  .rw[hE]
  .cases jk.mp hx;rw[hE];refine Fv λy hy=>?_;obtain⟨o,_,rfl⟩:=jv.mp hy;split
   .exact SX ns fs hi r o m' (by omega)
   .rw[hE]
theorem Za (ns:List D)(fs:List Fl)(r h:Nat):ww (vw ns fs r h)=true:=by cases r<;>rfl
theorem zAj (ns:List D)(fs:List Fl)(r w:Nat)(B:List Nat):pi (B.map (vw ns fs r)) (vw ns fs r w)=(if w∈B then B else B++[w]).map (vw ns fs r):=by
 unfold pi;by_cases h:w∈B
 .rw[Ge h,Ge (jv.mpr ⟨w,h,rfl⟩)]
 .rw[Gf h,Gf (λz=>by obtain⟨b,hb,e⟩:=jv.mp z;exact h (zEU e▸hb)),jZ];rfl
theorem Tw {B:List Nat}{w n:Nat}(nB:B.Nodup)(lB:∀ x∈B,x<n)(hw:w<n):(if w∈B then B else B++[w]).Nodup/\(∀ x∈(if w∈B then B else B++[w]),x<n)/\∀ x,x∈(if w∈B then B else B++[w])↔x∈B\/x=w:=by
 by_cases h:w∈B
 .rw[Ge h];exact⟨nB,lB,λx=>⟨.inl,λz=>by rcases z with z|z;exact z;rw[z];exact h⟩⟩
 .rw[Gf h];refine⟨?_,λx hx=>?_,λx=>by rw[jM,jk]⟩
  .rw[uj];refine⟨nB,kh.mpr ⟨by simp,kY⟩,λx hx y hy=>?_⟩;rw[jk.mp hy];exact λz=>h (z▸hx)
  .rcases jM.mp hx with z|z
   .exact lB x z
   .rw[jk.mp z];exact hw
theorem Ys {i:Nat}{f:FV}{ψ:En}{k:D}{ks:List D}(h1:f ψ=Ga k)(h2:ψ[i]?=Ga (.dic ks))(hk:(hE k 8&&ww k)=true)(hl:ks.length<1000000):zV i f ψ=Ga (.nx (ψ.set i (.dic (pi ks k)))):=by
 unfold zV;rw[h1,jn,h2];exact Ge ⟨hk,hl⟩
noncomputable abbrev Mv:FS:=mM (iJ iY (gv 3) (iu .none)) (zV 1 (gv 3)) (mW)
noncomputable abbrev Er:FS:=nl (nw (gL gC (gv 2) (iu (.int 1)))) (mD 3) Mv
theorem zAk (ns:List D)(fs:List Fl)(hi:∀ d∈ns,∃ i:Int,d=.int i)(n5:ns.length<=5)(r:Nat)(hr:r<=3)(A:List Nat)(lA:∀ x∈A,x<ns.length) :
  ∃ B:List Nat,EH [.list (A.map (vw ns fs (r+1)))]=Ga (.list (B.map (vw ns fs r)))/\B.Nodup/\(∀ x∈B,x<ns.length)/\∀ x,x∈B↔x<ns.length/\∃ o∈A,x=o\/cm fs x o ((r+1:Nat):Int)=true:=by
 have inner:∀ (L:D) (o:Nat) (x3:Sl) (B0:List Nat),o<ns.length->B0.Nodup->(∀ x∈B0,x<ns.length)->∃ (B:List Nat) (y3:Sl),Er [.val L,.dic (B0.map (vw ns fs r)),.val (vw ns fs (r+1) o),x3]=Ga (.nx [.val L,.dic (B.map (vw ns fs r)),.val (vw ns fs (r+1) o),y3])/\B.Nodup/\(∀ x∈B,x<ns.length)/\∀ x,x∈B↔x∈B0\/(x<ns.length/\(x=o\/cm fs x o ((r+1:Nat):Int)=true)):=by
  intro L o x3 B0 ho nB0 lB0;have hs:nw (gL gC (gv 2) (iu (.int 1))) [.val L,.dic (B0.map (vw ns fs r)),.val (vw ns fs (r+1) o),x3]=Ga ((je ns.length).map λw=>if w=o\/cm fs w o ((r+1:Nat):Int)=true then vw ns fs r w else .none):=rfl;have hv:∀ w,w<ns.length->(hE (vw ns fs r w) 8&&ww (vw ns fs r w))=true:=λw _=>by rw[SX ns fs hi r w 8 (by omega),Za];rfl
  generalize (Sl.val (vw ns fs (r+1) o))=S2 at hs ⊢;have Lp:=EO (t:=mD 3) (g:=Mv) (λw=>if w=o\/cm fs w o ((r+1:Nat):Int)=true then vw ns fs r w else .none)
   (λpre ψ=>∃ (B:List Nat) (y3:Sl),ψ=[.val L,.dic (B.map (vw ns fs r)),S2,y3]/\B.Nodup/\(∀ x∈B,x<ns.length)/\∀ x,x∈B↔x∈B0\/(x∈pre/\(x=o\/cm fs x o ((r+1:Nat):Int)=true)))
   (je ns.length) (by
    intro pre w suf hx ψ hI;obtain⟨B,y3,rfl,nB,lB,mB⟩:=hI;have hw:w<ns.length:=jl.mp (by rw[hx];exact jK _ jf);have mpre:∀ x,x∈pre++[w]↔x∈pre\/x=w:=λx=>by rw[jM,jk]
    by_cases c:w=o\/cm fs w o ((r+1:Nat):Int)=true
    .rw[Ge c];have lenB:=Fk ns.length B nB lB;obtain⟨p1,p2,p3⟩:=Tw nB lB hw;refine⟨[.val L,.dic (B.map (vw ns fs r)),S2,.val (vw ns fs r w)],[.val L,.dic ((if w∈B then B else B++[w]).map (vw ns fs r)),S2,.val (vw ns fs r w)],rfl,?_,_,_,rfl,p1,p2,λx=>?_⟩
     .refine(vv (rR (x:=vw ns fs r w) (y:=.none) rfl rfl (zC3 ns fs r w))).trans ?_;rw[<- zAj];exact Ys (ks:=B.map (vw ns fs r)) (k:=vw ns fs r w) rfl rfl (hv w hw) (by rw[jb];omega)
     .rw[p3,mB,mpre];constructor
      .rintro((z|⟨z1,z2⟩)|z)
       .exact .inl z
       .exact .inr ⟨.inl z1,z2⟩
       .rw[z];exact .inr ⟨.inr rfl,c⟩
      .rintro(z|⟨z1|z1,z2⟩)
       .exact .inl (.inl z)
       .exact .inl (.inr ⟨z1,z2⟩)
       .exact .inr z1
    .rw[Gf c];refine⟨[.val L,.dic (B.map (vw ns fs r)),S2,.val .none],_,rfl,(sL (rR (x:=.none) (y:=.none) rfl rfl rfl)).trans rfl,B,_,rfl,nB,lB,λx=>?_⟩;rw[mB,mpre];constructor
     .rintro(z|⟨z1,z2⟩)
      .exact .inl z
      .exact .inr ⟨.inl z1,z2⟩
     .rintro(z|⟨z1|z1,z2⟩)
      .exact .inl z
      .exact .inr ⟨z1,z2⟩
      .rw[z1] at z2;exact absurd z2 c)
   (je ns.length) [] [.val L,.dic (B0.map (vw ns fs r)),S2,x3] rfl ⟨B0,x3,rfl,nB0,lB0,λx=>⟨.inl,λz=>by rcases z with z|⟨z,_⟩;exact z;cases z⟩⟩
  obtain⟨e,e1,B,y3,rfl,nB,lB,mB⟩:=Lp;refine⟨B,y3,(yF hs).trans e1,nB,lB,λx=>?_⟩;rw[mB,jl]
 generalize hL:uQ (A.map (vw ns fs (r+1)))=L;show ∃ B:List Nat,gO (GU [.val L,.no,.no,.no])=_/\_;have Lq:=EO (t:=mD 2) (g:=Er) (vw ns fs (r+1))
  (λpre ψ=>∃ (B:List Nat) (y2 y3:Sl),ψ=[.val L,.dic (B.map (vw ns fs r)),y2,y3]/\B.Nodup/\(∀ x∈B,x<ns.length)/\∀ x,x∈B↔x<ns.length/\∃ o∈pre,x=o\/cm fs x o ((r+1:Nat):Int)=true)
  A (by
   intro pre o suf hx ψ hI;obtain⟨B,y2,y3,rfl,nB,lB,mB⟩:=hI;have ho:o<ns.length:=lA o (by rw[hx];exact jK _ jf);obtain⟨C,z3,e1,nC,lC,mC⟩:=inner L o y3 B ho nB lB;refine⟨[.val L,.dic (B.map (vw ns fs r)),.val (vw ns fs (r+1) o),y3],_,rfl,e1,C,_,_,rfl,nC,lC,λx=>?_⟩;rw[mC,mB];constructor
   .rintro(⟨z1,o',z2,z3⟩|⟨z1,z2⟩)
    .exact⟨z1,o',v0 _ z2,z3⟩
    .exact⟨z1,o,jK _ jf,z2⟩
   .rintro⟨z1,o',z2,z3⟩;rcases jM.mp z2 with z2|z2
    .exact .inl ⟨z1,o',z2,z3⟩
    .rw[jk.mp z2] at z3;exact .inr ⟨z1,z3⟩)
  A [] [.val L,.dic [],.no,.no] rfl ⟨[],_,_,rfl,kY,λx h=>(by cases h),λx=>⟨λh=>(by cases h),λh=>(by obtain⟨_,o,h,_⟩:=h;cases h)⟩⟩
 obtain⟨e,e1,B,y2,y3,rfl,nB,lB,mB⟩:=Lq;refine⟨B,?_,nB,lB,mB⟩;have hsL:nw (gv 0) [.val L,.dic [],.no,.no]=Ga (A.map (vw ns fs (r+1))):=by rw[<- hL];rfl
 unfold GU;rw[ni (e:=[.val L,.dic [],.no,.no]) rfl];rw[ni ((yF hsL).trans e1)];have kd:wt (Cq (B.map (vw ns fs r)))=Ga (B.map (vw ns fs r)):=by
  rw[Pq,Mq]
 show gO (iM (mm (my wt (gv 1))) [.val L,.val (Cq (B.map (vw ns fs r))),y2,y3])=_;exact(congrArg gO (oz (wH ((wP (a:=Cq (B.map (vw ns fs r))) rfl).trans kd)))).trans rfl
def Rb (fs:List Fl)(n r h:Nat):Nat->Nat->Prop
 | 0,x=>x=h
 | i+1,x=>x<n/\∃ o,Rb fs n r h i o/\(x=o\/cm fs x o ((r-i:Nat):Int)=true)
theorem ZR {fs:List Fl}{n r h:Nat}(hh:h<n):∀ {i x:Nat},Rb fs n r h i x->x<n
 | 0,x,z=>by rw[show x=h from z];exact hh
 | _+1,_,z=>z.1
theorem atI_last {xs:List D}{m:Nat}{v:D}(hl:xs.length=m+1)(h:xs[m]?=Ga v):L2.atI xs (-1)=Ga v:=by
 unfold L2.atI L2.ixN;rw[Gf (by decide),Ge (by omega),jn,show((-1:Int)+(xs.length:Nat)).toNat=m by omega];exact h
def BJ (ns:List D)(fs:List Fl)(r h i:Nat)(d:D):Prop:=∃ A:List Nat,d=.list (A.map (vw ns fs (r-i)))/\A.Nodup/\(∀ x∈A,x<ns.length)/\∀ x,x∈A↔Rb fs ns.length r h i x
theorem zxP (ns:List D)(fs:List Fl)(hi:∀ d∈ns,∃ i:Int,d=.int i)(n5:ns.length<=5)(r h:Nat)(hr:r<=4)(hh:h<ns.length) :
  ∃ Ls:List D,AQ [vw ns fs r h]=Ga (.list Ls)/\Ls.length=r+1/\∀ k,k<=r->∃ d,Ls[k]?=Ga d/\BJ ns fs r h (r-k) d:=by
 have hro:=AM ns fs hi r h hh (by omega);have h0:∀ f:Nat,BJ ns fs r h 0 (.list [vw ns fs r h]):=λ_=>⟨[h],rfl,kh.mpr ⟨by simp,kY⟩,λx hx=>by rw[jk.mp hx];exact hh,λx=>by rw[jk];exact Iff.rfl⟩;show ∃ Ls:List D,gO (Lw [.val (vw ns fs r h),.no,.no])=_/\_;have h0:=h0 0;generalize vw ns fs r h=v at hro h0;have Lp:=EO (t:=mD 2) (g:=yb 1 (gG EH (gu (CU (gl 1) (un tW (iu (.int 1)))) ig))) (λ(k:Nat)=>jc (k:Int))
  (λpre ψ=>∃ (Ls:List D) (x2:Sl),ψ=[.val v,.own Ls,x2]/\Ls.length=pre.length+1/\pre.length<=r/\∀ i,i<=pre.length->∃ d,Ls[i]?=Ga d/\BJ ns fs r h i d)
  (je r) (by
   intro pre w suf hx ψ hI;obtain⟨Ls,x2,rfl,hl,hp,hL⟩:=hI;have hlen:pre.length+1<=r:=by
    have:=congrArg List.length hx;rw[jG,jr,jB] at this;omega
   obtain⟨d,hd,A,rfl,nA,lA,mA⟩:=hL pre.length (jh _);obtain⟨q,hq⟩:∃ q,r-pre.length=q+1:=⟨r-pre.length-1,by omega⟩;rw[hq] at hd;obtain⟨B,e1,nB,lB,mB⟩:=zAk ns fs hi n5 q (by omega) A lA;have hix:CU (gl 1) (un tW (iu (.int 1))) [.val v,.own Ls,.val (.int w)]=Ga (.list (A.map (vw ns fs (q+1)))):=by
    show yr Ls (.int (-1))=_;show L2.atI Ls (-1)=_;exact atI_last hl hd
   refine⟨[.val v,.own Ls,.val (.int w)],[.val v,.own (Ls++[.list (B.map (vw ns fs q))]),.val (.int w)],rfl,zFZ (ds:=Ls) rfl ((mq (ds:=[.list (A.map (vw ns fs (q+1)))]) (yT hix rfl)).trans e1) (by omega),Ls++[.list (B.map (vw ns fs q))],_,rfl,by rw[jr,jr,hl];rfl,by rw[jr];exact hlen,λi hi'=>?_⟩;rw[jr,kf] at hi';by_cases c:i<=pre.length
   .obtain⟨d,h1,h2⟩:=hL i c;exact⟨d,by rw[k7 (by omega)];exact h1,h2⟩
   .have ei:i=pre.length+1:=by omega
    subst ei;refine⟨_,by rw[kU (by omega),hl,qh];rfl,B,by rw[show r-(pre.length+1)=q by omega],nB,lB,λx=>?_⟩;rw[mB];show _↔x<ns.length/\∃ o,Rb fs ns.length r h pre.length o/\(x=o\/cm fs x o ((r-pre.length:Nat):Int)=true);rw[hq];constructor
    .rintro⟨z1,o,z2,z3⟩;exact⟨z1,o,(mA o).mp z2,z3⟩
    .rintro⟨z1,o,z2,z3⟩;exact⟨z1,o,(mA o).mpr z2,z3⟩)
  (je r) [] [.val v,.own [.list [v]],.no] rfl ⟨[.list [v]],_,rfl,rfl,jO _,λi hi'=>⟨.list [v],by rw[show i=0 from by simpa using hi'];rfl,by rw[show i=0 from by simpa using hi'];exact h0⟩⟩
 obtain⟨e,e1,Ls,x2,rfl,hl,_,hL⟩:=Lp;rw[jG] at hl hL;refine⟨Ls.reverse,?_,by rw[kG];exact hl,λk hk=>?_⟩
 .unfold Lw;rw[ni (e:=[.val v,.own [.list [v]],.no]) rfl];have er:my iL (gG rO (gu (gv 0) ig)) [.val v,.own [.list [v]],.no]=Ga ((je r).map λ(k:Nat)=>jc (k:Int)):=(wP (a:=.int r) ((mq (ds:=[v]) rfl).trans hro)).trans ((wl (by omega)).trans (by rw[rJ]));rw[ni ((yF er).trans e1)];rfl
 .obtain⟨d,h1,h2⟩:=hL (r-k) (by omega);refine⟨d,?_,h2⟩;rw[Jd (by omega),hl,show r+1-1-k=r-k by omega];exact h1
def tw:Nat->List (List Nat)
 | 0=>[[]]
 | n+1=>(tw n).flatMap λA=>((je 5).filter λx=>!A.contains x).map λx=>x::A
theorem Hz:∀ (A:List Nat),A.Nodup->(∀ x∈A,x<5)->A∈tw A.length
 | [],_,_=>jk.mpr rfl
 | x::A,nd,lt=>by
  rw[kh] at nd;show x::A∈(tw A.length).flatMap _;rw[List.mem_flatMap];refine⟨A,Hz A nd.2 λy hy=>lt y (jj _ hy),jv.mpr ⟨x,jL.mpr ⟨jl.mpr (lt x jf),?_⟩,rfl⟩⟩;rw[kQ,<- kB,jN];exact nd.1
def DJ (A:List Nat)(i j:Nat):Option Bool:=(A[i]?).bind λa=>(A[j]?).bind λb=>Ga (decide (a<b))
def yu (A:List Nat):Bool:=match pM (DJ A) (uy A.length) with
 | some p=>decide (p.size<=64)&&(p.toList.all λi=>decide (i<A.length))&&(p.toList.map (λi=>A.getD i 0)==(je 5).filter λx=>A.contains x)
 | none=>false
theorem zC5:((tw 2).all yu&&(tw 3).all yu&&(tw 4).all yu&&(tw 5).all yu)=true:=by nofun
theorem zC6:(je 5).all (λa=>(je 5).filter (λx=>[a].contains x)==[a])=true:=by nofun
theorem Ws (n:Nat)(hn:n<=5)(A:List Nat)(lt:∀ x∈A,x<n):(je 5).filter (λx=>A.contains x)=(je n).filter λx=>A.contains x:=by
 have e:je 5=je n++(je (5-n)).map (n+·):=by rw[<- List.range_add,show n+(5-n)=5 by omega]
 rw[e,kE];have:((je (5-n)).map (n+·)).filter (λx=>A.contains x)=[]:=by
  rw[uZ];intro x hx;obtain⟨k,_,rfl⟩:=jv.mp hx;rw[jN];intro z;have:=lt _ z;omega
 rw[this,kg]
theorem zu5 (ns:List D)(fs:List Fl)(hi:∀ d∈ns,∃ i:Int,d=.int i)(n5:ns.length<=5)(A:List Nat)(nd:A.Nodup)(lt:∀ x∈A,x<ns.length) :
  mU (A.map (vw ns fs 0))=Ga (((je ns.length).filter λx=>A.contains x).map (vw ns fs 0)):=by
 have hlen:=Fk ns.length A nd lt;have l5:∀ x∈A,x<5:=λx hx=>by have:=lt x hx;omega
 have hm:=Hz A nd l5;rw[<- Ws ns.length n5 A lt];have num:∀ a,a<ns.length->∃ i:Int,ns.getD a .none=.int i:=λa ha=>by
  obtain⟨i,e⟩:=hi _ (uz ha);exact⟨i,by rw[jg,ji ha];exact e⟩
 unfold mU;by_cases h2:A.length<2
 .rw[Ge (by rw[jb];exact h2)];refine congrArg Ga (congrArg (JO _) ?_)
  match A,h2,l5 with
  | [],_,_=>rfl
  | [a],_,l5 =>
   have:=jJ.mp zC6 a (jl.mpr (l5 a jf));exact(eq_of_beq this).symm
  | _::_::_,h2,_=>simp at h2;omega
 .rw[Gf (by rw[jb];exact h2)];have ok:(decide ((A.map (vw ns fs 0)).length<64)&&pO (A.map (vw ns fs 0)))=true:=by
   rw[jb,Gc (show A.length<64 by omega),kC];unfold pO;rw[kj];refine .inr (jJ.mpr λd hd=>?_);obtain⟨a,ha,rfl⟩:=jv.mp hd;obtain⟨i,e⟩:=num a (lt a ha);show Ds (.tuple [.int a,ns.getD a .none])=true;rw[e];rfl
  rw[Ge ok,jb];have lte:wU (A.map (vw ns fs 0))=DJ A:=by
   funext i j
   unfold wU DJ;rw[jA,jA];cases hA:A[i]? with
   | none=>rfl
   | some a =>
    cases hB:A[j]? with
    | none=>rfl
    | some b =>
     obtain⟨x,ex⟩:=num a (lt a (j7 hA));obtain⟨y,ey⟩:=num b (lt b (j7 hB));show zJ (.tuple [.int a,ns.getD a .none]) (.tuple [.int b,ns.getD b .none])=Ga (decide (a<b));rw[ex,ey];show Ga (pF [(a:Int),x] [(b:Int),y])=_;unfold pF;by_cases hab:a=b
     .subst hab;have exy:x=y:=by rw[ex] at ey;exact Jm ey
      subst exy;rw[beq_self_eq_true,Ge rfl];unfold pF;rw[beq_self_eq_true,Ge rfl,Gd (j0 a)];rfl
     .rw[Gf (by rw[beq_iff_eq];omega)];refine congrArg Ga ?_;rw[jS,decide_eq_true_eq,decide_eq_true_eq];omega
  rw[lte];have hc:yu A=true:=by
   have h5:A.length=2\/A.length=3\/A.length=4\/A.length=5:=by omega
   have ca:=zC5;rw[jx,jx,jx] at ca;obtain⟨⟨⟨c2,c3⟩,c4⟩,c5⟩:=ca;rcases h5 with e|e|e|e<;>rw[e] at hm
   .exact jJ.mp c2 A hm
   .exact jJ.mp c3 A hm
   .exact jJ.mp c4 A hm
   .exact jJ.mp c5 A hm
  unfold yu at hc;cases hk:pM (DJ A) (uy A.length) with
  | none=>rw[hk] at hc;cases hc
  | some p =>
   rw[hk] at hc;dsimp only at hc;rw[jx,jx,decide_eq_true_eq] at hc;obtain⟨⟨c1,c2⟩,c3⟩:=hc;rw[jn,Ge c1,<- eq_of_beq c3,jU];refine congrArg Ga (jW λi hi'=>?_);have hl:i<A.length:=of_decide_eq_true (jJ.mp c2 i hi');show(A.map (vw ns fs 0)).getD i .none=vw ns fs 0 (A.getD i 0);rw[jg,jA,ji hl,jg,ji hl];rfl
def Tf (fs:List Fl)(n:Nat):Nat->Nat->Nat->Bool
 | 0,h,o=>decide (o=h)
 | r+1,h,o=>Tf fs n r h o||(je n).any λw=>cm fs w h ((r+1:Nat):Int)&&Tf fs n r w o
theorem Qj (fs:List Fl)(n r h:Nat)(hh:h<n)(x:Nat):∀ i,i<=r->((∃ o,Rb fs n r h i o/\Tf fs n (r-i) o x=true)↔Tf fs n r h x=true)
 | 0,_=>⟨λ⟨o,z1,z2⟩=>by rw[show o=h from z1] at z2;exact z2,λz=>⟨h,rfl,z⟩⟩
 | i+1,hi=>by
  rw[<- Qj fs n r h hh x i (by omega)];obtain⟨q,hq⟩:∃ q,r-i=q+1:=⟨r-i-1,by omega⟩;rw[show r-(i+1)=q by omega,hq];constructor
  .rintro⟨o',⟨z1,o,z2,z3⟩,z4⟩;refine⟨o,z2,?_⟩;show(Tf fs n q o x||(je n).any λw=>cm fs w o ((q+1:Nat):Int)&&Tf fs n q w x)=true;rw[hq] at z3;rw[kj];rcases z3 with z3|z3
   .rw[<- z3];exact .inl z4
   .refine .inr (uN.mpr ⟨o',jl.mpr z1,?_⟩);rw[z3,z4];rfl
  .rintro⟨o,z2,z4⟩;have ho:=ZR hh z2;have z4':(Tf fs n q o x||(je n).any λw=>cm fs w o ((q+1:Nat):Int)&&Tf fs n q w x)=true:=z4;rw[kj] at z4';rcases z4' with z|z
   .exact⟨o,⟨ho,o,z2,.inl rfl⟩,z⟩
   .obtain⟨w,hw,e⟩:=uN.mp z;rw[jx] at e;exact⟨w,⟨jl.mp hw,o,z2,.inr (by rw[hq];exact e.1)⟩,e.2⟩
theorem zEX (fs:List Fl)(n r h:Nat)(hh:h<n)(x:Nat):Rb fs n r h r x↔Tf fs n r h x=true:=by
 rw[<- Qj fs n r h hh x r (jh _),qh];constructor
 .intro z;exact⟨x,z,Gc rfl⟩
 .rintro⟨o,z1,z2⟩;have:x=o:=of_decide_eq_true z2;rw[this];exact z1
def kn (fs:List Fl)(n r h:Nat):List Nat:=(je n).filter λo=>Tf fs n r h o
def yk (ns:List D)(fs:List Fl)(r h:Nat):List D:=(kn fs ns.length r h).map (vw ns fs 0)
theorem zAl (ns:List D)(fs:List Fl)(hi:∀ d∈ns,∃ i:Int,d=.int i)(n5:ns.length<=5)(r h:Nat)(hr:r<=4)(hh:h<ns.length):DT [vw ns fs r h]=Ga (.list (yk ns fs r h)):=by
 obtain⟨Ls,e1,hl,hL⟩:=zxP ns fs hi n5 r h hr hh;obtain⟨d,hd,A,rfl,nA,lA,mA⟩:=hL 0 (jO _);rw[JP,qh] at hd;have hs:=zu5 ns fs hi n5 A nA lA;have ea:((je ns.length).filter λx=>A.contains x)=kn fs ns.length r h:=by
  unfold kn;refine uo λx hx=>?_;rw[jS,jN,mA,JP];exact zEX fs ns.length r h hh x
 rw[ea] at hs;show gO (KN [.val (vw ns fs r h)])=_;generalize vw ns fs r h=v at e1;unfold KN;have e2:gL gC (gG AQ (gu (gv 0) ig)) (iu (.int 0)) [.val v]=Ga (.list (A.map (vw ns fs 0))):=(oV (a:=.list Ls) (b:=.int ((0:Nat):Int)) ((mq (ds:=[v]) rfl).trans e1) rfl).trans (Cc hd);have s:BC (xR (gL gC (gG AQ (gu (gv 0) ig)) (iu (.int 0)))) [.val v]=Ga (yk ns fs r h):=by
  show(xR (gL gC (gG AQ (gu (gv 0) ig)) (iu (.int 0))) [.val v]).bind mU=_;rw[NB e2];exact hs
 exact(congrArg gO (oz (wH s))).trans rfl
theorem zC7 (fs:List Fl)(n h:Nat)(hh:h<n):∀ r,h∈kn fs n r h:=λr=>by
 unfold kn;rw[jL];refine⟨jl.mpr hh,?_⟩;induction r with
 | zero=>exact Gc rfl
 | succ r ih =>
  show(Tf fs n r h h||_)=true;rw[ih];rfl
theorem Qf {fs:List Fl}{n r h x:Nat}(hx:x∈kn fs n r h):x<n:=jl.mp (jL.mp hx).1
theorem zxR (ns:List D)(fs:List Fl)(hi:∀ d∈ns,∃ i:Int,d=.int i)(r h:Nat)(hh:h<ns.length):∃ m:Int,pb ((kn fs ns.length r h).map λo=>ns.getD o .none)=Ga (.int m):=by
 have num:∀ a,a<ns.length->∃ i:Int,ns.getD a .none=.int i:=λa ha=>by
  obtain⟨i,e⟩:=hi _ (uz ha);exact⟨i,by rw[jg,ji ha];exact e⟩
 have key:∀ l:List Nat,(∀ x∈l,x<ns.length)->∃ is:List Int,(l.map λo=>ns.getD o .none)=is.map jc/\is.length=l.length:=by
  intro l;induction l with
  | nil=>exact λ_=>⟨[],rfl,rfl⟩
  | cons a l ih =>
   intro hl;obtain⟨is,e1,e2⟩:=ih λx hx=>hl x (jj _ hx);obtain⟨i,e3⟩:=num a (hl a jf);exact⟨i::is,by rw[jI,jI,e1,e3],by rw[jB,jB,e2]⟩
 obtain⟨is,e1,e2⟩:=key (kn fs ns.length r h) λx hx=>Qf hx;have hpos:0<is.length:=by rw[e2];exact uW (zC7 fs ns.length h hh r)
 match is,hpos,e1 with
 | i::is,_,e1 =>
  refine⟨is.foldl (λa b=>if b<a then b else a) i,?_⟩;rw[e1];unfold pb;rw[oj,jn];rfl
theorem zxS {f:FL}{ψ:En}{ns:List D}{fs:List Fl}{r h:Nat}(hf:f ψ=Ga (yk ns fs r h))(n5:ns.length<=5):ip f (λ_=>Ga true) (gL gC (gv 0) (iu (.int 1))) [] ψ=Ga ((kn fs ns.length r h).map λo=>ns.getD o .none):=by
 have hlen:(yk ns fs r h).length<=1000000:=by
  unfold yk kn;rw[jb];have:=ku (λo=>Tf fs ns.length r h o) (je ns.length);rw[jG] at this;omega
 refine(wm hf hlen).trans ((zP (F:=λd=>match d with|.tuple [_,x]=>x|_=>.none) (λd hd=>?_)).trans ?_)
 .obtain⟨o,_,rfl⟩:=jv.mp hd;rfl
 .unfold yk;rw[jU];rfl
theorem YB (ns:List D)(fs:List Fl)(hi:∀ d∈ns,∃ i:Int,d=.int i)(n5:ns.length<=5)(r h:Nat)(hr:r<=4)(hh:h<ns.length){m:Int}(hm:pb ((kn fs ns.length r h).map λo=>ns.getD o .none)=Ga (.int m)):Ci [vw ns fs r h]=Ga (.int m):=by
 have hk:=zAl ns fs hi n5 r h hr hh;show gO (NM [.val (vw ns fs r h)])=_;generalize vw ns fs r h=v at hk;unfold NM;have e:ip (nw (gG DT (gu (gv 0) ig))) (λ_=>Ga true) (gL gC (gv 0) (iu (.int 1))) [] [.val v]=Ga ((kn fs ns.length r h).map λo=>ns.getD o .none) :=
  zxS (zFX ((mq (ds:=[v]) rfl).trans hk) rfl) n5
 exact(congrArg gO (oz ((IW e).trans hm))).trans rfl
theorem Yv:∀ (b0 b1 b2 b3 b4:Bool) (h:Fin 5),Js (mB b0 b1 b2 b3 b4) (2^h.val)=mB (b0||h.val==0) (b1||h.val==1) (b2||h.val==2) (b3||h.val==3) (b4||h.val==4):=by nofun
theorem RJ (a:Sl):∀ (hs:List Int) (b0 b1 b2 b3 b4:Bool) (x:Sl),(∀ h∈hs,0<=h/\h<5) ->
  ∃ x',iP (mD 2) (ir 1 (gL Eh (gv 1) (gG xo (gu (gv 2) ig)))) (hs.map jc) [a,.val (.int (mB b0 b1 b2 b3 b4)),x] =
   Ga (.nx [a,.val (.int (mB (b0||hs.contains 0) (b1||hs.contains 1) (b2||hs.contains 2) (b3||hs.contains 3) (b4||hs.contains 4))),x'])
 | [],b0,b1,b2,b3,b4,x,_=>⟨x,by simp only[JI,iP,List.contains_nil,vC]⟩
 | h::r,b0,b1,b2,b3,b4,x,hh=>by
  obtain⟨h0,h5⟩:=hh h jf;obtain⟨x',e⟩:=RJ a r (b0||h.toNat==0) (b1||h.toNat==1) (b2||h.toNat==2) (b3||h.toNat==3) (b4||h.toNat==4) (.val (.int h)) (λy hy=>hh y (jj _ hy));refine⟨x',?_⟩;have hm:=Yv b0 b1 b2 b3 b4 ⟨h.toNat,by omega⟩;dsimp only at hm;have hb:(gL Eh (gv 1) (gG xo (gu (gv 2) ig))) [a,.val (.int (mB b0 b1 b2 b3 b4)),.val (.int h)]=Ga (.int (mB (b0||h.toNat==0) (b1||h.toNat==1) (b2||h.toNat==2) (b3||h.toNat==3) (b4||h.toNat==4))) :=
   (oV (a:=.int (mB b0 b1 b2 b3 b4)) rfl ((mq rfl).trans (Lm h h0 (by omega)))).trans (congrArg (λz=>Ga (jc z)) hm)
  rw[jI];unfold iP;rw[show(mD 2 (jc h) [a,.val (.int (mB b0 b1 b2 b3 b4)),x])=Ga [a,.val (.int (mB b0 b1 b2 b3 b4)),.val (.int h)] from rfl,jn,xI hb];refine e.trans ?_;have c:∀ k:Nat,((h.toNat==k)||r.contains (k:Int))=(h::r).contains (k:Int):=λk=>by
   rw[qp]
   congr 1
   rw[jS,beq_iff_eq,beq_iff_eq];omega
  simp only[Bool.or_assoc];rw[show((h.toNat==0)||r.contains (0:Int))=_ from c 0,show((h.toNat==1)||r.contains (1:Int))=_ from c 1,show((h.toNat==2)||r.contains (2:Int))=_ from c 2,show((h.toNat==3)||r.contains (3:Int))=_ from c 3,show((h.toNat==4)||r.contains (4:Int))=_ from c 4];rfl
theorem Kn (hs:List Int)(hh:∀ h∈hs,0<=h/\h<5):wk [.list (hs.map jc)]=Ga (.int (mB (hs.contains 0) (hs.contains 1) (hs.contains 2) (hs.contains 3) (hs.contains 4))):=by
 obtain⟨x',e⟩:=RJ (.val (.list (hs.map jc))) hs false false false false false .no hh;simp only[vd] at e;rw[show mB false false false false false=0 from rfl] at e;show gO (KO [.val (.list (hs.map jc)),.no,.no])=_;unfold KO;rw[ni (e:=[.val (.list (hs.map jc)),.val (.int 0),.no]) rfl,ni ((yF (ds:=hs.map jc) rfl).trans e)];rfl
theorem QQ (n:Nat)(h5:n<=5)(p:Nat->Bool):wk [.list (((je n).filter p).map λ(k:Nat)=>jc (k:Int))]=Ga (.int (mB (decide (0<n)&&p 0) (decide (1<n)&&p 1) (decide (2<n)&&p 2) (decide (3<n)&&p 3) (decide (4<n)&&p 4))):=by
 have e:(((je n).filter p).map λ(k:Nat)=>jc (k:Int))=(((je n).filter p).map λ(k:Nat)=>(k:Int)).map jc:=by rw[jU];rfl
 rw[e,Kn _ (λh hh=>by
  obtain⟨k,hk,rfl⟩:=jv.mp hh;have:=jl.mp (jL.mp hk).1;omega)]
 have c:∀ j:Nat,(((je n).filter p).map λ(k:Nat)=>(k:Int)).contains (j:Int)=(decide (j<n)&&p j):=λj=>by
  rw[jS,jN,jv,jx,decide_eq_true_eq];constructor
  .rintro⟨k,hk,z⟩;have:k=j:=by omega
   subst this;exact⟨jl.mp (jL.mp hk).1,(jL.mp hk).2⟩
  .rintro⟨h1,h2⟩;exact⟨j,jL.mpr ⟨jl.mpr h1,h2⟩,rfl⟩
 have c0:=c 0;have c1:=c 1;have c2:=c 2;have c3:=c 3;have c4:=c 4;rw[show(0:Int)=((0:Nat):Int) from rfl,show(1:Int)=((1:Nat):Int) from rfl,show(2:Int)=((2:Nat):Int) from rfl,show(3:Int)=((3:Nat):Int) from rfl,show(4:Int)=((4:Nat):Int) from rfl,c0,c1,c2,c3,c4]
def hd (fs:List Fl)(h:Nat)(r:Nat)(o:Nat):Bool:=decide (o=h)||cm fs o h (r:Int)
def mH (n:Nat)(p:Nat->Bool):Int:=mB (decide (0<n)&&p 0) (decide (1<n)&&p 1) (decide (2<n)&&p 2) (decide (3<n)&&p 3) (decide (4<n)&&p 4)
theorem QP (ns:List D)(fs:List Fl)(r h:Nat):iY (vw ns fs r h) .none=Ga (.bool true)/\iR (vw ns fs r h) .none=Ga (.bool false):=by
 cases r with
 | zero=>exact⟨rfl,rfl⟩
 | succ r=>exact⟨rfl,rfl⟩
theorem Rp {ns:List D}{fs:List Fl}{r h o:Nat}(ho:o<ns.length):gC (.tuple ((je ns.length).map λo=>if o=h\/cm fs o h ((r+1:Nat):Int)=true then vw ns fs r o else .none)) (.int o)=Ga (if hd fs h (r+1) o=true then vw ns fs r o else .none):=by
 refine Cc ?_;rw[jA,kZ ho,v9];refine congrArg Ga ?_;unfold hd;by_cases q:o=h\/cm fs o h ((r+1:Nat):Int)=true
 .rw[Ge q,Ge (by rw[kj,decide_eq_true_eq];exact q)]
 .rw[Gf q,Gf (by rw[kj,decide_eq_true_eq];exact q)]
theorem SF (ns:List D)(fs:List Fl)(r h:Nat):iy (.tuple ((je ns.length).map λo=>if o=h\/cm fs o h ((r+1:Nat):Int)=true then vw ns fs r o else .none))=Ga (.int ns.length):=by
 show Ga (jc ((JO _ (je ns.length)).length:Nat))=_;rw[jb,jG]
theorem SZ (ns:List D)(fs:List Fl)(h5:ns.length<=5)(r h:Nat):As [vw ns fs (r+1) h]=Ga (.int (mH ns.length (hd fs h (r+1)))):=by
 show gO (Ic [.val (vw ns fs (r+1) h),.no])=_;have hg:=λo (ho:o<ns.length)=>Rp (ns:=ns) (fs:=fs) (r:=r) (h:=h) ho;have hl:=SF ns fs r h;unfold vw;generalize jX ((je ns.length).map λo=>if o=h\/cm fs o h ((r+1:Nat):Int)=true then vw ns fs r o else uf)=P at hg hl;unfold Ic;rw[ni (e:=[.val (.tuple [.int h,P]),.val P]) rfl];have ec:ip (my iL (un iy (gv 1))) (iJ iY (gL gC (gv 1) (gv 0)) (iu .none)) (gv 0) [1] [.val (.tuple [.int h,P]),.val P]=Ga (((je ns.length).filter (hd fs h (r+1))).map λ(k:Nat)=>jc (k:Int)):=by
  refine(wm (ds:=lN 0 ns.length) ((wP (a:=.int ns.length) ((tB (a:=P) rfl).trans hl)).trans (wl (by omega))) (by rw[yH];omega)).trans ((Ay (p:=λd=>match d with|.int t=>hd fs h (r+1) t.toNat|_=>false) (F:=id) (λd hd'=>?_) (λd hd' _=>rfl)).trans ?_)
  .rw[rJ] at hd';obtain⟨o,ho,rfl⟩:=jv.mp hd';have ho':=jl.mp ho;show iJ _ _ _ [.val (.int o),.val P]=Ga (hd fs h (r+1) (o:Int).toNat);rw[ka];refine rR ((oV (a:=P) (b:=.int o) rfl rfl).trans (hg o ho')) rfl ?_;cases hd fs h (r+1) o with
   | true=>rw[Ge rfl];exact(QP ns fs r o).1
   | false=>rw[Gf jq];rfl
  .rw[rJ,vb,jU];rfl
 rw[oz (d:=.int (mH ns.length (hd fs h (r+1)))) ((mq (ds:=[.list (((je ns.length).filter (hd fs h (r+1))).map λ(k:Nat)=>jc (k:Int))]) (yT (wH ec) rfl)).trans (QQ _ h5 _))];rfl
theorem VP (ns:List D)(fs:List Fl)(h5:ns.length<=5)(r h:Nat):DQ [vw ns fs (r+1) h]=Ga (.int (mH ns.length (λo=>!hd fs h (r+1) o))):=by
 show gO (My [.val (vw ns fs (r+1) h),.no])=_;have hg:=λo (ho:o<ns.length)=>Rp (ns:=ns) (fs:=fs) (r:=r) (h:=h) ho;have hl:=SF ns fs r h;unfold vw;generalize jX ((je ns.length).map λo=>if o=h\/cm fs o h ((r+1:Nat):Int)=true then vw ns fs r o else uf)=P at hg hl;unfold My;rw[ni (e:=[.val (.tuple [.int h,P]),.val P]) rfl];have ec:ip (my iL (un iy (gv 1))) (iJ iR (gL gC (gv 1) (gv 0)) (iu .none)) (gv 0) [1] [.val (.tuple [.int h,P]),.val P]=Ga (((je ns.length).filter (λo=>!hd fs h (r+1) o)).map λ(k:Nat)=>jc (k:Int)):=by
  refine(wm (ds:=lN 0 ns.length) ((wP (a:=.int ns.length) ((tB (a:=P) rfl).trans hl)).trans (wl (by omega))) (by rw[yH];omega)).trans ((Ay (p:=λd=>match d with|.int t=>!hd fs h (r+1) t.toNat|_=>false) (F:=id) (λd hd'=>?_) (λd hd' _=>rfl)).trans ?_)
  .rw[rJ] at hd';obtain⟨o,ho,rfl⟩:=jv.mp hd';have ho':=jl.mp ho;show iJ _ _ _ [.val (.int o),.val P]=Ga (!hd fs h (r+1) (o:Int).toNat);rw[ka];refine rR ((oV (a:=P) (b:=.int o) rfl rfl).trans (hg o ho')) rfl ?_;cases hd fs h (r+1) o with
   | true=>rw[Ge rfl];exact(QP ns fs r o).2
   | false=>rw[Gf jq];rfl
  .rw[rJ,vb,jU];rfl
 rw[oz (d:=.int (mH ns.length (λo=>!hd fs h (r+1) o))) ((mq (ds:=[.list (((je ns.length).filter (λo=>!hd fs h (r+1) o)).map λ(k:Nat)=>jc (k:Int))]) (yT (wH ec) rfl)).trans (QQ _ h5 _))];rfl
theorem Xv:∀ (n:Fin 6) (q0 q1 q2 q3 q4:Bool),0<n.val->((mB (decide (0<n.val)&&!q0) (decide (1<n.val)&&!q1) (decide (2<n.val)&&!q2) (decide (3<n.val)&&!q3) (decide (4<n.val)&&!q4)==0)=(mB (decide (0<n.val)&&q0) (decide (1<n.val)&&q1) (decide (2<n.val)&&q2) (decide (3<n.val)&&q3) (decide (4<n.val)&&q4)==2*2^(n.val-1)-1)):=by nofun
def cl (n:Nat)(fs:List Fl)(h r:Nat):Bool:=if r=0 then mH n (hd fs h 1)==2*2^(n-1)-1 else mH n (hd fs h (r+1))==mH n (hd fs h r)
theorem Ye (ns:List D)(fs:List Fl)(G:lH ns.length fs)(hi:∀ d∈ns,∃ i:Int,d=.int i)(r h:Nat)(hh:h<ns.length)(hr:r<50):zX [vw ns fs (r+1) h]=Ga (.bool (cl ns.length fs h r)):=by
 have h5:=G.n5;have h2:=G.n2;show gO (Mj [.val (vw ns fs (r+1) h),.no])=_;have e1:=AM ns fs hi (r+1) h hh (by omega);have e2:=SZ ns fs h5 r h;have e3:=VP ns fs h5 r h;have e4:=Hj ns fs r h hh;generalize hv:vw ns fs (r+1) h=v at e1 e2 e3 e4;unfold Mj;rw[ni (e:=[.val v,.val (.int ((r+1:Nat):Int))]) (xI ((mq (ds:=[v]) rfl).trans e1))];rw[ni (sL (rR (x:=.int ((r+1:Nat):Int)) (y:=.int 0) (b:=false) rfl rfl ((sU _ _).trans (by congr 2))))];have c1:iJ iT (gv 1) (iu (.int 1)) (frz [.val v,.val (.int ((r+1:Nat):Int))])=Ga (decide (r=0)):=by
  refine rR (x:=.int ((r+1:Nat):Int)) (y:=.int 1) rfl rfl ((sU _ _).trans ?_)
  congr 2;rw[jS,beq_iff_eq,decide_eq_true_eq];omega
 unfold cl;by_cases q:r=0
 .rw[Ge q];have am:((mH ns.length (λo=>!hd fs h (r+1) o))==0)=(mH ns.length (hd fs h 1)==2*2^(ns.length-1)-1):=by
   rw[q];exact Xv ⟨ns.length,by omega⟩ _ _ _ _ _ (by show 0<ns.length;omega)
  rw[Ak (d:=.bool (mH ns.length (hd fs h 1)==2*2^(ns.length-1)-1)) ((vv (c1.trans (congrArg Ga (Gc q)))).trans (oz ((oV (b:=.int 0) ((mq (ds:=[v]) rfl).trans e3) rfl).trans ((sU _ _).trans (congrArg (λz=>Ga (j8 z)) am)))))];rfl
 .rw[Gf q,ni (sL (c1.trans (congrArg Ga (Gd q))))];obtain⟨r',rfl⟩:∃ r',r=r'+1:=⟨r-1,by omega⟩;have e5:=SZ ns fs h5 r' h;rw[oz (d:=.bool (mH ns.length (hd fs h (r'+1+1))==mH ns.length (hd fs h (r'+1)))) ((oV ((mq (ds:=[v]) rfl).trans e2) ((mq (ds:=[vw ns fs (r'+1) h]) (yT ((mq (ds:=[v]) rfl).trans e4) rfl)).trans e5)).trans (sU _ _))];rfl
def Lq (fs:List Fl)(n r h q x:Nat):Prop:=∃ o,Rb fs n r h (r-(q+1)) o/\hd fs o (q+1) x=false
theorem SE (ns:List D)(fs:List Fl)(h:Nat)(hh:h<ns.length)(b:Sl):∀ (ds:List D) (r:Nat) (x:Sl),ds.length<=r->∃ x',iP (mD 2) (ir 0 (gG zY (gu (gv 0) ig))) ds [.val (vw ns fs r h),b,x]=Ga (.nx [.val (vw ns fs (r-ds.length) h),b,x'])
 | [],r,x,_=>⟨x,rfl⟩
 | d::ds,r,x,hl=>by
  rw[jB] at hl ⊢;obtain⟨r',rfl⟩:∃ r',r=r'+1:=⟨r-1,by omega⟩;obtain⟨x',e⟩:=SE ns fs h hh b ds r' (.val d) (by omega);refine⟨x',?_⟩;unfold iP;rw[show mD 2 d [.val (vw ns fs (r'+1) h),b,x]=Ga [.val (vw ns fs (r'+1) h),b,.val d] from rfl,jn];rw[xI (d:=vw ns fs r' h) ((mq (ds:=[vw ns fs (r'+1) h]) rfl).trans (Hj ns fs r' h hh))];rw[show r'+1-(ds.length+1)=r'-ds.length by omega];exact e
theorem GD (ns:List D)(fs:List Fl)(hi:∀ d∈ns,∃ i:Int,d=.int i)(r q h:Nat)(hh:h<ns.length)(hr:r<100)(hq:q<=r):Cd [vw ns fs r h,.int q]=Ga (vw ns fs q h):=by
 show gO (GZ [.val (vw ns fs r h),.val (.int q),.no])=_;unfold GZ;have er:my iL (gL lM (gG rO (gu (gv 0) ig)) (gv 1)) [.val (vw ns fs r h),.val (.int q),.no]=Ga (lN 0 (r-q)):=by
  refine(wP (a:=.int ((r-q:Nat):Int)) ((oV (a:=.int r) (b:=.int q) ((mq (ds:=[vw ns fs r h]) rfl).trans (AM ns fs hi r h hh hr)) rfl).trans ?_)).trans (wl (by omega));show Ga (jc ((r:Int)-q))=_;rw[show(r:Int)-q=((r-q:Nat):Int) by omega]
 obtain⟨x',e⟩:=SE ns fs h hh (.val (.int q)) (lN 0 (r-q)) r .no (by rw[yH];omega);rw[yH,show r-(r-q)=q by omega] at e;rw[ni ((yF er).trans e)];rfl
theorem zv {α:Type}{fc:FB}{fe:FV}{base:En}(f:α->D)(p:α->Bool)(F:α->D):∀ {l:List α},(∀ a∈l,fc (.val (f a)::base)=Ga (p a))->(∀ a∈l,p a=true->fe (.val (f a)::base)=Ga (F a))->lc fc fe base (l.map f)=Ga ((l.filter p).map F)
 | [],_,_=>rfl
 | x::r,h1,h2=>by
  have ih:=zv (fc:=fc) (fe:=fe) (base:=base) f p F (l:=r) (λa ha=>h1 a (jj _ ha)) (λa ha=>h2 a (jj _ ha));rw[jI];unfold lc;rw[h1 x jf,jn];cases c:p x with
  | true=>rw[Ge rfl,h2 x jf c,jn,ih,jH c];rfl
  | false=>rw[Gf jq,ih,jQ (by rw[c];exact jq)]
theorem Ao {α:Type}{fe:FV}{base:En}(f:α->D)(F:α->D){l:List α}(h2:∀ a∈l,fe (.val (f a)::base)=Ga (F a)):lc (λ_=>Ga true) fe base (l.map f)=Ga (l.map F):=by
 rw[zv (fc:=λ_=>Ga true) f (λ_=>true) F (λ_ _=>rfl) (λa ha _=>h2 a ha)];rw[List.filter_eq_self.mpr (λ_ _=>rfl)]
def pt (ns:List D)(fs:List Fl)(r h o:Nat):D:=if hd fs h (r+1) o=true then vw ns fs r o else .none
theorem zF8 (ns:List D)(fs:List Fl)(r h:Nat):∃ ds,vw ns fs r h=.tuple ds:=by cases r<;>exact⟨_,rfl⟩
theorem oj (l:List Int):mR (l.map jc)=Ga l:=by
 induction l with
 | nil=>rfl
 | cons i r ih=>rw[jI];show(mR (r.map jc)).bind _=_;rw[ih];rfl
def hl (n:Nat)(p:Nat->Bool):List D:=(je n).map λo=>.bool (p o)
theorem OX (m h:Int)(h0:0<=h)(h1:h<1000):tQ [.int m,.int h]=Ga (.bool (!(uJ m (2^h.toNat)==0))):=by
 refine congrArg gO (oz (ψ:=[.val (.int m),.val (.int h)]) ((oV ((oV rfl ((mq rfl).trans (Lm h h0 h1))).trans rfl) rfl).trans ?_));exact NE _ _
def wX (fs:List Fl)(h:Nat):D:=match mE fs h with|some f=>fd f|none=>.none
theorem OG (a:Sl)(h:Nat):∀ (fs:List Fl) (x:Sl),
  (mE fs h=Gb->∃ x',iP (mD 2) (mM (iJ iT (gL gC (gv 2) (iu (.int 0))) (gv 1)) (iM (gv 2)) mW) (fs.map fd) [a,.val (.int h),x]=Ga (.nx [a,.val (.int h),x'])) /\
  (∀ f,mE fs h=Ga f->iP (mD 2) (mM (iJ iT (gL gC (gv 2) (iu (.int 0))) (gv 1)) (iM (gv 2)) mW) (fs.map fd) [a,.val (.int h),x]=Ga (.rt (fd f)))
 | [],x=>⟨λ_=>⟨x,rfl⟩,λf e=>by cases e⟩
 | f::r,x=>by
  obtain⟨i1,i2⟩:=OG a h r (.val (fd f));have hc:iJ iT (gL gC (gv 2) (iu (.int 0))) (gv 1) (frz [a,.val (.int h),.val (fd f)])=Ga (f.h==h):=rR (x:=.int f.h) (y:=.int h) rfl rfl (VI f h);by_cases hh:(f.h==h)=true
  .have ef:mE (f::r) h=Ga f:=by unfold mE;exact kD (p:=λ(f:Fl)=>f.h==h) hh
   rw[ef];refine⟨λe=>by(cases e),λf' e=>?_⟩;cases e;rw[jI];unfold iP;rw[show mD 2 (fd f) [a,.val (.int h),x]=Ga [a,.val (.int h),.val (fd f)] from rfl,jn,vv (hc.trans (congrArg Ga hh))];rfl
  .have ef:mE (f::r) h=mE r h:=by unfold mE;exact kA (p:=λ(f:Fl)=>f.h==h) hh
   have hf:(f.h==h)=false:=by cases hq:(f.h==h) with|true=>exact absurd hq hh|false=>rfl
   have st:∀ o,iP (mD 2) (mM (iJ iT (gL gC (gv 2) (iu (.int 0))) (gv 1)) (iM (gv 2)) mW) (r.map fd) [a,.val (.int h),.val (fd f)]=o->iP (mD 2) (mM (iJ iT (gL gC (gv 2) (iu (.int 0))) (gv 1)) (iM (gv 2)) mW) ((f::r).map fd) [a,.val (.int h),x]=o:=by
    intro o e;rw[jI];rw[show ∀ t g d (ds:List D) ψ,iP t g (d::ds) ψ=(t d ψ).bind λe1=>(g e1).bind λo=>match o with|.nx e=>iP t g ds e|.ct e=>iP t g ds e|.bk e=>Ga (.nx e)|.rt d=>Ga (.rt d)|.ro ds=>Ga (.ro ds)|.rm a k=>Ga (.rm a k)|.rc d e=>Ga (.rc d e) from λ_ _ _ _ _=>rfl];rw[show mD 2 (fd f) [a,.val (.int h),x]=Ga [a,.val (.int h),.val (fd f)] from rfl,jn,sL (hc.trans (congrArg Ga hf))];exact e
   rw[ef];exact⟨λe=>by obtain⟨x',e'⟩:=i1 e;exact⟨x',st _ e'⟩,λf' e=>st _ (i2 f' e)⟩
theorem Lf (ns:List D)(fs:List Fl)(h:Nat):Ag [rd ns fs,.int h]=Ga (wX fs h):=by
 obtain⟨i1,i2⟩:=OG (.val (rd ns fs)) h fs .no;show gO (Ht [.val (rd ns fs),.val (.int h),.no])=_;unfold Ht wX;cases e:mE fs h with
 | none =>
  obtain⟨x',e'⟩:=i1 e;rw[ni ((yF (ds:=fs.map fd) rfl).trans e')];rfl
 | some f=>rw[Ak ((yF (ds:=fs.map fd) rfl).trans (i2 f e))];rfl
theorem SK (ns:List D)(fs:List Fl)(h:Nat)(r:Int):AF [rd ns fs,.int h,.int r]=Ga (.bool (up fs h r)):=by
 show gO (Kz [.val (rd ns fs),.val (.int h),.val (.int r),.no])=_;unfold Kz;rw[ni (e:=[.val (rd ns fs),.val (.int h),.val (.int r),.val (wX fs h)]) (xI ((mq (ds:=[rd ns fs,.int h]) rfl).trans (Lf ns fs h)))];unfold wX up;cases mE fs h<;>rfl
theorem Cs (ns:List D)(fs:List Fl):pe [rd ns fs]=Ga (.int ns.length):=rfl
theorem BU (ns:List D)(fs:List Fl)(r:Int)(hn:ns.length<=5):sw [rd ns fs,.int r]=Ga (((je ns.length).filter λh=>up fs h r).map λ(h:Nat)=>jc (h:Int)):=by
 show rH (KG [.val (rd ns fs),.val (.int r)])=_;have ei:(my iL (gG pe (gu (gv 0) ig))) [.val (rd ns fs),.val (.int r)]=Ga (lN 0 ns.length) :=
  (wP (a:=.int ns.length) ((mq (ds:=[rd ns fs]) rfl).trans (Cs ns fs))).trans (wl (by omega))
 have e:=QF ((wm (fc:=nz (gG AF (gu (gv 2) (gu (gv 0) (gu (gv 1) ig))))) (fe:=gv 0) (ix:=[1,0]) ei (by rw[yH];omega)).trans (Ay (p:=λd=>match d with|.int h=>up fs h.toNat r|_=>false) (F:=id) (λd hd=>by
  rw[rJ] at hd;obtain⟨k,hk,rfl⟩:=jv.mp hd;exact yD ((mq (ds:=[rd ns fs,.int (k:Int),.int r]) rfl).trans (SK _ _ _ _)) rfl) (λd hd _=>rfl)))
 unfold KG;rw[e,Sn,rJ,vb,jU];rfl
theorem zAp:∀ (m:Fin 32) (h:Fin 5),(!(uJ (m.val:Int) (2^h.val)==0))=decide ((m.val:Int)/(2^h.val)%2=1):=by nofun
theorem Sq (m h:Nat)(hm:m<32)(hh:h<5):tQ [.int m,.int h]=Ga (.bool (decide ((m:Int)/(2^h)%2=1))):=by
 rw[OX _ _ (by omega) (by omega),ka];exact congrArg (λb=>Ga (j8 b)) (zAp ⟨m,hm⟩ ⟨h,hh⟩)
def Fb (fs:List Fl)(b t:Nat)(at_:Int):Bool :=
 if b=t then false else if up fs t at_=false then false else match mE fs b with
  | none=>true
  | some f=>if at_<f.a then true else decide (f.a=at_)&&decide ((f.m:Int)/(2^t)%2=1)
theorem zAq (ns:List D)(fs:List Fl)(b t:Nat)(at_:Int)(G:lH ns.length fs)(ht:t<ns.length):CK [rd ns fs,.int b,.int t,.int at_]=Ga (.bool (Fb fs b t at_)):=by
 have h5:=G.n5;show gO (IB [.val (rd ns fs),.val (.int b),.val (.int t),.val (.int at_),.no])=_;unfold IB;have c1:iJ iT (gv 1) (gv 2) (frz [.val (rd ns fs),.val (.int b),.val (.int t),.val (.int at_),.no])=Ga (decide (b=t)):=by
  refine rR (x:=.int b) (y:=.int t) rfl rfl ((sU _ _).trans ?_)
  congr 2;rw[jS,beq_iff_eq,decide_eq_true_eq];omega
 have c2:rK (nz (gG AF (gu (gv 0) (gu (gv 2) (gu (gv 3) ig))))) (frz [.val (rd ns fs),.val (.int b),.val (.int t),.val (.int at_),.no])=Ga (!(up fs t at_)) :=
  Ik (yD ((mq (ds:=[rd ns fs,.int t,.int at_]) rfl).trans (SK _ _ _ _)) rfl)
 unfold Fb;by_cases hbt:b=t
 .rw[Ge hbt,Ak ((vv (Dq (c1.trans (congrArg Ga (Gc hbt))))).trans (oz rfl))];rfl
 rw[Gf hbt];by_cases hu:up fs t at_=false
 .rw[Ge hu,Ak ((vv ((yv (c1.trans (congrArg Ga (Gd hbt)))).trans (c2.trans (by rw[hu];rfl)))).trans (oz rfl))];rfl
 rw[Gf hu];have hu':up fs t at_=true:=by cases h:up fs t at_ with|true=>rfl|false=>exact absurd h hu
 rw[ni (sL ((yv (c1.trans (congrArg Ga (Gd hbt)))).trans (c2.trans (by rw[hu'];rfl))))];rw[ni (e:=[.val (rd ns fs),.val (.int b),.val (.int t),.val (.int at_),.val (wX fs b)]) (xI ((mq (ds:=[rd ns fs,.int b]) rfl).trans (Lf ns fs b)))];unfold wX;cases e:mE fs b with
 | none=>rw[Ak ((vv (Dq (rR (x:=.none) (y:=.none) rfl rfl rfl))).trans (oz rfl))];rfl
 | some f =>
  have hm:=G.mb f (FD e).1;dsimp only;have d1:iJ iR (gv 4) (iu .none) (frz [.val (rd ns fs),.val (.int b),.val (.int t),.val (.int at_),.val (fd f)])=Ga false:=rR (x:=fd f) (y:=.none) rfl rfl rfl;have d2:iJ pB (gL gC (gv 4) (iu (.int 1))) (gv 3) (frz [.val (rd ns fs),.val (.int b),.val (.int t),.val (.int at_),.val (fd f)])=Ga (decide (at_<f.a)):=rR (x:=.int f.a) (y:=.int at_) rfl rfl rfl;by_cases hl:at_<f.a
  .rw[Ge hl,Ak ((vv ((yv d1).trans (d2.trans (congrArg Ga (Gc hl))))).trans (oz rfl))];rfl
  rw[Gf hl,ni (sL ((yv d1).trans (d2.trans (congrArg Ga (Gd hl)))))];have d3:gL iT (gL gC (gv 4) (iu (.int 1))) (gv 3) [.val (rd ns fs),.val (.int b),.val (.int t),.val (.int at_),.val (fd f)]=Ga (.bool (decide (f.a=at_))):=by
   refine(oV (a:=.int f.a) (b:=.int at_) rfl rfl).trans ((sU _ _).trans ?_)
   congr 2
  have d4:gG tQ (gu (gL gC (gv 4) (iu (.int 2))) (gu (gv 2) ig)) [.val (rd ns fs),.val (.int b),.val (.int t),.val (.int at_),.val (fd f)]=Ga (.bool (decide ((f.m:Int)/(2^t)%2=1))) :=
   (mq (ds:=[.int f.m,.int t]) rfl).trans (Sq _ _ hm (by omega))
  rw[oz (d:=.bool (decide (f.a=at_)&&decide ((f.m:Int)/(2^t)%2=1))) ?_]
  .rfl
  .show((gL iT (gL gC (gv 4) (iu (.int 1))) (gv 3) [.val (rd ns fs),.val (.int b),.val (.int t),.val (.int at_),.val (fd f)]).bind ly).bind _=_;rw[d3,jn,show ly (.bool (decide (f.a=at_)))=Ga (decide (f.a=at_)) from rfl,jn];cases decide (f.a=at_) with
   | false=>rfl
   | true=>exact d4
def pv (ns:List D)(fs:List Fl)(r h:Nat):D:=if up fs h r=true then vw ns fs r h else .none
def vL (ns:List D)(fs:List Fl)(r:Nat):List D:=(je ns.length).map λh=>pv ns fs r h
theorem Rk (ns:List D)(fs:List Fl)(r:Nat):(vL ns fs r).length=ns.length:=by unfold vL;rw[jb,jG]
theorem EQ {ns:List D}{fs:List Fl}{r h:Nat}(hh:h<ns.length):gC (.list (vL ns fs r)) (.int h)=Ga (pv ns fs r h):=by
 refine Cc ?_;unfold vL;rw[jA,kZ hh];rfl
theorem Iw {fs:List Fl}{h:Nat}{r r':Int}(hr:r<=r')(u:up fs h r'=true):up fs h r=true:=by
 unfold up at u ⊢;cases e:mE fs h with
 | none=>rfl
 | some f=>rw[e] at u;dsimp only at u ⊢;rw[decide_eq_true_eq] at u ⊢;omega
theorem Rc:∀ {fs:List Fl},(fs.map Fl.h).Nodup->∀ {f g:Fl},f∈fs->g∈fs->f.h=g.h->f=g
 | [],_,f,g,hf,_,_=>by cases hf
 | x::r,nd,f,g,hf,hg,e=>by
  rw[jI,kh] at nd;rcases ju.mp hf with z|z
  .rcases ju.mp hg with w|w
   .exact z.trans w.symm
   .exact absurd (jv.mpr ⟨g,w,by rw[<- e,z]⟩) nd.1
  .rcases ju.mp hg with w|w
   .exact absurd (jv.mpr ⟨f,z,by rw[e,w]⟩) nd.1
   .exact Rc nd.2 z w e
theorem QD {n:Nat}{fs:List Fl}(G:lH n fs){o h:Nat}{r:Nat}(c:cm fs o h ((r+1:Nat):Int)=true):up fs o r=true:=by
 rw[wg G] at c;rw[oW G];intro f hf e;have:=((c f hf).2 e).1;omega
theorem zE0 {n:Nat}{fs:List Fl}(G:lH n fs){b t:Nat}{r:Int}(q:¬b=t):Fb fs b t r=cm fs b t r:=by
 rw[jS,wg G];unfold Fb;rw[Gf q];have us:=oW G t r;cases u:up fs t r with
 | false =>
  rw[Ge rfl];constructor
  .intro z;cases z
  .intro z;have:=us.mpr λf hf e=>(z f hf).1 e;rw[u] at this;cases this
 | true =>
  rw[Gf (by decide)];have ut:=us.mp u;cases e:mE fs b with
  | none =>
   refine⟨λ_ f hf=>⟨ut f hf,λeb=>?_⟩,λ_=>rfl⟩;have:=uY.mp e f hf;rw[eb] at this;exact absurd (beq_self_eq_true b) this
  | some f0 =>
   obtain⟨m0,e0⟩:=FD e;dsimp only;constructor
   .intro z f hf;refine⟨ut f hf,λeb=>?_⟩;have:f=f0:=Rc G.nd hf m0 (eb.trans e0.symm);subst this;split at z
    .exact⟨by omega,λw=>by omega⟩
    .rw[jx,decide_eq_true_eq] at z;exact⟨by omega,λ_=>z.2⟩
   .intro z;have z:=(z f0 m0).2 e0;split
    .rfl
    .have:f0.a=r:=by omega
     rw[Gc this,kC];exact z.2 this
theorem Bv {c:FB}{f g:FV}{ψ:En}{b:Bool}(h:c ψ=Ga b):wD c f g ψ=if b then f ψ else g ψ:=by show(c ψ).bind _=_;rw[h];rfl
theorem zo0 (ns:List D)(fs:List Fl)(G:lH ns.length fs)(r h:Nat)(hh:h<ns.length)(u:up fs h ((r+1:Nat):Int)=true) :
  DY [rd ns fs,.list (vL ns fs r),.int h,.int ((r+1:Nat):Int)]=Ga (vw ns fs (r+1) h):=by
 have h5:=G.n5;show gO (Kh [.val (rd ns fs),.val (.list (vL ns fs r)),.val (.int h),.val (.int ((r+1:Nat):Int)),.no])=_;unfold Kh;have el:un iy (gv 1) [.val (rd ns fs),.val (.list (vL ns fs r)),.val (.int h),.val (.int ((r+1:Nat):Int)),.no]=Ga (.int ns.length):=by
  rw[tB (a:=.list (vL ns fs r)) rfl];show Ga (jc ((vL ns fs r).length:Nat))=_;rw[Rk]
 have ec:ip (my iL (un iy (gv 1))) (λ_=>Ga true) (wD (tU (iJ iT (gv 0) (gv 2)) (nz (gG CK (gu (gv 3) (gu (gv 0) (gu (gv 2) (gu (gv 1) ig))))))) (gL gC (gv 4) (gv 0)) (iu .none)) [3,2,0,1] [.val (rd ns fs),.val (.list (vL ns fs r)),.val (.int h),.val (.int ((r+1:Nat):Int)),.no]=Ga ((je ns.length).map λo=>if o=h\/cm fs o h ((r+1:Nat):Int)=true then vw ns fs r o else .none):=by
  refine(wm (ds:=lN 0 ns.length) ((wP el).trans (wl (by omega))) (by rw[yH];omega)).trans ((zP (F:=λd=>match d with|.int t=>(if t.toNat=h\/cm fs t.toNat h ((r+1:Nat):Int)=true then vw ns fs r t.toNat else .none)|_=>.none) (λd hd=>?_)).trans ?_)
  .rw[rJ] at hd;obtain⟨o,ho,rfl⟩:=jv.mp hd;have ho':=jl.mp ho;show wD _ _ _ [.val (.int o),.val (.int ((r+1:Nat):Int)),.val (.int h),.val (rd ns fs),.val (.list (vL ns fs r))]=Ga (if (o:Int).toNat=h\/cm fs (o:Int).toNat h ((r+1:Nat):Int)=true then vw ns fs r (o:Int).toNat else .none);rw[ka];have c1:iJ iT (gv 0) (gv 2) [.val (.int o),.val (.int ((r+1:Nat):Int)),.val (.int h),.val (rd ns fs),.val (.list (vL ns fs r))]=Ga (decide (o=h)):=by
    refine rR (x:=.int o) (y:=.int h) rfl rfl ((sU _ _).trans ?_)
    congr 2;rw[jS,beq_iff_eq,decide_eq_true_eq];omega
   have c2:¬o=h->nz (gG CK (gu (gv 3) (gu (gv 0) (gu (gv 2) (gu (gv 1) ig))))) [.val (.int o),.val (.int ((r+1:Nat):Int)),.val (.int h),.val (rd ns fs),.val (.list (vL ns fs r))]=Ga (cm fs o h ((r+1:Nat):Int)) :=
    λq=>yD ((mq (ds:=[rd ns fs,.int o,.int h,.int ((r+1:Nat):Int)]) rfl).trans ((zAq ns fs o h _ G hh).trans (congrArg (λb=>Ga (j8 b)) (zE0 G q)))) rfl
   have ix:∀ (w:up fs o r=true),gL gC (gv 4) (gv 0) [.val (.int o),.val (.int ((r+1:Nat):Int)),.val (.int h),.val (rd ns fs),.val (.list (vL ns fs r))]=Ga (vw ns fs r o):=λw=>by
    refine(oV (a:=.list (vL ns fs r)) (b:=.int o) rfl rfl).trans ((EQ ho').trans ?_);unfold pv;rw[Ge w]
   by_cases q:o=h
   .rw[Bv (b:=true) (Dq (c1.trans (congrArg Ga (Gc q)))),Ge rfl,Ge (k9 q)];exact ix (by rw[q];exact Iw (by omega) u)
   .cases hc:cm fs o h ((r+1:Nat):Int) with
    | true =>
     rw[Bv (b:=true) ((yv (c1.trans (congrArg Ga (Gd q)))).trans ((c2 q).trans (congrArg Ga hc))),Ge rfl,Ge (kK rfl)];exact ix (QD G hc)
    | false =>
     rw[Bv (b:=false) ((yv (c1.trans (congrArg Ga (Gd q)))).trans ((c2 q).trans (congrArg Ga hc))),Gf jq,Gf (λz=>by rcases z with z|z;exact q z;cases z)]
  .rw[rJ,jU];rfl
 rw[ni (Pu ec rfl)];rfl
theorem zrQ {n:Nat}{fs:List Fl}{r:Int}{h:Nat}(hh:h<n):(((je n).filter λh=>up fs h r).map λ(k:Nat)=>(k:Int)).contains (h:Int)=up fs h r:=by
 rw[jS,jN,jv];constructor
 .rintro⟨k,hk,e⟩;have:k=h:=by omega
  subst this;exact(jL.mp hk).2
 .intro u;exact⟨h,jL.mpr ⟨jl.mpr hh,u⟩,rfl⟩
theorem znZ (ns:List D)(fs:List Fl)(G:lH ns.length fs)(r:Nat):Ee [rd ns fs,.list (vL ns fs r),.int ((r+1:Nat):Int)]=Ga (.list (vL ns fs (r+1))):=by
 have h5:=G.n5;show gO (HH [.val (rd ns fs),.val (.list (vL ns fs r)),.val (.int ((r+1:Nat):Int)),.no])=_;unfold HH;have hw:=BU ns fs ((r+1:Nat):Int) h5;generalize hU:(((je ns.length).filter λh=>up fs h ((r+1:Nat):Int)).map λ(h:Nat)=>jc (h:Int))=U at hw;have hU':U=((((je ns.length).filter λh=>up fs h ((r+1:Nat):Int)).map λ(k:Nat)=>(k:Int))).map jc:=by rw[jU,<- hU];rfl
 rw[ni (e:=[.val (rd ns fs),.val (.list (vL ns fs r)),.val (.int ((r+1:Nat):Int)),.val (.list U)]) (xI (wH ((Hq (ds:=[rd ns fs,.int ((r+1:Nat):Int)]) rfl).trans hw)))];have el:un iy (gv 1) [.val (rd ns fs),.val (.list (vL ns fs r)),.val (.int ((r+1:Nat):Int)),.val (.list U)]=Ga (.int ns.length):=by
  rw[tB (a:=.list (vL ns fs r)) rfl];show Ga (jc ((vL ns fs r).length:Nat))=_;rw[Rk]
 have ec:ip (my iL (un iy (gv 1))) (λ_=>Ga true) (wD (iJ zD (gv 0) (gv 3)) (gG DY (gu (gv 2) (gu (gv 4) (gu (gv 0) (gu (gv 1) ig))))) (iu .none)) [2,0,3,1] [.val (rd ns fs),.val (.list (vL ns fs r)),.val (.int ((r+1:Nat):Int)),.val (.list U)]=Ga (vL ns fs (r+1)):=by
  refine(wm (ds:=lN 0 ns.length) ((wP el).trans (wl (by omega))) (by rw[yH];omega)).trans ((zP (F:=λd=>match d with|.int t=>pv ns fs (r+1) t.toNat|_=>.none) (λd hd=>?_)).trans ?_)
  .rw[rJ] at hd;obtain⟨h,ho,rfl⟩:=jv.mp hd;have ho':=jl.mp ho;show wD _ _ _ [.val (.int h),.val (.int ((r+1:Nat):Int)),.val (rd ns fs),.val (.list U),.val (.list (vL ns fs r))]=Ga (pv ns fs (r+1) (h:Int).toNat);rw[ka];have c1:iJ zD (gv 0) (gv 3) [.val (.int h),.val (.int ((r+1:Nat):Int)),.val (rd ns fs),.val (.list U),.val (.list (vL ns fs r))]=Ga (up fs h ((r+1:Nat):Int)) :=
    rR (x:=.int h) (y:=.list U) rfl rfl (by rw[hU',zy7,zrQ ho'])
   rw[Bv c1];unfold pv;cases u:up fs h ((r+1:Nat):Int) with
   | true=>rw[Ge rfl,Ge rfl];exact(mq (ds:=[rd ns fs,.list (vL ns fs r),.int h,.int ((r+1:Nat):Int)]) rfl).trans (zo0 ns fs G r h ho' u)
   | false=>rw[Gf jq,Gf jq]
  .rw[rJ,jU];rfl
 exact(congrArg gO (oz (wH ec))).trans rfl
theorem up0 {n:Nat}{fs:List Fl}(G:lH n fs)(h:Nat):up fs h ((0:Nat):Int)=true:=by
 unfold up;cases e:mE fs h with
 | none=>rfl
 | some f=>dsimp only;rw[decide_eq_true_eq];have:=G.ab f (FD e).1;omega
theorem Yr {ns:List D}{h:Nat}(hh:h<ns.length):gC (.tuple ns) (.int h)=Ga (ns.getD h .none):=by
 refine Cc ?_;rw[jg,ji hh];rfl
theorem Sj (ns:List D)(fs:List Fl)(G:lH ns.length fs)(a b:Sl)(hb:a=.val (rd ns fs)):∀ (m s:Nat) (x:Sl),∃ x',iP (mD 3) (ir 2 (gG Ee (gu (gv 0) (gu (gv 2) (gu (gv 3) ig))))) ((qw s m).map λ(k:Nat)=>jc ((k+1:Nat):Int)) [a,b,.val (.list (vL ns fs s)),x]=Ga (.nx [a,b,.val (.list (vL ns fs (s+m))),x'])
 | 0,s,x=>⟨x,rfl⟩
 | m+1,s,x=>by
  subst hb;obtain⟨x',e⟩:=Sj ns fs G (.val (rd ns fs)) b rfl m (s+1) (.val (.int ((s+1:Nat):Int)));refine⟨x',?_⟩;rw[qJ,jI];unfold iP;rw[show mD 3 (jc ((s+1:Nat):Int)) [.val (rd ns fs),b,.val (.list (vL ns fs s)),x]=Ga [.val (rd ns fs),b,.val (.list (vL ns fs s)),.val (.int ((s+1:Nat):Int))] from rfl,jn];rw[xI (d:=.list (vL ns fs (s+1))) ((mq (ds:=[rd ns fs,.list (vL ns fs s),.int ((s+1:Nat):Int)]) rfl).trans (znZ ns fs G s))];rw[show s+(m+1)=s+1+m by omega];exact e
theorem YM (ns:List D)(fs:List Fl)(G:lH ns.length fs)(r:Nat)(hr:r<100):Cw [rd ns fs,.int r]=Ga (.list (vL ns fs r)):=by
 have h5:=G.n5;show gO (Hk [.val (rd ns fs),.val (.int r),.no,.no])=_;unfold Hk;have ec:ip (my iL (gG pe (gu (gv 0) ig))) (λ_=>Ga true) (pV (gu (gv 0) (gu (gL gC (gL gC (gv 1) (iu (.int 0))) (gv 0)) ig))) [0] [.val (rd ns fs),.val (.int r),.no,.no]=Ga (vL ns fs 0):=by
  refine(wm (ds:=lN 0 ns.length) ((wP (a:=.int ns.length) ((mq (ds:=[rd ns fs]) rfl).trans (Cs ns fs))).trans (wl (by omega))) (by rw[yH];omega)).trans ((zP (F:=λd=>match d with|.int t=>pv ns fs 0 t.toNat|_=>.none) (λd hd=>?_)).trans ?_)
  .rw[rJ] at hd;obtain⟨h,ho,rfl⟩:=jv.mp hd;have ho':=jl.mp ho;show pV _ [.val (.int h),.val (rd ns fs)]=Ga (pv ns fs 0 (h:Int).toNat);rw[ka];unfold pv;rw[Ge (up0 G h)];exact ZJ (yT rfl (yT ((oV (a:=.tuple ns) (b:=.int h) rfl rfl).trans (Yr ho')) rfl))
  .rw[rJ,jU];rfl
 rw[ni (Pu ec rfl)];obtain⟨x',e⟩:=Sj ns fs G (.val (rd ns fs)) (.val (.int r)) rfl r 0 .no;rw[qf] at e;have er:yw pY (iu (.int 1)) (gL iX (gv 1) (iu (.int 1))) [.val (rd ns fs),.val (.int r),.val (.list (vL ns fs 0)),.no]=Ga ((qw 0 r).map λ(k:Nat)=>jc ((k+1:Nat):Int)):=by
  refine(Xp (a:=.int 1) (b:=.int ((r:Int)+1)) rfl rfl).trans ?_;unfold pY;dsimp only;rw[Ge (by omega),show((r:Int)+1-1).toNat=r by omega,<- uF];unfold lN;refine congrArg Ga (jW λk _=>?_);rw[show(1:Int)+(k:Nat)=((k+1:Nat):Int) by omega]
 show gO (gX _ _ [.val (rd ns fs),.val (.int r),.val (.list (vL ns fs 0)),.no])=_;rw[ni ((yF er).trans e)];rfl
theorem GP {α:Type}[BEq α][LawfulBEq α]:∀ {l m:List α},l.Nodup->(∀ i∈l,i∈m)->l.length<=m.length
 | [],_,_,_=>jO _
 | x::l,m,nd,h=>by
  obtain⟨n1,n2⟩:=kh.mp nd;have hx:x∈m:=h x jf;have:=GP (m:=m.erase x) n2 λi hi=>(List.mem_erase_of_ne (λe=>n1 (by rw[<- e];exact hi))).mpr (h i (jj _ hi));rw[vF hx] at this;have:=uW hx;rw[jB];omega
theorem DS (fs:List Fl)(n r h x:Nat):Tf fs n (r+1) h x=true↔Tf fs n r h x=true\/∃ w,w<n/\cm fs w h ((r+1:Nat):Int)=true/\Tf fs n r w x=true:=by
 show(Tf fs n r h x||(je n).any λw=>cm fs w h ((r+1:Nat):Int)&&Tf fs n r w x)=true↔_;rw[kj,uN];refine or_congr_right ⟨λ⟨w,h1,h2⟩=>?_,λ⟨w,h1,h2,h3⟩=>⟨w,jl.mpr h1,by rw[h2,h3];rfl⟩⟩;rw[jx] at h2;exact⟨w,jl.mp h1,h2.1,h2.2⟩
theorem Te {n:Nat}{fs:List Fl}(G:lH n fs){k h x:Nat}(hh:h<n)(cl:∀ f∈fs,f.a≠((k+1:Nat):Int))(hu:up fs h ((k+1:Nat):Int)=true):Tf fs n (k+1) h x=true↔∃ b,b<n/\up fs b ((k+1:Nat):Int)=true/\Tf fs n k b x=true:=by
 rw[DS];constructor
 .rintro(z|⟨w,w1,w2,w3⟩)
  .exact⟨h,hh,hu,z⟩
  .refine⟨w,w1,(oW G w _).mpr λf hf e=>?_,w3⟩;have:=(((wg G w h _).mp w2 f hf).2 e).1;have:=cl f hf;omega
 .rintro⟨b,b1,b2,b3⟩;refine .inr ⟨b,b1,(wg G b h _).mpr λf hf=>⟨λe=>(oW G h _).mp hu f hf e,λe=>?_⟩,b3⟩;have:=(oW G b _).mp b2 f hf e;exact⟨by omega,λz=>by omega⟩
theorem HC {n:Nat}{fs:List Fl}(G:lH n fs){r:Nat}(r1:1<=r)(cl:∀ f∈fs,f.a≠(r:Int)):∀ k,r<=k->∀ h h' x,h<n->h'<n->up fs h (k:Int)=true->up fs h' (k:Int)=true->(Tf fs n k h x=true↔Tf fs n k h' x=true)
 | 0,hk,_,_,_,_,_,_,_=>by omega
 | k+1,hk,h,h',x,hh,hh',hu,hu'=>by
  by_cases e:r=k+1
  .subst e;exact(Te G hh cl hu).trans (Te G hh' cl hu').symm
  .have dn:∀ y,up fs y ((k+1:Nat):Int)=true->up fs y (k:Int)=true:=λy hy=>(oW G y _).mpr λf hf z=>by
    have:=(oW G y _).mp hy f hf z;omega
   have stay:∀ y,y<n->up fs y ((k+1:Nat):Int)=true->(Tf fs n (k+1) y x=true↔Tf fs n k y x=true):=λy hy hyu=>by
    rw[DS];refine⟨?_,.inl⟩;rintro(z|⟨w,w1,w2,w3⟩)
    .exact z
    .have uw:up fs w (k:Int)=true:=(oW G w _).mpr λf hf z=>by
      have:=(((wg G w y _).mp w2 f hf).2 z).1;omega
     exact(HC G r1 cl k (by omega) w y x w1 hy uw (dn y hyu)).mp w3
   exact(stay h hh hu).trans ((HC G r1 cl k (by omega) h h' x hh hh' (dn h hu) (dn h' hu')).trans (stay h' hh' hu').symm)
theorem zsS {n:Nat}{fs:List Fl}(G:lH n fs){t:Nat}(hc:fs.length<=t):∃ r:Nat,1<=r/\r<=t+1/\∀ f∈fs,f.a≠(r:Int):=by
 refine jV λno=>?_;have:=GP (l:=je (t+1)) (m:=fs.map λf=>f.a.toNat-1) uO λk hk=>by
  have hk:=jl.mp hk;refine jV λno2=>no ⟨k+1,by omega,by omega,λf hf e=>no2 (jv.mpr ⟨f,hf,by omega⟩)⟩
 rw[jG,jb] at this;omega
theorem Xw {is:List Int}{m:Int}(h:Bk is=Ga m):m∈is:=by
 cases is with
 | nil=>cases h
 | cons i r =>
  have h:r.foldl (λa b=>if b<a then b else a) i=m:=jD h;rcases(yq r i).1 with z|z
  .rw[<- h,z];exact jf
  .rw[<- h];exact jj _ z
theorem SY:∀ {ds:List D} {is:List Int},mR ds=Ga is->ds=is.map jc
 | [],is,h=>by cases h;rfl
 | d::r,is,h=>by
  cases d with
  | int i =>
   obtain⟨js,e1,e2⟩:=gp (show(mR r).bind (λl=>Ga (i::l))=Ga is from h);cases e2;rw[jI,<- SY e1]
  | _=>cases h
theorem zAs {ds:List D}{m:Int}(h:pb ds=Ga (.int m)):(.int m:D)∈ds:=by
 unfold pb at h;obtain⟨is,e1,h⟩:=gp h;obtain⟨k,e2,e3⟩:=gp h;cases e3;rw[SY e1];exact jv.mpr ⟨_,Xw e2,rfl⟩
def cn (n:Nat)(fs:List Fl)(h:Nat):Nat->Bool
 | 0=>false
 | r+1=>cl n fs h r
theorem Ef {n:Nat}{fs:List Fl}{k h i:Nat}(hh:h<n):Tf fs n (k+1) h i=true↔∃ b,b<n/\hd fs h (k+1) b=true/\Tf fs n k b i=true:=by
 rw[DS];constructor
 .rintro(z|⟨w,w1,w2,w3⟩)
  .exact⟨h,hh,by unfold hd;rw[Gc rfl];rfl,z⟩
  .exact⟨w,w1,by unfold hd;rw[w2,JQ],w3⟩
 .rintro⟨b,b1,b2,b3⟩;unfold hd at b2;rw[kj,decide_eq_true_eq] at b2;rcases b2 with rfl|b2
  .exact .inl b3
  .exact .inr ⟨b,b1,b2,b3⟩
theorem rQ {n:Nat}{fs:List Fl}(G:lH n fs){h j k:Nat}(hj:j<=k)(hu:up fs h (k:Int)=true):up fs h (j:Int)=true:=by
 rw[oW G] at hu ⊢;intro f hf e;have:=hu f hf e;omega
theorem Fj {n:Nat}{fs:List Fl}(G:lH n fs){k h b:Nat}(hu:up fs h ((k+1:Nat):Int)=true)(hb:hd fs h (k+1) b=true):up fs b (k:Int)=true:=by
 unfold hd at hb;rw[kj,decide_eq_true_eq] at hb;rcases hb with rfl|hb
 .exact rQ G (uP k) hu
 .rw[oW G];intro f hf e;have:=(((wg G b h _).mp hb f hf).2 e).1;omega
theorem Db {n:Nat}{fs:List Fl}(G:lH n fs){k h b:Nat}(hu:up fs h (k:Int)=true)(hb:up fs b (k:Int)=true):hd fs h k b=true:=by
 unfold hd;rw[kj];refine .inr ((wg G b h _).mpr λf hf=>⟨λe=>(oW G h _).mp hu f hf e,λe=>?_⟩);have:=(oW G b _).mp hb f hf e;exact⟨by omega,λz=>by omega⟩
theorem Yj:∀ c0 c1 c2 c3 c4 d0 d1 d2 d3 d4:Bool,mB c0 c1 c2 c3 c4=mB d0 d1 d2 d3 d4->c0=d0/\c1=d1/\c2=d2/\c3=d3/\c4=d4:=by nofun
theorem Sy {n:Nat}(n5:n<=5){p q:Nat->Bool}:mH n p=mH n q↔∀ b,b<n->p b=q b:=by
 constructor
 .intro h b hb;unfold mH at h;obtain⟨h0,h1,h2,h3,h4⟩:=Yj _ _ _ _ _ _ _ _ _ _ h;have e:b=0\/b=1\/b=2\/b=3\/b=4:=by omega
  rcases e with rfl|rfl|rfl|rfl|rfl
  .rw[Gc hb,kC,kC] at h0;exact h0
  .rw[Gc hb,kC,kC] at h1;exact h1
  .rw[Gc hb,kC,kC] at h2;exact h2
  .rw[Gc hb,kC,kC] at h3;exact h3
  .rw[Gc hb,kC,kC] at h4;exact h4
 .intro h;have e:∀ b,(decide (b<n)&&p b)=(decide (b<n)&&q b):=λb=>by
   by_cases hb:b<n
   .rw[h b hb]
   .rw[Gd hb,vk,vk]
  unfold mH;rw[e 0,e 1,e 2,e 3,e 4]
theorem zxX:∀ n:Fin 6,0<n.val->(2*2^(n.val-1)-1:Int)=mB (decide (0<n.val)&&true) (decide (1<n.val)&&true) (decide (2<n.val)&&true) (decide (3<n.val)&&true) (decide (4<n.val)&&true):=by nofun
theorem Ho {n:Nat}(n2:2<=n)(n5:n<=5)(fs:List Fl)(h:Nat):cn n fs h 1=true↔∀ b,b<n->hd fs h 1 b=true:=by
 show cl n fs h 0=true↔_;unfold cl;rw[Ge rfl,beq_iff_eq];have e:(2*2^(n-1)-1:Int)=mH n (λ_=>true):=zxX ⟨n,by omega⟩ (by show 0<n;omega);rw[e,Sy n5]
theorem Pk {n:Nat}(n5:n<=5)(fs:List Fl)(h k:Nat):cn n fs h (k+2)=true↔∀ b,b<n->hd fs h (k+2) b=hd fs h (k+1) b:=by
 show cl n fs h (k+1)=true↔_;unfold cl;rw[Gf (ua k),beq_iff_eq,Sy n5]
theorem Pm {n:Nat}{fs:List Fl}(G:lH n fs){k p q:Nat}(hp:p<n)(hq:q<n)(pu:up fs p (k:Int)=true)(uq:up fs q (k:Int)=true)(cl:cn n fs p k=true){i:Nat}(h:Tf fs n k q i=true):Tf fs n k p i=true:=by
 cases k with
 | zero=>cases cl
 | succ k =>
  rw[Ef hq] at h;rw[Ef hp];obtain⟨b,b1,b2,b3⟩:=h;refine⟨b,b1,?_,b3⟩;cases k with
  | zero=>exact(Ho G.n2 G.n5 fs p).mp cl b b1
  | succ k =>
   rw[(Pk G.n5 fs p k).mp cl b b1];exact Db G (rQ G (uP _) pu) (Fj G uq b2)
theorem UT {n:Nat}{fs:List Fl}{k h i:Nat}(hk:Tf fs n k h i=true):Tf fs n (k+1) h i=true:=(DS fs n k h i).mpr (.inl hk)
theorem SC {n:Nat}{fs:List Fl}(G:lH n fs){k p:Nat}(hp:p<n)(cl:cn n fs p k=true)(d q i:Nat)(hq:q<n)(uq:up fs q ((k+d:Nat):Int)=true)(pu:up fs p ((k+d:Nat):Int)=true)(hd':1<=d\/cn n fs q k=true):Tf fs n (k+d) q i=true↔Tf fs n k p i=true:=by
 have sub:∀ d b,b<n->up fs b ((k+d:Nat):Int)=true->up fs p ((k+d:Nat):Int)=true->Tf fs n (k+d) b i=true->Tf fs n k p i=true:=by
  intro d;induction d with
  | zero=>exact λb hb ub pu v=>Pm G hp hb pu ub cl v
  | succ d ih =>
   intro b hb ub pu v;have v:Tf fs n (k+d+1) b i=true:=v;rw[Ef hb] at v;obtain⟨x,x1,x2,x3⟩:=v;exact ih x x1 (Fj G ub x2) (rQ G (by omega) pu) x3
 refine⟨sub d q hq uq pu,λw=>?_⟩;cases d with
 | zero=>exact Pm G hq hp uq pu (hd'.resolve_left (by omega)) w
 | succ d =>
  have stay:∀ d,Tf fs n (k+d) p i=true:=by
   intro d;induction d with
   | zero=>exact w
   | succ d ih=>exact UT ih
  show Tf fs n (k+d+1) q i=true;rw[Ef hq];exact⟨p,hp,Db G uq pu,stay d⟩
theorem SI {n:Nat}{fs:List Fl}(G:lH n fs){t:Nat}(hc:fs.length<=t)(t4:t+1<=5){p q kp kq:Nat}(hp:p<n)(hq:q<n)(pu:up fs p ((5:Nat):Int)=true)(uq:up fs q ((5:Nat):Int)=true)(lp:kp<=t+1)(lq:kq<=t+1)(cp:cn n fs p kp=true\/kp=t+1)(cq:cn n fs q kq=true\/kq=t+1)(i:Nat) :
  Tf fs n kp p i=true↔Tf fs n kq q i=true:=by
 have main:∀ {p q kp kq:Nat},p<n->q<n->up fs p ((5:Nat):Int)=true->up fs q ((5:Nat):Int)=true->kp<=kq->kq<=t+1->(cn n fs p kp=true\/kp=t+1)->(cn n fs q kq=true\/kq=t+1)->(Tf fs n kp p i=true↔Tf fs n kq q i=true):=by
  intro p q kp kq hp hq pu uq le lq cp cq;by_cases e:kp=kq
  .subst e;by_cases z:kp=t+1
   .subst z;obtain⟨r,r1,r2,cl⟩:=zsS G hc;exact HC G r1 cl (t+1) r2 p q i hp hq (rQ G (by omega) pu) (rQ G (by omega) uq)
   .exact(SC G hp (cp.resolve_right z) 0 q i hq (rQ G (by omega) uq) (rQ G (by omega) pu) (.inr (cq.resolve_right z))).symm
  .obtain⟨d,rfl⟩:∃ d,kq=kp+d:=⟨kq-kp,by omega⟩;exact(SC G hp (cp.resolve_right (by omega)) d q i hq (rQ G (by omega) uq) (rQ G (by omega) pu) (.inl (by omega))).symm
 by_cases le:kp<=kq
 .exact main hp hq pu uq le lq cp cq
 .exact(main hq hp uq pu (by omega) lp cq cp).symm
theorem RG {p q:Nat->Bool}:∀ {l:List Nat},(∀ b∈l,p b=true->q b=true)->(l.filter p).length<=(l.filter q).length
 | [],_=>jh _
 | x::l,m=>by
  have ih:=RG (p:=p) (q:=q) (l:=l) λb hb=>m b (jj _ hb);by_cases c:p x=true
  .rw[jH (p:=p) c,jH (p:=q) (m x jf c),jB,jB];omega
  .rw[jQ (p:=p) c];by_cases d:q x=true
   .rw[jH (p:=q) d,jB];omega
   .rw[jQ (p:=q) d];exact ih
theorem OZ {p q:Nat->Bool}:∀ {l:List Nat},(∀ b∈l,p b=true->q b=true)->(∃ b∈l,p b=false/\q b=true)->(l.filter p).length+1<=(l.filter q).length
 | [],_,h=>by obtain⟨b,hb,_⟩:=h;cases hb
 | x::l,m,h=>by
  obtain⟨b,hb,b1,b2⟩:=h;have mt:=λb hb=>m b (jj x hb);rcases ju.mp hb with rfl|hb
  .rw[jQ (p:=p) (by rw[b1];exact jq),jH (p:=q) b2,jB];have:=RG (p:=p) (q:=q) mt;omega
  .have ih:=OZ (p:=p) (q:=q) mt ⟨b,hb,b1,b2⟩;by_cases c:p x=true
   .rw[jH (p:=p) c,jH (p:=q) (m x jf c),jB,jB];omega
   .rw[jQ (p:=p) c];by_cases d:q x=true
    .rw[jH (p:=q) d,jB];omega
    .rw[jQ (p:=q) d];exact ih
theorem Xm {n:Nat}{fs:List Fl}(G:lH n fs){f h:Nat}(hc:fs.length<=f)(hn:h<n)(hu:up fs h ((f+1:Nat):Int)=true):∃ k,1<=k/\k<=f+1/\cn n fs h k=true:=by
 refine jV λno=>?_;have all:∀ k,1<=k->k<=f+1->¬cn n fs h k=true:=λk h1 h2 z=>no ⟨k,h1,h2,z⟩;have key:∀ k,k<=f+1->k<=((je n).filter λb=>if k=0 then false else !hd fs h k b).length:=by
  intro k;induction k with
  | zero=>exact λ_=>jO _
  | succ k ih =>
   intro hk;have ih:=ih (by omega);have nc:=all (k+1) (by omega) hk;have uk:up fs h ((k+1:Nat):Int)=true:=rQ G (by omega) hu;have mon:∀ b,(if k=0 then false else !hd fs h k b)=true->(if k+1=0 then false else !hd fs h (k+1) b)=true:=λb hb=>by
    by_cases z:k=0
    .rw[Ge z] at hb;cases hb
    .rw[Gf z] at hb;rw[Gf (ua k)];cases y:hd fs h (k+1) b with
     | false=>rfl
     | true =>
      rw[Db G (rQ G (uP k) uk) (Fj G uk y)] at hb;cases hb
   have ex:∃ b∈je n,(if k=0 then false else !hd fs h k b)=false/\(if k+1=0 then false else !hd fs h (k+1) b)=true:=by
    cases k with
    | zero =>
     refine jV λn2=>nc ((Ho G.n2 G.n5 fs h).mpr λb hb=>?_);cases y:hd fs h 1 b with
     | true=>rfl
     | false=>exact absurd ⟨b,jl.mpr hb,rfl,by rw[Gf (ua 0)];show(!hd fs h 1 b)=true;rw[y];rfl⟩ n2
    | succ k =>
     refine jV λn2=>nc ((Pk G.n5 fs h k).mpr λb hb=>?_);cases y:hd fs h (k+2) b with
     | true=>exact(Db G (rQ G (uP _) uk) (Fj G uk y)).symm
     | false =>
      cases y3:hd fs h (k+1) b with
      | false=>rfl
      | true=>exact absurd ⟨b,jl.mpr hb,by rw[Gf (ua k),y3];rfl,by rw[Gf (ua (k+1))];show(!hd fs h (k+2) b)=true;rw[y];rfl⟩ n2
   have:=OZ (λb _=>mon b) ex;omega
 have k1:=key (f+1) (jh _);have k2:=GP (l:=(je n).filter λb=>if f+1=0 then false else !hd fs h (f+1) b) (m:=fs.map Fl.h) (u6 k5 uO) λx hx=>by
  have hx:=(jL.mp hx).2;rw[Gf (ua f)] at hx;refine jV λno=>?_;have:up fs x ((f+1:Nat):Int)=true:=(oW G x _).mpr λf hf e=>absurd (jv.mpr ⟨f,hf,e⟩) no;rw[Db G hu this] at hx;cases hx
 rw[jb] at k2;omega
open Lean in
local macro_rules|`(tactic|simp_arith[$a,*])=>do let l:TSyntaxArray `ident:=("zDX zDY zF1 zDZ XW UQ XF zCa zD1 zCb WL zCd Ww zwY Vt zCe WN zCf zCg zzS zzT zD4 UV zCh zCi zCj XM zCm zCn ZB ZX Zx Ze zEa zzW zEb zCp zCq zCr zCs Xb zCt WK zCv zCw zCx WJ zCz zCA ZD zzY Vl Wg ZN zuJ Xy WA zsH Zj zw4 zw5 zw6 Zh zEg zEh WI zCC zEi XT YK UP zCE Zu zEl WQ Xh Yc zCG zEp zEq zEr Wp zEs zEt zCI VE zEv Vd zEx zEy zCJ zEz Yx Yo zEB zCL Zf Zt WE UZ zCO UX zCP zz3 Vz zuM Zz zuN zuO zEC Ti zCQ zED zz6 Xx ZT SU Ri zEG Xz zEI zEJ zF2 ZO zF4 zF5 zEK zCR zCS Yi zEM El Yh Vp zEP zz7 UI Zy zAa Xq Vv Xe zxA zxB zxC zxD zAb ZF zuP zAd Xf zuQ zrB YA jn Option.bind_none qA Bool.not_false zuR ite_true ite_false decide_true decide_false".splitOn " ").toArray.map fun s=>mkIdent s.toName;`(tactic|simp only[$[$l:ident],*,$a,*])
def il (A:List Nat):List D:=A.map λ(k:Nat)=>jc (k:Int)
theorem zrS (f:Fl)(hm:f.m<32)(U:List Nat)(hU:∀ x∈U,x<5)(hl:U.length<=5):yU [fd f,.list (il U)]=Ga (.bool (U.all λh=>bt f.m h)):=by
 show gO (Hb [.val (fd f),.val (.list (il U))])=_;unfold Hb;have ec:ip (nw (gv 1)) (λ_=>Ga true) (gG tQ (gu (gL gC (gv 1) (iu (.int 2))) (gu (gv 0) ig))) [0] [.val (fd f),.val (.list (il U))]=Ga ((U.map λh=>bt f.m h).map j8):=by
  refine(wm (ds:=il U) rfl (by unfold il;rw[jb];omega)).trans ((zP (F:=λd=>match d with|.int t=>.bool (bt f.m t.toNat)|_=>.none) (λd hd=>?_)).trans ?_)
  .obtain⟨h,hh,rfl⟩:=jv.mp hd;show gG tQ _ [.val (.int h),.val (fd f)]=Ga (.bool (bt f.m (h:Int).toNat));rw[ka];exact(mq (ds:=[.int f.m,.int h]) rfl).trans (Sq f.m h hm (hU h hh))
  .unfold il;rw[jU,jU];rfl
 refine(congrArg gO (oz (d:=.bool (U.all λh=>bt f.m h)) ((IW ec).trans ?_))).trans rfl;unfold rZ;rw[DW,jn,JR];rfl
theorem Fp:∀ (n:Nat) (l:List Nat),l.Nodup->(∀ x∈l,x<n)->l.length<=n
 | 0,[],_,_=>jh _
 | 0,x::r,_,h=>absurd (h x jf) (qY _)
 | n+1,l,nd,h=>by
  by_cases hm:n∈l
  .have ih:=Fp n (l.erase n) (nd.erase n) (λx hx=>by
    have h1:=(nd.mem_erase_iff.mp hx);have h2:=h x h1.2;have h3:=h1.1;omega)
   rw[vF hm] at ih;omega
  .have ih:=Fp n l nd (λx hx=>by
    have h2:=h x hx;have h3:x≠n:=λe=>hm (e▸hx);omega)
   omega
theorem zE2 {n:Nat}{fs:List Fl}(G:lH n fs):fs.length<=n:=by
 have:=Fp n (fs.map Fl.h) G.nd (λx hx=>by obtain⟨f,hf,rfl⟩:=jv.mp hx;exact G.hb f hf);rw[jb] at this;exact this
theorem Eb (f:Fl):bk (fd f)=f:=by
 show(⟨(f.h:Int).toNat,f.a,(f.m:Int).toNat⟩:Fl)=f;rw[ka,ka]
def Hs (b0 b1 b2 b3 b4:Bool):List Int:=(if b0 then[0] else[])++(if b1 then[1] else[])++(if b2 then[2] else[])++(if b3 then[3] else[])++(if b4 then[4] else[])
theorem VT:∀ (b0 b1 b2 b3 b4:Bool),za [.int (mB b0 b1 b2 b3 b4)]=Ga ((Hs b0 b1 b2 b3 b4).map jc):=by
 have key:∀ (b0 b1 b2 b3 b4:Bool),((je (kM (mB b0 b1 b2 b3 b4))).map λ(k:Nat)=>(k:Int)).filter (λh=>!(uJ (mB b0 b1 b2 b3 b4) (2^h.toNat)==0))=Hs b0 b1 b2 b3 b4:=by nofun
 have small:∀ (b0 b1 b2 b3 b4:Bool),kM (mB b0 b1 b2 b3 b4)<10:=by nofun
 intro b0 b1 b2 b3 b4;have sm:=small b0 b1 b2 b3 b4;show rH (Il [.val (.int (mB b0 b1 b2 b3 b4))])=_;generalize hm:mB b0 b1 b2 b3 b4=m at sm ⊢;have ei:(my iL (un Bf (gv 0))) [.val (.int m)]=Ga (lN 0 (kM m)):=by
  refine(wP (a:=.int (kM m:Nat)) ((tB (a:=.int m) rfl).trans rfl)).trans ?_;generalize kM m=k at sm;unfold iL;dsimp only;rw[Ge (by constructor<;>omega),ka]
 have hlen:(lN 0 (kM m)).length<=1000000:=by unfold lN;rw[jb,jG];omega
 have e:=QF ((wm (fc:=nz (gG tQ (gu (gv 1) (gu (gv 0) ig)))) (fe:=gv 0) (ix:=[0]) ei hlen).trans (Ay (p:=λd=>match d with|.int h=>!(uJ m (2^h.toNat)==0)|_=>false) (F:=id) (λd hd=>by
  obtain⟨k,hk,rfl⟩:=jv.mp hd;have hk':=jl.mp hk;exact yD ((mq rfl).trans (OX _ _ (by omega) (by omega))) rfl) (λd hd _=>rfl)))
 unfold Il;rw[e];rw[Sn];rw[List.map_id];rw[<- key b0 b1 b2 b3 b4];rw[hm];refine congrArg Ga ?_;unfold lN;rw[vb,vb,jU];exact congr (congrArg JO (funext λx=>congrArg jc (qg _))) (congrArg (λp=>List.filter p _) (funext λx=>congrArg (λz:Int=>!(uJ m (2^z.toNat)==0)) (qg (x:Int))))
theorem zF9 {f g:FV}{ψ:En}(h:f ψ=Ga (.bool false)):FH f g ψ=g ψ:=by show((f ψ).bind ly).bind _=_;rw[h];rfl
theorem zGa {f g:FV}{ψ:En}(h:f ψ=Ga (.bool true)):FH f g ψ=Ga (.bool true):=by show((f ψ).bind ly).bind _=_;rw[h];rfl
theorem QU {f g:FV}{ψ:En}(h:f ψ=Ga (.bool true)):zI f g ψ=g ψ:=by show((f ψ).bind ly).bind _=_;rw[h];rfl
theorem UW {f g:FV}{ψ:En}(h:f ψ=Ga (.bool false)):zI f g ψ=Ga (.bool false):=by show((f ψ).bind ly).bind _=_;rw[h];rfl
theorem Wk {f g h:FV}{ψ:En}{a b c:Int}(h1:f ψ=Ga (.int a))(h2:g ψ=Ga (.int b))(h3:h ψ=Ga (.int c))(q1:a<=b)(q2:b<=c):zt pC pC f g h ψ=Ga (.bool true):=by
 show(f ψ).bind _=_;rw[h1,jn,h2,jn];rw[show(pC (.int a) (.int b)).bind ly=Ga true from(by show Ga (decide (a<=b))=_;rw[Gc q1]),jn,Ge rfl,h3,jn];show Ga (j8 (decide (b<=c)))=_;rw[Gc q2]
def Ux (A:List Nat):Bool:=(Hs ((A.map λ(k:Nat)=>(k:Int)).contains 0) ((A.map λ(k:Nat)=>(k:Int)).contains 1) ((A.map λ(k:Nat)=>(k:Int)).contains 2) ((A.map λ(k:Nat)=>(k:Int)).contains 3) ((A.map λ(k:Nat)=>(k:Int)).contains 4)).length==A.length
theorem VC:(je 6).all (λn=>(tw n).all Ux)=true:=by nofun
theorem zu8 (A:List Nat)(nd:A.Nodup)(lt:∀ x∈A,x<5):∃ L:List D,L.length=A.length/\∃ m:Int,wk [.list (il A)]=Ga (.int m)/\za [.int m]=Ga L:=by
 have hl:=Fp 5 A nd lt;have c:=jJ.mp (jJ.mp VC A.length (jl.mpr (by omega))) A (Hz A nd lt);have e:il A=(A.map λ(k:Nat)=>(k:Int)).map jc:=by unfold il;rw[jU];rfl
 have m:=Kn (A.map λ(k:Nat)=>(k:Int)) (λh hh=>by
  obtain⟨k,hk,rfl⟩:=jv.mp hh;have:=lt k hk;omega)
 refine⟨_,?_,_,by rw[e];exact m,VT _ _ _ _ _⟩;rw[jb];exact eq_of_beq c
def sG (U:List Nat)(k:Nat)(f:Fl):Bool:=decide (f.a<(k:Int))||(decide (f.a=(k:Int))&&!(U.all λh=>bt f.m h))
theorem zsU (f:Fl)(hm:f.m<32)(U:List Nat)(hU:∀ x∈U,x<5)(hl:U.length<=5)(k:Nat):BS [fd f,.list (il U),.int k]=Ga (.bool (sG U k f)):=by
 have ha:=zrS f hm U hU hl;show gO (HD [.val (fd f),.val (.list (il U)),.val (.int k)])=_;generalize uQ (il U)=W at ha;unfold HD;refine(congrArg gO (oz (d:=.bool (sG U k f)) ?_)).trans rfl;have c1:gL rj (gL gC (gv 0) (iu (.int 1))) (gv 2) [.val (fd f),.val W,.val (.int k)]=Ga (.bool (decide (f.a<(k:Int)))):=rfl;have c2:gL iT (gL gC (gv 0) (iu (.int 1))) (gv 2) [.val (fd f),.val W,.val (.int k)]=Ga (.bool (decide (f.a=(k:Int)))):=by
  refine(oV (a:=.int f.a) (b:=.int k) rfl rfl).trans ((sU _ _).trans (congrArg (λb=>Ga (j8 b)) ?_));rw[jS,beq_iff_eq,decide_eq_true_eq]
 have c3:Mf (gG yU (gu (gv 0) (gu (gv 1) ig))) [.val (fd f),.val W,.val (.int k)]=Ga (.bool (!(U.all λh=>bt f.m h))):=by
  show((gG yU (gu (gv 0) (gu (gv 1) ig)) [.val (fd f),.val W,.val (.int k)]).bind ly).bind _=_;rw[(mq (ds:=[fd f,W]) rfl).trans ha];rfl
 unfold sG;cases q1:decide (f.a<(k:Int)) with
 | true=>rw[q1] at c1;exact zGa c1
 | false =>
  rw[q1] at c1;refine(zF9 c1).trans ?_;cases q2:decide (f.a=(k:Int)) with
  | true=>rw[q2] at c2;exact(QU c2).trans c3
  | false=>rw[q2] at c2;exact UW c2
def upL (n:Nat)(fs:List Fl)(k:Nat):List Nat:=(je n).filter λh=>up fs h (k:Int)
theorem UY {n:Nat}{fs:List Fl}{k x:Nat}(h:x∈upL n fs k):x<n:=jl.mp (jL.mp h).1
theorem zDa (n:Nat)(fs:List Fl)(k:Nat):(upL n fs k).length<=n:=by
 have:=ku (λh=>up fs h (k:Int)) (je n);rw[jG] at this;exact this
def DI (n:Nat)(fs:List Fl)(k:Nat):List Fl:=if (upL n fs k).isEmpty then[] else fs.filter (sG (upL n fs k) k)
theorem zAy (ns:List D)(fs:List Fl)(G:lH ns.length fs)(k:Nat):∃ m:Int,∃ L:List D,Av [rd ns fs,.int k]=Ga (.int m)/\za [.int m]=Ga L/\L.length=(DI ns.length fs k).length:=by
 have n5:=G.n5;have hw:=BU ns fs (k:Int) n5;have hlU:=zDa ns.length fs k;have e0:(((je ns.length).filter λh=>up fs h (k:Int)).map λ(h:Nat)=>jc (h:Int))=il (upL ns.length fs k):=rfl;rw[e0] at hw;show ∃ m:Int,∃ L:List D,gO (Km [.val (rd ns fs),.val (.int k),.no])=_/\_;have hfo:∀ f∈fs,BS [fd f,.list (il (upL ns.length fs k)),.int k]=Ga (.bool (sG (upL ns.length fs k) k f)):=λf hf=>zsU f (G.mb f hf) _ (λx hx=>by have:=UY hx;omega) (by omega) k;have hln:iy (.list (il (upL ns.length fs k)))=Ga (.int (upL ns.length fs k).length):=by
  show Ga (jc ((il (upL ns.length fs k)).length:Nat))=_;unfold il;rw[jb]
 unfold DI;generalize upL ns.length fs k=U at hw hlU hfo hln;generalize il U=W at hw hfo hln;have s2:ir 2 (mm (ou sw (gu (gv 0) (gu (gv 1) ig)))) [.val (rd ns fs),.val (.int k),.no]=Ga (.nx [.val (rd ns fs),.val (.int k),.val (.list W)]):=xI (wH ((Hq (ds:=[rd ns fs,.int k]) rfl).trans hw));have c1:iJ iT (un iy (gv 2)) (iu (.int 0)) (frz [.val (rd ns fs),.val (.int k),.val (.list W)])=Ga ((U.length:Int)==0):=rR ((tB (a:=.list W) rfl).trans hln) rfl (sU _ _);unfold Km;by_cases hU:U=[]
 .subst hU;refine⟨0,[],?_,by nofun,rfl⟩;rw[ni s2,Ak (d:=.int 0) ((vv c1).trans rfl)];rfl
 .have hne:U.isEmpty=false:=by cases U with|nil=>exact absurd rfl hU|cons _ _=>rfl
  have hz:((U.length:Int)==0)=false:=by
   rw[<- kB,beq_iff_eq];cases U with
   | nil=>exact absurd rfl hU
   | cons a b=>rw[jB];omega
  rw[hz] at c1;rw[hne,Gf jq];obtain⟨L,hL,m,hm,hh⟩:=zu8 ((fs.filter (sG U k)).map Fl.h) (((k5 (l:=fs) (p:=sG U k)).map Fl.h).nodup G.nd) (λx hx=>by obtain⟨f,hf,rfl⟩:=jv.mp hx;have:=G.hb f (jL.mp hf).1;omega);refine⟨m,L,?_,hh,by rw[hL,jb]⟩;rw[ni s2,ni ((sL c1).trans rfl)];have ec:ip (nw (gL gC (gv 0) (iu (.int 1)))) (nz (gG BS (gu (gv 0) (gu (gv 2) (gu (gv 1) ig))))) (gL gC (gv 0) (iu (.int 0))) [1,2] [.val (rd ns fs),.val (.int k),.val (.list W)]=Ga (il ((fs.filter (sG U k)).map Fl.h)):=by
   have lf:=zE2 G;refine(wm (ds:=fs.map fd) rfl (by rw[jb];omega)).trans ((Ay (p:=λd=>sG U k (bk d)) (F:=λd=>.int (bk d).h) (λd hd=>?_) (λd hd _=>?_)).trans ?_)
   .obtain⟨f,hf,rfl⟩:=jv.mp hd;rw[Eb];exact yD ((mq (ds:=[fd f,.list W,.int k]) rfl).trans (hfo f hf)) rfl
   .obtain⟨f,hf,rfl⟩:=jv.mp hd;rw[Eb];rfl
   .rw[vb,jU];unfold il;rw[jU];have e1:(λd=>sG U k (bk d))∘fd=sG U k:=by funext f;show sG U k (bk (fd f))=_;rw[Eb]
    rw[e1];refine congrArg Ga (jW λf _=>?_);show jc ((bk (fd f)).h:Int)=_;rw[Eb];rfl
  exact(congrArg gO (oz ((mq (ds:=[.list (il ((fs.filter (sG U k)).map Fl.h))]) (yT (wH ec) rfl)).trans hm))).trans rfl
def cnt (n:Nat)(fs:List Fl)(k:Nat):Int:=((DI n fs k).length:Int)
def mx (a b:Int):Int:=if a<b then b else a
def AA (c:Nat->Int):Int:=mx (mx (mx (mx (mx 0 (c 1-1)) (c 2-2)) (c 3-3)) (c 4-4)) (c 5-5)
theorem Xj (ns:List D)(fs:List Fl)(G:lH ns.length fs):No [rd ns fs]=Ga (.int (AA (cnt ns.length fs))):=by
 have hf:=λk=>zAy ns fs G k;show gO (Mu [.val (rd ns fs)])=_;have hc:∀ k:Nat,gL lM (un iy (mm (ou za (gu (gG Av (gu (gv 1) (gu (gv 0) ig))) ig)))) (gv 0) [.val (.int k),.val (rd ns fs)]=Ga (.int (cnt ns.length fs k-k)):=λk=>by
  obtain⟨m,L,e1,e2,e3⟩:=hf k;refine(oV (a:=.int (L.length:Nat)) (b:=.int k) ((tB (a:=.list L) (wH ((Hq (ds:=[.int m]) (yT ((mq (ds:=[rd ns fs,.int k]) rfl).trans e1) rfl)).trans e2))).trans rfl) rfl).trans ?_;show Ga (jc ((L.length:Int)-(k:Int)))=_;unfold cnt;rw[e3]
 unfold Mu;generalize rd ns fs=R at hc;have ec:ip (yw pY (iu (.int 1)) (gL iX (iu (.int 5)) (iu (.int 1)))) (λ_=>Ga true) (gL lM (un iy (mm (ou za (gu (gG Av (gu (gv 1) (gu (gv 0) ig))) ig)))) (gv 0)) [0] [.val R]=Ga ([cnt ns.length fs 1-1,cnt ns.length fs 2-2,cnt ns.length fs 3-3,cnt ns.length fs 4-4,cnt ns.length fs 5-5].map jc):=by
  refine(wm (ds:=([1,2,3,4,5]:List Nat).map λ(k:Nat)=>jc (k:Int)) rfl (show 5<=1000000 by decide)).trans ((zP (F:=λd=>match d with|.int k=>.int (cnt ns.length fs k.toNat-k)|_=>.none) (λd hd=>?_)).trans rfl);obtain⟨k,_,rfl⟩:=jv.mp hd;exact hc k
 have ea:xR (gL iX (mm (gu (iu (.int 0)) ig)) (mm (ip (yw pY (iu (.int 1)) (gL iX (iu (.int 5)) (iu (.int 1)))) (λ_=>Ga true) (gL lM (un iy (mm (ou za (gu (gG Av (gu (gv 1) (gu (gv 0) ig))) ig)))) (gv 0)) [0]))) [.val R]=Ga ([0,cnt ns.length fs 1-1,cnt ns.length fs 2-2,cnt ns.length fs 3-3,cnt ns.length fs 4-4,cnt ns.length fs 5-5].map jc) :=
  NB ((oV (a:=.list [.int 0]) (b:=.list ([cnt ns.length fs 1-1,cnt ns.length fs 2-2,cnt ns.length fs 3-3,cnt ns.length fs 4-4,cnt ns.length fs 5-5].map jc)) rfl (wH ec)).trans rfl)
 refine(congrArg gO (oz (d:=.int (AA (cnt ns.length fs))) ((IW ea).trans ?_))).trans rfl;unfold BH;rw[oj,jn];rfl
theorem YD (ns:List D)(fs:List Fl)(bd:Nat)(h1:bd+2<=ns.length)(h2:fs.length<=bd):NG [rd ns fs,.int bd]=Ga (.bool true):=by
 show gO (GC [.val (rd ns fs),.val (.int bd)])=_;unfold GC;rw[ni ((sL (Ik (b:=true) (yD ((mq (ds:=[.int bd]) rfl).trans rfl) rfl))).trans rfl)];have c1:zt pC pC (iu (.int 0)) (gv 1) (gL lM (gG pe (gu (gv 0) ig)) (iu (.int 2))) [.val (rd ns fs),.val (.int bd)]=Ga (.bool true):=by
  refine Wk (a:=0) (b:=bd) (c:=(ns.length:Int)-2) rfl rfl rfl (by omega) (by omega)
 have c2:gL pC (un iy (gL gC (gv 0) (iu (.int 1)))) (gv 1) [.val (rd ns fs),.val (.int bd)]=Ga (.bool true):=by
  show Ga (j8 (decide (((fs.map fd).length:Int)<=(bd:Int))))=_;rw[jb,Gc (by omega)]
 refine(congrArg gO (oz (d:=.bool true) ?_)).trans rfl;exact(QU c1).trans c2
theorem zu9 (ns:List D)(fs:List Fl)(G:lH ns.length fs)(bd:Nat)(h1:bd+2<=ns.length)(h2:fs.length<=bd):Kc [rd ns fs,.int bd]=Ga (.int ((bd:Int)+1-AA (cnt ns.length fs))):=by
 have hk:=YD ns fs bd h1 h2;have hw:=Xj ns fs G;show gO (IC [.val (rd ns fs),.val (.int bd)])=_;generalize rd ns fs=R at hk hw;unfold IC;rw[ni ((sL (Ik (b:=true) (yD ((mq (ds:=[R,.int bd]) rfl).trans hk) rfl))).trans rfl)];exact(congrArg gO (oz ((oV (a:=.int ((bd:Int)+1)) rfl ((mq (ds:=[R]) rfl).trans hw)).trans rfl))).trans rfl
theorem Yn (ns:List D)(fs:List Fl)(G:lH ns.length fs)(bd:Nat)(h1:bd+2<=ns.length)(h2:fs.length<=bd)(r:Int):sZ [rd ns fs,.int bd,.int r]=Ga (.bool (decide (r<(bd:Int)+1-AA (cnt ns.length fs)))):=by
 have hc:=zu9 ns fs G bd h1 h2;show gO (Lu [.val (rd ns fs),.val (.int bd),.val (.int r)])=_;generalize rd ns fs=R at hc;unfold Lu;exact(congrArg gO (oz ((oV (a:=.int r) rfl ((mq (ds:=[R,.int bd]) rfl).trans hc)).trans rfl))).trans rfl
abbrev Fs:=Nat->Option (Int×Nat)
def lZ (E:Fs)(h:Nat)(r:Int):Bool:=match E h with
 | some (a,_)=>decide (r<a)
 | none=>true
def me (E:Fs)(b t:Nat)(r:Int):Bool:=match E b with
 | some (a,m)=>decide (r<a)||(decide (a=r)&&bt m t)
 | none=>true
def mG (n:Nat)(ns:Nat->D)(E:Fs):Nat->Nat->D
 | 0,h=>.tuple [.int h,ns h]
 | r+1,h=>if lZ E h ((r:Int)+1)=true then .tuple [.int h,.tuple ((je n).map λb=>if (b==h||me E b h ((r:Int)+1))=true then mG n ns E r b else .none)] else .none
structure Ew (n:Nat)(ns1 ns2:Nat->D)(E1 E2:Fs)(S:Nat->Bool)(r0 k:Nat):Prop where
 up:∀ i r,i<n->S i=false->r<=k->lZ E1 i (r:Int)=lZ E2 i (r:Int)
 cm:∀ b t r,t<n->S b=false->S t=false->1<=r->r<=k->lZ E1 t (r:Int)=true->me E1 b t (r:Int)=me E2 b t (r:Int)
 cmS:∀ b t r,t<n->S b=true->S t=false->1<=r->r<=r0->r<=k->lZ E1 t (r:Int)=true->me E1 b t (r:Int)=me E2 b t (r:Int)
 no1:∀ b t r,t<n->S b=true->S t=false->r0<r->r<=k->lZ E1 t (r:Int)=true->me E1 b t (r:Int)=false
 no2:∀ b t r,t<n->S b=true->S t=false->r0<r->r<=k->lZ E1 t (r:Int)=true->me E2 b t (r:Int)=false
 upS:∀ i r,i<n->S i=true->r<r0->lZ E1 i (r:Int)=lZ E2 i (r:Int)
 cmT:∀ b t r,t<n->S t=true->1<=r->r<r0->me E1 b t (r:Int)=me E2 b t (r:Int)
 num:∀ i,S i=false\/0<r0->ns1 i=ns2 i
theorem CL {n:Nat}{ns1 ns2:Nat->D}{E1 E2:Fs}{S:Nat->Bool}{r0 k:Nat}(H:Ew n ns1 ns2 E1 E2 S r0 k) :
  ∀ r,r<=k->(∀ i,i<n->S i=false->mG n ns1 E1 r i=mG n ns2 E2 r i)/\(r<r0->∀ i,i<n->mG n ns1 E1 r i=mG n ns2 E2 r i)
 | 0,_=>⟨λi _ hi=>by unfold mG;rw[H.num i (.inl hi)],λh i _=>by unfold mG;rw[H.num i (.inr h)]⟩
 | r+1,hk=>by
  obtain⟨ih1,ih2⟩:=CL H r (by omega);have ec:((r+1:Nat):Int)=(r:Int)+1:=by omega
  have part:∀ i,(∀ b,b<n->(b==i)=false->lZ E1 i ((r:Int)+1)=true->(if (b==i||me E1 b i ((r:Int)+1))=true then mG n ns1 E1 r b else .none)=(if (b==i||me E2 b i ((r:Int)+1))=true then mG n ns2 E2 r b else .none)) ->
    mG n ns1 E1 r i=mG n ns2 E2 r i->lZ E1 i ((r:Int)+1)=lZ E2 i ((r:Int)+1)->mG n ns1 E1 (r+1) i=mG n ns2 E2 (r+1) i:=λi h1 h2 h3=>by
   unfold mG;rw[<- h3];cases hu:lZ E1 i ((r:Int)+1) with
   | false=>rfl
   | true =>
    rw[Ge rfl,Ge rfl];refine congrArg (λl=>jX [jc (i:Int),jX l]) (jW λb hbn=>?_);cases hb:(b==i) with
    | true =>
     rw[ud,ud,Ge rfl,Ge rfl];rw[beq_iff_eq] at hb;subst hb;exact h2
    | false =>
     have:=h1 b (jl.mp hbn) hb hu;rw[hb] at this;exact this
  have go:∀ i b,(b==i)=false->lZ E1 i ((r:Int)+1)=true->me E1 b i ((r:Int)+1)=me E2 b i ((r:Int)+1)->(me E1 b i ((r:Int)+1)=true->mG n ns1 E1 r b=mG n ns2 E2 r b) ->
    (if (b==i||me E1 b i ((r:Int)+1))=true then mG n ns1 E1 r b else .none)=(if (b==i||me E2 b i ((r:Int)+1))=true then mG n ns2 E2 r b else .none):=λi b hb hu he hv=>by
   rw[hb,<- he,vd];cases hc:me E1 b i ((r:Int)+1) with
   | false=>rfl
   | true=>rw[Ge rfl,Ge rfl];exact hv hc
  refine⟨λi hin hi=>part i (λb hbn hb hu=>?_) (ih1 i hin hi) ?_,λhr i hin=>part i (λb hbn hb hu=>?_) (ih2 (by omega) i hin) ?_⟩
  .rw[<- ec] at hu;cases hs:S b with
   | false=>exact go i b hb (by rw[<- ec];exact hu) (by rw[<- ec];exact H.cm b i (r+1) hin hs hi (by omega) hk hu) λ_=>ih1 b hbn hs
   | true =>
    by_cases hr:r+1<=r0
    .exact go i b hb (by rw[<- ec];exact hu) (by rw[<- ec];exact H.cmS b i (r+1) hin hs hi (by omega) hr hk hu) λ_=>ih2 (by omega) b hbn
    .have n1:=H.no1 b i (r+1) hin hs hi (by omega) hk hu;have n2:=H.no2 b i (r+1) hin hs hi (by omega) hk hu;rw[ec] at n1 n2;exact go i b hb (by rw[<- ec];exact hu) (n1.trans n2.symm) λz=>by rw[n1] at z;cases z
  .rw[<- ec];exact H.up i (r+1) hin hi hk
  .cases hs:S i with
   | true=>exact go i b hb hu (by rw[<- ec];exact H.cmT b i (r+1) hin hs (by omega) hr) λ_=>ih2 (by omega) b hbn
   | false =>
    rw[<- ec] at hu;cases hs2:S b with
    | false=>exact go i b hb (by rw[<- ec];exact hu) (by rw[<- ec];exact H.cm b i (r+1) hin hs2 hs (by omega) hk hu) λ_=>ih2 (by omega) b hbn
    | true=>exact go i b hb (by rw[<- ec];exact hu) (by rw[<- ec];exact H.cmS b i (r+1) hin hs2 hs (by omega) (by omega) hk hu) λ_=>ih2 (by omega) b hbn
  .rw[<- ec];cases hs:S i with
   | true=>exact H.upS i (r+1) hin hs hr
   | false=>exact H.up i (r+1) hin hs hk
def gM (E:Fs)(h:Nat)(v:Option (Int×Nat)):Fs:=λi=>if i=h then v else E i
theorem nK {E:Fs}{h:Nat}{v:Option (Int×Nat)}:gM E h v h=v:=Ge rfl
theorem lJ {E:Fs}{h i:Nat}{v:Option (Int×Nat)}(e:i≠h):gM E h v i=E i:=Gf e
theorem EV {E E':Fs}{i:Nat}(e:E i=E' i)(r:Int):lZ E i r=lZ E' i r:=by unfold lZ;rw[e]
theorem Ea {E E':Fs}{b:Nat}(e:E b=E' b)(t:Nat)(r:Int):me E b t r=me E' b t r:=by unfold me;rw[e]
theorem Da {E:Fs}{i:Nat}{a:Int}{m:Nat}(e:E i=Ga (a,m))(r:Int):lZ E i r=decide (r<a):=by unfold lZ;rw[e]
theorem xC {E:Fs}{b:Nat}{a:Int}{m:Nat}(e:E b=Ga (a,m))(t:Nat)(r:Int):me E b t r=(decide (r<a)||(decide (a=r)&&bt m t)):=by unfold me;rw[e]
theorem Hn {E:Fs}{i:Nat}(e:E i=Gb)(r:Int):lZ E i r=true:=by unfold lZ;rw[e]
theorem zAB {E:Fs}{b:Nat}(e:E b=Gb)(t:Nat)(r:Int):me E b t r=true:=by unfold me;rw[e]
theorem UL (t:Nat):bt 0 t=false:=by unfold bt;rw[qE,Int.zero_ediv];rfl
def nv (k at_:Nat):Option (Int×Nat):=if at_<k then Ga ((at_:Int)+1,0) else Gb
theorem GV {E:Fs}{h k at_:Nat}(e:E h=nv k at_)(r:Nat)(hr:r<=at_):lZ E h (r:Int)=true:=by
 unfold nv at e;split at e
 .rw[Da e];exact Gc (by omega)
 .exact Hn e _
theorem AY {E:Fs}{h k at_:Nat}(e:E h=nv k at_)(t r:Nat)(hr:r<=at_):me E h t (r:Int)=true:=by
 unfold nv at e;split at e
 .rw[xC e,Gc (by omega),ud]
 .exact zAB e _ _
theorem CG {E:Fs}{h k at_:Nat}(e:E h=nv k at_)(t r:Nat)(hr:at_<r)(hk:r<=k):me E h t (r:Int)=false:=by
 unfold nv at e;rw[Ge (by omega)] at e;rw[xC e,UL,qm,vC];exact Gd (by omega)
theorem Pn {n:Nat}{ns:Nat->D}{E1 E2:Fs}{k at_:Nat}(S:Nat->Bool)(hS1:∀ h,S h=true->E1 h=nv k at_)(hS2:∀ h,S h=true->∃ m,E2 h=Ga ((at_:Int),m)/\∀ t,t<n->S t=false->lZ E1 t (at_:Int)=true->bt m t=true)
  (same:∀ i,S i=false->E1 i=E2 i):Ew n ns ns E1 E2 S at_ k where
 up:=λi r _ hi _=>EV (same i hi) _
 cm:=λb t r _ hb _ _ _ _=>Ea (same b hb) _ _
 cmS:=λb t r htn hb ht h1 h2 h3 hu=>by
  rw[AY (hS1 b hb) t r h2];obtain⟨m,e,hm⟩:=hS2 b hb;rw[xC e];by_cases c:(r:Int)<(at_:Int)
  .rw[Gc c,ud]
  .have:r=at_:=by omega
   subst this;rw[Gc rfl,hm t htn ht hu,Bool.and_self,JQ]
 no1:=λb t r _ hb _ h1 h2 _=>CG (hS1 b hb) t r h1 h2
 no2:=λb t r _ hb _ h1 h2 _=>by
  obtain⟨m,e,_⟩:=hS2 b hb;rw[xC e,Gd (by omega),Gd (by omega),vk,vC]
 upS:=λi r _ hi hr=>by
  obtain⟨m,e,_⟩:=hS2 i hi;rw[GV (hS1 i hi) r (by omega),Da e,Gc (by omega)]
 cmT:=λb t r _ ht h1 h2=>by
  cases hb:S b with
  | false=>exact Ea (same b hb) _ _
  | true =>
   obtain⟨m,e,_⟩:=hS2 b hb;rw[AY (hS1 b hb) t r (by omega),xC e,Gc (by omega),ud]
 num:=λ_ _=>rfl
theorem zGb {n:Nat}{ns:Nat->D}{E1 E2:Fs}{k at_ h to:Nat}{m1 m2:Nat}(hne:h≠to)(h1:E1 h=Ga ((at_:Int),m1))(h2:E2 h=Ga ((at_:Int),m2))(hm:∀ t,t≠to->bt m1 t=bt m2 t)(t1:E1 to=nv k at_)(t2:E2 to=nv k at_)
  (same:∀ i,i≠h->i≠to->E1 i=E2 i):Ew n ns ns E1 E2 (λi=>i==to) at_ k:=by
 have sm:∀ i,(i==to)=false->∀ r,lZ E1 i r=lZ E2 i r:=λi hi r=>by
  rw[beq_eq_false_iff_ne] at hi;by_cases e:i=h
  .subst e;rw[Da h1,Da h2]
  .exact EV (same i e hi) _
 have sc:∀ b,(b==to)=false->∀ t r,t≠to->me E1 b t r=me E2 b t r:=λb hb t r ht=>by
  rw[beq_eq_false_iff_ne] at hb;by_cases e:b=h
  .subst e;rw[xC h1,xC h2,hm t ht]
  .exact Ea (same b e hb) _ _
 refine⟨λi r _ hi _=>sm i hi _,λb t r _ hb ht _ _ _=>sc b hb t _ (beq_eq_false_iff_ne.mp ht),λb t r _ hb ht _ h _ _=>?_,λb t r _ hb ht h h' _=>?_,λb t r _ hb ht h h' _=>?_,λi r _ hi hr=>?_,λb t r _ ht hh h'=>?_,λ_ _=>rfl⟩
 .rw[beq_iff_eq] at hb;subst hb;rw[AY t1 t r h,AY t2 t r h]
 .rw[beq_iff_eq] at hb;subst hb;exact CG t1 t r h h'
 .rw[beq_iff_eq] at hb;subst hb;exact CG t2 t r h h'
 .rw[beq_iff_eq] at hi;subst hi;rw[GV t1 r (by omega),GV t2 r (by omega)]
 .rw[beq_iff_eq] at ht;subst ht;by_cases e:b=t
  .subst e;rw[AY t1 b r (by omega),AY t2 b r (by omega)]
  .by_cases e2:b=h
   .subst e2;rw[xC h1,xC h2,Gc (by omega),ud,ud]
   .exact Ea (same b e2 e) _ _
theorem zGc {n:Nat}{ns1 ns2:Nat->D}{E:Fs}{k h:Nat}(hn:∀ i,i≠h->ns1 i=ns2 i)(t1:E h=nv k 0):Ew n ns1 ns2 E E (λi=>i==h) 0 k where
 up:=λ_ _ _ _ _=>rfl
 cm:=λ_ _ _ _ _ _ _ _ _=>rfl
 cmS:=λ_ _ _ _ _ _ h1 h2 _ _=>by omega
 no1:=λb t r _ hb _ h1 h2 _=>by rw[beq_iff_eq] at hb;subst hb;exact CG t1 t r h1 h2
 no2:=λb t r _ hb _ h1 h2 _=>by rw[beq_iff_eq] at hb;subst hb;exact CG t1 t r h1 h2
 upS:=λ_ _ _ _ h=>by omega
 cmT:=λ_ _ _ _ _ _ h=>by omega
 num:=λi h=>hn i (h.elim (λz=>beq_eq_false_iff_ne.mp z) λz=>absurd z (j0 0))
def pT {α:Type}(R:α->α->Prop):List α->Prop
 | []=>True
 | [_]=>True
 | a::b::r=>R a b/\pT R (b::r)
theorem zH {α:Type}{R:α->α->Prop}:∀ {l m:List α},pT R l->pT R m->(∀ a b,l.getLast?=Ga a->m.head?=Ga b->R a b)->pT R (l++m)
 | [],_,_,h,_=>h
 | [a],[],_,_,_=>trivial
 | [a],b::m,_,h,j=>⟨j a b rfl rfl,h⟩
 | a::b::l,m,h1,h2,j=>⟨h1.1,zH (l:=b::l) h1.2 h2 λx y hx hy=>j x y (by rw[qL];exact hx) hy⟩
theorem UJ {α:Type}{R:α->α->Prop}:∀ {l:List α},pT R l->pT R l.tail
 | [],_=>trivial
 | [_],_=>trivial
 | _::_::_,h=>h.2
theorem Ke {α:Type}{R:α->α->Prop}(sy:∀ a b,R a b->R b a):∀ {l:List α},pT R l->pT R l.reverse
 | [],_=>trivial
 | [_],_=>trivial
 | a::b::r,h=>by
  have ih:=Ke sy (l:=b::r) h.2;rw[uE];refine zH ih trivial λx y hx hy=>?_;rw[vT] at hx;cases hx;cases hy;exact sy _ _ h.1
def iB (n:Nat)(E:Fs):Nat:=((je n).filter λi=>(E i).isSome).length
theorem Fd {n:Nat}{E:Fs}(hc:iB n E+2<=n)(h:Nat):∃ i,i<n/\i≠h/\E i=Gb:=by
 refine jV λno=>?_;have all:∀ i,i<n->i≠h->(E i).isSome=true:=λi hi hn=>by
  cases e:E i with
  | none=>exact absurd ⟨i,hi,hn,e⟩ no
  | some v=>rfl
 have key:∀ m,m<=n->m<=((je m).filter λi=>(E i).isSome).length+(if h<m then 1 else 0):=by
  intro m;induction m with
  | zero=>exact λ_=>jO _
  | succ m ih =>
   intro hm;have ih:=ih (by omega);rw[kz,kE,jr];by_cases e:m=h
   .subst e;rw[Gf (j0 m)] at ih;rw[Ge (k8 m)];omega
   .have:([m].filter λi=>(E i).isSome)=[m]:=by rw[jH (p:=λi=>(E i).isSome) (all m (by omega) e)];rfl
    rw[this,kf];split at ih<;>split<;>omega
 have:=key n (jh n);unfold iB at hc;split at this<;>omega
theorem DC {n:Nat}{E:Fs}{h:Nat}(v:Option (Int×Nat)):iB n (gM E h v)<=iB n E+1:=by
 unfold iB;induction n with
 | zero=>exact jO _
 | succ n ih =>
  rw[kz,kE,kE,jr,jr];by_cases e:n=h
  .subst e;have:((je n).filter λi=>(gM E n v i).isSome)=(je n).filter λi=>(E i).isSome:=uo λi hi=>by
    rw[lJ (jE (jl.mp hi))]
   rw[this];have:([n].filter λi=>(gM E n v i).isSome).length<=1:=ku _ _;omega
  .have:([n].filter λi=>(gM E h v i).isSome)=[n].filter λi=>(E i).isSome:=uo λi hi=>by
    rw[jk.mp hi,lJ e]
   rw[this];omega
structure Ok (n:Nat)(E:Fs)(at_:Nat):Prop where
 rnd:∀ i a m,E i=Ga (a,m)->1<=a/\a<=(at_:Int)
 hnd:∀ i a m,E i=Ga (a,m)->i<n
 msk:∀ i a m,E i=Ga (a,m)->m<2^n/\bt m i=false
theorem Ok.mono {n:Nat}{E:Fs}{a b:Nat}(h:Ok n E a)(e:a<=b):Ok n E b:=⟨λi x m z=>by have:=h.rnd i x m z;omega,h.hnd,h.msk⟩
theorem Ok.upd {n:Nat}{E:Fs}{a h:Nat}{x:Int}{m:Nat}(o:Ok n E a)(hh:h<n)(x1:1<=x)(x2:x<=(a:Int))(hm:m<2^n)(hb:bt m h=false):Ok n (gM E h (Ga (x,m))) a:=by
 refine⟨λi y l z=>?_,λi y l z=>?_,λi y l z=>?_⟩<;>(by_cases c:i=h)
 .subst c;rw[nK] at z;cases z;exact⟨x1,x2⟩
 .rw[lJ c] at z;exact o.rnd i y l z
 .subst c;exact hh
 .rw[lJ c] at z;exact o.hnd i y l z
 .subst c;rw[nK] at z;cases z;exact⟨hm,hb⟩
 .rw[lJ c] at z;exact o.msk i y l z
def AE (n:Nat)(ns:Nat->D)(k:Nat)(E1 E2:Fs):Prop:=∃ i,i<n/\E1 i=Gb/\E2 i=Gb/\mG n ns E1 k i=mG n ns E2 k i
theorem AE.symm {n:Nat}{ns:Nat->D}{k:Nat}{E1 E2:Fs}(h:AE n ns k E1 E2):AE n ns k E2 E1:=by
 obtain⟨i,h1,h2,h3,h4⟩:=h;exact⟨i,h1,h3,h2,h4.symm⟩
theorem zAE {n:Nat}{F E:Fs}(h:∀ i,(F i).isSome=true->(E i).isSome=true):iB n F<=iB n E:=by
 unfold iB;have key:∀ l:List Nat,(l.filter λi=>(F i).isSome).length<=(l.filter λi=>(E i).isSome).length:=by
  intro l;induction l with
  | nil=>exact jh _
  | cons x l ih =>
   by_cases c:(F x).isSome=true
   .rw[jH (p:=λi=>(F i).isSome) c,jH (p:=λi=>(E i).isSome) (h x c),jB,jB];omega
   .rw[jQ (p:=λi=>(F i).isSome) c];by_cases d:(E x).isSome=true
    .rw[jH (p:=λi=>(E i).isSome) d,jB];omega
    .rw[jQ (p:=λi=>(E i).isSome) d];exact ih
 exact key _
theorem zE6 {n:Nat}{F E:Fs}{h:Nat}(hn:h<n)(m:∀ i,(F i).isSome=true->(E i).isSome=true)(e1:(E h).isSome=true)(e2:F h=Gb):iB n F+1<=iB n E:=by
 have key:∀ k,k<=n->((je k).filter λi=>(F i).isSome).length+(if h<k then 1 else 0)<=((je k).filter λi=>(E i).isSome).length:=by
  intro k;induction k with
  | zero=>exact λ_=>jh _
  | succ k ih =>
   intro hk;have ih:=ih (by omega);rw[kz,kE,kE,jr,jr];have one:∀ (G:Fs),([k].filter λi=>(G i).isSome).length=if (G k).isSome=true then 1 else 0:=λG=>by
    cases c:(G k).isSome with
    | true=>rw[jH (p:=λi=>(G i).isSome) c];rfl
    | false=>rw[jQ (p:=λi=>(G i).isSome) (by rw[c];exact jq)];rfl
   rw[one F,one E];by_cases e:k=h
   .subst e;rw[e1,e2,Ge rfl,Ge (k8 k)];rw[Gf (j0 k)] at ih;rw[Gf (by show ¬(Gb:Option (Int×Nat)).isSome=true;exact jq)];omega
   .have:(if (F k).isSome=true then 1 else 0)<=(if (E k).isSome=true then 1 else 0:Nat):=by
     by_cases c:(F k).isSome=true
     .rw[Ge c,Ge (m k c)];exact jh _
     .rw[Gf c];exact jO _
    by_cases y:h<k
    .rw[Ge y] at ih;rw[Ge (show h<k+1 by omega)];omega
    .rw[Gf y] at ih;rw[Gf (show ¬h<k+1 by omega)];omega
 have:=key n (jh n);rw[Ge hn] at this;exact this
def mN (b0 b1 b2 b3 b4:Bool):Nat:=(if b0 then 1 else 0)+(if b1 then 2 else 0)+(if b2 then 4 else 0)+(if b3 then 8 else 0)+(if b4 then 16 else 0)
def iG (l:List Nat):Nat:=mN (l.contains 0) (l.contains 1) (l.contains 2) (l.contains 3) (l.contains 4)
def rG (m b:Nat):Nat:=m ^^^ 2^b
theorem zGd:∀ (b0 b1 b2 b3 b4:Bool),bt (mN b0 b1 b2 b3 b4) 0=b0/\bt (mN b0 b1 b2 b3 b4) 1=b1/\bt (mN b0 b1 b2 b3 b4) 2=b2/\bt (mN b0 b1 b2 b3 b4) 3=b3/\bt (mN b0 b1 b2 b3 b4) 4=b4:=by nofun
theorem TX {P:Nat->Prop}(h0:P 0)(h1:P 1)(h2:P 2)(h3:P 3)(h4:P 4):∀ i,i<5->P i
 | 0,_=>h0
 | 1,_=>h1
 | 2,_=>h2
 | 3,_=>h3
 | 4,_=>h4
 | n+5,h=>by omega
theorem xG (l:List Nat):∀ i,i<5->bt (iG l) i=l.contains i:=by
 obtain⟨h0,h1,h2,h3,h4⟩:=zGd (l.contains 0) (l.contains 1) (l.contains 2) (l.contains 3) (l.contains 4);exact TX h0 h1 h2 h3 h4
theorem Mc:∀ (b0 b1 b2 b3 b4:Bool),mN b0 b1 b2 b3 b4<32:=by decide
theorem zE7:∀ (b0 b1 b2 b3:Bool),mN b0 b1 b2 b3 false<16:=by decide
theorem zE8:∀ (b0 b1 b2:Bool),mN b0 b1 b2 false false<8:=by decide
theorem zE9:∀ (b0 b1:Bool),mN b0 b1 false false false<4:=by decide
theorem AI {n:Nat}(h2:2<=n)(h5:n<=5)(l:List Nat)(hl:∀ i∈l,i<n):iG l<2^n:=by
 have no:∀ i,n<=i->l.contains i=false:=λi hi=>by
  rw[<- kB,jN];exact λz=>by have:=hl i z;omega
 unfold iG;have:n=2\/n=3\/n=4\/n=5:=by omega
 rcases this with rfl|rfl|rfl|rfl
 .rw[no 2 (by omega),no 3 (by omega),no 4 (by omega)];exact zE9 _ _
 .rw[no 3 (by omega),no 4 (by omega)];exact zE8 _ _ _
 .rw[no 4 (by omega)];exact zE7 _ _ _ _
 .exact Mc _ _ _ _ _
theorem UO:∀ (b0 b1 b2 b3 b4:Bool),rG (mN b0 b1 b2 b3 b4) 0=mN (!b0) b1 b2 b3 b4/\rG (mN b0 b1 b2 b3 b4) 1=mN b0 (!b1) b2 b3 b4/\rG (mN b0 b1 b2 b3 b4) 2=mN b0 b1 (!b2) b3 b4/\rG (mN b0 b1 b2 b3 b4) 3=mN b0 b1 b2 (!b3) b4/\rG (mN b0 b1 b2 b3 b4) 4=mN b0 b1 b2 b3 (!b4):=by nofun
theorem RQ {o:Nat}{l:List Nat}(ho:o<5)(nd:o∉l):rG (iG (o::l)) o=iG l:=by
 have c1:l.contains o=false:=by rw[<- kB,jN];exact nd
 have c2:∀ i,(o::l).contains i=(i==o||l.contains i):=λi=>qp;unfold iG;simp only[c2];obtain⟨h0,h1,h2,h3,h4⟩:=UO (0==o||l.contains 0) (1==o||l.contains 1) (2==o||l.contains 2) (3==o||l.contains 3) (4==o||l.contains 4);have:o=0\/o=1\/o=2\/o=3\/o=4:=by omega
 rcases this with rfl|rfl|rfl|rfl|rfl
 .rw[h0,c1];rfl
 .rw[h1,c1];rfl
 .rw[h2,c1];rfl
 .rw[h3,c1];rfl
 .rw[h4,c1];rfl
def lv (n:Nat)(E:Fs)(h at_:Nat):List Nat:=(je n).filter λi=>lZ E i (at_:Int)&&!(i==h)
def rS (E:Fs)(h b:Nat):Fs:=match E h with
 | some (a,m)=>gM E h (Ga (a,rG m b))
 | none=>E
def oq (H:Fs->Nat->List Fs)(E:Fs)(h:Nat)(p:List Fs)(o:Nat):List Fs:=p++(H (p.getLastD E) o++(H (rS (p.getLastD E) h o) o).reverse).tail
def lj (n k:Nat):Nat->Fs->Nat->List Fs
 | 0,E,_=>[E]
 | d+1,E,h=>(lv n E h (k-d)).foldl (oq (lj n k d) E h) (lj n k d E h++[gM E h (Ga (((k-d:Nat):Int),iG (lv n E h (k-d))))])
def mZ:Nat->Nat
 | 0=>1
 | d+1=>mZ d+1+4*(2*mZ d-1)
structure xT (n:Nat)(ns:Nat->D)(k d:Nat)(E:Fs)(T:Fs)(P:List Fs):Prop where
 hd:P.head?=Ga E
 lst:P.getLast?=Ga T
 ok:∀ F∈P,Ok n F (k+1)
 cnt:∀ F∈P,iB n F<=iB n E+d
 chn:pT (AE n ns k) P
theorem zDd {E:Fs}{h:Nat}(e:E h=Gb):gM E h Gb=E:=by
 funext i
 by_cases c:i=h
 .subst c;rw[nK,e]
 .rw[lJ c]
theorem OD {E:Fs}{h:Nat}{u v:Option (Int×Nat)}:gM (gM E h u) h v=gM E h v:=by
 funext i
 by_cases c:i=h
 .subst c;rw[nK,nK]
 .rw[lJ c,lJ c,lJ c]
theorem HJ {α:Type}{p q:List α}{g t:α}(hp:p.getLast?=Ga g)(hq:q.head?=Ga g)(ht:q.getLast?=Ga t):(p++q.tail).getLast?=Ga t:=by
 cases q with
 | nil=>cases hq
 | cons a r =>
  cases hq;cases r with
  | nil=>cases ht;rw[Jn,kg];exact hp
  | cons b r=>rw[Jn,uG,<- qL,ht];rfl
theorem Mw {α:Type}{R:α->α->Prop}{p q:List α}{g:α}(hp:p.getLast?=Ga g)(hq:q.head?=Ga g)(c1:pT R p)(c2:pT R q):pT R (p++q.tail):=by
 cases q with
 | nil=>cases hq
 | cons a r =>
  cases hq;refine zH c1 (UJ c2) λx y hx hy=>?_;rw[hp] at hx;cases hx;cases r with
  | nil=>cases hy
  | cons b r=>cases hy;exact c2.1
theorem zQ {α:Type}{p q:List α}{a:α}(h:p.head?=Ga a):(p++q).head?=Ga a:=by
 cases p with
 | nil=>cases h
 | cons b r=>exact h
theorem Fg {α:Type}{p:List α}{a d:α}(h:p.getLast?=Ga a):p.getLastD d=a:=by
 rw[List.getLastD_eq_getLast?,h];rfl
theorem HX {n:Nat}{E:Fs}{at_ i:Nat}(o:Ok n E at_)(h:lZ E i (at_:Int)=true):E i=Gb:=by
 cases e:E i with
 | none=>rfl
 | some v =>
  obtain⟨a,m⟩:=v;rw[Da e,decide_eq_true_eq] at h;have:=(o.rnd i a m e).2;omega
theorem Qw {n:Nat}{ns:Nat->D}{k d at_ h:Nat}{E:Fs}(h2:2<=n)(h5:n<=5)(IH:∀ (F:Fs) (i:Nat),i<n->F i=Gb->Ok n F (k+1-d)->iB n F+d+2<=n->xT n ns k d F (gM F i (nv k at_)) (lj n k d F i)/\(lj n k d F i).length<=mZ d)
  (hat:at_=k-d) (hk:d+1<=k) (hh:h<n) (ho:Ok n E at_) (hc:iB n E+(d+1)+2<=n) {x:Nat} {l:List Nat} (nd:(x::l).Nodup) (hl:∀ i∈x::l,i<n/\i≠h/\E i=Gb) {p:List Fs} (H:xT n ns k (d+1) E (gM E h (Ga ((at_:Int),iG (x::l)))) p) :
  xT n ns k (d+1) E (gM E h (Ga ((at_:Int),iG l))) (oq (lj n k d) E h p x)/\(oq (lj n k d) E h p x).length<=p.length+(2*mZ d-1):=by
 have okG:∀ m,m<2^n->bt m h=false->Ok n (gM E h (Ga ((at_:Int),m))) at_:=λm h1 h2=>ho.upd hh (by omega) (ux _) h1 h2;have cntG:∀ m,iB n (gM E h (Ga ((at_:Int),m)))<=iB n E+1:=λm=>DC _;obtain⟨hx1,hx2,hx3⟩:=hl x jf;have nd':=kh.mp nd;have m1:iG (x::l)<2^n:=AI h2 h5 _ λi hi=>(hl i hi).1;have m2:iG l<2^n:=AI h2 h5 _ λi hi=>(hl i (jj _ hi)).1;have b1:bt (iG (x::l)) h=false:=by
  rw[xG _ h (by omega),<- kB,jN];exact λz=>(hl h z).2.1 rfl
 have b2:bt (iG l) h=false:=by
  rw[xG _ h (by omega),<- kB,jN];exact λz=>(hl h (jj _ z)).2.1 rfl
 have eg:p.getLastD E=gM E h (Ga ((at_:Int),iG (x::l))):=Fg H.lst;have ef:rS (gM E h (Ga ((at_:Int),iG (x::l)))) h x=gM E h (Ga ((at_:Int),iG l)):=by
  unfold rS;rw[nK];dsimp only;rw[OD,RQ (by omega) nd'.1]
 have g0:gM E h (Ga ((at_:Int),iG (x::l))) x=Gb:=by rw[lJ hx2];exact hx3
 have f0:gM E h (Ga ((at_:Int),iG l)) x=Gb:=by rw[lJ hx2];exact hx3
 have A1:=IH (gM E h (Ga ((at_:Int),iG (x::l)))) x hx1 g0 ((okG _ m1 b1).mono (by omega)) (by have:=cntG (iG (x::l));omega);have A2:=IH (gM E h (Ga ((at_:Int),iG l))) x hx1 f0 ((okG _ m2 b2).mono (by omega)) (by have:=cntG (iG l);omega);obtain⟨A1,l1⟩:=A1;obtain⟨A2,l2⟩:=A2;have cG:=cntG (iG (x::l));have cF:=cntG (iG l);have step:oq (lj n k d) E h p x=p++(lj n k d (gM E h (Ga ((at_:Int),iG (x::l)))) x++(lj n k d (gM E h (Ga ((at_:Int),iG l))) x).reverse).tail:=by
  unfold oq;rw[eg,ef]
 rw[step];generalize lj n k d (gM E h (Ga ((at_:Int),iG (x::l)))) x=P1 at A1 l1;generalize lj n k d (gM E h (Ga ((at_:Int),iG l))) x=P2 at A2 l2;have hq:(P1++P2.reverse).head?=Ga (gM E h (Ga ((at_:Int),iG (x::l)))):=zQ A1.hd;have hql:(P1++P2.reverse).getLast?=Ga (gM E h (Ga ((at_:Int),iG l))):=by
  rw[uG,vT,A2.hd];rfl
 have hqc:pT (AE n ns k) (P1++P2.reverse):=by
  refine zH A1.chn (Ke (λ_ _=>AE.symm) A2.chn) λa b ha hb=>?_;rw[A1.lst] at ha;cases ha;rw[JC,A2.lst] at hb;cases hb;have c2:iB n (gM (gM E h (Ga ((at_:Int),iG l))) x (nv k at_))<=_:=A2.cnt _ (vo A2.lst);obtain⟨i,i1,i2,i3⟩:=Fd (n:=n) (E:=gM (gM E h (Ga ((at_:Int),iG l))) x (nv k at_)) (by omega) x;rw[lJ i2] at i3;have i4:i≠h:=λz=>by subst z;rw[nK] at i3;cases i3
  rw[lJ i4] at i3;refine⟨i,i1,by rw[lJ i2,lJ i4];exact i3,by rw[lJ i2,lJ i4];exact i3,?_⟩;have B:=zGb (n:=n) (ns:=ns) (E1:=gM (gM E h (Ga ((at_:Int),iG (x::l)))) x (nv k at_)) (E2:=gM (gM E h (Ga ((at_:Int),iG l))) x (nv k at_)) (k:=k) (at_:=at_) (h:=h) (to:=x) (m1:=iG (x::l)) (m2:=iG l) (ui hx2)
   (by rw[lJ (ui hx2),nK]) (by rw[lJ (ui hx2),nK]) (λt ht=>?_) nK nK (λj j1 j2=>by rw[lJ j2,lJ j1,lJ j2,lJ j1])
  .exact(CL B k (jh _)).1 i i1 (beq_eq_false_iff_ne.mpr i2)
  .by_cases t5:t<5
   .rw[xG _ t t5,xG _ t t5,qp,beq_eq_false_iff_ne.mpr ht,vd]
   .have big:∀ m:Nat,m<32->bt m t=false:=λm hm=>by
     unfold bt;have:(m:Int)/2^t=0:=by
      refine Int.ediv_eq_zero_of_lt (by omega) ?_;have e1:(2:Nat)^5<=2^t:=vp (by decide) (by omega);have e2:((2^t:Nat):Int)=(2:Int)^t:=Int.natCast_pow 2 t;rw[<- e2];omega
     rw[this];rfl
    rw[big (iG (x::l)) (Mc _ _ _ _ _),big (iG l) (Mc _ _ _ _ _)]
 refine⟨⟨zQ H.hd,HJ H.lst hq hql,λF hF=>?_,λF hF=>?_,Mw H.lst hq H.chn hqc⟩,?_⟩
 .rcases jM.mp hF with z|z
  .exact H.ok F z
  .rcases jM.mp (kI z) with z|z
   .exact A1.ok F z
   .exact A2.ok F (vy.mp z)
 .rcases jM.mp hF with z|z
  .exact H.cnt F z
  .rcases jM.mp (kI z) with z|z
   .have:=A1.cnt F z;omega
   .have:=A2.cnt F (vy.mp z);omega
 .have lt:(P1++P2.reverse).tail.length<=2*mZ d-1:=by
   rw[uc,jr,kG];omega
  rw[jr];omega
theorem yR {n:Nat}{ns:Nat->D}{k:Nat}(h2:2<=n)(h5:n<=5):∀ (d:Nat) (E:Fs) (h:Nat),d<=k->h<n->E h=Gb->Ok n E (k+1-d)->iB n E+d+2<=n ->
  xT n ns k d E (gM E h (if d=0 then Gb else Ga ((k+1-d:Nat),0))) (lj n k d E h)/\(lj n k d E h).length<=mZ d
 | 0,E,h,_,hh,e0,o,hc=>by
  refine⟨⟨rfl,?_,λF hF=>?_,λF hF=>?_,trivial⟩,jh _⟩
  .rw[Ge rfl,zDd e0];rfl
  .rw[jk.mp hF];exact o
  .rw[jk.mp hF];exact jh _
 | d+1,E,h,hk,hh,e0,o,hc=>by
  obtain⟨at_,hat⟩:∃ at_,at_=k-d:=⟨_,rfl⟩;have ho:Ok n E at_:=by rw[hat,<- (show k+1-(d+1)=k-d by omega)];exact o
  have enx:∀ F:Fs,∀ i,gM F i (if d=0 then Gb else Ga (((k+1-d:Nat):Int),0))=gM F i (nv k at_):=λF i=>by
   unfold nv;by_cases c:d=0
   .rw[Ge c,Gf (by omega)]
   .rw[Gf c,Ge (by omega)];have:((k+1-d:Nat):Int)=(at_:Int)+1:=by omega
    rw[this]
  have IH:=yR (ns:=ns) (k:=k) h2 h5 d;have okG:∀ m,m<2^n->bt m h=false->Ok n (gM E h (Ga ((at_:Int),m))) at_:=λm h1 h2=>ho.upd hh (by omega) (ux _) h1 h2;have cntG:∀ m,iB n (gM E h (Ga ((at_:Int),m)))<=iB n E+1:=λm=>DC _;have othM:∀ i,i∈lv n E h at_->i<n/\i≠h/\E i=Gb:=λi hi=>by
   obtain⟨x1,x2⟩:=jL.mp hi;rw[jx,kQ,beq_eq_false_iff_ne] at x2;exact⟨jl.mp x1,x2.2,HX ho x2.1⟩
  have L:∀ (l:List Nat),l.Nodup->(∀ i∈l,i<n/\i≠h/\E i=Gb)->∀ (p:List Fs),xT n ns k (d+1) E (gM E h (Ga ((at_:Int),iG l))) p ->
    xT n ns k (d+1) E (gM E h (Ga ((at_:Int),0))) (l.foldl (oq (lj n k d) E h) p)/\(l.foldl (oq (lj n k d) E h) p).length<=p.length+l.length*(2*mZ d-1):=by
   intro l;induction l with
   | nil=>exact λ_ _ p H=>⟨H,by rw[vq,va];omega⟩
   | cons x l ih =>
    intro nd hl p H;have nd':=kh.mp nd;obtain⟨s1,s2⟩:=Qw h2 h5 (λF i i1 i2 i3 i4=>by
     have:=IH F i (by omega) i1 i2 i3 i4;rw[enx] at this;exact this) hat hk hh ho hc nd hl H
    obtain⟨r1,r2⟩:=ih nd'.2 (λi hi=>hl i (jj _ hi)) _ s1;rw[u9];refine⟨r1,jF r2 ?_⟩;rw[jB,Jo];omega
  have P0:=IH E h (by omega) hh e0 (ho.mono (by omega)) (by omega);rw[enx] at P0;obtain⟨P0,l0⟩:=P0;have ndO:(lv n E h at_).Nodup:=u6 (k5) uO;have mO:iG (lv n E h at_)<2^n:=AI h2 h5 _ λi hi=>(othM i hi).1;have bO:bt (iG (lv n E h at_)) h=false:=by
   rw[xG _ h (by omega),<- kB,jN];exact λz=>(othM h z).2.1 rfl
  have S0:xT n ns k (d+1) E (gM E h (Ga ((at_:Int),iG (lv n E h at_)))) (lj n k d E h++[gM E h (Ga ((at_:Int),iG (lv n E h at_)))]):=by
   refine⟨zQ P0.hd,by rw[uG];rfl,λF hF=>?_,λF hF=>?_,zH P0.chn trivial λa b ha hb=>?_⟩
   .rcases jM.mp hF with z|z
    .exact P0.ok F z
    .rw[jk.mp z];exact(okG _ mO bO).mono (by omega)
   .rcases jM.mp hF with z|z
    .have:=P0.cnt F z;omega
    .rw[jk.mp z];have:=cntG (iG (lv n E h at_));omega
   .rw[P0.lst] at ha;cases ha;cases hb;obtain⟨i,i1,i2,i3⟩:=Fd (n:=n) (E:=E) (by omega) h;refine⟨i,i1,by rw[lJ i2];exact i3,by rw[lJ i2];exact i3,?_⟩;have A:=Pn (n:=n) (ns:=ns) (E1:=gM E h (nv k at_)) (E2:=gM E h (Ga ((at_:Int),iG (lv n E h at_)))) (k:=k) (at_:=at_) (λj=>j==h)
     (λj hj=>by rw[beq_iff_eq] at hj;subst hj;exact nK) (λj hj=>⟨_,by rw[beq_iff_eq] at hj;subst hj;exact nK,λt ht t1 t2=>?_⟩) (λj hj=>by rw[beq_eq_false_iff_ne] at hj;rw[lJ hj,lJ hj])
    .exact(CL A k (jh _)).1 i i1 (beq_eq_false_iff_ne.mpr i2)
    .rw[xG _ t (by omega),jN];refine jL.mpr ⟨jl.mpr ht,?_⟩;rw[EV (lJ (beq_eq_false_iff_ne.mp t1)) _] at t2;rw[t2,t1];rfl
  have R:=L (lv n E h at_) ndO othM _ S0;have e1:lj n k (d+1) E h=(lv n E h at_).foldl (oq (lj n k d) E h) (lj n k d E h++[gM E h (Ga ((at_:Int),iG (lv n E h at_)))]):=by rw[hat];rfl
  have e2:((k+1-(d+1):Nat):Int)=(at_:Int):=by omega
  rw[e1,Gf (ua d),e2];refine⟨R.1,jF R.2 ?_⟩;have lo:(lv n E h at_).length<=4:=by
   have a1:(lv n E h at_).length<=n:=by unfold lv;exact jF (ku _ _) (by rw[jG];exact jh _)
   by_cases c:(lv n E h at_).length=n
   .exfalso;have:∀ i∈je n,(lZ E i (at_:Int)&&!(i==h))=true:=List.length_filter_eq_length_iff.mp (by rw[jG];exact c);have:=this h (jl.mpr hh);rw[beq_self_eq_true,qA,qm] at this;cases this
   .omega
  rw[jr,kf];have:(lv n E h at_).length*(2*mZ d-1)<=4*(2*mZ d-1):=Jp _ lo;show _<=mZ d+1+4*(2*mZ d-1);omega
theorem zAF {α:Type}{P:List α->Prop}(h0:P [])(h1:∀ l x,P l->P (l++[x]))(l:List α):P l:=by
 have z:∀ r:List α,P r.reverse:=λr=>by
  induction r with
  | nil=>exact h0
  | cons x r ih=>rw[uE];exact h1 _ _ ih
 have:=z l.reverse;rw[List.reverse_reverse] at this;exact this
theorem zAG {n:Nat}{ns:Nat->D}{k d h:Nat}{E:Fs}(h2:2<=n)(h5:n<=5)(hk:d+1<=k)(hh:h<n)(e0:E h=Gb)(ho:Ok n E (k-d))(hc:iB n E+(d+1)+2<=n) :
  ∀ (pre suf:List Nat),lv n E h (k-d)=pre++suf->xT n ns k (d+1) E (gM E h (Ga (((k-d:Nat):Int),iG suf))) (pre.foldl (oq (lj n k d) E h) (lj n k d E h++[gM E h (Ga (((k-d:Nat):Int),iG (lv n E h (k-d))))])) /\
   (pre.foldl (oq (lj n k d) E h) (lj n k d E h++[gM E h (Ga (((k-d:Nat):Int),iG (lv n E h (k-d))))])).length<=mZ d+1+pre.length*(2*mZ d-1):=by
 obtain⟨at_,hat⟩:∃ at_,at_=k-d:=⟨_,rfl⟩;rw[<- hat] at ho ⊢;have enx:∀ F:Fs,∀ i,gM F i (if d=0 then Gb else Ga (((k+1-d:Nat):Int),0))=gM F i (nv k at_):=λF i=>by
  unfold nv;by_cases c:d=0
  .rw[Ge c,Gf (by omega)]
  .rw[Gf c,Ge (by omega)];have:((k+1-d:Nat):Int)=(at_:Int)+1:=by omega
   rw[this]
 have IH:=yR (ns:=ns) (k:=k) h2 h5 d;have okG:∀ m,m<2^n->bt m h=false->Ok n (gM E h (Ga ((at_:Int),m))) at_:=λm h1 h2=>ho.upd hh (by omega) (ux _) h1 h2;have cntG:∀ m,iB n (gM E h (Ga ((at_:Int),m)))<=iB n E+1:=λm=>DC _;have othM:∀ i,i∈lv n E h at_->i<n/\i≠h/\E i=Gb:=λi hi=>by
  obtain⟨x1,x2⟩:=jL.mp hi;rw[jx,kQ,beq_eq_false_iff_ne] at x2;exact⟨jl.mp x1,x2.2,HX ho x2.1⟩
 have P0:=IH E h (by omega) hh e0 (ho.mono (by omega)) (by omega);rw[enx] at P0;obtain⟨P0,l0⟩:=P0;have ndO:(lv n E h at_).Nodup:=u6 (k5) uO;have mO:iG (lv n E h at_)<2^n:=AI h2 h5 _ λi hi=>(othM i hi).1;have bO:bt (iG (lv n E h at_)) h=false:=by
  rw[xG _ h (by omega),<- kB,jN];exact λz=>(othM h z).2.1 rfl
 have S0:xT n ns k (d+1) E (gM E h (Ga ((at_:Int),iG (lv n E h at_)))) (lj n k d E h++[gM E h (Ga ((at_:Int),iG (lv n E h at_)))]):=by
  refine⟨zQ P0.hd,by rw[uG];rfl,λF hF=>?_,λF hF=>?_,zH P0.chn trivial λa b ha hb=>?_⟩
  .rcases jM.mp hF with z|z
   .exact P0.ok F z
   .rw[jk.mp z];exact(okG _ mO bO).mono (by omega)
  .rcases jM.mp hF with z|z
   .have:=P0.cnt F z;omega
   .rw[jk.mp z];have:=cntG (iG (lv n E h at_));omega
  .rw[P0.lst] at ha;cases ha;cases hb;obtain⟨i,i1,i2,i3⟩:=Fd (n:=n) (E:=E) (by omega) h;refine⟨i,i1,by rw[lJ i2];exact i3,by rw[lJ i2];exact i3,?_⟩;have A:=Pn (n:=n) (ns:=ns) (E1:=gM E h (nv k at_)) (E2:=gM E h (Ga ((at_:Int),iG (lv n E h at_)))) (k:=k) (at_:=at_) (λj=>j==h)
    (λj hj=>by rw[beq_iff_eq] at hj;subst hj;exact nK) (λj hj=>⟨_,by rw[beq_iff_eq] at hj;subst hj;exact nK,λt ht t1 t2=>?_⟩) (λj hj=>by rw[beq_eq_false_iff_ne] at hj;rw[lJ hj,lJ hj])
   .exact(CL A k (jh _)).1 i i1 (beq_eq_false_iff_ne.mpr i2)
   .rw[xG _ t (by omega),jN];refine jL.mpr ⟨jl.mpr ht,?_⟩;rw[EV (lJ (beq_eq_false_iff_ne.mp t1)) _] at t2;rw[t2,t1];rfl
 intro pre;induction pre using zAF with
 | h0 =>
  intro suf e;rw[List.nil_append] at e;rw[<- e,vq];exact⟨S0,by rw[jr,kf,va];omega⟩
 | h1 pre x ih =>
  intro suf e;rw[kP,Jf] at e;obtain⟨r1,r2⟩:=ih (x::suf) e;rw[vg,u9,vq];have nd:(x::suf).Nodup:=by rw[e] at ndO;exact(uj.mp ndO).2.1
  have hl:∀ i∈x::suf,i<n/\i≠h/\E i=Gb:=λi hi=>othM i (by rw[e];exact jK _ hi);obtain⟨s1,s2⟩:=Qw h2 h5 (λF i i1 i2 i3 i4=>by
   have:=IH F i (by omega) i1 i2 i3 i4;rw[enx] at this;exact this) hat hk hh ho hc nd hl r1
  refine⟨s1,jF s2 ?_⟩;rw[jr,kf,Jo];omega
theorem Md {α β:Type}{f g:α->Option β}:∀ {l:List α},(∀ x∈l,f x=g x)->l.filterMap f=l.filterMap g
 | [],_=>rfl
 | x::l,h=>by
  have ih:=Md (l:=l) λy hy=>h y (jj _ hy);have e:=h x jf;cases w:g x with
  | none=>rw[jY (f:=f) (e.trans w),jY (f:=g) w,ih]
  | some y=>rw[ko (f:=f) (e.trans w),ko (f:=g) w,ih]
def gQ (n:Nat)(E:Fs):List Fl:=(je n).filterMap λi=>(E i).map λp=>⟨i,p.1,p.2⟩
theorem pP {n:Nat}{E:Fs}{f:Fl}:f∈gQ n E↔f.h<n/\E f.h=Ga (f.a,f.m):=by
 unfold gQ;rw[uT];constructor
 .rintro⟨i,hi,e⟩;obtain⟨p,hp,rfl⟩:=qS.mp e;exact⟨jl.mp hi,hp⟩
 .rintro⟨h1,h2⟩;exact⟨f.h,jl.mpr h1,by rw[h2];rfl⟩
theorem GF (n:Nat)(E:Fs):(gQ n E).map Fl.h=(je n).filter λi=>(E i).isSome:=by
 unfold gQ;induction n with
 | zero=>rfl
 | succ n ih =>
  rw[kz,vf,jZ,ih,kE];refine congrArg _ ?_;cases e:E n with
  | none=>rw[jY (by rw[e];rfl),jQ (by rw[e];exact jq)];rfl
  | some p=>rw[ko (by rw[e];rfl),jH (by rw[e];rfl)];rfl
theorem EJ (n:Nat)(E:Fs):((gQ n E).map Fl.h).Nodup:=by
 rw[GF];exact u6 k5 uO
theorem yB (n:Nat)(E:Fs):(gQ n E).length=iB n E:=by
 unfold iB;rw[<- GF,jb]
theorem ET {fs:List Fl}(nd:(fs.map Fl.h).Nodup){f:Fl}(hf:f∈fs):mE fs f.h=Ga f:=by
 unfold mE;induction fs with
 | nil=>cases hf
 | cons g fs ih =>
  rw[jI,kh] at nd;rcases ju.mp hf with rfl|hf
  .rw[kD (by exact beq_self_eq_true _)]
  .rw[kA,ih nd.2 hf];intro z;rw[beq_iff_eq] at z;exact nd.1 (by rw[z];exact qe hf)
theorem CF {n:Nat}{E:Fs}{h:Nat}(hn:h<n):mE (gQ n E) h=(E h).map λp=>⟨h,p.1,p.2⟩:=by
 cases e:E h with
 | some p =>
  have:=ET (EJ n E) (f:=⟨h,p.1,p.2⟩) (pP.mpr ⟨hn,e⟩);exact this
 | none =>
  unfold mE;rw[uY.mpr]
  .rfl
  .intro f hf z;rw[beq_iff_eq] at z;obtain⟨_,h2⟩:=pP.mp hf;rw[z,e] at h2;cases h2
theorem zFb {n:Nat}{E:Fs}{h:Nat}(hn:h<n)(r:Int):up (gQ n E) h r=lZ E h r:=by
 unfold up lZ;rw[CF hn];cases E h with
 | none=>rfl
 | some p=>rfl
theorem zsX (n:Nat)(E:Fs)(h:Nat):(gQ n E).filter (λf=>!(f.h==h))=gQ n (gM E h Gb):=by
 unfold gQ;induction n with
 | zero=>rfl
 | succ n ih =>
  rw[kz,vf,vf,kE,ih];refine congrArg _ ?_;by_cases c:n=h
  .subst c;cases e:E n with
   | none=>rw[jY (by rw[e];rfl),jY (by rw[nK];rfl)];rfl
   | some p =>
    rw[ko (by rw[e];rfl),jY (by rw[nK];rfl)];rw[jQ (by rw[beq_self_eq_true];decide)];rfl
  .cases e:E n with
   | none=>rw[jY (by rw[e];rfl),jY (by rw[lJ c,e];rfl)];rfl
   | some p =>
    rw[ko (by rw[e];rfl),ko (by rw[lJ c,e];rfl)];rw[jH (by rw[beq_eq_false_iff_ne.mpr c];rfl)];rfl
def wx (X:List Fl):List Fl:=(je 5).filterMap λi=>mE X i
theorem Ss {X Y:List Fl}(nd:(X.map Fl.h).Nodup)(hY:∀ y∈Y,y∈X)(hs:Y.map Fl.h=(je 5).filter λi=>(X.map Fl.h).contains i):Y=wx X:=by
 have e1:∀ Y:List Fl,(∀ y∈Y,y∈X)->Y=(Y.map Fl.h).filterMap λi=>mE X i:=by
  intro Y;induction Y with
  | nil=>exact λ_=>rfl
  | cons y Y ih =>
   intro h;rw[jI,ko (ET nd (h y jf)),<- ih λz hz=>h z (jj _ hz)]
 rw[e1 Y hY,hs];unfold wx;have e2:∀ l:List Nat,(l.filter λi=>(X.map Fl.h).contains i).filterMap (λi=>mE X i)=l.filterMap λi=>mE X i:=by
  intro l;induction l with
  | nil=>rfl
  | cons i l ih =>
   by_cases c:(X.map Fl.h).contains i=true
   .rw[jH c];cases e:mE X i with
    | none=>rw[jY e,jY e];exact ih
    | some f=>rw[ko e,ko e,ih]
   .rw[jQ c,ih];have:mE X i=Gb:=by
     unfold mE;refine uY.mpr λf hf z=>c ?_;rw[beq_iff_eq] at z;rw[jN,<- z];exact qe hf
    rw[jY this]
 exact e2 _
theorem zvA {n:Nat}{E:Fs}{h:Nat}{a:Int}{m:Nat}(h5:n<=5)(hn:h<n):wx (gQ n (gM E h Gb)++[⟨h,a,m⟩])=gQ n (gM E h (Ga (a,m))):=by
 have hlook:∀ i,mE (gQ n (gM E h Gb)++[⟨h,a,m⟩]) i=if i<n then(gM E h (Ga (a,m)) i).map (λp=>(⟨i,p.1,p.2⟩:Fl)) else Gb:=λi=>by
  unfold mE;rw[List.find?_append];by_cases c:i<n
  .rw[Ge c];have:=CF (E:=gM E h Gb) c;unfold mE at this;rw[this];by_cases e:i=h
   .subst e;rw[nK,nK];rw[kD (by exact beq_self_eq_true _)];rfl
   .rw[lJ e,lJ e];cases E i with
    | some p=>rfl
    | none=>rw[kA (by intro z;rw[beq_iff_eq] at z;exact e z.symm)];rfl
  .rw[Gf c];rw[uY.mpr,kA (by intro z;rw[beq_iff_eq] at z;have z:h=i:=z;omega)]
   .rfl
   .intro f hf z;rw[beq_iff_eq] at z;have:=(pP.mp hf).1;omega
 unfold wx;rw[show(λi=>mE (gQ n (gM E h Gb)++[⟨h,a,m⟩]) i)=λi=>if i<n then(gM E h (Ga (a,m)) i).map (λp=>(⟨i,p.1,p.2⟩:Fl)) else Gb from funext hlook];unfold gQ;have key:∀ k,n<=k->(je k).filterMap (λi=>if i<n then(gM E h (Ga (a,m)) i).map (λp=>(⟨i,p.1,p.2⟩:Fl)) else Gb)=(je n).filterMap λi=>(gM E h (Ga (a,m)) i).map λp=>(⟨i,p.1,p.2⟩:Fl):=by
  intro k;induction k with
  | zero =>
   intro hk;obtain rfl:n=0:=by omega
   rfl
  | succ k ih =>
   intro hk;by_cases c:n=k+1
   .subst c;exact Md λi hi=>Ge (jl.mp hi)
   .rw[kz,vf,ih (by omega),jY (by rw[Gf (by omega)])];exact kg _
 exact key 5 h5
abbrev Rn:=(Nat->Int)×Fs
def yL (n:Nat)(r:Rn)(k i:Nat):D:=mG n (λj=>.int (r.1 j)) r.2 k i
def sO (n k:Nat)(r1 r2:Rn):Prop:=∃ i,i<n/\r1.2 i=Gb/\r2.2 i=Gb/\yL n r1 k i=yL n r2 k i
theorem sO.symm {n k:Nat}{r1 r2:Rn}(h:sO n k r1 r2):sO n k r2 r1:=by
 obtain⟨i,h1,h2,h3,h4⟩:=h;exact⟨i,h1,h3,h2,h4.symm⟩
theorem MS {α β:Type}{R:α->α->Prop}{Q:β->β->Prop}(f:α->β)(h:∀ a b,R a b->Q (f a) (f b)):∀ {l:List α},pT R l->pT Q (l.map f)
 | [],_=>trivial
 | [_],_=>trivial
 | a::b::r,c=>⟨h a b c.1,MS f h (l:=b::r) c.2⟩
def hJ:Fs:=λ_=>Gb
def oJ (v:Nat->Int)(h:Nat)(x:Int):Nat->Int:=λi=>if i=h then x else v i
def xS (n k d:Nat)(v v':Nat->Int)(E E':Fs)(h:Nat):List Rn:=(lj n k d E h).map (λF=>(v,F))++((lj n k d E' h).map λF=>(v',F)).reverse
def pG (n k:Nat)(new:Nat->Int)(p:List Rn)(h:Nat):List Rn :=
 if (p.getLastD (new,hJ)).1 h=new h then p else p++(xS n k k (p.getLastD (new,hJ)).1 (oJ (p.getLastD (new,hJ)).1 h (new h)) (p.getLastD (new,hJ)).2 (p.getLastD (new,hJ)).2 h).tail
structure rM (n k t:Nat)(a b:Rn)(P:List Rn):Prop where
 hd:P.head?=Ga a
 lst:P.getLast?=Ga b
 ok:∀ r∈P,Ok n r.2 5
 cnt:∀ r∈P,iB n r.2<=t
 chn:pT (sO n k) P
 num:∀ r∈P,∀ i,r.1 i=a.1 i\/r.1 i=b.1 i
theorem xp (n:Nat):iB n hJ=0:=by
 unfold iB;rw[List.length_eq_zero_iff];exact uZ.mpr λi _=>by unfold hJ;exact jq
theorem yV (n a:Nat):Ok n hJ a:=⟨λ_ _ _ z=>(by cases z),λ_ _ _ z=>(by cases z),λ_ _ _ z=>(by cases z)⟩
theorem ZW {n k d:Nat}(h2:2<=n)(h5:n<=5)(k4:k<=4){v v':Nat->Int}{E E':Fs}{h:Nat}(hd:d<=k)(hh:h<n)(e1:E h=Gb)(e2:E' h=Gb)(o1:Ok n E (k+1-d))(o2:Ok n E' (k+1-d))(c1:iB n E+d+2<=n)(c2:iB n E'+d+2<=n){t:Nat}(t1:iB n E+d<=t)(t2:iB n E'+d<=t)
  (mid:∀ i,i≠h->yL n (v,gM E h (nv k (k-d))) k i=yL n (v',gM E' h (nv k (k-d))) k i\/n<=i) (non:∀ i,E i=Gb↔E' i=Gb):rM n k t (v,E) (v',E') (xS n k d v v' E E' h)/\(xS n k d v v' E E' h).length<=2*mZ d:=by
 have enx:∀ F:Fs,gM F h (if d=0 then Gb else Ga (((k+1-d:Nat):Int),0))=gM F h (nv k (k-d)):=λF=>by
  unfold nv;by_cases c:d=0
  .rw[Ge c,Gf (by omega)]
  .rw[Gf c,Ge (by omega)];have:((k+1-d:Nat):Int)=((k-d:Nat):Int)+1:=by omega
   rw[this]
 obtain⟨A1,l1⟩:=yR (ns:=λj=>.int (v j)) (k:=k) h2 h5 d E h hd hh e1 o1 c1;obtain⟨A2,l2⟩:=yR (ns:=λj=>.int (v' j)) (k:=k) h2 h5 d E' h hd hh e2 o2 c2;rw[enx] at A1 A2;unfold xS;refine⟨⟨?_,?_,λr hr=>?_,λr hr=>?_,?_,λr hr i=>?_⟩,?_⟩
 .exact zQ (by rw[List.head?_map,A1.hd];rfl)
 .rw[uG,vT,List.head?_map,A2.hd];rfl
 .rcases jM.mp hr with z|z
  .obtain⟨F,hF,rfl⟩:=jv.mp z;exact(A1.ok F hF).mono (by omega)
  .obtain⟨F,hF,rfl⟩:=jv.mp (vy.mp z);exact(A2.ok F hF).mono (by omega)
 .rcases jM.mp hr with z|z
  .obtain⟨F,hF,rfl⟩:=jv.mp z;exact jF (A1.cnt F hF) t1
  .obtain⟨F,hF,rfl⟩:=jv.mp (vy.mp z);exact jF (A2.cnt F hF) t2
 .refine zH (MS (Q:=sO n k) (λF=>(v,F)) (λa b ab=>ab) A1.chn) (Ke (R:=sO n k) (λ_ _=>sO.symm) (MS (Q:=sO n k) (λF=>(v',F)) (λa b ab=>ab) A2.chn)) λa b ha hb=>?_;rw[vh,A1.lst] at ha;cases ha;rw[JC,vh,A2.lst] at hb;cases hb;have c3:=A1.cnt _ (vo A1.lst);obtain⟨i,i1,i2,i3⟩:=Fd (n:=n) (E:=gM E h (nv k (k-d))) (by omega) h;rw[lJ i2] at i3;exact⟨i,i1,by show gM E h _ i=Gb;rw[lJ i2];exact i3,by show gM E' h _ i=Gb;rw[lJ i2];exact(non i).mp i3,(mid i i2).resolve_right (by omega)⟩
 .rcases jM.mp hr with z|z
  .obtain⟨F,hF,rfl⟩:=jv.mp z;exact .inl rfl
  .obtain⟨F,hF,rfl⟩:=jv.mp (vy.mp z);exact .inr rfl
 .rw[jr,kG,jb,jb];omega
theorem Nu {n k:Nat}(h2:2<=n)(h5:n<=5)(hk:k+2<=n)(v new:Nat->Int):∀ m,m<=n->∃ w,(∀ i,w i=if i<m then new i else v i)/\rM n k k (v,hJ) (w,hJ) ((je m).foldl (pG n k new) [(v,hJ)])/\((je m).foldl (pG n k new) [(v,hJ)]).length<=1+m*(2*mZ k)
 | 0,_=>⟨v,λi=>by rw[Gf (qY i)],⟨rfl,rfl,λr hr=>(by rw[jk.mp hr];exact yV n _),λr hr=>(by rw[jk.mp hr];show iB n hJ<=k;rw[xp];exact jO _),trivial,λr hr i=>(by rw[jk.mp hr];exact .inl rfl)⟩,by show 1<=1+0*(2*mZ k);omega⟩
 | m+1,hm=>by
  obtain⟨w,hw,H,hl⟩:=Nu h2 h5 hk v new m (by omega);rw[kz,vg];show ∃ w',_/\rM n k k (v,hJ) (w',hJ) (pG n k new ((je m).foldl (pG n k new) [(v,hJ)]) m)/\(pG n k new ((je m).foldl (pG n k new) [(v,hJ)]) m).length<=_;generalize (je m).foldl (pG n k new) [(v,hJ)]=p at H hl;have el:p.getLastD (new,hJ)=(w,hJ):=Fg H.lst;unfold pG;rw[el];dsimp only;by_cases c:w m=new m
  .rw[Ge c];refine⟨w,λi=>?_,H,by rw[Jo];omega⟩;by_cases e:i=m
   .subst e;rw[c,Ge (k8 i)]
   .rw[hw i];by_cases e2:i<m
    .rw[Ge e2,Ge (by omega)]
    .rw[Gf e2,Gf (by omega)]
  .rw[Gf c];have S:=ZW (n:=n) (k:=k) (d:=k) h2 h5 (by omega) (v:=w) (v':=oJ w m (new m)) (E:=hJ) (E':=hJ) (h:=m) (jh _) (by omega) rfl rfl (yV _ _) (yV _ _) (by rw[xp];omega) (by rw[xp];omega) (t:=k) (by rw[xp];omega) (by rw[xp];omega) (λi hi=>by
    by_cases hn:i<n
    .refine .inl ?_;have C:=zGc (n:=n) (ns1:=λj=>jc (w j)) (ns2:=λj=>jc (oJ w m (new m) j)) (E:=gM hJ m (nv k (k-k))) (k:=k) (h:=m) (λj hj=>by unfold oJ;rw[Gf hj]) (by rw[nK,qh]);exact(CL C k (jh _)).1 i hn (beq_eq_false_iff_ne.mpr hi)
    .exact .inr (by omega)) (λ_=>Iff.rfl)
   obtain⟨S,sl⟩:=S;generalize xS n k k w (oJ w m (new m)) hJ hJ m=q at S sl;refine⟨oJ w m (new m),λi=>?_,⟨zQ H.hd,HJ H.lst S.hd S.lst,λr hr=>?_,λr hr=>?_,Mw H.lst S.hd H.chn S.chn,λr hr i=>?_⟩,?_⟩
   .unfold oJ;by_cases e:i=m
    .subst e;rw[Ge rfl,Ge (k8 i)]
    .rw[Gf e,hw i];by_cases e2:i<m
     .rw[Ge e2,Ge (by omega)]
     .rw[Gf e2,Gf (by omega)]
   .rcases jM.mp hr with z|z
    .exact H.ok r z
    .exact S.ok r (kI z)
   .rcases jM.mp hr with z|z
    .exact H.cnt r z
    .exact S.cnt r (kI z)
   .have W:∀ j,w j=v j\/w j=oJ w m (new m) j:=λj=>by
     by_cases e:j=m
     .left;subst e;rw[hw j,Gf (j0 j)]
     .right;unfold oJ;rw[Gf e]
    rcases jM.mp hr with z|z
    .rcases H.num r z i with z|z
     .exact .inl z
     .rcases W i with y|y
      .exact .inl (z.trans y)
      .exact .inr (z.trans y)
    .rcases S.num r (kI z) i with z|z
     .rcases W i with y|y
      .exact .inl (z.trans y)
      .exact .inr (z.trans y)
     .exact .inr z
   .rw[jr,uc,Jo];omega
theorem rM.join {n k t:Nat}{a b c:Rn}{p q:List Rn}(A:rM n k t a b p)(B:rM n k t b c q)(hv:a.1=b.1\/b.1=c.1):rM n k t a c (p++q.tail):=by
 refine⟨zQ A.hd,HJ A.lst B.hd B.lst,λr hr=>?_,λr hr=>?_,Mw A.lst B.hd A.chn B.chn,λr hr i=>?_⟩
 .rcases jM.mp hr with z|z
  .exact A.ok r z
  .exact B.ok r (kI z)
 .rcases jM.mp hr with z|z
  .exact A.cnt r z
  .exact B.cnt r (kI z)
 .rcases jM.mp hr with z|z
  .rcases A.num r z i with y|y
   .exact .inl y
   .rcases hv with e|e
    .exact .inl (y.trans (congrFun e i).symm)
    .exact .inr (y.trans (congrFun e i))
  .rcases B.num r (kI z) i with y|y
   .rcases hv with e|e
    .exact .inl (y.trans (congrFun e i).symm)
    .exact .inr (y.trans (congrFun e i))
   .exact .inr y
theorem rM.snoc {n k t:Nat}{a b c:Rn}{p:List Rn}(A:rM n k t a b p)(l:sO n k b c)(o:Ok n c.2 5)(h:iB n c.2<=t)(hv:b.1=c.1):rM n k t a c (p++[c]):=by
 have B:rM n k t b c [b,c]:=⟨rfl,rfl,λr hr=>?_,λr hr=>?_,⟨l,trivial⟩,λr hr i=>?_⟩
 .exact A.join B (.inr hv)
 .rcases ju.mp hr with rfl|hr
  .exact A.ok _ (vo A.lst)
  .rw[jk.mp hr];exact o
 .rcases ju.mp hr with rfl|hr
  .exact A.cnt _ (vo A.lst)
  .rw[jk.mp hr];exact h
 .rcases ju.mp hr with rfl|hr
  .exact .inl rfl
  .rw[jk.mp hr];exact .inr rfl
theorem zAH {n:Nat}(h5:n<=5):2^n<=32:=vp (by decide) h5
def lx (E:Fs)(at_:Nat):Fs:=λi=>match E i with
 | some (a,m)=>if a<(at_:Int) then Ga (a,m) else Gb
 | none=>Gb
theorem EB {n:Nat}{E:Fs}{a:Nat}(o:Ok n E 5):Ok n (lx E (a+1)) a:=by
 have key:∀ i x m,lx E (a+1) i=Ga (x,m)->E i=Ga (x,m)/\x<((a+1:Nat):Int):=λi x m e=>by
  unfold lx at e;cases h:E i with
  | none=>rw[h] at e;cases e
  | some w =>
   obtain⟨y,l⟩:=w;rw[h] at e;dsimp only at e;by_cases z:y<((a+1:Nat):Int)
   .rw[Ge z] at e;cases e;exact⟨rfl,z⟩
   .rw[Gf z] at e;cases e
 exact⟨λi x m e=>⟨(o.rnd i x m (key i x m e).1).1,by have:=(key i x m e).2;omega⟩,λi x m e=>o.hnd i x m (key i x m e).1,λi x m e=>o.msk i x m (key i x m e).1⟩
theorem zDe {n:Nat}{E:Fs}{a:Nat}:iB n (lx E a)<=iB n E:=zAE λi hi=>by
 unfold lx at hi;cases h:E i with
 | none=>rw[h] at hi;exact hi
 | some w=>rfl
def xk (hs:List Nat):Bool:=match pM (λi j=>Ga (decide (hs.getD i 0<hs.getD j 0))) (uy hs.length) with
 | some p=>decide (p.size<=64)&&decide (p.toList.map (λi=>hs.getD i 0)=(je 5).filter λi=>hs.contains i)&&p.toList.all λi=>decide (i<hs.length)
 | none=>false
theorem UB:∀ a b:Fin 5,[a.val,b.val].Nodup->xk [a.val,b.val]=true:=by nofun
theorem Ul:∀ a b c:Fin 5,[a.val,b.val,c.val].Nodup->xk [a.val,b.val,c.val]=true:=by nofun
theorem Tz:∀ a b c d:Fin 5,[a.val,b.val,c.val,d.val].Nodup->xk [a.val,b.val,c.val,d.val]=true:=by nofun
theorem TH:∀ a b c d e:Fin 5,[a.val,b.val,c.val,d.val,e.val].Nodup->xk [a.val,b.val,c.val,d.val,e.val]=true:=by nofun
theorem Wf {hs:List Nat}(h2:2<=hs.length)(h5:hs.length<=5)(nd:hs.Nodup)(hb:∀ h∈hs,h<5):xk hs=true:=by
 match hs,h2,h5,nd,hb with
 | [a,b],_,_,nd,hb=>exact UB ⟨a,hb a (by simp only[ju,true_or])⟩ ⟨b,hb b (by simp only[ju,true_or,or_true])⟩ nd
 | [a,b,c],_,_,nd,hb=>exact Ul ⟨a,hb a (by simp only[ju,true_or])⟩ ⟨b,hb b (by simp only[ju,true_or,or_true])⟩ ⟨c,hb c (by simp only[ju,true_or,or_true])⟩ nd
 | [a,b,c,d],_,_,nd,hb=>exact Tz ⟨a,hb a (by simp only[ju,true_or])⟩ ⟨b,hb b (by simp only[ju,true_or,or_true])⟩ ⟨c,hb c (by simp only[ju,true_or,or_true])⟩ ⟨d,hb d (by simp only[ju,true_or,or_true])⟩ nd
 | [a,b,c,d,e],_,_,nd,hb=>exact TH ⟨a,hb a (by simp only[ju,true_or])⟩ ⟨b,hb b (by simp only[ju,true_or,or_true])⟩ ⟨c,hb c (by simp only[ju,true_or,or_true])⟩ ⟨d,hb d (by simp only[ju,true_or,or_true])⟩ ⟨e,hb e (by simp only[ju,true_or,or_true])⟩ nd
 | a::b::c::d::e::f::r,_,h5,_,_=>simp only[jB] at h5;omega
theorem GS {n:Nat}{lt lt':Nat->Nat->Option Bool}(h:∀ i j,i<n->j<n->lt i j=lt' i j):∀ {t:qP (Array Nat)},Af n t=true->pM lt t=pM lt' t
 | .ret p,_=>rfl
 | .ask i j k,c=>by
  unfold Af at c;rw[jx,jx,jx,decide_eq_true_eq,decide_eq_true_eq] at c;obtain⟨⟨⟨h1,h2⟩,h3⟩,h4⟩:=c;show(lt i j).bind _=(lt' i j).bind _;rw[h i j h1 h2];cases lt' i j with
  | none=>rfl
  | some b =>
   show pM lt (k b)=pM lt' (k b);cases b with
   | true=>exact GS h h3
   | false=>exact GS h h4
def f0:Fl:=⟨0,0,0⟩
theorem zGe {f g:Fl}(h:f=g\/f.h≠g.h):zJ (fd f) (fd g)=Ga (decide (f.h<g.h)):=by
 have e:zJ (fd f) (fd g)=Ga (pF [(f.h:Int),f.a,(f.m:Int)] [(g.h:Int),g.a,(g.m:Int)]):=OY [(f.h:Int),f.a,(f.m:Int)] [(g.h:Int),g.a,(g.m:Int)];rw[e];refine congrArg Ga ?_;rcases h with rfl|h
 .rw[Gd (j0 _)];unfold pF;rw[Ge (beq_self_eq_true _)];unfold pF;rw[Ge (beq_self_eq_true _)];unfold pF;rw[Ge (beq_self_eq_true _)];rfl
 .unfold pF;rw[Gf (by rw[beq_iff_eq];omega)];by_cases c:f.h<g.h
  .rw[Gc c,Gc (by omega)]
  .rw[Gd c,Gd (by omega)]
theorem zAI (g:Fl->D)(hlt:∀ f f':Fl,f=f'\/f.h≠f'.h->zJ (g f) (g f')=Ga (decide (f.h<f'.h)))(hok:∀ X:List Fl,pO (X.map g)=true){X:List Fl}(hl:X.length<=5)(nd:(X.map Fl.h).Nodup)(hb:∀ f∈X,f.h<5):mU (X.map g)=Ga ((wx X).map g):=by
 by_cases h2:X.length<2
 .have e:mU (X.map g)=Ga (X.map g):=by unfold mU;rw[Ge (by rw[jb];exact h2)]
  rw[e,<- Ss nd (λ_ h=>h)]
  match X,h2,hb with
  | [],_,_=>rfl
  | [f],_,hb =>
   have:f.h<5:=hb f jf;have key:∀ a:Fin 5,[a.val]=(je 5).filter λi=>[a.val].contains i:=by nofun
   exact key ⟨f.h,this⟩
  | _::_::_,h,_=>simp only[jB] at h;omega
 .have hs:xk (X.map Fl.h)=true:=Wf (by rw[jb];omega) (by rw[jb];exact hl) nd λh hh=>by
   obtain⟨f,hf,rfl⟩:=jv.mp hh;exact hb f hf
  unfold xk at hs;split at hs;rotate_left
  .cases hs
  rename_i p hp;rw[jx,jx,decide_eq_true_eq,decide_eq_true_eq,jJ] at hs;obtain⟨⟨p1,p2⟩,p3⟩:=hs;rw[jb] at hp p3;have getX:∀ i,i<X.length->∃ f,X[i]?=Ga f/\f∈X/\(X.map Fl.h).getD i 0=f.h/\(X.map g)[i]?=Ga (g f):=λi hi=>⟨X[i],ji hi,uz hi,by rw[jg,jA,ji hi];rfl,by rw[jA,ji hi];rfl⟩;have cg:pM (wU (X.map g)) (uy X.length)=Ga p:=by
   rw[<- hp];refine GS (n:=X.length) (λi j hi hj=>?_) (zzA _ (by omega));obtain⟨f,f1,f2,f3,f4⟩:=getX i hi;obtain⟨f',g1,g2,g3,g4⟩:=getX j hj;unfold wU;rw[f4,g4,f3,g3];refine hlt _ _ ?_;by_cases e:f.h=f'.h
   .left;have a:=ET nd f2;have b:=ET nd g2;rw[e,b] at a;cases a;rfl
   .exact .inr e
  unfold mU;have ok:pO (X.map g)=true:=hok X;rw[Gf (by rw[jb];exact h2),Ge (by rw[ok,Bool.and_true,decide_eq_true_eq,jb];omega),jb,cg,jn,Ge p1];refine congrArg Ga ?_;have eY:p.toList.map (λi=>(X.map g).getD i .none)=(p.toList.map λi=>X.getD i f0).map g:=by
   rw[jU];refine jW λi hi=>?_;obtain⟨f,f1,f2,f3,f4⟩:=getX i (of_decide_eq_true (p3 i hi));show(X.map g).getD i .none=g (X.getD i f0);rw[jg,jg,f4,f1];rfl
  rw[eY];refine congrArg (JO g) (Ss nd (λy hy=>?_) ?_)
  .obtain⟨i,hi,rfl⟩:=jv.mp hy;obtain⟨f,f1,f2,f3,f4⟩:=getX i (of_decide_eq_true (p3 i hi));rw[jg,f1];exact f2
  .rw[<- p2,jU];refine jW λi hi=>?_;obtain⟨f,f1,f2,f3,f4⟩:=getX i (of_decide_eq_true (p3 i hi));show(X.getD i f0).h=_;rw[f3,jg,f1];rfl
theorem Vg {X:List Fl}(hl:X.length<=5)(nd:(X.map Fl.h).Nodup)(hb:∀ f∈X,f.h<5):mU (X.map fd)=Ga ((wx X).map fd) :=
 zAI fd (λ_ _ h=>zGe h) (λX=>by
   unfold pO;rw[kj];right;rw[jJ];intro d hd;obtain⟨f,_,rfl⟩:=jv.mp hd;rfl) hl nd hb
abbrev mI (ns:List D)(E:Fs):D:=rd ns (gQ ns.length E)
theorem QE (ns:List D)(fs:List Fl):gC (rd ns fs) (.int 0)=Ga (.tuple ns):=rfl
theorem SJ (ns:List D)(fs:List Fl):gC (rd ns fs) (.int 1)=Ga (.tuple (fs.map fd)):=rfl
theorem Vu (f:Fl):gC (fd f) (.int 0)=Ga (.int f.h):=rfl
theorem zFe (f:Fl):gC (fd f) (.int 1)=Ga (.int f.a):=rfl
theorem Gx (n:Nat)(E:Fs):iB n E<=n:=by unfold iB;exact jF (ku _ _) (by rw[jG];exact jh _)
theorem zFf {n:Nat}(E:Fs)(h5:n<=5):((gQ n E).map fd).length<=1000000:=by rw[jb,yB];have:=Gx n E;omega
theorem Qs (a b:Nat):decide (¬(a:Int)=(b:Int))=!(a==b):=by
 by_cases c:a=b
 .subst c;rw[beq_self_eq_true,Gd (λz=>z rfl)];rfl
 .rw[beq_eq_false_iff_ne.mpr c,Gc (by omega)];rfl
theorem Qn (a b:Nat):decide ((a:Int)=(b:Int))=(a==b):=by
 by_cases c:a=b
 .subst c;rw[beq_self_eq_true,Gc rfl]
 .rw[beq_eq_false_iff_ne.mpr c,Gd (by omega)]
theorem Vi (ns:List D)(E:Fs)(h:Nat)(h5:ns.length<=5):CY [mI ns E,.int h]=Ga (mI ns (gM E h Gb)):=by
 have cp:lc bT fZ [.val (.int (h:Int))] ((gQ ns.length E).map fd)=Ga ((gQ ns.length (gM E h Gb)).map fd):=by
  rw[<- zsX];refine zv fd (λf=>!(f.h==h)) fd (λf _=>?_) λf _ _=>rfl;simp_arith[Vu,Qs]
 rw[YV];unfold Kl;simp_arith[QE,SJ,pr,Ge (zFf E h5),cp];rfl
theorem Kq {xs ys:List D}(h:xs.length+ys.length<=1000):iX (.tuple xs) (.tuple ys)=Ga (.tuple (xs++ys)):=by
 show(if xs.length+ys.length<=sizeLine then _ else _)=_;rw[Ge (jF h (by rw[sizeLine_eq];decide))]
theorem QJ (ns:List D)(E:Fs)(h:Nat)(a:Int)(m:Nat)(h5:ns.length<=5)(hh:h<ns.length):xy [mI ns E,.int h,.int a,.int m]=Ga (mI ns (gM E h (Ga (a,m)))):=by
 have hw:=Vi ns E h h5;have hl:(gQ ns.length (gM E h Gb)).length+1<=5:=by
  rw[yB];have:iB ns.length (gM E h Gb)+1<=iB ns.length (gM E h (Ga (a,m))):=zE6 hh (λi hi=>by
   by_cases e:i=h
   .subst e;rw[nK];rfl
   .rw[lJ e] at hi ⊢;exact hi) (by rw[nK];rfl) nK
  have:=Gx ns.length (gM E h (Ga (a,m)));omega
 have ad:iX (.tuple ((gQ ns.length (gM E h Gb)).map fd)) (.tuple [.tuple [.int (h:Int),.int a,.int (m:Int)]])=Ga (.tuple ((gQ ns.length (gM E h Gb)++[(⟨h,a,m⟩:Fl)]).map fd)):=by
  rw[Kq (by rw[jb,kf];omega),jZ];rfl
 have st:mU ((gQ ns.length (gM E h Gb)++[(⟨h,a,m⟩:Fl)]).map fd)=Ga ((gQ ns.length (gM E h (Ga (a,m)))).map fd):=by
  rw[Vg,zvA h5 hh]
  .rw[jr,kf];exact hl
  .rw[jZ,uj];refine⟨EJ _ _,kh.mpr ⟨uM,kY⟩,λx hx y hy=>?_⟩;rw[jk.mp hy];intro z;obtain⟨f,hf,e⟩:=jv.mp hx;have:=(pP.mp hf).2;rw[show f.h=h from e.trans z,nK] at this;cases this
  .intro f hf;rcases jM.mp hf with z|z
   .have:=(pP.mp z).1;omega
   .rw[jk.mp z];show h<5;omega
 rw[ZI];unfold IK;simp_arith[hw,QE,SJ,ad,st];rfl
theorem Wy:∀ (m:Fin 32) (b:Fin 5),vK (m.val:Int) (2^b.val)=((rG m.val b.val:Nat):Int):=by nofun
theorem zx6 (R R2:D)(h to a m T B:Int)(hf:Ag [R,.int h]=Ga (.tuple [.int h,.int a,.int m]))(hb:xo [.int to]=Ga (.int B))(hx:vK m B=T)(hw:xy [R,.int h,.int a,.int T]=Ga R2):zf [R,.int h,.int to]=Ga R2:=by
 rw[zh0];unfold MJ;simp_arith[hf,hb,hx,hw]
theorem XH (ns:List D)(E:Fs)(h to:Nat)(a:Int)(m:Nat)(h5:ns.length<=5)(hh:h<ns.length)(ht:to<5)(hm:m<32)(e:E h=Ga (a,m)):zf [mI ns E,.int h,.int to]=Ga (mI ns (rS E h to)):=by
 have hf:Ag [mI ns E,.int h]=Ga (.tuple [.int (h:Int),.int a,.int (m:Int)]):=by
  rw[Lf];unfold wX;rw[CF hh,e];rfl
 have hb:xo [.int (to:Int)]=Ga (.int (2^to)):=by rw[Lm _ (by omega) (by omega)];rfl
 have et:rS E h to=gM E h (Ga (a,rG m to)):=by unfold rS;rw[e]
 rw[et];exact zx6 _ _ _ _ _ _ _ _ hf hb (Wy ⟨m,hm⟩ ⟨to,ht⟩) (QJ ns E h a (rG m to) h5 hh)
theorem UM (ns:List D)(E:Fs)(h at_:Nat)(h5:ns.length<=5):∃ U:List D,sw [mI ns E,.int (at_:Int)]=Ga U/\U.length<=5/\lc eH fZ [.val (.int (h:Int))] U=Ga ((lv ns.length E h at_).map λ(i:Nat)=>.int (i:Int)):=by
 refine⟨_,BU ns _ _ h5,?_,?_⟩
 .rw[jb];exact jF (ku _ _) (by rw[jG];exact h5)
 .rw[zv (λ(i:Nat)=>jc (i:Int)) (λi=>!(i==h)) (λ(i:Nat)=>jc (i:Int)) (λi _=>by simp_arith[Qs]) (λi _ _=>rfl)];refine congrArg Ga (congrArg _ ?_);unfold lv;rw[List.filter_filter];refine uo λi hi=>?_;rw[zFb (jl.mp hi),Bool.and_comm]
theorem zAJ (l:List Nat)(hl:∀ i∈l,i<5):wk [.list (l.map λ(i:Nat)=>.int (i:Int))]=Ga (.int (iG l:Nat)):=by
 have e:=Kn (l.map λ(i:Nat)=>(i:Int)) (λh hh=>by
  obtain⟨i,hi,rfl⟩:=jv.mp hh;have:=hl i hi;omega)
 rw[jU] at e;have c:∀ k:Nat,(l.map λ(i:Nat)=>(i:Int)).contains (k:Int)=l.contains k:=λk=>by
  rw[jS,jN,jN];constructor
  .intro z;obtain⟨i,hi,e⟩:=jv.mp z;have:i=k:=by omega
   rw[<- this];exact hi
  .exact λz=>qe z
 rw[show(l.map λ(i:Nat)=>(i:Int)).contains 0=l.contains 0 from c 0,show(l.map λ(i:Nat)=>(i:Int)).contains 1=l.contains 1 from c 1,show(l.map λ(i:Nat)=>(i:Int)).contains 2=l.contains 2 from c 2,show(l.map λ(i:Nat)=>(i:Int)).contains 3=l.contains 3 from c 3,show(l.map λ(i:Nat)=>(i:Int)).contains 4=l.contains 4 from c 4] at e;refine Eq.trans e (congrArg (λx=>Ga (jc x)) ?_);unfold iG;have key:∀ b0 b1 b2 b3 b4:Bool,mB b0 b1 b2 b3 b4=((mN b0 b1 b2 b3 b4:Nat):Int):=by decide
 exact key _ _ _ _ _
theorem EN (xs:List D):tj (.list xs) (Ga 1) Gb=Ga (.list xs.tail):=by
 show Ga (uQ (rE xs (Ga 1) Gb))=_;refine congrArg (λl=>Ga (uQ l)) ?_;unfold rE;rw[HT.sIx_none,show(Ga (1:Int))=Ga ((1:Nat):Int) from rfl,HT.sIx_nat];cases xs with
 | nil=>rfl
 | cons x r =>
  rw[jB,qZ (by omega),List.drop_one,Jn];exact qU (by omega)
theorem Io {p:List D}{l:D}(h:p.getLast?=Ga l):L2.atI p (-1)=Ga l:=by
 obtain⟨q,rfl⟩:∃ q,p=q++[l]:=List.getLast?_eq_some_iff.mp h;exact L2.atI_last q l
theorem Tk (H:List D->Option (List D))(r1 r2 h a k:D)(p q:List D)(h1:H [r1,h,a,k]=Ga p)(h2:H [r2,h,a,k]=Ga q)(hl:p.length+q.length<=1000000):gO (GQ H [.val r1,.val r2,.val h,.val a,.val k])=Ga (.list (p++q.reverse)):=by
 have ad:iX (.list p) (.list q.reverse)=Ga (.list (p++q.reverse)):=by
  show(if p.length+q.reverse.length<=sizeLine then _ else _)=_;rw[Ge (jF (by rw[kG];exact hl) (by rw[sizeLine_eq];decide))]
 unfold GQ;simp_arith[h1,h2,ad]
theorem zvD (H:List D->Option (List D))(C:List D->Option D)(R h:D)(a k:Int)(ha:k<a):rH (Cz H C [.val R,.val h,.val (.int a),.val (.int k),.no,.no,.no,.no,.no])=Ga [R]:=by
 unfold Cz;simp_arith[Gc ha]
theorem zx9 (H:List D->Option (List D))(C:List D->Option D)(R:D)(h a k mk:Int)(ha:¬k<a)(U:List D)(O:List Nat)(hU:sw [R,.int a]=Ga U)(hUl:U.length<=1000000)(hO:lc eH fZ [.val (.int h)] U=Ga (O.map λ(i:Nat)=>.int (i:Int)))
  (P0:List D) (h0:H [R,.int h,.int (a+1),.int k]=Ga P0) (hl0:P0.length<1000000) (hm:wk [.list (O.map λ(i:Nat)=>.int (i:Int))]=Ga (.int mk)) (R1:D) (hw:xy [R,.int h,.int a,.int mk]=Ga R1)
  (W:List Nat->List D) (hW:W []=P0++[R1]) (hS:∀ (pre:List Nat) (o:Nat) (suf:List Nat),O=pre++o::suf->∃ l f q,(W pre).getLast?=Ga l/\zf [l,.int h,.int (o:Int)]=Ga f/\C [l,f,.int (o:Int),.int (a+1),.int k]=Ga (.list q)/\W (pre++[o])=W pre++q.tail/\(W pre).length+q.tail.length<=1000000) :
  rH (Cz H C [.val R,.val (.int h),.val (.int a),.val (.int k),.no,.no,.no,.no,.no])=Ga (W O):=by
 unfold Cz;simp_arith[Gd ha,hU,pr,Ge hUl,hO,h0,hm,hw,Ge hl0];refine(congrArg rH (Ex (R:=Ga (.ro (W O))) (λ(i:Nat)=>jc (i:Int)) (λpre ψ=>∃ x4 x7 x8,ψ=[.val R,.val (.int h),.val (.int a),.val (.int k),x4,.val (.list (O.map λ(i:Nat)=>.int (i:Int))),.own (W pre),x7,x8]) O ⟨_,_,_,by rw[hW]⟩ ?_ ?_)).trans rfl
 .rintro pre o suf e _ ⟨x4,x7,x8,rfl⟩;obtain⟨l,f,q,q1,q2,q3,q4,q5⟩:=hS pre o suf e;rw[q4];have q1:=Io q1;have q6:sR (W pre) q.tail=Ga (W pre++q.tail):=by unfold sR;rw[Ge q5]
  generalize W pre=p at q1 q6;simp_arith[q1,q2,q3,EN,q6];exact oy ⟨_,_,_,rfl⟩
 .rintro _ ⟨x4,x7,x8,rfl⟩;simp_arith[]
theorem La:∀ d,d<=3->mZ d<=456
 | 0,_=>by decide
 | 1,_=>by decide
 | 2,_=>by decide
 | 3,_=>by decide
theorem Me (ns:List D)(h2:2<=ns.length)(h5:ns.length<=5)(k:Nat):∀ (d N:Nat) (E:Fs) (h:Nat),d<N->d<=k->h<ns.length->E h=Gb->Ok ns.length E (k+1-d)->iB ns.length E+d+2<=ns.length ->
  oO N [mI ns E,.int (h:Int),.int ((k+1-d:Nat):Int),.int (k:Int)]=Ga ((lj ns.length k d E h).map (mI ns))
 | _,0,_,_,hN,_,_,_,_,_=>by omega
 | 0,N+1,E,h,_,_,_,_,_,_=>by
  rw[RP];exact zvD _ _ _ _ _ _ (by omega)
 | d+1,N+1,E,h,hN,hk,hh,e0,ho,hc=>by
  have ea:k+1-(d+1)=k-d:=by omega
  rw[ea] at ho ⊢;have IH:=Me ns h2 h5 k d N;have eb:((k-d:Nat):Int)+1=((k+1-d:Nat):Int):=by omega
  have hl:=La d (by omega);have PR:=zAG (ns:=λi=>ns.getD i .none) h2 h5 hk hh e0 ho hc;obtain⟨U,u1,u2,u3⟩:=UM ns E h (k-d) h5;have othM:∀ i,i∈lv ns.length E h (k-d)->i<ns.length/\i≠h/\E i=Gb:=λi hi=>by
   obtain⟨x1,x2⟩:=jL.mp hi;rw[jx,kQ,beq_eq_false_iff_ne] at x2;exact⟨jl.mp x1,x2.2,HX ho x2.1⟩
  have okG:∀ m,m<2^ns.length->bt m h=false->Ok ns.length (gM E h (Ga (((k-d:Nat):Int),m))) (k+1-d):=λm h1 h2=>(ho.upd hh (by omega) (ux _) h1 h2).mono (by omega);have cntG:∀ m,iB ns.length (gM E h (Ga (((k-d:Nat):Int),m)))<=iB ns.length E+1:=λm=>DC _;have HO:=λF o a b c e=>(yR (ns:=λi=>ns.getD i .none) (k:=k) h2 h5 d F o (by omega) a b c e).2;rw[RP];have l4:(lv ns.length E h (k-d)).length<=5:=by unfold lv;exact jF (ku _ _) (by rw[jG];exact h5)
  refine zx9 (oO N) (pR N) (mI ns E) h ((k-d:Nat):Int) k _ (by omega) U (lv ns.length E h (k-d)) u1 (by omega) u3 _ (by rw[eb];exact IH E h (by omega) (by omega) hh e0 (ho.mono (by omega)) (by omega)) ?_ (zAJ _ λi hi=>by have:=(othM i hi).1;omega) _ (QJ ns E h _ _ h5 hh)
   (λpre=>(pre.foldl (oq (lj ns.length k d) E h) (lj ns.length k d E h++[gM E h (Ga (((k-d:Nat):Int),iG (lv ns.length E h (k-d))))])).map (mI ns)) (by rw[vq,jZ];rfl) ?_
  .rw[jb];have:=HO E h hh e0 (ho.mono (by omega)) (by omega);omega
  .intro pre o suf e;obtain⟨P,pl⟩:=PR pre (o::suf) e;generalize eP:pre.foldl (oq (lj ns.length k d) E h) (lj ns.length k d E h++[gM E h (Ga (((k-d:Nat):Int),iG (lv ns.length E h (k-d))))])=p at P pl;have hl':∀ i∈o::suf,i<ns.length/\i≠h/\E i=Gb:=λi hi=>othM i (by rw[e];exact jK _ hi);obtain⟨o1,o2,o3⟩:=hl' o jf;have nd:(o::suf).Nodup:=by
    have ndO:(lv ns.length E h (k-d)).Nodup:=u6 (k5) uO;rw[e] at ndO;exact(uj.mp ndO).2.1
   have bb:∀ l:List Nat,(∀ i∈l,i≠h)->bt (iG l) h=false:=λl hl=>by
    rw[xG _ h (by omega),<- kB,jN];exact λz=>hl h z rfl
   have m1:iG (o::suf)<2^ns.length:=AI h2 h5 _ λi hi=>(hl' i hi).1;have m2:iG suf<2^ns.length:=AI h2 h5 _ λi hi=>(hl' i (jj _ hi)).1;have b1:=bb (o::suf) λi hi=>(hl' i hi).2.1;have b2:=bb suf λi hi=>(hl' i (jj _ hi)).2.1;have et:rS (gM E h (Ga (((k-d:Nat):Int),iG (o::suf)))) h o=gM E h (Ga (((k-d:Nat):Int),iG suf)):=by
    unfold rS;rw[nK];show gM _ h (Ga (_,rG (iG (o::suf)) o))=_;rw[OD,RQ (by omega) (kh.mp nd).1]
   have c1:=cntG (iG (o::suf));have c2:=cntG (iG suf);have n1:gM E h (Ga (((k-d:Nat):Int),iG (o::suf))) o=Gb:=by rw[lJ o2];exact o3
   have n2:gM E h (Ga (((k-d:Nat):Int),iG suf)) o=Gb:=by rw[lJ o2];exact o3
   have l1:=HO _ o o1 n1 (okG _ m1 b1) (by omega);have l2:=HO _ o o1 n2 (okG _ m2 b2) (by omega);have i1:=IH _ o (by omega) (by omega) o1 n1 (okG _ m1 b1) (by omega);have i2:=IH _ o (by omega) (by omega) o1 n2 (okG _ m2 b2) (by omega);have pw:2^ns.length<=32:=vp (by omega) h5 (n:=2);refine⟨mI ns (gM E h (Ga (((k-d:Nat):Int),iG (o::suf)))),mI ns (gM E h (Ga (((k-d:Nat):Int),iG suf))),
    (lj ns.length k d (gM E h (Ga (((k-d:Nat):Int),iG (o::suf)))) o).map (mI ns)++((lj ns.length k d (gM E h (Ga (((k-d:Nat):Int),iG suf))) o).map (mI ns)).reverse,?_,?_,?_,?_,?_⟩
   .rw[vh,P.lst];rfl
   .rw[<- et];exact XH ns _ h o _ _ h5 hh (by omega) (by omega) nK
   .rw[Qz,eb];exact Tk _ _ _ _ _ _ _ _ i1 i2 (by rw[jb,jb];omega)
   .rw[vg,u9,vq,eP];unfold oq;rw[Fg P.lst,et,jZ,List.map_tail,jZ,JZ]
   .rw[jb,uc,jr,kG,jb,jb];have pl5:pre.length<=5:=by rw[e,jr] at l4;omega
    have:pre.length*(2*mZ d-1)<=5*(2*mZ d-1):=Jp _ pl5;omega
theorem Ev (i:Int){j:Int}(h1:-(2^64)<j)(h2:j<2^64):nE (.int i) (.int j)=Ga (.int (i*j)):=Ot (by unfold wq;rw[Gc h1,Gc h2];exact JQ _)
def pk (g:Fl->D)(X:List Fl):List (Int×D):=X.map λf=>((f.h:Int),g f)
theorem PP (g:Fl->D)(h:Nat):∀ X:List Fl,nr (pk g X) (h:Int)=(mE X h).map g
 | []=>rfl
 | f::X=>by
  have ih:=PP g h X;unfold nr pk mE at ih ⊢;rw[jI];by_cases c:f.h=h
  .rw[kD (p:=λ(p:Int×D)=>decide (p.1=(h:Int))) (Gc (by show((f.h:Nat):Int)=_;rw[c])),kD (p:=λ(f:Fl)=>f.h==h) (by rw[beq_iff_eq];exact c)];rfl
  .rw[kA (p:=λ(p:Int×D)=>decide (p.1=(h:Int))) (by rw[decide_eq_true_eq];intro z;exact c (by have z:((f.h:Nat):Int)=(h:Int):=z;omega)),kA (p:=λ(f:Fl)=>f.h==h) (by rw[beq_iff_eq];exact c)];exact ih
def ym (X:List Fl)(f:Fl):List Fl:=if (X.any λx=>x.h==f.h)=true then X.map (λx=>if x.h=f.h then f else x) else X++[f]
theorem VV (g:Fl->D)(X:List Fl)(f:Fl):mL (pk g X) (f.h:Int) (g f)=pk g (ym X f):=by
 unfold mL ym;have e:((pk g X).any λkv=>decide (kv.1=(f.h:Int)))=X.any λx=>x.h==f.h:=by
  unfold pk;rw[List.any_map]
  congr 1
  funext x
  show decide ((x.h:Int)=(f.h:Int))=_;rw[Qn]
 rw[e];split
 .unfold pk;rw[jU,jU];refine jW λx hx=>?_;show(if (x.h:Int)=(f.h:Int) then((x.h:Int),g f) else((x.h:Int),g x))=(((if x.h=f.h then f else x).h:Int),g (if x.h=f.h then f else x));by_cases c:x.h=f.h
  .rw[Ge c,Ge (by rw[c]),c]
  .rw[Gf c,Gf (by omega)]
 .unfold pk;rw[jZ];rfl
theorem ZY (a k m1:Int)(h0:-(2^64)<k)(h1:k<2^64)(e1:(a*48271+k*k*7919)%2147483647=m1)(h2:-(2^64)<m1)(h3:m1<2^64):xV [.int a,.int k]=Ga (.int (m1*m1%2147483629)):=by
 rw[zoY];unfold GT;simp_arith[Ev a (show -(2^64)<(48271:Int) by decide) (by decide),Ev k h0 h1,Ev (k*k) (show -(2^64)<(7919:Int) by decide) (by decide),yX (show(0:Int)<2147483647 by decide),yX (show(0:Int)<2147483629 by decide),e1,Ev m1 h2 h3]
theorem zAN (a:Int)(k:Nat)(hk:k<=1000):∃ M:Nat,M<2147483629/\xV [.int a,.int k]=Ga (.int (M:Int)):=by
 have e:=ZY a k _ (by omega) (by omega) rfl (by omega) (by omega);generalize (a*48271+(k:Int)*k*7919)%2147483647=y at e;generalize y*y=z at e;refine⟨(z%2147483629).toNat,by omega,?_⟩;rw[e];refine congrArg (λx=>Ga (jc x)) ?_;omega
theorem AH {n:Nat}(h:n<1000000):iL (.int (n:Int))=Ga ((je n).map λ(k:Nat)=>.int (k:Int)):=by
 rw[wl h];unfold lN;simp
theorem Sb:∀ h:Fin 5,L2.atI [jc 1,.int 2,.int 4,.int 8,.int 16] (h.val:Int)=Ga (.int (2^h.val)):=by
 intro h
 match h with
 | ⟨0,_⟩=>rfl
 | ⟨1,_⟩=>rfl
 | ⟨2,_⟩=>rfl
 | ⟨3,_⟩=>rfl
 | ⟨4,_⟩=>rfl
theorem Qt:∀ h:Fin 5,(0:Int)<2^h.val/\(2:Int)^h.val<1073741824:=by decide
theorem DV:∃ T:Int,(10:Int)^59=T/\0<2*T/\(10:Int)^60=10*T/\10<=T:=⟨10^59,rfl,by decide,by decide,by decide⟩
theorem YC:∀ n:Nat,2<=n->n<=5->L2.atI [jc 3,.int 7,.int 15,.int 31] ((n:Int)-2)=Ga (.int ((2^n-1:Nat):Int))
 | 2,_,_=>rfl
 | 3,_,_=>rfl
 | 4,_,_=>rfl
 | 5,_,_=>rfl
def gE (f:Fl):D:=.tuple [.int f.a,.int (f.m:Int)]
def wj (E:Fs)(h:Nat):Int×Nat:=(E h).getD (9,0)
theorem LX {n:Nat}{E:Fs}{h:Nat}(hh:h<n):(nr (pk gE (gQ n E)) (h:Int)).getD (.tuple [.int 9,.int 0])=.tuple [.int (wj E h).1,.int ((wj E h).2:Int)]:=by
 rw[PP,CF hh];unfold wj;cases E h with
 | none=>rfl
 | some p=>rfl
theorem zFh {E:Fs}{h r:Nat}(hr:r<9):decide ((wj E h).1<=(r:Int))=!lZ E h (r:Int):=by
 unfold wj lZ;cases E h with
 | none=>show decide ((9:Int)<=(r:Int))=false;exact Gd (by omega)
 | some p =>
  show decide (p.1<=(r:Int))=!decide ((r:Int)<p.1);by_cases c:p.1<=(r:Int)
  .rw[Gc c,Gd (by omega)];rfl
  .rw[Gd c,Gc (by omega)];rfl
theorem XI {E:Fs}{b t r:Nat}(hr:r<9):(decide ((r:Int)<(wj E b).1)||(decide ((wj E b).1=(r:Int))&&decide (((wj E b).2:Int)/2^t%2=1)))=me E b t (r:Int):=by
 unfold wj me;cases E b with
 | none=>show(decide ((r:Int)<9)||_)=true;rw[Gc (by omega)];rfl
 | some p=>rfl
theorem zyB (row T v:D)(h at_ b e m P:Int)(parts:List D)(x5 x6 x7:Sl)(hP:L2.atI [jc 1,.int 2,.int 4,.int 8,.int 16] h=Ga (.int P))(hm:∀ x:Int,nX (.int x) (.int P)=Ga (.int (x/P)))(hm2:∀ x:Int,lP (.int x) (.int 2)=Ga (.int (x%2)))(hv:gC row (.int b)=Ga v)(kv:List (Int×D))(hT:pz T=Ga kv)(hg:(nr kv b).getD (.tuple [.int 9,.int 0])=.tuple [.int e,.int m])(hl:parts.length<1000000)(c:Bool)(hc:(decide (b=h)||(decide (at_<e)||(decide (e=at_)&&decide (m/P%2=1))))=c) :
  lX (λψ=>∃ x5 x6 x7,ψ=[.val row,.val T,.val (.int h),.val (.int at_),.own (parts++[if c=true then v else .none]),x5,x6,x7])
   ((lG 5 (.int b) [.val row,.val T,.val (.int h),.val (.int at_),.own parts,x5,x6,x7]).bind (gy ao (gP ac (oh 4 (gw gC fZ gf)) (oh 4 fQ)))):=by
 subst hc;by_cases c1:b=h
 .rw[Gc c1,ud,Ge rfl];simp_arith[hT,hg,Gc c1,hv,Ge hl];exact oy ⟨_,_,_,rfl⟩
 .rw[Gd c1,vd];by_cases c2:at_<e
  .rw[Gc c2,ud,Ge rfl];simp_arith[hT,hg,Gd c1,Gc c2,hv,Ge hl];exact oy ⟨_,_,_,rfl⟩
  .rw[Gd c2,vd];by_cases c3:e=at_
   .rw[Gc c3,kC];by_cases c4:m/P%2=1
    .rw[Gc c4,Ge rfl];simp_arith[hT,hg,Gd c1,Gd c2,Gc c3,hP,hm,hm2,Gc c4,hv,Ge hl];exact oy ⟨_,_,_,rfl⟩
    .rw[Gd c4,Gf jq];simp_arith[hT,hg,Gd c1,Gd c2,Gc c3,hP,hm,hm2,Gd c4,hv,Ge hl];exact oy ⟨_,_,_,rfl⟩
   .rw[Gd c3,vk,Gf jq];simp_arith[hT,hg,Gd c1,Gd c2,Gd c3,hv,Ge hl];exact oy ⟨_,_,_,rfl⟩
theorem VQ (rs:List D)(T:D)(h at_ e0 m0:Int)(kv:List (Int×D))(hT:pz T=Ga kv)(hg0:(nr kv h).getD (.tuple [.int 9,.int 0])=.tuple [.int e0,.int m0])(hu:e0<=at_):yZ [.list rs,T,.int h,.int at_]=Ga .none:=by
 rw[QZ];unfold FI;simp_arith[hT,hg0,Gc hu]
theorem zAO (rs:List D)(T:D)(h at_ P:Int)(N:Nat)(e m:Nat->Int)(v:Nat->D)(c:Nat->Bool)(e0 m0 n:Int)(hrl:(rs.length:Int)=n)(hN:N<=5)(hr:iL (.int n)=Ga ((je N).map λ(k:Nat)=>.int (k:Int)))(hP:L2.atI [jc 1,.int 2,.int 4,.int 8,.int 16] h=Ga (.int P))(hm:∀ x:Int,nX (.int x) (.int P)=Ga (.int (x/P)))(hm2:∀ x:Int,lP (.int x) (.int 2)=Ga (.int (x%2)))
  (kv:List (Int×D)) (hT:pz T=Ga kv) (hg0:(nr kv h).getD (.tuple [.int 9,.int 0])=.tuple [.int e0,.int m0]) (hv:∀ b,b<N->gC (.list rs) (.int (b:Int))=Ga (v b)) (hg:∀ b:Nat,b<N->(nr kv (b:Int)).getD (.tuple [.int 9,.int 0])=.tuple [.int (e b),.int (m b)]) (hc:∀ b,b<N->(decide ((b:Int)=h)||(decide (at_<e b)||(decide (e b=at_)&&decide (m b/P%2=1))))=c b) (hu:¬e0<=at_)
  (W:Nat->List D) (hW:W 0=[]) (hW1:∀ b,b<N->W b++[if c b=true then v b else .none]=W (b+1)) (hWl:∀ b,b<N->(W b).length<1000000) :
  yZ [.list rs,T,.int h,.int at_]=Ga (.tuple [.int h,.tuple (W N)]):=by
 rw[QZ];unfold FI;simp_arith[hT,hg0,Gd hu,hrl,hr];refine(congrArg gO (AB (R:=Ga (.rt (.tuple [.int h,.tuple (W N)]))) N (λk ψ=>∃ x5 x6 x7,ψ=[.val (.list rs),.val T,.val (.int h),.val (.int at_),.own (W k),x5,x6,x7]) ⟨_,_,_,by rw[hW]⟩ ?_ ?_)).trans rfl
 .rintro k hk _ ⟨x5,x6,x7,rfl⟩;refine HB (zyB _ T (v k) h at_ k (e k) (m k) P _ x5 x6 x7 hP hm hm2 (hv k hk) kv hT (hg k hk) (hWl k hk) (c k) (hc k hk)) ?_;rintro _ ⟨y5,y6,y7,rfl⟩;exact⟨y5,y6,y7,by rw[hW1 k hk]⟩
 .rintro _ ⟨x5,x6,x7,rfl⟩;simp_arith[]
def tm (ns:List D):Nat->D:=λi=>ns.getD i .none
def rD (ns:List D)(E:Fs)(r:Nat):List D:=(je ns.length).map (mG ns.length (tm ns) E r)
theorem zDi {ns:List D}{E:Fs}{r b:Nat}(h:b<ns.length):L2.atI (rD ns E r) (b:Int)=Ga (mG ns.length (tm ns) E r b):=by
 refine L2.atI_nat ?_;unfold rD;rw[jA,kZ h];rfl
theorem zDj (ns:List D)(E:Fs)(r h:Nat)(h5:ns.length<=5)(hh:h<ns.length)(hr:r+1<9):yZ [.list (rD ns E r),re (pk gE (gQ ns.length E)),.int (h:Int),.int ((r:Int)+1)]=Ga (mG ns.length (tm ns) E (r+1) h):=by
 have rl:(rD ns E r).length=ns.length:=by unfold rD;rw[jb,jG]
 have ec:((r:Int)+1)=((r+1:Nat):Int):=by omega
 have hp:=Qt ⟨h,by omega⟩;have T:=Fx (pk gE (gQ ns.length E));show _=Ga (if lZ E h ((r:Int)+1)=true then jX [.int (h:Int),.tuple ((je ns.length).map λb=>if (b==h||me E b h ((r:Int)+1))=true then mG ns.length (tm ns) E r b else uf)] else uf);have hu:=zFh (E:=E) (h:=h) (r:=r+1) (by omega);rw[<- ec] at hu;cases u:lZ E h ((r:Int)+1) with
 | false =>
  rw[u] at hu;rw[Gf jq];exact VQ _ _ _ _ _ _ _ T (LX hh) (of_decide_eq_true hu)
 | true =>
  rw[u] at hu;rw[Ge rfl];exact zAO (rD ns E r) _ h ((r:Int)+1) _ ns.length (λb=>(wj E b).1) (λb=>((wj E b).2:Int)) (mG ns.length (tm ns) E r) (λb=>b==h||me E b h ((r:Int)+1)) _ _ _ (by rw[rl]) h5 (AH (by omega)) (Sb ⟨h,by omega⟩) (λx=>BM hp.1 hp.2) (λx=>yX (by decide)) _ T (LX hh) (λb hb=>zDi hb) (λb hb=>LX hb)
   (λb hb=>by rw[Qn,ec];exact congrArg _ (XI (by omega))) (of_decide_eq_false hu) (λk=>(je k).map λb=>if (b==h||me E b h ((r:Int)+1))=true then mG ns.length (tm ns) E r b else uf) rfl (λb hb=>by rw[kz,jZ];rfl) (λb hb=>by rw[jb,jG];omega)
theorem Vb {X:List Fl}{f:Fl}(h:f.h∉X.map Fl.h):ym X f=X++[f]:=by
 unfold ym;rw[Gf];intro z;obtain⟨x,hx,e⟩:=uN.mp z;rw[beq_iff_eq] at e;exact h (jv.mpr ⟨x,hx,e⟩)
theorem zAQ (Rn Rd:D)(X:List Fl)(f:Fl)(x3 x4 x5 x6:Sl)(hf:f.h∉X.map Fl.h)(hl:X.length<1000000) :
  lX (λψ=>∃ x3 x4 x5,ψ=[.val Rn,.val Rd,.dki Gb (pk gE (X++[f])),x3,x4,x5,x6])
   ((xZ bW (fd f) [.val Rn,.val Rd,.dki Gb (pk gE X),x3,x4,x5,x6]).bind bJ):=by
 have pd:mL (pk gE X) (f.h:Int) (.tuple [.int f.a,.int (f.m:Int)])=pk gE (X++[f]):=by rw[<- Vb hf];exact VV gE X f
 have kl:(pk gE X).length<1000000:=by unfold pk;rw[jb];exact hl
 unfold fd;simp_arith[Ge kl,pd];exact oy ⟨_,_,_,rfl⟩
theorem Zd (C:List D->Option D)(Rn N0:D)(R at_ n:Int)(h0:gC Rn (.int 0)=Ga N0)(hn:iy N0=Ga (.int n))(l:List D)(T:List (Int×D))(W w:List D)(y x3 x4 x5:Sl)(hy:y=.dki Gb T\/y=.val (re T))(hr:iL (.int n)=Ga l)(hll:l.length<=1000000)(h1:lc (λ_=>Ga true) (gY C aI) [.val (.int at_),.val (re T),.own W] l=Ga w)(h2:W.length<1000000) :
  lX (λψ=>∃ y x3 x4 x5,(y=.dki Gb T\/y=.val (re T))/\ψ=[.val Rn,.val (.int R),y,x3,x4,x5,.own (W++[.list w])]) ((lG 4 (.int at_) [.val Rn,.val (.int R),y,x3,x4,x5,.own W]).bind (Fi 2 (oh 6 (oD (ip bH (λ_=>Ga true) (gY C aI) [4,2,6]))))):=by
 rcases hy with rfl|rfl
 .simp_arith[h0,hn,hr,pr,Ge hll,h1,Ge h2];exact oy ⟨_,_,_,_,.inr rfl,rfl⟩
 .simp_arith[h0,hn,hr,pr,Ge hll,h1,Ge h2];exact oy ⟨_,_,_,_,.inr rfl,rfl⟩
theorem zAR (ns fs:List D)(R n:Int)(hn:(ns.length:Int)=n)(m:Nat)(l:List D)(T:List (Int×D))(row:Nat->List D)(W:Nat->List D)(hW0:W 0=[.list (row 0)])(hW:∀ r,r<m->W (r+1)=W r++[.list (row (r+1))])(hWl:∀ r,r<m->(W r).length<1000000)(hr:iL (.int n)=Ga l)(hll:l.length<=1000000)(hr2:pY (.int 1) (.int (R+1))=Ga ((je m).map λ(k:Nat)=>.int ((k:Int)+1)))
  (hd:∀ ψ k r,(∃ x3 x4 x5,ψ=[.val (.tuple [.tuple ns,.tuple fs]),.val (.int R),.dki Gb [],x3,x4,x5,.no])->(∀ e,(∃ x3 x4 x5,e=[.val (.tuple [.tuple ns,.tuple fs]),.val (.int R),.dki Gb T,x3,x4,x5,.no])->k e=r)->mf (iP bD bJ fs ψ) k=r)
  (hf:lc (λ_=>Ga true) aO [.val (.tuple [.tuple ns,.tuple fs])] l=Ga (row 0))
  (hs:∀ r,r<m->lc (λ_=>Ga true) aD [.val (.int ((r:Int)+1)),.val (re T),.own (W r)] l=Ga (row (r+1))) :
  zb [.tuple [.tuple ns,.tuple fs],.int R]=Ga (.list (W m)):=by
 rw[zoZ];unfold He;simp_arith[];refine(congrArg gO (hd _ _ (Ga (.ro (W m))) ⟨_,_,_,rfl⟩ ?_)).trans rfl;rintro _ ⟨x3,x4,x5,rfl⟩;simp_arith[hn,hr,pr,Ge hll,hf,hr2];refine AB (R:=Ga (.ro (W m))) m (λk ψ=>∃ y x3 x4 x5,(y=.dki Gb T\/y=.val (re T))/\ψ=[.val (.tuple [.tuple ns,.tuple fs]),.val (.int R),y,x3,x4,x5,.own (W k)]) ⟨_,_,_,_,.inl rfl,by rw[hW0]⟩ ?_ ?_
 .rintro k hk _ ⟨y,x3,x4,x5,hy,rfl⟩;rw[hW k hk];exact Zd yZ (.tuple [.tuple ns,.tuple fs]) (.tuple ns) R _ n rfl (by show Ga (jc (ns.length:Int))=_;rw[hn]) l T _ _ y x3 x4 x5 hy hr hll (hs k hk) (hWl k hk)
 .rintro _ ⟨y,x3,x4,x5,hy,rfl⟩;rcases hy with rfl|rfl
  .simp_arith[]
  .simp_arith[]
theorem zAS (ns fs:List D)(i:Int)(v:D)(h:L2.atI ns i=Ga v):aO [.val (.int i),.val (.tuple [.tuple ns,.tuple fs])]=Ga (.tuple [.int i,v]):=by
 simp_arith[h]
theorem zDk (W:List D)(T d v:D)(h at_:Int)(hl:L2.atI W (-1)=Ga d)(hv:yZ [d,T,.int h,.int at_]=Ga v):aD [.val (.int h),.val (.int at_),.val T,.own W]=Ga v:=by
 simp_arith[hl,hv]
theorem zAT {m:Nat}(h:m<1000):pY (.int 1) (.int ((m:Int)+1))=Ga ((je m).map λ(k:Nat)=>.int ((k:Int)+1)):=by
 unfold pY;dsimp only;rw[Ge ⟨by decide,by decide,by omega,by omega⟩];unfold lN;rw[show((m:Int)+1-1).toNat=m by omega];refine congrArg Ga (jW λk _=>?_);rw[Int.add_comm]
theorem zAU (ns:List D)(E:Fs)(m:Nat)(h5:ns.length<=5)(hm:m<9):zb [mI ns E,.int (m:Int)]=Ga (.list ((je (m+1)).map λr=>.list (rD ns E r))):=by
 refine zAR ns ((gQ ns.length E).map fd) m _ rfl m _ (pk gE (gQ ns.length E)) (rD ns E) (λk=>(je (k+1)).map λr=>.list (rD ns E r)) rfl (λr _=>by rw[kz,jZ];rfl) (λr hr=>by rw[jb,jG];omega) (AH (by omega)) (by rw[jb,jG];omega) (zAT (by omega)) ?_ ?_ ?_
 .intro ψ k r h0 hk;refine Ex fd (λpre ψ=>∃ x3 x4 x5,ψ=[.val (.tuple [.tuple ns,.tuple ((gQ ns.length E).map fd)]),.val (.int (m:Int)),.dki Gb (pk gE pre),x3,x4,x5,.no]) (gQ ns.length E) h0 ?_ hk;rintro pre f suf e _ ⟨x3,x4,x5,rfl⟩;refine zAQ _ _ pre f x3 x4 x5 _ ?_ ?_
  .have nd:=EJ ns.length E;rw[e,jZ,jI] at nd;exact λz=>(uj.mp nd).2.2 _ z _ jf rfl
  .have l:=yB ns.length E;rw[e,jr] at l;have:=Gx ns.length E;omega
 .refine Ao _ _ λi hi=>?_;have:=jl.mp hi;refine zAS ns _ _ _ (L2.atI_nat ?_);unfold tm;rw[ji this,jg,ji this];rfl
 .intro r hr;refine Ao _ _ λi hi=>?_;have:=jl.mp hi;exact zDk _ _ _ _ _ _ (by show L2.atI (JO _ (je (r+1))) _=_;rw[kz,jZ];exact L2.atI_last _ _) (zDj ns E r i h5 this (by omega))
theorem FC (i:Int):zB [.int i]=Ga (.bool true):=by
 rw[Zp];unfold MN;simp_arith[]
theorem ZQ (pw:D->D->Option D)(R:D)(n mo x T:Int)(x3 x4 x5 x6 x7 x8:Sl)(hq:pw (.int 10) (.int 60)=Ga (.int T))(h:¬T<=(if x<0 then -x else x)) :
  lX (λψ=>∃ x3,ψ=[.val R,.val (.int n),.val (.int mo),x3,x4,x5,x6,x7,x8]) ((lG 3 (.int x) [.val R,.val (.int n),.val (.int mo),x3,x4,x5,x6,x7,x8]).bind (gP (iA cL (gZ zW (nZ Bp ge) (gw pw fv fw))) eh gW)):=by
 have ha:Bp (.int x)=Ga (.int (if x<0 then -x else x)):=rfl;generalize (if x<0 then -x else x)=y at *;have hw:=FC x;simp_arith[hw,ha,hq,Gd h];exact oy ⟨_,rfl⟩
theorem YX (R:D)(n mo L h a m w P:Int)(x3 x5 x6 x7 x8:Sl)(h1:¬h<=L)(h2:¬n<=h)(h3:¬a<1)(h4:¬5<a)(h5:¬m<0)(h6:¬w<m)(hw:L2.atI [jc 3,.int 7,.int 15,.int 31] (n-2)=Ga (.int w))(hP:L2.atI [jc 1,.int 2,.int 4,.int 8,.int 16] h=Ga (.int P))(hd:nX (.int m) (.int P)=Ga (.int (m/P)))(hm:lP (.int (m/P)) (.int 2)=Ga (.int (m/P%2)))(h7:¬m/P%2=1)(f:D)(hf:f=.tuple [.int h,.int a,.int m]) :
  lX (λψ=>∃ x3 x5 x6 x7 x8,ψ=[.val R,.val (.int n),.val (.int mo),x3,.val (.int h),x5,x6,x7,x8]) ((lG 5 f [.val R,.val (.int n),.val (.int mo),x3,.val (.int L),x5,x6,x7,x8]).bind (gy ar (gy aW (gy aj (gy aa (gy ae fK)))))):=by
 subst hf;have l3:iy (.tuple [.int h,.int a,.int m])=Ga (.int 3):=rfl;have n3:lL (.int 3) (.int 3)=Ga (.bool false):=rfl;have w1:=FC h;have w2:=FC a;have w3:=FC m;have l4:((([jc h,.int a,.int m]:List D).length:Nat):Int)=3:=rfl;have d3:decide (¬(3:Int)=3)=false:=rfl;simp_arith[l4,not_true_eq_false,w1,w2,w3,Gd h1,Gd h2,Gd h3,Gd h4,Gd h5,hw,Gd h6,hP,hd,hm,Gd h7];exact oy ⟨_,_,_,_,_,rfl⟩
theorem Vm (is:List Int)(X:List Fl)(n mo w T:Int)(hn:iy (.tuple (is.map jc))=Ga (.int n))(lf:Int)(hl:iy (.tuple (X.map fd))=Ga (.int lf))(hlf:¬mo<lf)(hq:sf (.int 10) (.int 60)=Ga (.int T))(hi:∀ x∈is,¬T<=(if x<0 then -x else x))(N F:List D)(eN:is.map jc=N)(eF:X.map fd=F)
  (pw:Ju (λf g:Fl=>f.h<g.h) X) (hf:∀ f∈X,∀ L:Int,L<(f.h:Int)->∀ x3 x5 x6 x7 x8,∀ R,lX (λψ=>∃ x3 x5 x6 x7 x8,ψ=[.val R,.val (.int n),.val (.int mo),x3,.val (.int (f.h:Int)),x5,x6,x7,x8]) ((lG 5 (fd f) [.val R,.val (.int n),.val (.int mo),x3,.val (.int L),x5,x6,x7,x8]).bind (gy ar (gy aW (gy aj (gy aa (gy ae fK))))))) :
  rg [.tuple [.tuple N,.tuple F],.int n,.int mo]=Ga (.bool true):=by
 have l2:((([jX N,.tuple F]:List D).length:Nat):Int)=2:=rfl;have hn2:((N.length:Nat):Int)=n:=by rw[eN] at hn;injection hn with hn;injection hn
 have hl2:((F.length:Nat):Int)=lf:=by rw[eF] at hl;injection hl with hl;injection hl
 have d1:¬¬n=n:=λz=>z rfl;rw[VZ];unfold Ij;simp_arith[l2,not_true_eq_false,hn2,hl2,Gd hlf];rw[<- eN];refine(congrArg gO (Ex (R:=Ga (.rt (.bool true))) jc (λpre ψ=>∃ x3,ψ=[.val (.tuple [.tuple (is.map jc),.tuple F]),.val (.int n),.val (.int mo),x3,.no,.no,.no,.no,.no]) is ⟨_,rfl⟩ ?_ ?_)).trans rfl
 .rintro pre x suf e _ ⟨x3,rfl⟩;exact ZQ sf _ n mo x T x3 _ _ _ _ _ hq (hi x (by rw[e];exact jK _ jf))
 .rintro _ ⟨x3,rfl⟩;simp_arith[];rw[<- eF];refine Ex (R:=Ga (.rt (.bool true))) fd (λpre ψ=>∃ (L:Int) (x3 x5 x6 x7 x8:Sl),(∀ suf,X=pre++suf->∀ f∈suf,L<(f.h:Int))/\ψ=[.val (.tuple [.tuple (is.map jc),.tuple (X.map fd)]),.val (.int n),.val (.int mo),x3,.val (.int L),x5,x6,x7,x8]) X ⟨_,_,_,_,_,_,λ_ _ f _=>by omega,rfl⟩ ?_ ?_
  .rintro pre f suf e _ ⟨L,x3,x5,x6,x7,x8,hL,rfl⟩;refine HB (hf f (by rw[e];exact jK _ jf) L (hL (f::suf) e f jf) x3 x5 x6 x7 x8 _) ?_;rintro _ ⟨y3,y5,y6,y7,y8,rfl⟩;refine⟨_,y3,y5,y6,y7,y8,λsuf' e' g hg=>?_,rfl⟩;have es:suf'=suf:=by
    rw[e,kP] at e';have:=List.append_cancel_left e';exact(J6 this).2.symm
   subst es;rw[e] at pw;have:=(JD.mp (v5.mp pw).2.1).1 g hg;omega
  .rintro _ ⟨L,x3,x5,x6,x7,x8,hL,rfl⟩;simp_arith[]
theorem EK:sf (.int 10) (.int 60)=Ga (.int ((10:Int)^60)):=by
 show(if (decide ((0:Int)<=60)&&decide ((60:Int)<=1000000)&&decide ((10:Int).natAbs<2^64))=true then Ga (jc ((10:Int)^(60:Int).toNat)) else Gb)=_;rw[Ge (by decide)];rfl
theorem YO (n:Nat)(E:Fs):Ju (λf g:Fl=>f.h<g.h) (gQ n E):=by
 have h:=GF n E;have p:Ju (·<·) ((gQ n E).map Fl.h):=by rw[h];exact List.Pairwise.sublist k5 qV
 exact List.pairwise_map.mp p
theorem Yp (is:List Int)(E:Fs)(mo:Nat)(h2:2<=is.length)(h5:is.length<=5)(hi:∀ x∈is,¬(10:Int)^60<=(if x<0 then -x else x))(ho:Ok is.length E 5)(hc:iB is.length E<=mo):rg [mI (is.map jc) E,.int (is.length:Int),.int (mo:Int)]=Ga (.bool true):=by
 have e1:(is.map jc).length=is.length:=jb _;unfold mI rd;rw[e1];have pw:2^is.length<=32:=vp (by omega) h5 (n:=2);have pw0:1<=2^is.length:=Nat.one_le_two_pow;refine Vm is (gQ is.length E) (is.length:Int) (mo:Int) ((2^is.length-1:Nat):Int) _ (by show Ga (jc (((is.map jc).length:Nat):Int))=_;rw[e1]) ((iB is.length E:Nat):Int) (by show Ga (jc ((((gQ is.length E).map fd).length:Nat):Int))=_;rw[jb,yB]) (by omega) EK hi _ _ rfl rfl (YO _ _) ?_;intro f hf L hL x3 x5 x6 x7 x8 R;obtain⟨f1,f2⟩:=pP.mp hf;have r:=ho.rnd _ _ _ f2;have m:=ho.msk _ _ _ f2;have hp:=Qt ⟨f.h,by omega⟩;have mb:¬(f.m:Int)/2^f.h%2=1:=of_decide_eq_false m.2;exact YX R _ _ L f.h f.a f.m _ _ x3 x5 x6 x7 x8 (by omega) (by omega) (by omega) (by omega) (by omega) (by omega) (YC _ h2 h5) (Sb ⟨f.h,by omega⟩) (BM hp.1 hp.2) (yX (by decide)) mb _ rfl
theorem Sr {n:Nat}{ns ns':Nat->D}{E:Fs}(h:∀ i,i<n->ns i=ns' i):∀ r i,i<n->mG n ns E r i=mG n ns' E r i
 | 0,i,hi=>by unfold mG;rw[h i hi]
 | r+1,i,hi=>by
  unfold mG;have:(je n).map (λb=>if (b==i||me E b i ((r:Int)+1))=true then mG n ns E r b else .none)=(je n).map (λb=>if (b==i||me E b i ((r:Int)+1))=true then mG n ns' E r b else .none):=jW λb hb=>by rw[Sr h r b (jl.mp hb)]
  rw[this]
def ij (n:Nat)(v:Nat->Int):List D:=(je n).map λi=>.int (v i)
theorem lR (n:Nat)(v:Nat->Int):(ij n v).length=n:=by unfold ij;rw[jb,jG]
theorem AU {n:Nat}{v:Nat->Int}{i:Nat}(h:i<n):(ij n v)[i]?=Ga (.int (v i)):=by unfold ij;rw[jA,kZ h];rfl
theorem Kw (n:Nat)(v:Nat->Int):ij n v=((je n).map v).map jc:=by unfold ij;rw[jU];rfl
def iV (n:Nat)(r:Rn):D:=mI (ij n r.1) r.2
theorem zFk {n:Nat}{v:Nat->Int}(i:Nat)(h:i<n):tm (ij n v) i=.int (v i):=by unfold tm;rw[jg,AU h];rfl
theorem Ym (R N F a b c N' x:D)(h:Int)(h0:gC R (.int 0)=Ga N)(h1:gC R (.int 1)=Ga F)(ha:tj N Gb (Ga h)=Ga a)(hb:iX a (.tuple [x])=Ga b)(hc:tj N (Ga (h+1)) Gb=Ga c)(hd:iX b c=Ga N'):tH [R,.int h,x]=Ga (.tuple [N',F]):=by
 rw[WS];unfold Nl;simp_arith[h0,h1,ha,hb,hc,hd]
theorem zFl (xs:List D)(h:Nat)(hh:h<xs.length):tj (.tuple xs) Gb (Ga (h:Int))=Ga (.tuple (xs.take h)):=by
 show(if HT.sIx xs.length 0 Gb=0/\HT.sIx xs.length xs.length (Ga (h:Int))=xs.length then Gb else Ga (jX (rE xs Gb (Ga (h:Int)))))=_;rw[HT.sIx_nat,Gf (by omega)];unfold rE;rw[HT.sIx_none,HT.sIx_nat,List.drop_zero,JP,qZ (by omega)]
theorem zFm (xs:List D)(h:Nat)(hh:h<xs.length):tj (.tuple xs) (Ga ((h:Int)+1)) Gb=Ga (.tuple (xs.drop (h+1))):=by
 rw[show(h:Int)+1=((h+1:Nat):Int) by omega];show(if HT.sIx xs.length 0 (Ga ((h+1:Nat):Int))=0/\HT.sIx xs.length xs.length Gb=xs.length then Gb else Ga (jX (rE xs (Ga ((h+1:Nat):Int)) Gb)))=_;rw[HT.sIx_nat,Gf (by omega)];unfold rE;rw[HT.sIx_none,HT.sIx_nat,qZ (by omega),qU (by rw[vU];exact jh _)]
theorem zyE (n:Nat)(v:Nat->Int)(E:Fs)(h:Nat)(x:Int)(h5:n<=5)(hh:h<n):tH [iV n (v,E),.int (h:Int),.int x]=Ga (iV n (oJ v h x,E)):=by
 have ln:=lR n v;have es:(ij n v).take h++[jc x]++(ij n v).drop (h+1)=ij n (oJ v h x):=by
  rw[kP,Jf];have:=List.set_eq_take_append_cons_drop (l:=ij n v) (i:=h) (a:=jc x);rw[Ge (by omega)] at this;rw[<- this];refine List.ext_getElem? λi=>?_;by_cases c:i<n
  .rw[AU c,List.getElem?_set];unfold oJ;by_cases d:h=i
   .rw[Ge d,Ge (by omega),Ge d.symm]
   .rw[Gf d,Gf (λz=>d z.symm),AU c]
  .rw[kr (by rw[List.length_set,ln];omega),kr (by rw[lR];omega)]
 have e:=Ym (iV n (v,E)) (.tuple (ij n v)) (.tuple ((gQ n E).map fd)) _ _ _ (.tuple (ij n (oJ v h x))) (.int x) (h:Int) rfl (by unfold iV mI;rw[lR];rfl) (zFl _ h (by omega)) (Kq (by rw[vt,kf];omega)) (zFm _ h (by omega)) (by rw[Kq (by rw[jr,vt,kf,vU];omega),es]);rw[e];unfold iV mI rd;rw[lR]
theorem zAW (R Nw l N0 a b:D)(h k:Int)(p p':List D)(x4 x5 x6:Sl)(h1:L2.atI p (-1)=Ga l)(h2:gC l (.int 0)=Ga N0)(h3:gC N0 (.int h)=Ga a)(h4:gC Nw (.int h)=Ga b)(hc:(lL a b=Ga (.bool false)/\p'=p)\/(lL a b=Ga (.bool true)/\∃ o q,tH [l,.int h,b]=Ga o/\pR 12 [l,o,.int h,.int 1,.int k]=Ga (.list q)/\sR p q.tail=Ga p')) :
  lX (λψ=>∃ x4 x5 x6,ψ=[.val R,.val Nw,.val (.int k),.own p',x4,x5,x6]) ((lG 4 (.int h) [.val R,.val Nw,.val (.int k),.own p,x4,x5,x6]).bind (gy ci (gP aL (gy (iW 6 (gY tH bo)) (tX 3 (oM (gY (pR 12) aP) eS oU))) gW))):=by
 generalize tH=A1 at *;generalize pR 12=A2 at *;rcases hc with ⟨c,rfl⟩|⟨c,o,q,c1,c2,c3⟩
 .simp_arith[h1,h2,h3,h4,c];exact oy ⟨_,_,_,rfl⟩
 .simp_arith[h1,h2,h3,h4,c,c1,c2,EN,c3];exact oy ⟨_,_,_,rfl⟩
theorem WC (R Nw:D)(k n:Int)(N:Nat)(W:Nat->List D)(hm:pe [R]=Ga (.int n))(hr:iL (.int n)=Ga ((je N).map λ(k:Nat)=>.int (k:Int)))(h0:W 0=[R])(st:∀ h:Nat,h<N->∀ x4 x5 x6,lX (λψ=>∃ x4 x5 x6,ψ=[.val R,.val Nw,.val (.int k),.own (W (h+1)),x4,x5,x6]) ((lG 4 (.int (h:Int)) [.val R,.val Nw,.val (.int k),.own (W h),x4,x5,x6]).bind (gy ci (gP aL (gy (iW 6 (gY tH bo)) (tX 3 (oM (gY (pR 12) aP) eS oU))) gW)))):zq [R,Nw,.int k]=Ga (.list (W N)):=by
 have fin:∀ o,o=mf (iP (lG 4) (gy ci (gP aL (gy (iW 6 (gY tH bo)) (tX 3 (oM (gY (pR 12) aP) eS oU))) gW)) ((je N).map λ(k:Nat)=>.int (k:Int)) [.val R,.val Nw,.val (.int k),.own [R],.no,.no,.no]) fP->gO o=Ga (.list (W N)):=by
  rintro _ rfl;refine(congrArg gO (AB (R:=Ga (.ro (W N))) N (λh ψ=>∃ x4 x5 x6,ψ=[.val R,.val Nw,.val (.int k),.own (W h),x4,x5,x6]) ⟨_,_,_,by rw[h0]⟩ ?_ ?_)).trans rfl
  .rintro h hh _ ⟨x4,x5,x6,rfl⟩;exact st h hh x4 x5 x6
  .rintro _ ⟨x4,x5,x6,rfl⟩;simp_arith[]
 rw[znR];refine fin _ ?_;clear fin st;unfold HG;generalize tH=A1 at *;generalize pR 12=A2 at *;generalize pe=A3 at *;simp_arith[hm,hr]
theorem VD (n k d N:Nat)(v v':Nat->Int)(E E':Fs)(h:Nat)(h2:2<=n)(h5:n<=5)(hN:d<N)(hd:d<=k)(hh:h<n)(e1:E h=Gb)(e2:E' h=Gb)(o1:Ok n E (k+1-d))(o2:Ok n E' (k+1-d))(c1:iB n E+d+2<=n)(c2:iB n E'+d+2<=n) :
  pR N [iV n (v,E),iV n (v',E'),.int (h:Int),.int ((k+1-d:Nat):Int),.int (k:Int)]=Ga (.list ((xS n k d v v' E E' h).map (iV n))):=by
 have i1:=Me (ij n v) (by rw[lR];exact h2) (by rw[lR];exact h5) k d N E h hN hd (by rw[lR];exact hh) e1 (by rw[lR];exact o1) (by rw[lR];exact c1);have i2:=Me (ij n v') (by rw[lR];exact h2) (by rw[lR];exact h5) k d N E' h hN hd (by rw[lR];exact hh) e2 (by rw[lR];exact o2) (by rw[lR];exact c2);have l1:=(yR (ns:=λ_=>.none) (k:=k) h2 h5 d E h hd hh e1 o1 c1).2;have l2:=(yR (ns:=λ_=>.none) (k:=k) h2 h5 d E' h hd hh e2 o2 c2).2;have hl:=La d (by omega);rw[lR] at i1 i2;rw[Qz];have e:=Tk _ (iV n (v,E)) (iV n (v',E')) _ _ _ _ _ i1 i2 (by rw[jb,jb];omega);rw[e];unfold xS;rw[jZ,JZ,jU,jU];rfl
theorem zqN (n k:Nat)(h2:2<=n)(h5:n<=5)(hk:k+2<=n)(v new:Nat->Int):zq [iV n (v,hJ),.tuple (ij n new),.int (k:Int)]=Ga (.list (((je n).foldl (pG n k new) [(v,hJ)]).map (iV n))):=by
 refine WC _ _ _ (n:Int) n (λm=>((je m).foldl (pG n k new) [(v,hJ)]).map (iV n)) ?_ (AH (by omega)) rfl ?_
 .have:=Cs (ij n v) (gQ n hJ);unfold iV mI;rw[lR] at this ⊢;exact this
 .intro h hh x4 x5 x6;obtain⟨w,hw,H,hl⟩:=Nu h2 h5 hk v new h (by omega);have hkl:=La k (by omega);rw[kz,vg,u9,vq];generalize (je h).foldl (pG n k new) [(v,hJ)]=p at H hl;have el:p.getLastD (new,hJ)=(w,hJ):=Fg H.lst;have e0:w h=v h:=by rw[hw h,Gf (j0 h)]
  refine zAW _ _ (iV n (w,hJ)) (.tuple (ij n w)) (.int (w h)) (.int (new h)) (h:Int) (k:Int) _ _ x4 x5 x6 (Io (by rw[vh,H.lst];rfl)) rfl (L2.atI_nat (AU hh)) (L2.atI_nat (AU hh)) ?_;unfold pG;rw[el];dsimp only;by_cases c:w h=new h
  .refine .inl ⟨?_,by rw[Ge c]⟩;rw[c,El,Gd (λz=>z rfl)]
  .refine .inr ⟨by rw[El,Gc c],?_⟩;have C:=VD n k k 12 w (oJ w h (new h)) hJ hJ h h2 h5 (by omega) (jh _) hh rfl rfl (yV _ _) (yV _ _) (by rw[xp];omega) (by rw[xp];omega);rw[show((k+1-k:Nat):Int)=1 by omega] at C;have SL:(xS n k k w (oJ w h (new h)) hJ hJ h).length<=2*mZ k:=by
    unfold xS;rw[jr,kG,jb,jb];have:=(yR (ns:=λ_=>.none) (k:=k) h2 h5 k hJ h (jh _) hh rfl (yV _ _) (by rw[xp];omega)).2;omega
   refine⟨_,_,zyE n w hJ h (new h) h5 hh,C,?_⟩;rw[Gf c,jZ,List.map_tail];unfold sR;rw[Ge];rw[jb,uc,jb];have:h*(2*mZ k)<=5*(2*456):=Jq (by omega) (by omega);omega
theorem WD (n:Nat)(E:Fs)(p:Fl->Bool):(gQ n E).filter p=gQ n (λi=>(E i).bind λw=>if p ⟨i,w.1,w.2⟩=true then Ga w else Gb):=by
 unfold gQ;rw[List.filter_filterMap];refine Md λi _=>?_;dsimp only;cases E i with
 | none=>rfl
 | some w =>
  show Option.filter p (Ga _)=_;rw[jn];by_cases c:p ⟨i,w.1,w.2⟩=true
  .rw[Ge c,JE,Ge c];rfl
  .rw[Gf c,JE,Gf c];rfl
theorem zDn (R N F:D)(fs fs':List D)(k:Int)(h0:gC R (.int 0)=Ga N)(h1:gC R (.int 1)=Ga F)(hs:toS F=Ga fs)(hl:fs.length<=1000000)(hc:lc bU fZ [.val (.int k)] fs=Ga fs'):yP [R,.int k]=Ga (.tuple [N,.tuple fs']):=by
 rw[WT];unfold IZ;simp_arith[h0,h1,hs,pr,Ge hl,hc]
theorem Xa (R F:D)(a:Int)(U fs out:List D)(hU:sw [R,.int a]=Ga U)(h1:gC R (.int 1)=Ga F)(hs:toS F=Ga fs)(hl:fs.length<=1000000)(hc:lc (AK bV (lO (gY yU dJ))) fZ [.val (.int a),.val (.list U)] fs=Ga out):yG [R,.int a]=Ga (.list out):=by
 rw[zmM];unfold IA;generalize yU=A1 at *;simp_arith[hU,h1,hs,pr,Ge hl,hc]
theorem Yq (pw:D->D->Option D)(x T:Int)(hw:yS [.int x]=Ga (.bool true))(hq:pw (.int 10) (.int 60)=Ga (.int T))(h1:-T<x)(h2:x<T):gO ((lY (Ch (gY yS eW) (GM rj rj (nZ tW (gw pw fv fw)) fZ (gw pw fv fw)))) [.val (.int x)])=Ga (.bool true):=by
 generalize yS=A1 at *;simp_arith[hw,hq,Gc h1,Gc h2]
theorem zFp (x:Int)(h:¬(10:Int)^60<=(if x<0 then -x else x)):Az [.int x]=Ga (.bool true):=by
 have hw:yS [.int x]=Ga (.bool true):=by
  rw[zp9];unfold Nq;simp_arith[]
 obtain⟨T,hT,_,hT2,_⟩:=DV;rw[hT2] at h;rw[zoS];unfold LD;exact Yq sf x (10*T) hw (by rw[EK,hT2]) (by split at h<;>omega) (by split at h<;>omega)
theorem zDo (xs bs:List D)(n:Int)(hn:iy (.tuple xs)=Ga (.int n))(h1:2<=n)(h2:n<=5)(hl:xs.length<=1000000)(hc:lc (λ_=>Ga true) (gY Az eW) [] xs=Ga bs)(hb:rZ bs=Ga (.bool true)):AV [.tuple xs]=Ga (.bool true):=by
 rw[zmK];unfold Hy;generalize Az=A1 at *;simp_arith[hn,Gc h1,Gc h2,Ri,pr,Ge hl,hc,hb]
theorem YY (R Nw:D)(n:Int)(h1:AV [Nw]=Ga (.bool true))(h2:iy Nw=Ga (.int n))(h3:pe [R]=Ga (.int n)):zx [R,Nw]=Ga (.bool true):=by
 rw[zjG];unfold MT;generalize AV=A1 at *;generalize pe=A2 at *;simp_arith[h1,h2,h3]
theorem zAY (l:List Int):rZ (l.map λ_=>j8 true)=Ga (.bool true):=by
 unfold rZ;have:(l.map λ_=>j8 true)=(l.map λ_=>true).map j8:=by rw[jU];rfl
 rw[this,DW,jn,JR];refine congrArg (λb=>Ga (j8 b)) ?_;exact jJ.mpr λ_ _=>rfl
theorem zDp (n:Nat)(v w:Nat->Int)(E:Fs)(h2:2<=n)(h5:n<=5)(hv:∀ i,i<n->¬(10:Int)^60<=(if v i<0 then -(v i) else v i)):zx [iV n (w,E),.tuple (ij n v)]=Ga (.bool true):=by
 have ln:iy (.tuple (ij n v))=Ga (.int (n:Int)):=by show Ga (jc (((ij n v).length:Nat):Int))=_;rw[lR]
 refine YY _ _ (n:Int) ?_ ln ?_
 .refine zDo (ij n v) (((je n).map v).map λ_=>j8 true) (n:Int) ln (by omega) (by omega) (by rw[lR];omega) ?_ (zAY _);rw[Kw];refine Ao jc _ λx hx=>?_;obtain⟨i,hi,rfl⟩:=jv.mp hx;have:=zFp (v i) (hv i (jl.mp hi));simp_arith[this]
 .have:=Cs (ij n w) (gQ n E);unfold iV mI;rw[lR] at this ⊢;exact this
theorem zAZ (R Nw l:D)(b k:Int)(P Q P2:List D)(h1:sZ [R,.int b,.int k]=Ga (.bool true))(h2:zx [R,Nw]=Ga (.bool true))(h3:AJ [R,.int b,.int k]=Ga (.list P))(h4:L2.atI P (-1)=Ga l)(h5:zq [l,Nw,.int k]=Ga (.list Q))(h6:iX (.list P) (.list Q.tail)=Ga (.list P2)):zc [R,.int b,.int k,Nw]=Ga (.list P2):=by
 rw[zqA];unfold GK;generalize sZ=A1 at *;generalize zx=A2 at *;generalize AJ=A3 at *;generalize zq=A4 at *;simp_arith[h1,h2,h3,h4,h5,EN,h6]
theorem rM.mono {n k t t':Nat}{a b:Rn}{P:List Rn}(H:rM n k t a b P)(h:t<=t'):rM n k t' a b P:=⟨H.hd,H.lst,H.ok,λr hr=>jF (H.cnt r hr) h,H.chn,H.num⟩
theorem tM {n:Nat}{E:Fs}{a:Nat}(h2:2<=n)(h5:n<=5)(ha:a<=5)(o:Ok n E a):lH n (gQ n E):=by
 have p32:=zAH h5;exact⟨h2,h5,λf hf=>(pP.mp hf).1,λf hf=>jz (o.msk _ _ _ (pP.mp hf).2).1 p32,EJ n E,λf hf=>(o.rnd _ _ _ (pP.mp hf).2).1,λf hf=>by have:=(o.rnd _ _ _ (pP.mp hf).2).2;omega⟩
theorem QA (is:List Int)(E:Fs):(mI (is.map jc) E).canLay0=true/\(mI (is.map jc) E).depth<=3:=by
 have a:∀ x∈is.map jc,x.canLay0=true/\x.depth<=1:=λx hx=>by obtain⟨i,_,rfl⟩:=jv.mp hx;exact⟨rfl,jO _⟩
 have b:∀ x∈(gQ (is.map jc).length E).map fd,x.canLay0=true/\x.depth<=1:=λx hx=>by obtain⟨i,_,rfl⟩:=jv.mp hx;exact⟨rfl,jh _⟩
 have a1:=Cb λx hx=>(a x hx).1;have a2:=BW λx hx=>(a x hx).2;have b1:=Cb λx hx=>(b x hx).1;have b2:=BW λx hx=>(b x hx).2;unfold mI rd;generalize (gQ (is.map jc).length E).map fd=u at *;generalize is.map jc=w at *;have c:∀ x∈[jX w,jX u],x.canLay0=true/\x.depth<=2:=λx hx=>by
  rcases ju.mp hx with rfl|hx
  .exact⟨a1,by show kx w+1<=2;omega⟩
  .rw[jk.mp hx];exact⟨b1,by show kx u+1<=2;omega⟩
 refine⟨Cb λx hx=>(c x hx).1,?_⟩;show kx [jX w,jX u]+1<=3;have:=BW λx hx=>(c x hx).2;omega
theorem zDq (is:List Int)(E:Fs):lL (mI (is.map jc) E) (mI (is.map jc) E)=Ga (.bool false):=RY (QA is E).1 (by have:=(QA is E).2;omega)
theorem TB (n:Nat)(v:Nat->Int)(E:Fs):lL (iV n (v,E)) (iV n (v,E))=Ga (.bool false):=by
 unfold iV;rw[Kw];exact zDq _ _
theorem zDr (ns:List Int)(lo hi:Option Int):∃ (cut:List D) (s:Int),tj (.list (ns.map jc)) lo hi=Ga (.list cut)/\wZ cut=Ga (.int s):=by
 refine⟨_,((ns.drop (HT.sIx ns.length 0 lo)).take (HT.sIx ns.length ns.length hi-HT.sIx ns.length 0 lo)).sum,rfl,?_⟩;unfold rE;rw[jb,<- List.map_drop,<- List.map_take];unfold wZ;rw[oj];rfl
theorem Uw (L:Nat)(hL:L<=63):∃ K,tS (.int 0) (.int (L:Int)) (.int 9)=Ga ((je K).map λ(k:Nat)=>.int ((9*k:Nat):Int))/\∀ k,k<K->9*k<L:=by
 have f:∀ j:Fin 64,(qc 0 (j.val:Int) 9&&decide ((0:Int)<9)&&decide ((9:Int)<1000000))=true/\∀ k:Fin 64,k.val<(jP 0 (j.val:Int) 9).toNat->9*k.val<j.val:=by nofun
 have g:∀ j:Fin 64,(jP 0 (j.val:Int) 9).toNat<=63:=by nofun
 refine⟨(jP 0 (L:Int) 9).toNat,?_,λk hk=>?_⟩
 .have:=(f ⟨L,by omega⟩).1;unfold tS;dsimp only;rw[Ge this];refine congrArg Ga (jW λk _=>?_);refine congrArg jc ?_;rw[Int.natCast_mul,Int.mul_comm,qg];rfl
 .have h1:=g ⟨L,by omega⟩;exact(f ⟨L,by omega⟩).2 ⟨k,by have h2:k<(jP 0 (L:Int) 9).toNat:=hk;exact jz h2 (jF h1 (by decide))⟩ hk
theorem Oe (T:Int)(hT:(10:Int)^59=T):sf (.int 10) (.int 59)=Ga (.int T):=by
 subst hT;show(if (decide ((0:Int)<=59)&&decide ((59:Int)<=1000000)&&decide ((10:Int).natAbs<2^64))=true then Ga (jc ((10:Int)^(59:Int).toNat)) else Gb)=_;rw[Ge (by decide)];rfl
theorem Sm (S:D)(k len a:Int)(hl:iy S=Ga (.int len))(h:(k<len/\gC S (.int k)=Ga (.int a))\/(¬k<len/\a=0)):oZ [S,.int k]=Ga (.int a):=by
 rw[YS];unfold GX;rcases h with ⟨c,d⟩|⟨c,rfl⟩
 .simp_arith[hl,Gc c,d]
 .simp_arith[hl,Gd c]
theorem Wx (ns:List Int)(k:Nat):∃ a,oZ [.list (ns.map jc),.int (k:Int)]=Ga (.int a):=by
 by_cases c:k<ns.length
 .exact⟨ns[k],Sm _ _ (ns.length:Int) _ (by show Ga (jc (((ns.map jc).length:Nat):Int))=_;rw[jb]) (.inl ⟨by omega,L2.atI_nat (by rw[jA,ji c];rfl)⟩)⟩
 .exact⟨0,Sm _ _ (ns.length:Int) _ (by show Ga (jc (((ns.map jc).length:Nat):Int))=_;rw[jb]) (.inr ⟨by omega,rfl⟩)⟩
theorem Ff (n:Nat):gQ n hJ=[]:=List.eq_nil_iff_forall_not_mem.mpr λf hf=>by have:=(pP.mp hf).2;cases this
theorem zGf (R:D)(a k:D)(hf:yG [R,a]=Ga (.list [])):zR [R,a,k]=Ga [R]:=by
 have hs:toS (.list [])=Ga []:=rfl;have hc:lc (λ_=>Ga true) di [] []=Ga []:=rfl;have dl:iy (.list [])=Ga (.int 0):=rfl;rw[zlL];unfold Mo;generalize yG=A1 at *;simp_arith[hf,hs,pr,hc,dl];rfl
theorem YZ (R F:D)(a k:D)(hh:zR [R,a,k]=Ga [R])(h1:gC R (.int 1)=Ga F)(hs:toS F=Ga []):yO [R,a,k]=Ga (.list [R]):=by
 have h0:L2.atI [R] (-1)=Ga R:=rfl;have hc:lc bV di [.val a] []=Ga []:=rfl;rw[YL];unfold NK;generalize zR=A1 at *;simp_arith[hh,h0,h1,hs,pr,hc];rfl
theorem TD (R b:D)(k j:Int)(x5:Sl)(hr:∀ a,yO [R,.int a,.int k]=Ga (.list [R])):lX (λψ=>∃ x5,ψ=[.val R,.val b,.val (.int k),.own [R],.val R,x5]) ((lG 5 (.int j) [.val R,.val b,.val (.int k),.own [R],.val R,x5]).bind (tX 3 (oM (gY yO aE) eS oU))):=by
 have h0:L2.atI [R] (-1)=Ga R:=rfl;have h3:sR [R] [R].tail=Ga [R]:=rfl;generalize yO=A1 at *;simp_arith[h0,hr,EN,h3];exact oy ⟨_,rfl⟩
theorem Ue (Bd:FS)(R b:D)(k:Int)(Ks:List D)(X:D)(hl:yP [R,.int k]=Ga R)(ne:lL R R=Ga (.bool false))(hr:iL (.int k)=Ga Ks)(q:gO (mf (iP fT Bd Ks [.val R,.val b,.val (.int k),.own [R],.val R,.no]) fP)=Ga X):gO ((gy eB (gy (iW 4 (gY yP dJ)) (gy (gP (gZ lL gc fZ) (oh 3 gc) gW) (gy (mn (tP iL gb) fT Bd) fP)))) [.val R,.val b,.val (.int k),.no,.no,.no])=Ga X:=by
 generalize yP=A1 at *;simp_arith[hl,ne,hr];exact q
theorem VL (n k:Nat)(b:D)(v:Nat->Int)(h2:2<=n)(h5:n<=5)(k4:k<=4):AJ [iV n (v,hJ),b,.int (k:Int)]=Ga (.list [iV n (v,hJ)]):=by
 have e:iV n (v,hJ)=rd (ij n v) []:=by unfold iV mI;rw[Ff]
 have ln:=lR n v;have ne:=TB n v hJ;rw[e] at ne ⊢;have hf:∀ a:Int,yG [rd (ij n v) [],.int a]=Ga (.list []):=λa=>Xa _ (.tuple []) a _ [] [] (BU (ij n v) [] a (by rw[ln];exact h5)) rfl rfl (jO _) rfl;have hl:yP [rd (ij n v) [],.int (k:Int)]=Ga (rd (ij n v) []):=zDn _ (.tuple (ij n v)) (.tuple []) [] [] (k:Int) rfl rfl rfl (jO _) rfl;have hr:∀ a:Int,yO [rd (ij n v) [],.int a,.int (k:Int)]=Ga (.list [rd (ij n v) []]):=λa=>YZ _ (.tuple []) _ _ (zGf _ _ _ (hf a)) rfl rfl;rw[zsO];unfold KY;refine Ue _ _ _ _ _ _ hl ne (AH (by omega)) ?_;refine(congrArg gO (AB (f:=λ(k:Nat)=>(.int (k:Int):D)) (R:=Ga (.ro [rd (ij n v) []])) k (λ_ ψ=>∃ x5,ψ=[.val (rd (ij n v) []),.val b,.val (.int (k:Int)),.own [rd (ij n v) []],.val (rd (ij n v) []),x5]) ⟨_,rfl⟩ ?_ ?_)).trans rfl
 .rintro j hj _ ⟨x5,rfl⟩;exact TD _ _ _ _ _ hr
 .rintro _ ⟨x5,rfl⟩;rfl
theorem zFr (n:Nat):AA (cnt n [])=0:=by
 have c:∀ k,cnt n [] k=0:=λk=>by
  unfold cnt DI;split<;>rfl
 unfold AA;rw[c,c,c,c,c];decide
theorem RB {n k b:Nat}(h2:2<=n)(h5:n<=5)(ht:b+2<=n)(hk:k<=b)(v:Nat->Int):sZ [iV n (v,hJ),.int (b:Int),.int (k:Int)]=Ga (.bool true):=by
 have ln:=lR n v;have e:iV n (v,hJ)=rd (ij n v) []:=by unfold iV mI;rw[Ff]
 have G:=tM h2 h5 (jh 5) (yV n 5);rw[Ff] at G;have OP:=Yn (ij n v) [] (by rw[ln];exact G) b (by rw[ln];exact ht) (jO _) (k:Int);rw[ln,zFr,Gc (by omega)] at OP;rw[e];exact OP
theorem FO (n k b:Nat)(v new:Nat->Int)(h2:2<=n)(h5:n<=5)(k1:k<=2)(ht:b+2<=n)(hk:k<=b)(hv:∀ i,i<n->¬(10:Int)^60<=(if new i<0 then -(new i) else new i)) :
  ∃ Ps:List Rn,∃ w:Nat->Int,(∀ i,i<n->w i=new i)/\zc [iV n (v,hJ),.int (b:Int),.int (k:Int),.tuple (ij n new)]=Ga (.list (Ps.map (iV n)))/\rM n k b (v,hJ) (w,hJ) Ps/\Ps.length<=6000:=by
 obtain⟨w,hw,HR,rl⟩:=Nu (n:=n) (k:=k) h2 h5 (by omega) v new n (jh _);have RE:=zqN n k h2 h5 (by omega) v new;have HE:=VL n k (.int (b:Int)) v h2 h5 (by omega);generalize (je n).foldl (pG n k new) [(v,hJ)]=Q at HR rl RE;have kc:k=0\/k=1\/k=2:=by omega
 have l2:Q.length<=600:=by
  have:n*(2*mZ k)<=5*(2*51):=Jq h5 (Jq (jh _) (by rcases kc with rfl|rfl|rfl<;>decide));omega
 obtain⟨Q',rfl⟩:∃ Q',Q=(v,hJ)::Q':=by
  have:=HR.hd;cases Q with
  | nil=>cases this
  | cons a r=>cases this;exact⟨r,rfl⟩
 refine⟨(v,hJ)::Q',w,λi hi=>by rw[hw i,Ge hi],?_,HR.mono hk,by omega⟩;refine zAZ (iV n (v,hJ)) _ (iV n (v,hJ)) (b:Int) (k:Int) _ _ _ (RB h2 h5 ht hk v) (zDp n new v hJ h2 h5 hv) HE rfl RE ?_;show(if _+_<=sizeLine then _ else _)=_;rw[jB] at l2;rw[Ge (jF (by rw[uc,jb,jB,jB,va];omega:_<=6000) (by rw[sizeLine_eq];decide))];rfl
open Classical in
noncomputable def fr (Φ:Nat->D):Nat->Nat->D
 | _,0=>.none
 | a,m+1=>if Φ a=.none then fr Φ (a+1) m else .tuple [.int (a:Int),Φ a]
theorem RH (f:FV)(e0 e1:Sl)(Φ:Nat->D)(n:Nat)(hΦ:∀ k,k<n->Φ k=.none\/∃ i:Int,Φ k=.int i)(hf:∀ k:Nat,k<n->∀ y3,f [e0,e1,.val (.int (k:Int)),y3]=Ga (Φ k)) :
  ∀ (m a:Nat) (y2 y3:Sl),a+m=n->mf (iP (lG 2) (gy (iW 3 f) aJ) ((qw a m).map λ(k:Nat)=>.int (k:Int)) [e0,e1,y2,y3]) fk=Ga (.rt (fr Φ a m))
 | 0,a,y2,y3,_=>rfl
 | m+1,a,y2,y3,e=>by
  rw[qJ,jI];have ih:=RH f e0 e1 Φ n hΦ hf m (a+1) (.val (.int (a:Int))) (.val (Φ a)) (by omega);have ha:=hf a (by omega);rcases hΦ a (by omega) with z|⟨i,z⟩
  .rw[z] at ha ih;unfold fr;rw[Ge z,<- ih]
   conv=>lhs;unfold iP
   simp_arith[ha]
  .rw[z] at ha;unfold fr;rw[Gf (by rw[z];exact λz=>by cases z),z];unfold iP;simp_arith[ha]
theorem zA1 (P:List D->Option D)(c:ib)(φ:D->Option D)(v k d X:D)(y3:Sl)(h:P [v,k]=Ga d)(h2:φ d=Ga X):(oI 0 c φ (gY P dM)) [.fn c,.val v,.val k,y3]=Ga X:=by
 simp_arith[h];exact h2
theorem zA2 (R P:List D->Option D)(c:ib)(φ:D->Option D)(v X:D)(ri:Int)(Ks:List D)(hR:R [v]=Ga (.int ri))(h0:iL (.int (ri+1))=Ga Ks)(q:mf (iP (lG 2) (gy (iW 3 (oI 0 c φ (gY P dM))) aJ) Ks [.fn c,.val v,.no,.no]) fk=Ga (.rt X)) :
  gO ((gy (mn (tP iL (gw iX (gY R eZ) fA)) (lG 2) (gy (iW 3 (oI 0 c φ (gY P dM))) aJ)) fk) [.fn c,.val v,.no,.no])=Ga X:=by
 simp_arith[hR,h0];rw[q,Ti]
theorem zGh {n:Nat}(h:n<1000):iL (.int (n:Int))=Ga ((qw 0 n).map λ(k:Nat)=>.int (k:Int)):=by
 rw[<- uF,<- rJ];exact wl (qN h (by decide))
theorem zyJ (ns:List D)(fs:List Fl)(hi:∀ d∈ns,∃ i:Int,d=.int i)(r h:Nat)(hh:h<ns.length)(hr:r<=90)(Φ:Nat->D)(hΦ:∀ k,k<r+1->Φ k=.none\/∃ i:Int,Φ k=.int i)(c:ib)(φ:D->Option D)(hφ:∀ k,k<r+1->φ (vw ns fs k h)=Ga (Φ k)) :
  AD c φ [vw ns fs r h]=Ga (fr Φ 0 (r+1)):=by
 rw[zoU];unfold Rj;exact zA2 rO Cd c φ (vw ns fs r h) _ r _ (AM ns fs hi r h hh (by omega)) (zGh (n:=r+1) (by omega)) (RH _ _ _ Φ (r+1) hΦ (λk hk y3=>zA1 _ c φ _ _ _ _ y3 (GD ns fs hi r k h hh (by omega) (by omega)) (hφ k hk)) (r+1) 0 .no .no (by omega))
theorem Yk {it:Nat}{P:Gj}{mk:(D->Option D)->ib}{fb:FV}{fm:ib->(D->Option D)->List D->Option D}{ix:List Nat}{g:FL}{ψ:En}{cs as:List D}{X:D}(h1:ψ[it]?=Ga (.tab P))(h2:wV ψ ix=Ga cs)(h3:g ψ=Ga as)(h4:∀ c,fm c (λd=>fb (.val d::cs.map .val)) as=Ga X):mi it P mk fb fm ix g ψ=Ga X:=by
 unfold mi;rw[Ge h1,h2,jn,h3,jn];exact h4 _
theorem Cr {n:Nat}{E:Fs}{h:Nat}(hn:h<n)(r:Int):up (gQ n E) h r=lZ E h r:=by
 unfold up lZ;rw[CF hn];cases E h with
 | none=>rfl
 | some p=>rfl
theorem zGi {n l:Nat}{E:Fs}(O:Ok n E l)(G:lH n (gQ n E)){b h:Nat}{r:Int}(hb:b<n)(hh:h<n)(u:lZ E h r=true):me E b h r=cm (gQ n E) b h r:=by
 rw[jS,wg G];have uh:=(oW G h r).mp ((Cr hh r).trans u);unfold me;cases e:E b with
 | none =>
  refine⟨λ_ f hf=>⟨uh f hf,λz=>?_⟩,λ_=>rfl⟩;have:=(pP.mp hf).2;rw[z,e] at this;cases this
 | some p =>
  obtain⟨a,m⟩:=p;have mem:(⟨b,a,m⟩:Fl)∈gQ n E:=pP.mpr ⟨hb,e⟩;dsimp only;rw[kj,jx,decide_eq_true_eq,decide_eq_true_eq];constructor
  .intro z f hf;refine⟨uh f hf,λw=>?_⟩;have q:=(pP.mp hf).2;rw[w,e] at q;have q:=jD q;have q1:a=f.a:=congrArg Prod.fst q;have q2:m=f.m:=congrArg Prod.snd q;rw[<- q1,<- q2];refine⟨by rcases z with z|⟨z,_⟩<;>omega,λw=>?_⟩;rcases z with z|⟨_,z⟩
   .omega
   .exact z
  .intro z;have z:=(z _ mem).2 rfl;dsimp only at z;by_cases c:r<a
   .exact .inl c
   .exact .inr ⟨by omega,z.2 (by omega)⟩
theorem IR (ns:List D){l:Nat}{E:Fs}(O:Ok ns.length E l)(G:lH ns.length (gQ ns.length E)):∀ r h:Nat,h<ns.length->mG ns.length (tm ns) E r h=pv ns (gQ ns.length E) r h
 | 0,h,hh=>by
  unfold pv;rw[Ge ((oW G h _).mpr λf hf _=>by have:=G.ab f hf;omega)];rfl
 | r+1,h,hh=>by
  have ec:((r:Int)+1)=((r+1:Nat):Int):=by omega
  unfold pv;rw[Cr hh];show(if lZ E h ((r:Int)+1)=true then jX [.int (h:Int),.tuple ((je ns.length).map λb=>if (b==h||me E b h ((r:Int)+1))=true then mG ns.length (tm ns) E r b else uf)] else uf)=_;rw[ec];cases u:lZ E h ((r+1:Nat):Int) with
  | false=>rw[Gf (by decide),Gf (by decide)]
  | true =>
   rw[Ge rfl,Ge rfl];refine congrArg (λl=>jX [.int (h:Int),.tuple l]) (jW λb hb=>?_);have hb:=jl.mp hb;have uh:=(Cr (E:=E) hh ((r+1:Nat):Int)).trans u;rw[zGi O G hb hh u,IR ns O G r b hb];by_cases c:b=h\/cm (gQ ns.length E) b h ((r+1:Nat):Int)=true
   .rw[Ge (by rw[kj,beq_iff_eq];exact c),Ge c];unfold pv;refine Ge ?_;rcases c with rfl|c
    .exact Iw (by omega) uh
    .exact QD G c
   .rw[Gf (by rw[kj,beq_iff_eq];exact c),Gf c]
theorem Ve (ns:List D){l:Nat}{E:Fs}(O:Ok ns.length E l)(G:lH ns.length (gQ ns.length E))(r:Nat):rD ns E r=vL ns (gQ ns.length E) r:=by
 unfold rD vL;exact jW λh hh=>IR ns O G r h (jl.mp hh)
def tl (t:Bool)(m:Int):D:=if t then .int m else .none
section
variable (V:D)(R bd m w:Int)(hR:rO [V]=Ga (.int R))(hm:Ci [V]=Ga (.int m))
include hm in
theorem zA4 (t:Bool):BZ [.bool t,V]=Ga (tl t m):=by
 rw[XA];unfold Ky;generalize Ci=A at hm;cases t<;>simp_arith[hm]<;>rfl
include hR in
include hR in
theorem zyM:BN [V,.int bd]=Ga (.bool (decide (bd+1<=R))):=by
 rw[zjH];unfold Mh;generalize rO=A at hR;simp_arith[hR]
include hR hm in
include hR hm in
theorem XJ (c:Bool)(hc:zX [V]=Ga (.bool c)):om [V,.int bd]=Ga (tl (decide (bd+1<=R)||c) m):=by
 have h1:=zyM V R bd hR;have h2:=zA4 V m hm;rw[Xg];unfold Ko;generalize BN=A at h1;generalize BZ=B at h2;generalize zX=E at hc;cases hd:decide (bd+1<=R)<;>simp_arith[h1,h2,hc,hd,ud,vd]
include hR hm in
end
theorem zDv (ns:List D)(fs:List Fl)(G:lH ns.length fs)(hi:∀ d∈ns,∃ i:Int,d=.int i)(r h:Nat)(hh:h<ns.length)(hr:r<50):zX [vw ns fs r h]=Ga (.bool (cn ns.length fs h r)):=by
 cases r with
 | zero =>
  have er:=AM ns fs hi 0 h hh (by omega);rw[zqB];generalize vw ns fs 0 h=V at er;unfold RA;simp_arith[er,qE];rfl
 | succ r=>exact Ye ns fs G hi r h hh (by omega)
theorem TN (Pl:List D->Option D)(v b X:D)(h:Pl [v,b]=Ga X):(gY Pl dF) [.val v,.val b]=Ga X:=by
 simp_arith[h]
structure zm (ns:List D)(fs:List Fl)(F:List D->Option D)(bd:Nat)(t:Nat->Nat->Bool)(Φ:Nat->Nat->D):Prop where
 eq:∀ h k,h<ns.length->k<=4->F [vw ns fs k h,.int bd]=Ga (Φ h k)
 no:∀ h k,h<ns.length->k<=4->t h k=false->Φ h k=.none
 yes:∀ h k,h<ns.length->k<=4->t h k=true->∃ m:Int,Φ h k=.int m/\pb ((kn fs ns.length k h).map λo=>ns.getD o .none)=Ga (.int m)
theorem zm.or {ns:List D}{fs:List Fl}{F:List D->Option D}{bd:Nat}{t:Nat->Nat->Bool}{Φ:Nat->Nat->D}(T:zm ns fs F bd t Φ){h k:Nat}(hh:h<ns.length)(hk:k<=4):Φ h k=.none\/∃ i:Int,Φ h k=.int i:=by
 cases c:t h k with
 | false=>exact .inl (T.no h k hh hk c)
 | true=>obtain⟨m,e,_⟩:=T.yes h k hh hk c;exact .inr ⟨m,e⟩
theorem zm.at {ns:List D}{fs:List Fl}{F:List D->Option D}{bd:Nat}{t:Nat->Nat->Bool}{Φ:Nat->Nat->D}(T:zm ns fs F bd t Φ){h k:Nat}(hh:h<ns.length)(hk:k<=4){i:Int}(e:Φ h k=.int i):t h k=true/\pb ((kn fs ns.length k h).map λo=>ns.getD o .none)=Ga (.int i):=by
 cases c:t h k with
 | false=>rw[T.no h k hh hk c] at e;cases e
 | true =>
  obtain⟨m,e1,e2⟩:=T.yes h k hh hk c;rw[e] at e1;rw[Jm e1];exact⟨rfl,e2⟩
def oe (X:D):Prop:=X=.none\/∃ i:Int,X=.int i
theorem Wq (ns:List D)(fs:List Fl)(r h:Nat):iY (vw ns fs r h) .none=Ga (.bool true):=by
 obtain⟨ds,z⟩:=zF8 ns fs r h;rw[z];rfl
noncomputable def nO (Φ:Nat->D):Nat->Nat->D
 | _,0=>.none
 | a,m+1=>if Φ a=.none then nO Φ (a+1) m else Φ a
def RI:D->D
 | .tuple [_,x]=>x
 | _=>.none
theorem QL (Φ:Nat->D):∀ (m a:Nat),RI (fr Φ a m)=nO Φ a m
 | 0,a=>rfl
 | m+1,a=>by
  unfold fr nO;by_cases c:Φ a=.none
  .rw[Ge c,Ge c];exact QL Φ m (a+1)
  .rw[Gf c,Gf c];rfl
theorem Si (Φ:Nat->D):∀ (m a:Nat),fr Φ a m=.none\/∃ x y,fr Φ a m=.tuple [x,y]
 | 0,a=>.inl rfl
 | m+1,a=>by
  unfold fr;by_cases c:Φ a=.none
  .rw[Ge c];exact Si Φ m (a+1)
  .rw[Gf c];exact .inr ⟨_,_,rfl⟩
theorem Rr (Φ:Nat->D):∀ (m a:Nat),(∀ k,a<=k->k<a+m->oe (Φ k))->oe (nO Φ a m)
 | 0,a,_=>.inl rfl
 | m+1,a,h=>by
  unfold nO;by_cases c:Φ a=.none
  .rw[Ge c];exact Rr Φ m (a+1) λk h1 h2=>h k (by omega) (by omega)
  .rw[Gf c];exact h a (jh _) (by omega)
theorem zFu (C:ib->(D->Option D)->List D->Option D)(c:ib)(φ:D->Option D)(v f:D)(h1:C c φ [v]=Ga f)(h2:f=.none\/∃ x y,f=.tuple [x,y]) :
  gO ((gy (iW 2 (lw 0 c (C c φ) eZ)) aK) [.fn c,.val v,.no])=Ga (RI f):=by
 rcases h2 with rfl|⟨x,y,rfl⟩
 .simp_arith[h1];rfl
 .simp_arith[h1];rfl
theorem zDx (ns:List D)(fs:List Fl)(hi:∀ d∈ns,∃ i:Int,d=.int i)(r h:Nat)(hh:h<ns.length)(hr:r<=4)(Φ:Nat->D)(c:ib)(φ:D->Option D)(hΦ:∀ k,k<=4->oe (Φ k)/\φ (vw ns fs k h)=Ga (Φ k)):Ah c φ [vw ns fs r h]=Ga (nO Φ 0 (r+1)):=by
 rw[zoV];unfold OU;rw[zFu AD c φ _ _ (zyJ ns fs hi r h hh (by omega) Φ (λk hk=>(hΦ k (by omega)).1) c φ λk hk=>(hΦ k (by omega)).2) (Si Φ _ _),QL]
theorem zFv (Nb:ib->(D->Option D)->List D->Option D)(Vo:List D->Option D)(Wo:List D->Option (List D))(c:ib)(φ:D->Option D)(Rn R W:D)(us Y:List D)(h1:Vo [Rn,R]=Ga W)(h2:Wo [Rn,R]=Ga us)(hl:us.length<=1000000)(q:lc (λ_=>Ga true) (nY (gI fZ (gI (lw 1 c (Nb c φ) dg) lD))) [.fn c,.val W] us=Ga Y) :
  gO ((gy (iW 3 (gY Vo dM)) (lY (oD (ip (mX (oD (sY Wo dM))) (λ_=>Ga true) (nY (gI fZ (gI (lw 1 c (Nb c φ) dg) lD))) [0,3])))) [.fn c,.val Rn,.val R,.no])=Ga (.list Y):=by
 have e:ip (mX (oD (sY Wo dM))) (λ_=>Ga true) (nY (gI fZ (gI (lw 1 c (Nb c φ) dg) lD))) [0,3] [.fn c,.val Rn,.val R,.val W]=Ga Y:=by
  rw[pr];have:mX (oD (sY Wo dM)) [.fn c,.val Rn,.val R,.val W]=Ga us:=by simp_arith[h2]
  rw[this,jn,Ge hl];exact q
 simp_arith[h1,e]
theorem YF (N:List D->Option D)(c:ib)(W v X:D)(h:Int)(h1:gC W (.int h)=Ga v)(h2:N [v]=Ga X):(nY (gI fZ (gI (lw 1 c N dg) lD))) [.val (.int h),.fn c,.val W]=Ga (.tuple [.int h,X]):=by
 simp_arith[h1,h2]
def rh (n:Nat)(fs:List Fl)(R:Nat):List Nat:=(je n).filter λh=>up fs h (R:Int)
theorem zvG (ns:List D)(fs:List Fl)(G:lH ns.length fs)(hi:∀ d∈ns,∃ i:Int,d=.int i)(R:Nat)(hR:R<=4)(Φ:Nat->Nat->D)(c:ib)(φ:D->Option D)(hΦ:∀ h k,h<ns.length->k<=4->oe (Φ h k)/\φ (vw ns fs k h)=Ga (Φ h k)) :
  mY c φ [rd ns fs,.int (R:Int)]=Ga (.list ((rh ns.length fs R).map λ(h:Nat)=>.tuple [.int (h:Int),nO (Φ h) 0 (R+1)])):=by
 have n5:=G.n5;rw[Zv];unfold SB;have ul:(rh ns.length fs R).length<=ns.length:=by
  have:=ku (λh=>up fs h (R:Int)) (je ns.length);rw[jG] at this;exact this
 refine zFv Ah Cw sw c φ _ _ _ _ _ (YM ns fs G R (by omega)) (BU ns fs R n5) (by rw[jb];show(rh ns.length fs R).length<=_;omega) ?_;refine Ao (λ(h:Nat)=>jc (h:Int)) (λ(h:Nat)=>.tuple [.int (h:Int),nO (Φ h) 0 (R+1)]) (l:=rh ns.length fs R) λh hm=>?_;have hm:=jL.mp hm;have hh:=jl.mp hm.1;have e:pv ns fs R h=vw ns fs R h:=Ge hm.2;exact YF (Ah c φ) c _ _ _ h ((EQ hh).trans (congrArg Ga e)) (zDx ns fs hi R h hh hR (Φ h) c φ λk hk=>hΦ h k hh hk)
theorem OH (c:ib)(φ:D->Option D)(Rn R M row v X N:D)(h:Int)(ts:List D)(y7:Sl)(I:En->Prop)(q:(N=.none/\gC row (.int h)=Ga v/\φ v=Ga X/\I [.fn c,.val Rn,.val R,.val M,.own ts,.val (.int h),.val X,.val row])\/(iR N .none=Ga (.bool false)/\I [.fn c,.val Rn,.val R,.val M,.own ts,.val (.int h),.val N,.val row])) :
  lX I ((fU row [.fn c,.val Rn,.val R,.val M,.own ts,.val (.int h),.val N,y7]).bind (gP dZ (iW 6 (oI 0 c φ eE)) gW)):=by
 rcases q with ⟨rfl,h1,h2,i⟩|⟨h1,i⟩
 .simp_arith[h1,h2];exact oy i
 .simp_arith[h1];exact oy i
theorem zFx (Bd:FS)(c:ib)(Rn R M row p:D)(h:Int)(ts ms:List D)(y5 y6 y7:Sl)(I:En->Prop)(h1:gC M R=Ga row)(h2:gC row (.int h)=Ga p)(hs:toS M=Ga ms)(lt:ts.length<1000000)
  (q:(p=.none/\∀ y5,I [.fn c,.val Rn,.val R,.val M,.own ts,y5,y6,y7])\/(iY p .none=Ga (.bool true)/\∃ X,lX (λψ=>∃ y,ψ=[.fn c,.val Rn,.val R,.val M,.own ts,.val (.int h),.val X,y]) (iP fU Bd ms [.fn c,.val Rn,.val R,.val M,.own ts,.val (.int h),.val .none,y7])/\∀ y5 y6 y7,I [.fn c,.val Rn,.val R,.val M,.own (ts++[.tuple [.int h,X]]),y5,y6,y7])) :
  lX I ((fT (.int h) [.fn c,.val Rn,.val R,.val M,.own ts,y5,y6,y7]).bind (gP ba (gy (iW 6 fQ) (gy (mn (mX ge) fU Bd) (oh 4 cX))) gW)):=by
 rcases q with ⟨rfl,i⟩|⟨h3,X,⟨e,e1,y,rfl⟩,i⟩
 .simp_arith[h1,h2];exact oy (i _)
 .simp_arith[h1,h2,h3,hs,e1];rw[Ge lt];exact oy (i _ _ _)
theorem ZE (Vs:List D->Option D)(Bd:FS)(c:ib)(Rn R M N0 X:D)(n:Int)(Ks:List D)(h1:Vs [Rn,R]=Ga M)(h2:gC Rn (.int 0)=Ga N0)(h3:iy N0=Ga (.int n))(h4:iL (.int n)=Ga Ks)(q:gO (mf (iP fT Bd Ks [.fn c,.val Rn,.val R,.val M,.own [],.no,.no,.no]) fN)=Ga X) :
  gO ((gy (iW 3 (gY Vs dM)) (gy fM (gy (mn bI fT Bd) fN))) [.fn c,.val Rn,.val R,.no,.no,.no,.no,.no])=Ga X:=by
 simp_arith[h1,h2,h3,h4];exact q
theorem Zw {N:D}(t:oe N):N=.none\/iR N .none=Ga (.bool false):=by
 rcases t with z|⟨i,rfl⟩
 .exact .inl z
 .exact .inr rfl
theorem VB {n:Nat}(h:n<1000000):iL (.int (n:Int))=Ga ((je n).map λ(k:Nat)=>.int (k:Int)):=by rw[<- rJ];exact wl h
theorem ZL (ns:List D)(E:Fs)(l:Nat)(O:Ok ns.length E l)(G:lH ns.length (gQ ns.length E))(R:Nat)(hR:R<=4)(Φ:Nat->Nat->D)(c:ib)(φ:D->Option D)(hΦ:∀ h k,h<ns.length->k<=4->oe (Φ h k)/\φ (vw ns (gQ ns.length E) k h)=Ga (Φ h k)) :
  rW c φ [rd ns (gQ ns.length E),.int (R:Int)]=Ga (.list ((rh ns.length (gQ ns.length E) R).map λ(h:Nat)=>.tuple [.int (h:Int),nO (Φ h) 0 (R+1)])):=by
 have n5:=G.n5;rw[Wc];unfold OI;have hv:zb [rd ns (gQ ns.length E),.int (R:Int)]=Ga (.list ((je (R+1)).map λr=>.list (vL ns (gQ ns.length E) r))):=by
  have:=zAU ns E R n5 (by omega);refine this.trans (congrArg (λx=>Ga (uQ x)) (jW λr _=>?_));rw[Ve ns O G r]
 generalize hfs:gQ ns.length E=fs at *;refine ZE zb _ c _ _ _ (.tuple ns) _ ns.length ((je ns.length).map λ(k:Nat)=>.int (k:Int)) hv rfl rfl (VB (by omega)) ?_;refine(congrArg gO (AB (f:=λ(k:Nat)=>(.int (k:Int):D)) (R:=Ga (.ro ((rh ns.length fs R).map λ(h:Nat)=>.tuple [.int (h:Int),nO (Φ h) 0 (R+1)]))) ns.length (λk ψ=>∃ y5 y6 y7,ψ=[.fn c,.val (rd ns fs),.val (.int (R:Int)),.val (.list ((je (R+1)).map λr=>.list (vL ns fs r))),.own ((rh k fs R).map λ(h:Nat)=>.tuple [.int (h:Int),nO (Φ h) 0 (R+1)]),y5,y6,y7]) ⟨_,_,_,rfl⟩ ?_ ?_)).trans rfl
 .rintro k hk _ ⟨y5,y6,y7,rfl⟩;have row:∀ r,r<=R->gC (.list ((je (R+1)).map λr=>.list (vL ns fs r))) (.int (r:Int))=Ga (.list (vL ns fs r)):=λr hr=>L2.atI_nat (by rw[jA,kZ (by omega)];rfl);have ul:(rh k fs R).length<=k:=by
   have:=ku (λh=>up fs h (R:Int)) (je k);rw[jG] at this;exact this
  refine zFx _ c _ _ _ _ _ k _ _ y5 y6 y7 _ (row R (jh _)) (EQ hk) rfl (by rw[jb];omega) ?_;cases u:up fs k (R:Int) with
  | false =>
   have e:rh (k+1) fs R=rh k fs R:=by
    unfold rh;rw[kz,kE,jQ (p:=λh=>up fs h (R:Int)) (by rw[u];decide),J1,kg]
   exact .inl ⟨by unfold pv;rw[u,Gf (by decide)],λy5=>⟨y5,y6,y7,by rw[e]⟩⟩
  | true =>
   have e:rh (k+1) fs R=rh k fs R++[k]:=by
    unfold rh;rw[kz,kE,jH (p:=λh=>up fs h (R:Int)) u,J1]
   refine .inr ⟨by unfold pv;rw[u,Ge rfl];exact Wq ns fs R k,nO (Φ k) 0 (R+1),?_,λy5 y6 y7=>⟨_,_,_,by rw[e,jZ];rfl⟩⟩;have st:=DG (t:=lG 7) (g:=gP dZ (iW 6 (oI 0 c φ eE)) gW) (f:=λr=>(.list (vL ns fs r):D)) (λj ψ=>∃ N y,ψ=[.fn c,.val (rd ns fs),.val (.int (R:Int)),.val (.list ((je (R+1)).map λr=>.list (vL ns fs r))),.own ((rh k fs R).map λ(h:Nat)=>.tuple [.int (h:Int),nO (Φ h) 0 (R+1)]),.val (.int (k:Int)),.val N,y]/\oe N/\((N=.none/\nO (Φ k) 0 (R+1)=nO (Φ k) j (R+1-j))\/(N≠.none/\nO (Φ k) 0 (R+1)=N))) (R+1) ?_ (R+1) 0 _ (qf _) ⟨.none,y7,rfl,.inl rfl,.inl ⟨rfl,rfl⟩⟩
   .obtain⟨e2,e3,N,y,rfl,_,q⟩:=st;rw[<- uF] at e3;refine⟨_,e3,y,?_⟩;have:nO (Φ k) 0 (R+1)=N:=by
     rcases q with ⟨rfl,q⟩|⟨_,q⟩
     .rw[q,qh];rfl
     .exact q
    rw[this]
   .rintro j hj _ ⟨N,y,rfl,t,q⟩;have ej:pv ns fs j k=vw ns fs j k:=Ge (Iw (by omega) u);obtain⟨t2,h2⟩:=hΦ k j hk (by omega);rcases q with ⟨rfl,q⟩|⟨q1,q⟩
    .refine OH c φ _ _ _ _ _ _ .none k _ y _ (.inl ⟨rfl,(EQ hk).trans (congrArg Ga ej),h2,_,_,rfl,t2,?_⟩);have e9:R+1-j=(R+1-(j+1))+1:=by omega
     rw[e9] at q;unfold nO at q;by_cases z:Φ k j=.none
     .rw[Ge z] at q;exact .inl ⟨z,q⟩
     .rw[Gf z] at q;exact .inr ⟨z,q⟩
    .refine OH c φ _ _ _ _ .none .none N k _ y _ (.inr ⟨?_,_,_,rfl,t,.inr ⟨q1,q⟩⟩);rcases Zw t with z|z
     .exact absurd z q1
     .exact z
 .rintro _ ⟨y5,y6,y7,rfl⟩;rfl
theorem Ib {Φ Ψ:Nat->D}:∀ (m a:Nat),(∀ j,j<a+m->Φ j=Ψ j)->nO Φ a m=nO Ψ a m
 | 0,_,_=>rfl
 | m+1,a,h=>by
  unfold nO;rw[h a (by omega),Ib m (a+1) λj hj=>h j (by omega)]
def Ru (n:Nat)(φ:D->Option D)(Φ:D->D):Prop:=(∀ d,oe (Φ d))/\∀ (v:Nat->Int) (E:Fs),Ok n E 5->∀ h k,h<n->k<=4->φ (vw (ij n v) (gQ n E) k h)=Ga (Φ (vw (ij n v) (gQ n E) k h))
noncomputable def num (n k:Nat)(Φ:D->D)(r:Rn)(h:Nat):D:=nO (λj=>Φ (vw (ij n r.1) (gQ n r.2) j h)) 0 (k+1)
noncomputable def oX (f:Nat->D)(us:List Nat):List D:=us.map λ(h:Nat)=>jX [.int (h:Int),f h]
abbrev lg (n k:Nat)(r:Rn):List Nat:=rh n (gQ n r.2) k
theorem ES (n:Nat)(v:Nat->Int):∀ d∈ij n v,∃ i:Int,d=.int i:=λd hd=>by
 obtain⟨i,_,rfl⟩:=jv.mp hd;exact⟨_,rfl⟩
theorem Qc (n:Nat)(r:Rn):iV n r=rd (ij n r.1) (gQ n r.2):=by unfold iV mI;rw[lR]
theorem QG {n k:Nat}(h2:2<=n)(h5:n<=5)(k4:k<=4){φ:D->Option D}{Φ:D->D}(U:Ru n φ Φ)(c:ib){r:Rn}(o:Ok n r.2 5):mY c φ [iV n r,.int (k:Int)]=Ga (.list (oX (num n k Φ r) (lg n k r))):=by
 have G:=tM h2 h5 (by decide) o;have:=zvG (ij n r.1) (gQ n r.2) (by rw[lR];exact G) (ES n r.1) k k4 (λh j=>Φ (vw (ij n r.1) (gQ n r.2) j h)) c φ (λh j hh hj=>⟨U.1 _,U.2 r.1 r.2 o h j (by rw[lR] at hh;exact hh) hj⟩);rw[lR] at this;rw[Qc];exact this
theorem Sg {n k:Nat}(h2:2<=n)(h5:n<=5)(k4:k<=4){φ:D->Option D}{Φ:D->D}(U:Ru n φ Φ)(c:ib){r:Rn}(o:Ok n r.2 5):rW c φ [iV n r,.int (k:Int)]=Ga (.list (oX (num n k Φ r) (lg n k r))):=by
 have G:=tM h2 h5 (by decide) o;have:=ZL (ij n r.1) r.2 5 (by rw[lR];exact o) (by rw[lR];exact G) k k4 (λh j=>Φ (vw (ij n r.1) (gQ n r.2) j h)) c φ (λh j hh hj=>by rw[lR] at hh ⊢;exact⟨U.1 _,U.2 r.1 r.2 o h j hh hj⟩);rw[lR] at this;rw[Qc];exact this
theorem DF {n k:Nat}(k4:k<=4){φ:D->Option D}{Φ:D->D}(U:Ru n φ Φ)(r:Rn){h:Nat}(hh:h<n):oe (num n k Φ r h):=Rr _ _ _ λj _ hj=>U.1 _
theorem xD {n k:Nat}{r:Rn}{h:Nat}(hh:h∈lg n k r):h<n:=jl.mp (jL.mp hh).1
theorem Cf {n k i:Nat}{r:Rn}(hi:i<n)(e:r.2 i=Gb):i∈lg n k r:=jL.mpr ⟨jl.mpr hi,(Cr hi _).trans (Hn e _)⟩
theorem Kb (n k:Nat)(r:Rn):(lg n k r).Pairwise (·<·):=List.Pairwise.filter _ qV
theorem Ca (n k:Nat)(r:Rn):(lg n k r).length<=n:=by
 have:=ku (λh=>up (gQ n r.2) h (k:Int)) (je n);rw[jG] at this;exact this
theorem zA5 {n k i:Nat}(h2:2<=n)(h5:n<=5){Φ:D->D}{r1 r2:Rn}(o1:Ok n r1.2 5)(o2:Ok n r2.2 5)(hi:i<n)(k4:k<=4)(e1:r1.2 i=Gb)(e2:r2.2 i=Gb)(e:yL n r1 k i=yL n r2 k i):num n k Φ r1 i=num n k Φ r2 i:=by
 have V:∀ (r:Rn),Ok n r.2 5->r.2 i=Gb->yL n r k i=vw (ij n r.1) (gQ n r.2) k i:=λr o er=>by
  have G:=tM h2 h5 (by decide) o;have:=IR (ij n r.1) (E:=r.2) (l:=5) (by rw[lR];exact o) (by rw[lR];exact G) k i (by rw[lR];exact hi);rw[lR] at this;unfold yL;rw[<- Sr (ns:=tm (ij n r.1)) zFk k i hi,this];unfold pv;exact Ge ((Cr hi _).trans (Hn er _))
 have ek:vw (ij n r1.1) (gQ n r1.2) k i=vw (ij n r2.1) (gQ n r2.2) k i:=by rw[<- V r1 o1 e1,<- V r2 o2 e2];exact e
 refine Ib _ _ λj hj=>congrArg Φ ?_;have p1:=GD (ij n r1.1) (gQ n r1.2) (ES n r1.1) k j i (by rw[lR];exact hi) (by omega) (by omega);have p2:=GD (ij n r2.1) (gQ n r2.2) (ES n r2.1) k j i (by rw[lR];exact hi) (by omega) (by omega);rw[ek] at p1;exact jD (p1.symm.trans p2)
noncomputable def bq (X Y:D):Bool:=@decide (X=Y) (vH _)
theorem sX {X Y:D}:bq X Y=true↔X=Y:=by unfold bq;exact @decide_eq_true_iff _ (vH _)
theorem pI {X Y:D}:bq X Y=false↔X≠Y:=by rw[ne_eq,<- sX,kB]
theorem zFB {X Y:D}(hX:oe X)(hY:oe Y):iT X Y=Ga (.bool (bq X Y)):=by
 rcases hX with rfl|⟨i,rfl⟩<;>rcases hY with rfl|⟨j,rfl⟩
 .rw[sX.mpr rfl];rfl
 .rw[pI.mpr (λz=>by cases z)];rfl
 .rw[pI.mpr (λz=>by cases z)];rfl
 .rw[sU];by_cases c:i=j
  .rw[sX.mpr (by rw[c]),c,beq_self_eq_true]
  .rw[pI.mpr (λz=>c (by injection z)),beq_eq_false_iff_ne.mpr c]
theorem Qd {X Y:D}(hX:oe X)(hY:oe Y):lL X Y=Ga (.bool (!bq X Y)):=by
 rcases hX with rfl|⟨i,rfl⟩<;>rcases hY with rfl|⟨j,rfl⟩
 .rw[sX.mpr rfl];rfl
 .rw[pI.mpr (λz=>by cases z)];rfl
 .rw[pI.mpr (λz=>by cases z)];rfl
 .rw[NE];by_cases c:i=j
  .rw[sX.mpr (by rw[c]),c,beq_self_eq_true]
  .rw[pI.mpr (λz=>c (by injection z)),beq_eq_false_iff_ne.mpr c]
theorem YR {X:D}(hX:oe X):iY X .none=Ga (.bool (!bq X .none)):=by
 rcases hX with rfl|⟨i,rfl⟩
 .rw[sX.mpr rfl];rfl
 .rw[pI.mpr (λz=>by cases z)];rfl
theorem zGj (T:List D)(X:D)(bs:List Bool)(hl:T.length<=1000000)(hc:lc (λ_=>Ga true) bQ [.val X] T=Ga (bs.map j8)):oG [.list T,X]=Ga (.bool (bs.all id)):=by
 have ha:rZ (bs.map j8)=Ga (.bool (bs.all id)):=by
  unfold rZ;rw[DW,jn]
 rw[zqC];unfold Lv;simp_arith[SU,pr,Ge hl,hc,ha]
theorem zGk (h X Y:D)(b:Bool)(he:iT X Y=Ga (.bool b)):bQ [.val (.tuple [h,X]),.val Y]=Ga (.bool b):=by
 have i:gC (.tuple [h,X]) (.int 1)=Ga X:=rfl;generalize jX [h,X]=p at *;simp_arith[i,he]
theorem Hd (f:Nat->D)(us:List Nat):(oX f us).length=us.length:=jb _
theorem Rz (f:Nat->D)(us:List Nat)(ul:us.length<=5)(t:∀ h∈us,oe (f h))(X:D)(hX:oe X):oG [.list (oX f us),X]=Ga (.bool (us.all λh=>bq (f h) X)):=by
 have:=zGj (oX f us) X (us.map λh=>bq (f h) X) (by rw[Hd];omega) (by
  unfold oX;rw[jU];exact Ao (λ(h:Nat)=>jX [.int (h:Int),f h]) _ λh hh=>zGk _ _ _ _ (zFB (t h hh) hX))
 rw[this,JR];rfl
theorem zFC (R p0 h0 X0 u:D)(T us:List D)(hl:T.length<=1000000)(i0:gC (.list T) (.int 0)=Ga p0)(i1:gC p0 (.int 1)=Ga X0)(i2:gC p0 (.int 0)=Ga h0)
  (hc:lc aB di [.val (.list T)] T=Ga us) (hu:gC (.list us) (.int 0)=Ga u):sD [R,.list T]=Ga (.tuple [.str fS,R,h0,u]):=by
 have t:toS (.list T)=Ga T:=rfl;rw[zrK];unfold Kx;generalize PyData.str fS=q at *;generalize uQ T=TT at *;simp_arith[t,pr,Ge hl,hc,i0,i1,i2,hu]
theorem Zc (T p0 X0 h X:D)(b:Bool)(i0:gC T (.int 0)=Ga p0)(i1:gC p0 (.int 1)=Ga X0)(hn:lL X X0=Ga (.bool b)):aB [.val (.tuple [h,X]),.val T]=Ga b:=by
 have i:gC (.tuple [h,X]) (.int 1)=Ga X:=rfl;generalize jX [h,X]=p at *;simp_arith[i,i0,i1,hn]
theorem PN (T h X:D):di [.val (.tuple [h,X]),.val T]=Ga h:=by
 have i:gC (.tuple [h,X]) (.int 0)=Ga h:=rfl;generalize jX [h,X]=p at *;simp_arith[i]
theorem Bq (d:D)(r:List D):gC (.list (d::r)) (.int 0)=Ga d:=by
 show L2.atI (d::r) ((0:Nat):Int)=_;exact L2.atI_nat rfl
theorem zDz (f:Nat->D)(h0:Nat)(r:List Nat)(ul:(h0::r).length<=5)(t:∀ h∈h0::r,oe (f h))(asc:(h0::r).Pairwise (·<·))(R:D)(x:Nat)(hx:x∈h0::r)(ne:f x≠f h0):∃ u,u∈h0::r/\h0<u/\f h0≠f u/\sD [R,.list (oX f (h0::r))]=Ga (.tuple [.str fS,R,.int (h0:Int),.int (u:Int)]):=by
 have i0:gC (.list (oX f (h0::r))) (.int 0)=Ga (.tuple [.int (h0:Int),f h0]):=Bq _ _;have hc:=zv (fc:=gZ lL dk bw) (fe:=gw gC fZ fy) (base:=[.val (.list (oX f (h0::r)))]) (λ(h:Nat)=>jX [.int (h:Int),f h]) (λh=>!bq (f h) (f h0)) (λ(h:Nat)=>jc (h:Int)) (l:=h0::r)
  (λh hh=>Zc _ _ _ _ _ _ i0 rfl (Qd (t h hh) (t h0 jf))) (λh hh _=>PN _ _ _)
 obtain⟨u,w,eu⟩:∃ u w,((h0::r).filter λh=>!bq (f h) (f h0))=u::w:=by
  cases q:(h0::r).filter λh=>!bq (f h) (f h0) with
  | cons u w=>exact⟨u,w,rfl⟩
  | nil=>exact absurd (by rw[pI.mpr ne];rfl) (uZ.mp q x hx)
 have um:u∈(h0::r).filter λh=>!bq (f h) (f h0):=by rw[eu];exact jf
 obtain⟨u1,u2⟩:=jL.mp um;have un:f u≠f h0:=pI.mp (by rw[kQ] at u2;exact u2);rw[eu] at hc;refine⟨u,u1,?_,λz=>un z.symm,zFC R _ _ _ _ _ _ (by rw[Hd];omega) i0 rfl rfl hc (Bq _ _)⟩;rcases ju.mp u1 with rfl|z
 .exact absurd rfl un
 .exact(JD.mp asc).1 u z
theorem zGl (T us:List D)(X:D)(hl:T.length<=1000000)(hc:lc az di [.val X] T=Ga us):yJ [.list T,X]=Ga (.list us):=by
 have t:toS (.list T)=Ga T:=rfl;rw[zoW];unfold IQ;generalize uQ T=TT at *;simp_arith[t,pr,Ge hl,hc]
theorem Wv (h X Y:D)(a b:Bool)(hi:iY X .none=Ga (.bool a))(hn:lL X Y=Ga (.bool b)):az [.val (.tuple [h,X]),.val Y]=Ga (a&&b):=by
 have i:gC (.tuple [h,X]) (.int 1)=Ga X:=rfl;generalize jX [h,X]=p at *;cases a with
 | true=>simp_arith[i,hi,hn,kC]
 | false=>simp_arith[i,hi,vk]
theorem zFE (f:Nat->D)(us:List Nat)(ul:us.length<=5)(t:∀ h∈us,oe (f h))(X:D)(hX:oe X):yJ [.list (oX f us),X]=Ga (.list ((us.filter λh=>!bq (f h) .none&&!bq (f h) X).map λ(h:Nat)=>jc (h:Int))) :=
 zGl _ _ _ (by rw[Hd];omega) (zv (λ(h:Nat)=>jX [.int (h:Int),f h]) (λh=>!bq (f h) .none&&!bq (f h) X) (λ(h:Nat)=>jc (h:Int)) (l:=us) (λh hh=>Wv _ _ _ _ _ (YR (t h hh)) (Qd (t h hh) hX)) (λh hh _=>PN _ _ _))
theorem QX {c:FB}{g:FS}{n:Nat}{ψ e:En}(hc:c (frz ψ)=Ga true)(hg:g ψ=Ga (.nx e)):mz c g (n+1) ψ=mz c g n e:=by
 show(c (frz ψ)).bind _=_;rw[hc];show(g ψ).bind _=_;rw[hg];rfl
theorem VM {c:FB}{g:FS}{n:Nat}{ψ:En}(hc:c (frz ψ)=Ga false):mz c g (n+1) ψ=Ga (.nx ψ):=by
 show(c (frz ψ)).bind _=_;rw[hc];rfl
theorem wL (c:ib)(f:List D->Option D)(g:FL)(e:En):lw 0 c f g (.fn c::e)=(g (.fn c::e)).bind f:=Ge rfl
theorem MX (c:ib)(C m k:D)(lo hi:Int)(x6:Sl):gZ pB (gw lM gf gc) fA (frz [.fn c,.val C,.val m,.val k,.val (.int lo),.val (.int hi),x6])=Ga (decide (1<hi-lo)):=by
 have f:frz [.fn c,.val C,.val m,.val k,.val (.int lo),.val (.int hi),x6]=[pL (.fn c),.val C,.val m,.val k,.val (.int lo),.val (.int hi),pL x6]:=rfl;rw[f];generalize pL (.fn c)=y;generalize pL x6=z;simp_arith[va]
theorem TK (c:ib)(φ:D->Option D)(C m k Rm T:D)(lo hi mid:Int)(b:Bool)(x6:Sl)(d2:nX (.int (lo+hi)) (.int 2)=Ga (.int mid))(ix:gC C (.int mid)=Ga Rm)(ht:mY c φ [Rm,k]=Ga T)(ha:oG [T,m]=Ga (.bool b)) :
  (gy bv (gP (lO (gY oG (gI (lw 0 c (mY c φ) bY) fj))) fK fL)) [.fn c,.val C,.val m,.val k,.val (.int lo),.val (.int hi),x6]=Ga (.nx [.fn c,.val C,.val m,.val k,.val (.int (if b=true then mid else lo)),.val (.int (if b=true then hi else mid)),.val (.int mid)]):=by
 have f:∀ e:En,frz (.fn c::e)=.fn c::frz e:=λ_=>rfl;generalize mY c φ=A1 at *;generalize oG=A2 at *;cases b with
 | true =>
  simp_arith[d2,f,wL,ix,ht,ha]
 | false =>
  simp_arith[d2,f,wL,ix,ht,ha]
theorem KW (c:ib)(φ:D->Option D)(C m k:D)(L:Nat)(P:Nat->Bool)(hP:∀ i,i<L->∃ R T,gC C (.int (i:Int))=Ga R/\mY c φ [R,k]=Ga T/\oG [T,m]=Ga (.bool (P i))):∀ (f lo hi:Nat) (x6:Sl),hi-lo<=2^f->lo<hi->hi<L->P lo=true->P hi=false ->
  ∃ lo' x',lo'+1<L/\P lo'=true/\P (lo'+1)=false/\mz bR (gy bv (gP (lO (gY oG (gI (lw 0 c (mY c φ) bY) fj))) fK fL)) (f+1) [.fn c,.val C,.val m,.val k,.val (.int (lo:Int)),.val (.int (hi:Int)),x6]=Ga (.nx [.fn c,.val C,.val m,.val k,.val (.int (lo':Int)),.val (.int ((lo'+1:Nat):Int)),x'])
 | f,lo,hi,x6,hf,h1,h2,p1,p2=>by
  by_cases c1:hi=lo+1
  .subst c1;exact⟨lo,x6,h2,p1,p2,VM ((MX c C m k _ _ x6).trans (congrArg Ga (Gd (by omega))))⟩
  .match f,hf with
   | 0,hf=>exact absurd hf (by rw[Nat.pow_zero];omega)
   | f+1,hf =>
    rw[Nat.pow_succ] at hf;obtain⟨R,T,e1,e2,e3⟩:=hP ((lo+hi)/2) (by omega);have st:=TK c φ C m k R T lo hi (((lo+hi)/2:Nat):Int) _ x6 ((BM (by decide) (by decide)).trans (congrArg (λz=>Ga (jc z)) (by omega))) e1 e2 e3;have cc:=(MX c C m k (lo:Int) (hi:Int) x6).trans (congrArg Ga (Gc (by omega)));cases q:P ((lo+hi)/2) with
    | true =>
     rw[q,Ge rfl,Ge rfl] at st;obtain⟨lo',x',a1,a2,a3,a4⟩:=KW c φ C m k L P hP f ((lo+hi)/2) hi (.val (.int (((lo+hi)/2:Nat):Int))) (by omega) (by omega) h2 q p2;exact⟨lo',x',a1,a2,a3,(QX cc st).trans a4⟩
    | false =>
     rw[q,Gf jq,Gf jq] at st;obtain⟨lo',x',a1,a2,a3,a4⟩:=KW c φ C m k L P hP f lo ((lo+hi)/2) (.val (.int (((lo+hi)/2:Nat):Int))) (by omega) (by omega) (by omega) p1 q;exact⟨lo',x',a1,a2,a3,(QX cc st).trans a4⟩
theorem zGo (c:ib)(φ:D->Option D)(C m k R T Z:D)(l lo hi:Int)(x6:Sl)(hl:iy C=Ga (.int l))(hw:mz bR (gy bv (gP (lO (gY oG (gI (lw 0 c (mY c φ) bY) fj))) fK fL)) 100 [.fn c,.val C,.val m,.val k,.val (.int 0),.val (.int (l-1)),.no]=Ga (.nx [.fn c,.val C,.val m,.val k,.val (.int lo),.val (.int hi),x6]))(ix:gC C (.int hi)=Ga R)(ht:mY c φ [R,k]=Ga T)(hz:sD [R,T]=Ga Z):zZ c φ [C,m,k]=Ga Z:=by
 rw[Yl];unfold Pr;generalize (gy bv (gP (lO (gY oG (gI (lw 0 c (mY c φ) bY) fj))) fK fL))=B at *;generalize mY c φ=A1 at *;generalize sD=A2 at *;simp_arith[hl,hw,wL,ix,ht,hz]
theorem Qg {α:Type}{R:α->α->Prop}:∀ {l:List α} {i:Nat} {a b:α},pT R l->l[i]?=Ga a->l[i+1]?=Ga b->R a b
 | [],i,a,b,_,h,_=>by cases h
 | [x],0,a,b,_,_,h=>by cases h
 | [x],i+1,a,b,_,h,_=>by cases h
 | x::y::r,0,a,b,c,h1,h2=>by
  cases h1;cases h2;exact c.1
 | x::y::r,i+1,a,b,c,h1,h2=>Qg (l:=y::r) (i:=i) c.2 h1 h2
theorem Od (n:Nat)(v:Nat->Int)(E:Fs):pe [iV n (v,E)]=Ga (.int (n:Int)):=by
 have:=Cs (ij n v) (gQ (ij n v).length E);rw[lR] at this;unfold iV mI;rw[lR];exact this
theorem zGp (c:ib)(φ:D->Option D)(R b k C Rl T Z:D)(m o n l:Int)(Ks os hl_:List D)(ho:(m=0/\o=1)\/(¬m=0/\o=0))(hm:pe [R]=Ga (.int n))(hr:iL (.int n)=Ga Ks)(hl:Ks.length<=1000000)(hc:lc (λ_=>Ga true) ga [.val (.int o)] Ks=Ga os)(hch:zc [R,b,k,.tuple os]=Ga C)
  (ix:gC C (.int (-1))=Ga Rl) (ht:mY c φ [Rl,k]=Ga T) (hs:yJ [T,.int o]=Ga (.list hl_)) (sl:iy (.list hl_)=Ga (.int l)) (hz:(¬0<l/\zZ c φ [C,.int m,k]=Ga Z)\/(0<l/\∃ h,gC (.list hl_) (.int 0)=Ga h/\Z=.tuple [.str fJ,Rl,h])):yE c φ [R,b,k,.int m]=Ga Z:=by
 rw[zmN];unfold Re;generalize pe=A1 at *;generalize zc=A2 at *;generalize mY c φ=A3 at *;generalize yJ=A4 at *;generalize zZ c φ=A5 at *;generalize uQ hl_=HS at *;have f:∀ e:En,frz (.fn c::e)=.fn c::frz e:=λ_=>rfl;rcases hz with ⟨z,hz⟩|⟨z,h,i0,rfl⟩
 .rcases ho with ⟨h,rfl⟩|⟨h,rfl⟩
  .simp_arith[Gc h,hm,hr,pr,Ge hl,hc,hch,ix,wL,ht,hs,sl,Gd z,f,hz]
  .simp_arith[Gd h,hm,hr,pr,Ge hl,hc,hch,ix,wL,ht,hs,sl,Gd z,f,hz]
 .rcases ho with ⟨h,rfl⟩|⟨h,rfl⟩
  .simp_arith[Gc h,hm,hr,pr,Ge hl,hc,hch,ix,wL,ht,hs,sl,Gc z,f,i0]
  .simp_arith[Gd h,hm,hr,pr,Ge hl,hc,hch,ix,wL,ht,hs,sl,Gc z,f,i0]
abbrev rC (x:Int):Prop:=¬(10:Int)^60<=(if x<0 then -x else x)
def MA (n k b:Nat)(Φ:D->D)(Z:D):Prop:=∃ r:Rn,Ok n r.2 5/\iB n r.2<=b/\(∀ i,i<n->rC (r.1 i)) /\
 ((∃ h u,h∈lg n k r/\u∈lg n k r/\h<u/\num n k Φ r h≠num n k Φ r u/\Z=.tuple [.str fS,iV n r,.int (h:Int),.int (u:Int)]) \/
   (∃ h x,h∈lg n k r/\(∀ i,i<n->r.1 i=x)/\num n k Φ r h≠.none/\num n k Φ r h≠.int x/\Z=.tuple [.str fJ,iV n r,.int (h:Int)]))
theorem Ry {n k b:Nat}(h5:n<=5)(k4:k<=4){φ:D->Option D}{Φ:D->D}(U:Ru n φ Φ){r:Rn}(o:Ok n r.2 5)(ct:iB n r.2<=b)(nb:∀ i,i<n->rC (r.1 i)){x y:Nat}(hx:x∈lg n k r)(hy:y∈lg n k r)(ne:num n k Φ r x≠num n k Φ r y):∃ Z,MA n k b Φ Z/\sD [iV n r,.list (oX (num n k Φ r) (lg n k r))]=Ga Z:=by
 have t:∀ h∈lg n k r,oe (num n k Φ r h):=λh hh=>DF k4 U r (xD hh);have ul:=Ca n k r;have asc:=Kb n k r;obtain⟨h0,w,e⟩:∃ h0 w,lg n k r=h0::w:=by
  cases q:lg n k r with
  | nil=>rw[q] at hx;cases hx
  | cons a w=>exact⟨a,w,rfl⟩
 have hm:h0∈lg n k r:=by rw[e];exact jf
 obtain⟨z,hz,zn⟩:∃ z∈lg n k r,num n k Φ r z≠num n k Φ r h0:=by
  by_cases c:num n k Φ r x=num n k Φ r h0
  .exact⟨y,hy,λq=>ne (c.trans q.symm)⟩
  .exact⟨x,hx,c⟩
 rw[e] at t ul asc hz;obtain⟨u,u1,u2,u3,u4⟩:=zDz (num n k Φ r) h0 w (by omega) t asc (iV n r) z hz zn;refine⟨_,⟨r,o,ct,nb,.inl ⟨h0,u,hm,?_,u2,u3,rfl⟩⟩,?_⟩
 .rw[e];exact u1
 .rw[e];exact u4
theorem zDA (n k b:Nat)(v:Nat->Int)(h2:2<=n)(h5:n<=5)(k1:k<=2)(ht:b+2<=n)(hk:k<=b)(nb:∀ i,i<n->rC (v i))(c:ib)(φ:D->Option D)(Φ:D->D)(U:Ru n φ Φ)(m:Int)(al:∀ h∈lg n k (v,hJ),num n k Φ (v,hJ) h=.int m):∃ Z,MA n k b Φ Z/\yE c φ [iV n (v,hJ),.int (b:Int),.int (k:Int),.int m]=Ga Z:=by
 obtain⟨x,hx,x01⟩:∃ x:Int,((m=0/\x=1)\/(¬m=0/\x=0))/\¬(10:Int)^60<=(if x<0 then -x else x):=by
  by_cases c0:m=0
  .exact⟨1,.inl ⟨c0,rfl⟩,by decide⟩
  .exact⟨0,.inr ⟨c0,rfl⟩,by decide⟩
 have xm:x≠m:=by rcases hx with ⟨a,b⟩|⟨a,b⟩<;>omega
 obtain⟨Ps,w,hw,hc,PT,pl⟩:=FO n k b v (λ_=>x) h2 h5 k1 ht hk (λ_ _=>x01);have hd:=PT.hd;have lst:=PT.lst;have L0:0<Ps.length:=by
  cases Ps with
  | nil=>cases hd
  | cons a r=>exact Nat.succ_pos _
 have nbP:∀ r∈Ps,∀ i,i<n->rC (r.1 i):=λr hr i hi=>by
  rcases PT.num r hr i with z|z
  .rw[z];exact nb i hi
  .rw[z];show rC (w i);rw[hw i hi];exact x01
 have g0:Ps[0]?=Ga (v,hJ):=by rw[<- List.head?_eq_getElem?];exact hd
 have gl:Ps[Ps.length-1]?=Ga (w,hJ):=by rw[<- List.getLast?_eq_getElem?];exact lst
 have lm:(w,hJ)∈Ps:=j7 gl;have at_:∀ i,i<Ps.length->∃ r,Ps[i]?=Ga r/\r∈Ps:=λi hi=>⟨Ps[i],ji hi,uz hi⟩;have iC:∀ (i:Nat) (r:Rn),Ps[i]?=Ga r->gC (.list (Ps.map (iV n))) (.int (i:Int))=Ga (iV n r):=λi r e=>L2.atI_nat (by rw[jA,e];rfl);have tO:∀ r∈Ps,mY c φ [iV n r,.int (k:Int)]=Ga (.list (oX (num n k Φ r) (lg n k r))):=λr hr=>QG h2 h5 (by omega) U c (PT.ok r hr);have tT:∀ (r:Rn),∀ h∈lg n k r,oe (num n k Φ r h):=λr h hh=>DF (by omega) U r (xD hh);have uL:∀ r:Rn,(lg n k r).length<=5:=λr=>jF (Ca n k r) h5;have sx:=zFE (num n k Φ (w,hJ)) (lg n k (w,hJ)) (uL _) (tT _) (.int x) (.inr ⟨x,rfl⟩);have BF:=λZ hs l a1 a2 a3=>zGp c φ (iV n (v,hJ)) (.int (b:Int)) (.int (k:Int)) _ (iV n (w,hJ)) _ Z m x (n:Int) l _ _ hs hx (Od n v hJ) (AH (by omega)) (by rw[jb,jG];omega) (Ao (λ(k:Nat)=>jc (k:Int)) (λ_=>.int x) λ_ _=>rfl) hc (Io (by rw[vh,lst];rfl)) (tO _ lm) a1 a2 a3;cases q:(lg n k (w,hJ)).filter λh=>!bq (num n k Φ (w,hJ) h) .none&&!bq (num n k Φ (w,hJ) h) (.int x) with
 | cons h r =>
  rw[q] at sx;obtain⟨m1,m2⟩:=jL.mp (show h∈_ from by rw[q];exact jf);rw[jx,kQ,kQ,pI,pI] at m2;refine⟨_,⟨(w,hJ),PT.ok _ lm,PT.cnt _ lm,nbP _ lm,.inr ⟨h,x,m1,hw,m2.1,m2.2,rfl⟩⟩,BF _ _ (((r.length+1:Nat)):Int) sx ?_ (.inr ⟨by omega,.int (h:Int),Bq _ _,rfl⟩)⟩;show Ga (jc ((((h::r).map λ(h:Nat)=>jc (h:Int)).length:Nat):Int))=_;rw[jb];rfl
 | nil =>
  rw[q] at sx;have nostr:=uZ.mp q;have hP:∀ i,i<Ps.length->∃ R T,gC (.list (Ps.map (iV n))) (.int (i:Int))=Ga R/\mY c φ [R,.int (k:Int)]=Ga T/\oG [T,.int m]=Ga (.bool (match Ps[i]? with|some r=>(lg n k r).all λh=>bq (num n k Φ r h) (.int m)|none=>true)):=λi hi=>by
   obtain⟨r,e,hr⟩:=at_ i hi;rw[e];exact⟨_,_,iC i r e,tO r hr,Rz _ _ (uL r) (tT r) _ (.inr ⟨m,rfl⟩)⟩
  generalize hPd:(λi:Nat=>match Ps[i]? with|some r=>(lg n k r).all λh=>bq (num n k Φ r h) (.int m)|none=>true)=P;have hP':∀ i,i<Ps.length->∃ R T,gC (.list (Ps.map (iV n))) (.int (i:Int))=Ga R/\mY c φ [R,.int (k:Int)]=Ga T/\oG [T,.int m]=Ga (.bool (P i)):=λi hi=>by rw[<- hPd];exact hP i hi
  have pE:∀ (i:Nat) (r:Rn),Ps[i]?=Ga r->P i=(lg n k r).all λh=>bq (num n k Φ r h) (.int m):=λi r e=>by rw[<- hPd];dsimp only;rw[e]
  have p0:P 0=true:=by
   rw[pE 0 _ g0];exact jJ.mpr λh hh=>sX.mpr (al h hh)
  have pl0:P (Ps.length-1)=false:=by
   rw[pE _ _ gl];refine qx.mpr λz=>?_;have u0:0∈lg n k (w,hJ):=Cf (by omega) rfl;have e0:=sX.mp (jJ.mp z 0 u0);refine nostr 0 u0 ?_;rw[e0,pI.mpr (λz=>by cases z),pI.mpr (λz=>xm (by injection z with z;exact z.symm))];rfl
  have l1:0<Ps.length-1:=by
   rcases Nat.eq_zero_or_pos (Ps.length-1) with z|z
   .rw[z,p0] at pl0;cases pl0
   .exact z
  obtain⟨lo,x6,a1,a2,a3,a4⟩:=KW c φ (.list (Ps.map (iV n))) (.int m) (.int (k:Int)) Ps.length P hP' 99 0 (Ps.length-1) .no (jF (show Ps.length-1-0<=6000 by omega) (by decide)) l1 (by omega) p0 pl0;obtain⟨r1,g1,m1⟩:=at_ lo (by omega);obtain⟨r2,g2,m2⟩:=at_ (lo+1) a1;obtain⟨i,hi,e1,e2,ev⟩:=Qg PT.chn g1 g2;have en:=zA5 (Φ:=Φ) h2 h5 (PT.ok r1 m1) (PT.ok r2 m2) hi (by omega) e1 e2 ev;rw[pE _ _ g1] at a2;rw[pE _ _ g2] at a3;have vi:num n k Φ r1 i=.int m:=sX.mp (jJ.mp a2 i (Cf hi e1));obtain⟨h,hh,nh⟩:∃ h∈lg n k r2,num n k Φ r2 h≠.int m:=by
   rw[qx,ne_eq,jJ] at a3;refine jV λno=>a3 λh hh=>sX.mpr (jV λz=>no ⟨h,hh,z⟩)
  obtain⟨Z,hB,hz⟩:=Ry (b:=b) h5 (by omega) U (PT.ok r2 m2) (PT.cnt r2 m2) (nbP r2 m2) (Cf hi e2) hh (by rw[<- en,vi];exact λz=>nh z.symm);have dl:iy (.list (Ps.map (iV n)))=Ga (.int (Ps.length:Int)):=by
   show Ga (jc (((Ps.map (iV n)).length:Nat):Int))=_;rw[jb]
  have ec:((Ps.length-1:Nat):Int)=(Ps.length:Int)-1:=by omega
  rw[ec] at a4;have to:=zGo c φ _ (.int m) (.int (k:Int)) _ _ _ _ _ _ x6 dl a4 (iC _ _ g2) (tO r2 m2) hz;exact⟨Z,hB,BF Z [] 0 sx rfl (.inl ⟨by decide,to⟩)⟩
theorem UC (c:ib)(φ:D->Option D)(R b k T p X Z:D)(ho:sZ [R,b,k]=Ga (.bool true))(ht:mY c φ [R,k]=Ga T)(i0:gC T (.int 0)=Ga p)(i1:gC p (.int 1)=Ga X)(ha:oG [T,X]=Ga (.bool false))(hz:sD [R,T]=Ga Z):tD c φ [R,b,k]=Ga Z:=by
 have f:∀ e:En,frz (.fn c::e)=.fn c::frz e:=λ_=>rfl;rw[Pb];unfold LQ;generalize sZ=A1 at *;generalize mY c φ=A2 at *;generalize oG=A3 at *;generalize sD=A4 at *;simp_arith[f,ho,wL,ht,i0,i1,ha,hz]
theorem MR (c:ib)(φ:D->Option D)(R b k T p X Z:D)(ho:sZ [R,b,k]=Ga (.bool true))(ht:mY c φ [R,k]=Ga T)(i0:gC T (.int 0)=Ga p)(i1:gC p (.int 1)=Ga X)(ha:oG [T,X]=Ga (.bool true))(hX:(X=.none/\Z=.none)\/(iR X .none=Ga (.bool false)/\yE c φ [R,b,k,X]=Ga Z)):tD c φ [R,b,k]=Ga Z:=by
 have f:∀ e:En,frz (.fn c::e)=.fn c::frz e:=λ_=>rfl;rw[Pb];unfold LQ;generalize sZ=A1 at *;generalize mY c φ=A2 at *;generalize oG=A3 at *;generalize yE c φ=A4 at *;rcases hX with ⟨rfl,rfl⟩|⟨hi,hz⟩
 .have i:iR .none .none=Ga (.bool true):=rfl;simp_arith[f,ho,wL,ht,i0,i1,ha,i]
 .simp_arith[f,ho,wL,ht,i0,i1,ha,hi,hz]
theorem zyR (n k b:Nat)(v:Nat->Int)(h2:2<=n)(h5:n<=5)(k1:k<=2)(ht:b+2<=n)(hk:k<=b)(nb:∀ i,i<n->rC (v i))(c:ib)(φ:D->Option D)(Φ:D->D)(U:Ru n φ Φ):∃ Z,tD c φ [iV n (v,hJ),.int (b:Int),.int (k:Int)]=Ga Z/\(((∀ h∈lg n k (v,hJ),num n k Φ (v,hJ) h=.none)/\Z=.none)\/((∃ h∈lg n k (v,hJ),num n k Φ (v,hJ) h≠.none)/\MA n k b Φ Z)):=by
 have ho:=RB h2 h5 ht hk v;have o:=yV n 5;have ct:iB n hJ<=b:=by rw[xp];exact jO _
 have im:0∈lg n k (v,hJ):=Cf (by omega) rfl;have tk:=QG h2 h5 (show k<=4 by omega) U c (r:=(v,hJ)) o;have tT:∀ h∈lg n k (v,hJ),oe (num n k Φ (v,hJ) h):=λh hh=>DF (by omega) U _ (xD hh);have uL:(lg n k (v,hJ)).length<=5:=jF (Ca n k _) h5;obtain⟨h0,r,eu⟩:∃ h0 r,lg n k (v,hJ)=h0::r:=by
  cases q:lg n k (v,hJ) with
  | nil=>rw[q] at im;cases im
  | cons a r=>exact⟨a,r,rfl⟩
 have hm:h0∈lg n k (v,hJ):=by rw[eu];exact jf
 have i0:gC (.list (oX (num n k Φ (v,hJ)) (lg n k (v,hJ)))) (.int 0)=Ga (.tuple [.int (h0:Int),num n k Φ (v,hJ) h0]):=by
  rw[eu];exact Bq _ _
 have aw:=Rz _ _ uL tT _ (tT h0 hm);cases q:(lg n k (v,hJ)).all λh=>bq (num n k Φ (v,hJ) h) (num n k Φ (v,hJ) h0) with
 | true =>
  rw[q] at aw;have al:∀ h∈lg n k (v,hJ),num n k Φ (v,hJ) h=num n k Φ (v,hJ) h0:=λh hh=>sX.mp (jJ.mp q h hh);rcases tT h0 hm with z|⟨m,z⟩
  .exact⟨_,MR c φ _ _ _ _ _ _ _ ho tk i0 rfl aw (.inl ⟨z,rfl⟩),.inl ⟨λh hh=>(al h hh).trans z,rfl⟩⟩
  .obtain⟨Z,hB,hz⟩:=zDA n k b v h2 h5 k1 ht hk nb c φ Φ U m λh hh=>(al h hh).trans z;refine⟨Z,MR c φ _ _ _ _ _ _ _ ho tk i0 rfl aw (.inr ⟨by rw[z];rfl,by rw[z];exact hz⟩),.inr ⟨⟨h0,hm,by rw[z];exact λw=>by cases w⟩,hB⟩⟩
 | false =>
  rw[q] at aw;obtain⟨h,hh,nh⟩:∃ h∈lg n k (v,hJ),num n k Φ (v,hJ) h≠num n k Φ (v,hJ) h0:=by
   rw[qx,ne_eq,jJ] at q;exact jV λno=>q λh hh=>sX.mpr (jV λz=>no ⟨h,hh,z⟩)
  obtain⟨Z,hB,hz⟩:=Ry (b:=b) h5 (by omega) U (r:=(v,hJ)) o ct nb hh hm nh;refine⟨Z,UC c φ _ _ _ _ _ _ _ ho tk i0 rfl aw hz,.inr ⟨?_,hB⟩⟩;by_cases w:num n k Φ (v,hJ) h=.none
  .exact⟨h0,hm,λz=>nh (w.trans z.symm)⟩
  .exact⟨h,hh,w⟩
noncomputable def mP (b:Nat)(d:D):D:=match (om [d,.int (b:Int)]).getD .none with
 | .int i=>.int i
 | _=>.none
theorem YQ (b:Nat)(d:D):oe (mP b d):=by
 unfold mP;split
 .exact .inr ⟨_,rfl⟩
 .exact .inl rfl
theorem MD {n b:Nat}(h2:2<=n)(h5:n<=5)(v:Nat->Int){E:Fs}(o:Ok n E 5){h k:Nat}(hh:h<n)(hk:k<=4):∃ m:Int,pb ((kn (gQ n E) n k h).map λx=>(ij n v).getD x .none)=Ga (.int m)/\om [vw (ij n v) (gQ n E) k h,.int (b:Int)]=Ga (tl (decide ((b:Int)+1<=(k:Int))||cn n (gQ n E) h k) m) /\
  mP b (vw (ij n v) (gQ n E) k h)=tl (decide ((b:Int)+1<=(k:Int))||cn n (gQ n E) h k) m:=by
 have G:=tM h2 h5 (jh 5) o;have ln:=lR n v;have hi:=ES n v;obtain⟨m,hm⟩:=zxR (ij n v) (gQ n E) hi k h (by rw[ln];exact hh);have le:=YB (ij n v) (gQ n E) hi (by rw[ln];exact h5) k h hk (by rw[ln];exact hh) hm;have cp:=zDv (ij n v) (gQ n E) (by rw[ln];exact G) hi k h (by rw[ln];exact hh) (by omega);have ro:=AM (ij n v) (gQ n E) hi k h (by rw[ln];exact hh) (by omega);rw[ln] at hm cp;have se:=XJ _ _ (b:Int) _ ro le _ cp;refine⟨m,hm,se,?_⟩;unfold mP;rw[se];cases(decide ((b:Int)+1<=(k:Int))||cn n (gQ n E) h k)<;>rfl
theorem PJ (Φ:Nat->D):∀ (m a:Nat),(nO Φ a m=.none/\∀ j,a<=j->j<a+m->Φ j=.none)\/∃ j,a<=j/\j<a+m/\Φ j≠.none/\nO Φ a m=Φ j
 | 0,a=>.inl ⟨rfl,λj h1 h2=>by omega⟩
 | m+1,a=>by
  unfold nO;by_cases c:Φ a=.none
  .rw[Ge c];rcases PJ Φ m (a+1) with ⟨z1,z2⟩|⟨j,j1,j2,j3,j4⟩
   .refine .inl ⟨z1,λj h1 h2=>?_⟩;by_cases e:j=a
    .rw[e];exact c
    .exact z2 j (by omega) (by omega)
   .exact .inr ⟨j,by omega,by omega,j3,j4⟩
  .rw[Gf c];exact .inr ⟨a,jh _,by omega,c,rfl⟩
theorem Ep {n b K:Nat}(h2:2<=n)(h5:n<=5){r:Rn}(o:Ok n r.2 5){h:Nat}(hh:h<n)(hK:K<=4):(num n K (mP b) r h=.none/\∀ j,j<=K->cn n (gQ n r.2) h j=false/\j<b+1) \/
  ∃ (j:Nat) (i:Int),j<=K/\(cn n (gQ n r.2) h j=true\/b+1<=j)/\pb ((kn (gQ n r.2) n j h).map λx=>(ij n r.1).getD x .none)=Ga (.int i)/\num n K (mP b) r h=.int i:=by
 unfold num;rcases PJ (λj=>mP b (vw (ij n r.1) (gQ n r.2) j h)) (K+1) 0 with ⟨z1,z2⟩|⟨j,_,j2,j3,j4⟩
 .refine .inl ⟨z1,λj hj=>?_⟩;obtain⟨m,_,_,e⟩:=MD (b:=b) h2 h5 r.1 o hh (show j<=4 by omega);have z:=z2 j (jO _) (by omega);rw[e] at z;cases c:(decide ((b:Int)+1<=(j:Int))||cn n (gQ n r.2) h j) with
  | true=>rw[c] at z;cases z
  | false =>
   rw[Bool.or_eq_false_iff,decide_eq_false_iff_not] at c;exact⟨c.2,by omega⟩
 .obtain⟨m,hm,_,e⟩:=MD (b:=b) h2 h5 r.1 o hh (show j<=4 by omega);rw[e] at j3 j4;cases c:(decide ((b:Int)+1<=(j:Int))||cn n (gQ n r.2) h j) with
  | false=>rw[c] at j3;exact absurd rfl j3
  | true =>
   rw[c] at j4;rw[kj,decide_eq_true_eq] at c;exact .inr ⟨j,m,by omega,c.elim (λc=>.inr (by omega)) .inl,hm,j4⟩
theorem XQ {n b K:Nat}(h2:2<=n)(h5:n<=5)(v:Nat->Int)(h1:1<=K)(hK:K<=4){h:Nat}(hh:h<n):num n K (mP b) (v,hJ) h≠.none:=by
 have o:Ok n hJ 5:=⟨λi a m z=>(by cases z),λi a m z=>(by cases z),λi a m z=>(by cases z)⟩;have G:=tM h2 h5 (jh 5) o;rcases Ep (b:=b) (r:=(v,hJ)) h2 h5 o hh hK with ⟨_,z⟩|⟨j,i,_,_,_,e⟩
 .have c:cn n (gQ n hJ) h 1=true:=by
   refine(Ho h2 h5 _ h).mpr λx hx=>?_;unfold hd;rw[kj];refine .inr ((wg G x h _).mpr λf hf=>?_);have:=(pP.mp hf).2;cases this
  have:=(z 1 h1).1;rw[show gQ n ((v,hJ):Rn).2=gQ n hJ from rfl,c] at this;cases this
 .rw[e];exact λz=>by cases z
theorem XE {n b K:Nat}(h2:2<=n)(h5:n<=5){r:Rn}(o:Ok n r.2 5)(hK:K<=4){h:Nat}(hh:h<n){x:Int}(hx:∀ i,i<n->r.1 i=x):num n K (mP b) r h=.none\/num n K (mP b) r h=.int x:=by
 rcases Ep (b:=b) h2 h5 o hh hK with ⟨z,_⟩|⟨j,i,_,_,m,e⟩
 .exact .inl z
 .refine .inr (e.trans ?_);obtain⟨y,hy,e2⟩:=jv.mp (zAs m);have hy:=Qf hy;rw[jg,AU hy,hx y hy] at e2;exact e2.symm
abbrev lz (b:Nat)(r:Rn):Rn:=(r.1,lx r.2 (b+1))
theorem CV {n b:Nat}{E:Fs}{f:Fl}:f∈gQ n (lx E (b+1))↔f∈gQ n E/\f.a<=(b:Int):=by
 rw[pP,pP];unfold lx;cases e:E f.h with
 | none=>exact⟨λz=>absurd z.2 (λw=>by cases w),λz=>absurd z.1.2 (λw=>by cases w)⟩
 | some w =>
  obtain⟨a,m⟩:=w;dsimp only;by_cases c:a<((b+1:Nat):Int)
  .rw[Ge c];refine⟨λz=>⟨z,?_⟩,λz=>z.1⟩;have:=(congrArg Prod.fst (jD z.2):a=f.a);omega
  .rw[Gf c];refine⟨λz=>absurd z.2 (λw=>by cases w),λz=>?_⟩;have:=(congrArg Prod.fst (jD z.1.2):a=f.a);omega
theorem WR {n b:Nat}(h2:2<=n)(h5:n<=5){E:Fs}(o:Ok n E 5)(h k:Nat)(hk:k<=b):up (gQ n (lx E (b+1))) h (k:Int)=up (gQ n E) h (k:Int):=by
 have G:=tM h2 h5 (jh 5) o;by_cases b5:b<=5
 .have G2:=tM h2 h5 b5 (EB (a:=b) o);rw[jS,oW G,oW G2];refine⟨λz f hf e=>?_,λz f hf e=>z f (CV.mp hf).1 e⟩;by_cases c:f.a<=(b:Int)
  .exact z f (CV.mpr ⟨hf,c⟩) e
  .omega
 .have e:lx E (b+1)=E:=by
   funext i
   unfold lx;cases q:E i with
   | none=>rfl
   | some w =>
    obtain⟨a,m⟩:=w;have:=(o.rnd i a m q).2;dsimp only;rw[Ge (by omega)]
  rw[e]
theorem XG {n b:Nat}(h2:2<=n)(h5:n<=5)(b5:b<=5){E:Fs}(o:Ok n E 5)(x h k:Nat)(hk:k<=b):cm (gQ n (lx E (b+1))) x h (k:Int)=cm (gQ n E) x h (k:Int):=by
 have G:=tM h2 h5 (jh 5) o;have G2:=tM h2 h5 b5 (EB (a:=b) o);rw[jS,wg G,wg G2];refine⟨λz f hf=>?_,λz f hf=>z f (CV.mp hf).1⟩;by_cases c:f.a<=(b:Int)
 .exact z f (CV.mpr ⟨hf,c⟩)
 .exact⟨λ_=>by omega,λ_=>⟨by omega,λz=>by omega⟩⟩
theorem QC {n b:Nat}(h2:2<=n)(h5:n<=5)(b5:b<=5){E:Fs}(o:Ok n E 5)(ns:List D):∀ k h,k<=b->vw ns (gQ n (lx E (b+1))) k h=vw ns (gQ n E) k h
 | 0,h,_=>rfl
 | k+1,h,hk=>by
  unfold vw;refine congrArg (λl=>jX [.int (h:Int),.tuple l]) (jW λx _=>?_);rw[XG h2 h5 b5 o x h (k+1) hk,QC h2 h5 b5 o ns k x (by omega)]
theorem Qh {n b K:Nat}(h2:2<=n)(h5:n<=5)(b5:b<=5)(hK:K<=b){Φ:D->D}{r:Rn}(o:Ok n r.2 5)(h:Nat):num n K Φ (lz b r) h=num n K Φ r h :=
 Ib _ _ λj hj=>congrArg Φ (QC h2 h5 b5 o _ j h (by omega))
theorem OC {n b:Nat}(h2:2<=n)(h5:n<=5){r:Rn}(o:Ok n r.2 5):lg n b (lz b r)=lg n b r :=
 uo λh _=>WR h2 h5 o h b (jh _)
theorem NT {n b:Nat}(h2:2<=n)(h5:n<=5)(b3:b<=3)(b1:1<=b){r:Rn}(o:Ok n r.2 5)(ct:iB n r.2<=b){h u:Nat}(hm:h∈lg n b r)(um:u∈lg n b r)(ne:num n b (mP b) r h≠num n b (mP b) r u) :
  iB n (lx r.2 (b+1))=b/\(((num n b (mP b) (lz b r) h=.none/\num n b (mP b) (lz b r) u≠.none)\/(num n b (mP b) (lz b r) h≠.none/\num n b (mP b) (lz b r) u=.none))) /\
  ∀ x,x∈lg n b r->x∈lg n (b+1) (lz b r)/\num n (b+1) (mP b) (lz b r) x≠.none:=by
 have o2:=(EB (a:=b) o).mono (show b<=5 by omega);have G2:=tM h2 h5 (jh 5) o2;have c2:=zDe (n:=n) (E:=r.2) (a:=b+1);have fl:(gQ n (lx r.2 (b+1))).length<=b:=by rw[yB];omega
 have u5:∀ x,x∈lg n b r->x<n/\up (gQ n (lx r.2 (b+1))) x ((5:Nat):Int)=true:=λx hx=>by
  refine⟨xD hx,(oW G2 x _).mpr λf hf e=>?_⟩;have hx:=hx;rw[<- OC h2 h5 o] at hx;have w:=(oW G2 x _).mp (jL.mp hx).2 f hf e;have:=(CV.mp hf).2;omega
 obtain⟨hn,hu5⟩:=u5 h hm;obtain⟨un,uu5⟩:=u5 u um;rw[<- Qh (Φ:=mP b) h2 h5 (show b<=5 by omega) (jh b) o h,<- Qh (Φ:=mP b) h2 h5 (show b<=5 by omega) (jh b) o u] at ne;have S:=λ{x} (xn:x<n)=>Ep (b:=b) (K:=b) (r:=lz b r) h2 h5 o2 xn (by omega);have low:∀ x,x<n->up (gQ n (lx r.2 (b+1))) x ((5:Nat):Int)=true->num n b (mP b) (lz b r) x=.none->iB n (lx r.2 (b+1))=b:=λx xn xu z=>by
  rcases S xn with ⟨_,q⟩|⟨_,i,_,_,_,e⟩
  .refine jV λno=>?_;obtain⟨k,k1,k2,k3⟩:=Xm G2 (f:=b-1) (h:=x) (by rw[yB];omega) xn (rQ G2 (by omega) xu);have:=(q k (by omega)).1;rw[show gQ n (lz b r).2=gQ n (lx r.2 (b+1)) from rfl,k3] at this;cases this
  .rw[e] at z;cases z
 refine⟨?_,?_,λx hx=>?_⟩
 .rcases S hn with ⟨z,_⟩|⟨j,i,j1,j2,j3,e⟩
  .exact low h hn hu5 z
  .rcases S un with ⟨z,_⟩|⟨j',i',j1',j2',j3',e'⟩
   .exact low u un uu5 z
   .exfalso;refine ne (e.trans (Eq.trans ?_ e'.symm));have:kn (gQ n (lx r.2 (b+1))) n j h=kn (gQ n (lx r.2 (b+1))) n j' u:=by
     unfold kn;refine uo λx _=>?_;rw[jS];exact SI G2 fl (by omega) hn un hu5 uu5 (by omega) (by omega) (j2.imp_right λz=>by omega) (j2'.imp_right λz=>by omega) x
    rw[show gQ n (lz b r).2=gQ n (lx r.2 (b+1)) from rfl] at j3 j3';rw[this,j3'] at j3;exact(jD j3).symm
 .rcases S hn with ⟨z,_⟩|⟨j,i,j1,j2,j3,e⟩
  .exact .inl ⟨z,λw=>ne (z.trans w.symm)⟩
  .rcases S un with ⟨z,_⟩|⟨j',i',j1',j2',j3',e'⟩
   .exact .inr ⟨by rw[e];exact λw=>(by cases w),z⟩
   .exfalso;refine ne (e.trans (Eq.trans ?_ e'.symm));have:kn (gQ n (lx r.2 (b+1))) n j h=kn (gQ n (lx r.2 (b+1))) n j' u:=by
     unfold kn;refine uo λx _=>?_;rw[jS];exact SI G2 fl (by omega) hn un hu5 uu5 (by omega) (by omega) (j2.imp_right λz=>by omega) (j2'.imp_right λz=>by omega) x
    rw[show gQ n (lz b r).2=gQ n (lx r.2 (b+1)) from rfl] at j3 j3';rw[this,j3'] at j3;exact(jD j3).symm
 .obtain⟨xn,xu⟩:=u5 x hx;refine⟨jL.mpr ⟨jl.mpr xn,rQ G2 (by omega) xu⟩,?_⟩;rcases Ep (b:=b) (K:=b+1) (r:=lz b r) h2 h5 o2 xn (by omega) with ⟨_,q⟩|⟨j,i,_,_,_,e⟩
  .have:=(q (b+1) (jh _)).2;omega
  .rw[e];exact λz=>by cases z
theorem zGq (ns:List Int):iy (.list (ns.map jc))=Ga (.int (ns.length:Int)):=by
 show Ga (jc ((ns.map jc).length:Nat))=_;rw[jb]
theorem Oj (l:Nat):wz (.int 63) (.int (l:Int))=Ga (.int ((min 63 l:Nat):Int)):=by
 show Ga (jc (if (l:Int)<63 then(l:Int) else 63))=_;refine congrArg (λx=>Ga (jc x)) ?_;split<;>omega
theorem Va {it:Nat}{P:Gj}{mk:(D->Option D)->ib}{fb:FV}{fm:ib->(D->Option D)->List D->Option D}{ix:List Nat}{g:FL}{ψ:En}{cs as:List D}{X:D}(φ:D->Option D)(e:φ=λd=>fb (.val d::cs.map .val))(h1:ψ[it]?=Ga (.tab P))(h2:wV ψ ix=Ga cs)(h3:g ψ=Ga as)(h4:fm (mk φ) φ as=Ga X):mi it P mk fb fm ix g ψ=Ga X:=by
 unfold mi;rw[Ge h1,h2,jn,h3,jn,<- e];exact h4
def oT (f:Nat->D)(us:List Nat):List (Int×D):=us.map λ(h:Nat)=>((h:Int),f h)
theorem Fy {f:Nat->D}{h:Nat}:∀ {us:List Nat},h∈us->nr (oT f us) (h:Int)=Ga (f h)
 | x::r,hh=>by
  by_cases c:x=h
  .subst c;unfold nr oT;rw[jI,kD (by exact Gc rfl)];rfl
  .have ih:=Fy (f:=f) (h:=h) (us:=r) ((ju.mp hh).resolve_left λz=>c z.symm);unfold nr oT at ih ⊢;rw[jI,kA (by exact λz=>c (by have:((x:Nat):Int)=(h:Int):=of_decide_eq_true z;omega))];exact ih
theorem Rg {kvs:List (Int×D)}{k:Int}{d:D}(h:∀ p∈kvs,p.1≠k):mL kvs k d=kvs++[(k,d)]:=by
 unfold mL;rw[Gf];intro z;obtain⟨p,h1,h2⟩:=uN.mp z;exact h p h1 (of_decide_eq_true h2)
theorem zFJ {n b:Nat}(h2:2<=n)(h5:n<=5){r:Rn}(o:Ok n r.2 5)(ct:iB n r.2<=b)(nb:∀ i,i<n->rC (r.1 i)):rg [iV n r,.int (n:Int),.int (b:Int)]=Ga (.bool true):=by
 have ln:((je n).map r.1).length=n:=by rw[jb,jG]
 have:=Yp ((je n).map r.1) r.2 b (by rw[ln];exact h2) (by rw[ln];exact h5) (λx hx=>by
  obtain⟨i,hi,rfl⟩:=jv.mp hx;exact nb i (jl.mp hi)) (by rw[ln];exact o) (by rw[ln];exact ct)
 rw[ln,<- Kw] at this;exact this
theorem zGr (Lx Ly Lz:FV)(K:FS)(eK:K=(gy fM (gy (mn fu fT (oh 4 (gw lM (gw lP (gY oZ bX) ah) fA))) (gy ay (gy (iW 6 Lx) (gy ag (gy (gP (og (lO (gY rg aV))) eh gW) (gy af (gy fY (gy (mn (mX Ly) cA eG) (gy (gP (iA br (iA (gZ ls du gi) (iA (gZ ls dv gi) aN))) eh gW) (gy (gP (gZ iT (gw iR (gw iI gi du) fQ) (gw iR (gw iI gi dv) fQ)) eh gW) (gy cD (gy (gP (gZ iY (gw iI gi fX) fQ) cE gW) (gP (gZ iR (gw iI Lz fX) fQ) eh gW)))))))))))))))(S:D)(cut:List D)(k s M n:Int)(y1 y2 y3 y4 y5 y6 y7 y8 y9 y10 y11 y12 y13:Sl)(hsl:tj S (Ga k) (Ga (k+9))=Ga (.list cut))(hsum:wZ cut=Ga (.int s))(hM:xV [.int s,.int k]=Ga (.int M))(hm2:∀ x:Int,lP (.int x) (.int 2)=Ga (.int (x%2)))(h:(k=0/\M%2=0/\n=4)\/(¬(k=0/\M%2=0)/\n=3)) :
  (lG 1 (.int k) [.val S,y1,y2,y3,y4,y5,y6,y7,y8,y9,y10,y11,y12,y13]).bind (gy (iW 2 (gY xV (gI (pX wZ (sK bc)) eZ))) (gy (iW 3 fE) (gy aq (gy fM (gy (mn fu fT (oh 4 (gw lM (gw lP (gY oZ bX) ah) fA))) (gy ay (gy (iW 6 Lx) (gy ag (gy (gP (og (lO (gY rg aV))) eh gW) (gy af (gy fY (gy (mn (mX Ly) cA eG) (gy (gP (iA br (iA (gZ ls du gi) (iA (gZ ls dv gi) aN))) eh gW) (gy (gP (gZ iT (gw iR (gw iI gi du) fQ) (gw iR (gw iI gi dv) fQ)) eh gW) (gy cD (gy (gP (gZ iY (gw iI gi fX) fQ) cE gW) (gP (gZ iR (gw iI Lz fX) fQ) eh gW)))))))))))))))))=K [.val S,.val (.int k),.val (.int M),.val (.int n),y4,y5,y6,y7,y8,y9,y10,y11,y12,y13]:=by
 rw[<- eK];generalize xV=A1 at *;rcases h with ⟨h1,h2,rfl⟩|⟨h1,rfl⟩
 .simp_arith[hsl,hsum,hM,hm2,Gc h1,Gc h2]
 .by_cases c1:k=0
  .have h2:¬M%2=0:=λz=>h1 ⟨c1,z⟩;simp_arith[hsl,hsum,hM,hm2,Gc c1,Gd h2]
  .simp_arith[hsl,hsum,hM,hm2,Gd c1]
theorem Ug (S:D)(k j a M q T Q:Int)(xs:List D)(x3 x5 x6 x7 x8 x9 x10 x11 x12 x13:Sl)(h1:oZ [S,.int (k+j)]=Ga (.int a))(pw:D->D->Option D)(hq:pw (.int 10) (.int 59)=Ga (.int T))(h4:nE (.int 2) (.int T)=Ga (.int (2*T)))(d2:nX (.int M) (.int 2)=Ga (.int (M/2)))(m2:lP (.int (M/2)) (.int 2)=Ga (.int q))(hx:L2.atI [jc (2*T),.int 3] q=Ga (.int Q))(hm:lP (.int a) (.int Q)=Ga (.int (a%Q)))(hl:xs.length<1000000) :
  lX (λψ=>∃ x5,ψ=[.val S,.val (.int k),.val (.int M),x3,.own (xs++[.int (a%Q-1)]),x5,x6,x7,x8,x9,x10,x11,x12,x13]) ((lG 5 (.int j) [.val S,.val (.int k),.val (.int M),x3,.own xs,x5,x6,x7,x8,x9,x10,x11,x12,x13]).bind (oh 4 (gw lM (gw lP (gY oZ bX) (gw gC (oD (gI (gw nE fx (gw pw fv (lQ (.int 59)))) (gI fE lD))) bp)) fA))):=by
 generalize oZ=A1 at *;simp_arith[h1,hq,h4,d2,m2,hx,hm,Ge hl];exact oy ⟨_,rfl⟩
theorem zGs (Lx Ly Lz:FV)(K:FS)(eK:K=(gy ay (gy (iW 6 Lx) (gy ag (gy (gP (og (lO (gY rg aV))) eh gW) (gy af (gy fY (gy (mn (mX Ly) cA eG) (gy (gP (iA br (iA (gZ ls du gi) (iA (gZ ls dv gi) aN))) eh gW) (gy (gP (gZ iT (gw iR (gw iI gi du) fQ) (gw iR (gw iI gi dv) fQ)) eh gW) (gy cD (gy (gP (gZ iY (gw iI gi fX) fQ) cE gW) (gP (gZ iR (gw iI Lz fX) fQ) eh gW)))))))))))))(S:D)(k M n:Int)(N:Nat)(W:Nat->List D)(h0:W 0=[])(y4 y5 y6 y7 y8 y9 y10 y11 y12 y13:Sl)(hr:iL (.int n)=Ga ((je N).map λ(k:Nat)=>.int (k:Int)))(I:En->Prop)
  (st:∀ j:Nat,j<N->∀ x5,lX (λψ=>∃ x5,ψ=[.val S,.val (.int k),.val (.int M),.val (.int n),.own (W (j+1)),x5,y6,y7,y8,y9,y10,y11,y12,y13]) ((lG 5 (.int (j:Int)) [.val S,.val (.int k),.val (.int M),.val (.int n),.own (W j),x5,y6,y7,y8,y9,y10,y11,y12,y13]).bind (oh 4 (gw lM (gw lP (gY oZ bX) ah) fA))))
  (q:∀ x5,lX I (K [.val S,.val (.int k),.val (.int M),.val (.int n),.own (W N),x5,y6,y7,y8,y9,y10,y11,y12,y13])):lX I ((gy fM (gy (mn fu fT (oh 4 (gw lM (gw lP (gY oZ bX) ah) fA))) (gy ay (gy (iW 6 Lx) (gy ag (gy (gP (og (lO (gY rg aV))) eh gW) (gy af (gy fY (gy (mn (mX Ly) cA eG) (gy (gP (iA br (iA (gZ ls du gi) (iA (gZ ls dv gi) aN))) eh gW) (gy (gP (gZ iT (gw iR (gw iI gi du) fQ) (gw iR (gw iI gi dv) fQ)) eh gW) (gy cD (gy (gP (gZ iY (gw iI gi fX) fQ) cE gW) (gP (gZ iR (gw iI Lz fX) fQ) eh gW)))))))))))))) [.val S,.val (.int k),.val (.int M),.val (.int n),y4,y5,y6,y7,y8,y9,y10,y11,y12,y13]):=by
 rw[<- eK];have e:(gy fM (gy (mn fu fT (oh 4 (gw lM (gw lP (gY oZ bX) ah) fA))) (gy ay (gy (iW 6 Lx) (gy ag (gy (gP (og (lO (gY rg aV))) eh gW) (gy af (gy fY (gy (mn (mX Ly) cA eG) (gy (gP (iA br (iA (gZ ls du gi) (iA (gZ ls dv gi) aN))) eh gW) (gy (gP (gZ iT (gw iR (gw iI gi du) fQ) (gw iR (gw iI gi dv) fQ)) eh gW) (gy cD (gy (gP (gZ iY (gw iI gi fX) fQ) cE gW) (gP (gZ iR (gw iI Lz fX) fQ) eh gW))))))))))))))=(gy fM (gy (mn fu fT (oh 4 (gw lM (gw lP (gY oZ bX) ah) fA))) (gy ay (gy (iW 6 Lx) (gy ag (gy (gP (og (lO (gY rg aV))) eh gW) (gy af (gy fY (gy (mn (mX Ly) cA eG) (gy (gP (iA br (iA (gZ ls du gi) (iA (gZ ls dv gi) aN))) eh gW) (gy (gP (gZ iT (gw iR (gw iI gi du) fQ) (gw iR (gw iI gi dv) fQ)) eh gW) (gy cD (gy (gP (gZ iY (gw iI gi fX) fQ) cE gW) (gP (gZ iR (gw iI Lz fX) fQ) eh gW)))))))))))))):=rfl;have fin:∀ o,o=mf (iP fT (oh 4 (gw lM (gw lP (gY oZ bX) ah) fA)) ((je N).map λ(k:Nat)=>.int (k:Int)) [.val S,.val (.int k),.val (.int M),.val (.int n),.own (W 0),y5,y6,y7,y8,y9,y10,y11,y12,y13]) K->lX I o:=λo eo=>by
  obtain⟨e,h1,x5,rfl⟩:=DG (λj ψ=>∃ x5,ψ=[.val S,.val (.int k),.val (.int M),.val (.int n),.own (W j),x5,y6,y7,y8,y9,y10,y11,y12,y13]) N (λj hj ψ ⟨x5,he⟩=>by subst he;exact st j hj x5) N 0 _ (qf _) ⟨y5,rfl⟩;rw[<- uF] at h1;rw[eo,h1];exact q x5
 rw[h0] at fin
 generalize (oh 4 (gw lM (gw lP (gY oZ bX) ah) fA))=Bd at *;refine fin _ ?_;simp_arith[hr]
theorem YJ (Lx Ly Lz:FV)(K:FS)(eK:K=(gy fY (gy (mn (mX Ly) cA eG) (gy (gP (iA br (iA (gZ ls du gi) (iA (gZ ls dv gi) aN))) eh gW) (gy (gP (gZ iT (gw iR (gw iI gi du) fQ) (gw iR (gw iI gi dv) fQ)) eh gW) (gy cD (gy (gP (gZ iY (gw iI gi fX) fQ) cE gW) (gP (gZ iR (gw iI Lz fX) fQ) eh gW))))))))(S Z R N F N' F' tn:D)(fs fs' Ns:List D)(k M n b e:Int)(Pt:Gj)(y5 y6 y7 y8 y9 y10 y11 y12:Sl)(d4:nX (.int M) (.int 4)=Ga (.int (M/4)))(hm:lP (.int (M/4)) (.int (n-2))=Ga (.int e))(hb:1+e=b)
  (hZ:∀ y6 y7,Lx [.val S,.val (.int k),.val (.int M),.val (.int n),.own Ns,y5,y6,y7,y8,y9,y10,y11,.val (.int b),.tab Pt]=Ga Z) (t0:sk "tuple" Z=Ga (.bool true)) (hl:iy Z=Ga (.int 4)) (i0:gC Z (.int 0)=Ga tn) (et:tn=.str fS) (e0:lL tn tn=Ga (.bool false)) (i1:gC Z (.int 1)=Ga R) (hg:rg [R,.int n,.int b]=Ga (.bool true)) (r0:gC R (.int 0)=Ga N) (r1:gC R (.int 1)=Ga F) (hs:toS F=Ga fs) (fl:fs.length<=1000000) (hc:lc bU fZ [.val (.int b)] fs=Ga fs') :
  (gy ay (gy (iW 6 Lx) (gy ag (gy (gP (og (lO (gY rg aV))) eh gW) (gy af (gy fY (gy (mn (mX Ly) cA eG) (gy (gP (iA br (iA (gZ ls du gi) (iA (gZ ls dv gi) aN))) eh gW) (gy (gP (gZ iT (gw iR (gw iI gi du) fQ) (gw iR (gw iI gi dv) fQ)) eh gW) (gy cD (gy (gP (gZ iY (gw iI gi fX) fQ) cE gW) (gP (gZ iR (gw iI Lz fX) fQ) eh gW)))))))))))) [.val S,.val (.int k),.val (.int M),.val (.int n),.own Ns,y5,y6,y7,y8,y9,y10,y11,y12,.tab Pt]=K [.val S,.val (.int k),.val (.int M),.val (.int n),.own Ns,y5,.val Z,.val (.tuple [N,.tuple fs']),y8,y9,y10,y11,.val (.int b),.tab Pt]:=by
 have e4:lL (.int 4) (.int 4)=Ga (.bool false):=rfl;subst et;rw[<- eK];generalize rg=A1 at *;simp_arith[d4,hm,hb,hZ,t0,hl,e4,i0,e0,i1,hg,r0,r1,hs,pr,Ge fl,hc]
theorem Ua (x0 x1 x2 x3 x4 x5 x6 x7 x9 x10 x11 x12 x13:Sl)(kv kv':List (Int×D))(h:Int)(X:D)(hl:kv.length<1000000)(hp:mL kv h X=kv'):(cA (.tuple [.int h,X]) [x0,x1,x2,x3,x4,x5,x6,x7,.dki Gb kv,x9,x10,x11,x12,x13]).bind eG=Ga (.nx [x0,x1,x2,x3,x4,x5,x6,x7,.dki Gb kv',.val (.int h),.val X,x11,x12,x13]):=by
 have e:xh 8 (gv 9) (gv 10) [x0,x1,x2,x3,x4,x5,x6,x7,.dki Gb kv,.val (.int h),.val X,x11,x12,x13]=if kv.length<1000000 then Ga (.nx [x0,x1,x2,x3,x4,x5,x6,x7,.dki Gb (mL kv h X),.val (.int h),.val X,x11,x12,x13]) else Gb:=rfl;rw[Ge hl,hp] at e;simp_arith[e]
theorem zGu (Lx Ly Lz:FV)(K:FS)(eK:K=(gy (gP (iA br (iA (gZ ls du gi) (iA (gZ ls dv gi) aN))) eh gW) (gy (gP (gZ iT (gw iR (gw iI gi du) fQ) (gw iR (gw iI gi dv) fQ)) eh gW) (gy cD (gy (gP (gZ iY (gw iI gi fX) fQ) cE gW) (gP (gZ iR (gw iI Lz fX) fQ) eh gW))))))(S k M n Z Rn b:D)(Ns ts:List D)(Pt:Gj)(x5 x8 x9 x10 x11:Sl)(hY:∀ x8,Ly [.val S,.val k,.val M,.val n,.own Ns,x5,.val Z,.val Rn,x8,x9,x10,x11,.val b,.tab Pt]=Ga (.list ts)) :
  (gy fY (gy (mn (mX Ly) cA eG) (gy (gP (iA br (iA (gZ ls du gi) (iA (gZ ls dv gi) aN))) eh gW) (gy (gP (gZ iT (gw iR (gw iI gi du) fQ) (gw iR (gw iI gi dv) fQ)) eh gW) (gy cD (gy (gP (gZ iY (gw iI gi fX) fQ) cE gW) (gP (gZ iR (gw iI Lz fX) fQ) eh gW))))))) [.val S,.val k,.val M,.val n,.own Ns,x5,.val Z,.val Rn,x8,x9,x10,x11,.val b,.tab Pt]=mf (iP cA eG ts [.val S,.val k,.val M,.val n,.own Ns,x5,.val Z,.val Rn,.dki Gb [],x9,x10,x11,.val b,.tab Pt]) K:=by
 have hs:toS (.list ts)=Ga ts:=rfl;rw[<- eK];generalize eG=Bd;generalize uQ ts=TS at *;simp_arith[hY,hs]
theorem Yg (Lx Ly Lz:FV)(I:En->Prop)(S k M n Z N F' DD X Y W:D)(Ns:List D)(l b h u:Int)(Pt:Gj)(x5 x9 x10 x11:Sl)(kv kv2:List (Int×D))(i2:gC Z (.int 2)=Ga (.int h))(i3:gC Z (.int 3)=Ga (.int u))(hu:h<u)(hl:iy F'=Ga (.int l))(lb:l=b)(a1:nr kv h=Ga X)(a2:nr kv u=Ga Y)
  (hZ:∀ y5 y9 y10 y11,Lz [.val S,.val k,.val M,.val n,.val (.list Ns),y5,.val Z,.val (.tuple [N,F']),.val (re kv),y9,y10,y11,.val (.int b),.tab Pt]=Ga DD) (kd2:pz DD=Ga kv2) (late:Int) (a3:nr kv2 late=Ga W) (w:iR W .none=Ga (.bool false))
  (q:(X=.none/\iR Y .none=Ga (.bool false)/\late=h)\/(iR X .none=Ga (.bool false)/\iY X .none=Ga (.bool true)/\Y=.none/\late=u)) (i:∀ x11,I [.val S,.val k,.val M,.val n,.own Ns,x5,.val Z,.val (.tuple [N,F']),.dki Gb kv,x9,x10,x11,.val (.int b),.tab Pt]) :
  lX I ((gy (gP (iA br (iA (gZ ls du gi) (iA (gZ ls dv gi) aN))) eh gW) (gy (gP (gZ iT (gw iR (gw iI gi du) fQ) (gw iR (gw iI gi dv) fQ)) eh gW) (gy cD (gy (gP (gZ iY (gw iI gi fX) fQ) cE gW) (gP (gZ iR (gw iI Lz fX) fQ) eh gW))))) [.val S,.val k,.val M,.val n,.own Ns,x5,.val Z,.val (.tuple [N,F']),.dki Gb kv,x9,x10,x11,.val (.int b),.tab Pt]):=by
 have kd:=Fx kv;have j1:L2.atI [N,F'] 1=Ga F':=rfl;have n0:iR (.none) .none=Ga (.bool true):=rfl;have n1:iY (.none) .none=Ga (.bool false):=rfl;have e1:iT (.bool true) (.bool false)=Ga (.bool false):=rfl;have e2:iT (.bool false) (.bool true)=Ga (.bool false):=rfl;have s0:(Ga X).isSome=true:=rfl;have s1:(Ga Y).isSome=true:=rfl;subst lb;have eb:lL (.int l) (.int l)=Ga (.bool false):=by rw[El,Gd (λw=>w rfl)]
 rcases q with ⟨rfl,y,rfl⟩|⟨x,x',rfl,rfl⟩
 .simp_arith[j1,hl,eb,i2,i3,kd,a1,a2,s0,s1,Gc hu,n0,n1,y,e1,hZ,kd2,a3,w];exact oy (i _)
 .simp_arith[j1,hl,eb,i2,i3,kd,a1,a2,s0,s1,Gc hu,n0,n1,x,x',e2,hZ,kd2,a3,w];exact oy (i _)
theorem Qb (f:Nat->D):∀ us:List Nat,tF (oX f us)=Ga (oT f us)
 | []=>rfl
 | x::r=>by
  show(tF (oX f r)).bind (λl=>Ga (((x:Int),f x)::l))=_;rw[Qb f r];rfl
theorem Ro (f:Nat->D):∀ us pre:List Nat,(pre++us).Pairwise (·<·)->(oT f us).foldl (λacc p=>mL acc p.1 p.2) (oT f pre)=oT f (pre++us)
 | [],pre,_=>by rw[kg];rfl
 | x::r,pre,hp=>by
  have e:mL (oT f pre) (x:Int) (f x)=oT f (pre++[x]):=by
   rw[Rg]
   .unfold oT;rw[jZ];rfl
   .intro p hp2 z;obtain⟨y,hy,rfl⟩:=jv.mp hp2;have:y<x:=(v5.mp hp).2.2 y hy x jf;dsimp only at z;omega
  show(oT f r).foldl _ (mL (oT f pre) (x:Int) (f x))=_;rw[e,Ro f r (pre++[x]) (by rw[kP];exact hp),kP];rfl
theorem ZA (L:FV)(ψ:En)(f:Nat->D)(us:List Nat)(asc:us.Pairwise (·<·))(ul:us.length<=5)(h:L ψ=Ga (.list (oX f us))):we (sK L) ψ=Ga (re (oT f us)):=by
 have e:sK L ψ=Ga (oX f us):=by
  show(L ψ).bind wO=_;rw[h];rfl
 unfold we;rw[e,jn,Qb,jn,Ge (by unfold oT;rw[jb];omega)];exact congrArg (λl=>Ga (re l)) (Ro f us [] asc)
theorem zGw (n b:Nat)(E:Fs):lc bU fZ [.val (.int (b:Int))] ((gQ n E).map fd)=Ga ((gQ n (lx E (b+1))).map fd):=by
 rw[zv fd (λf=>decide (f.a<=(b:Int))) fd (λf _=>by simp_arith[zFe]) (λf _ _=>rfl),WD];have:(λi=>(E i).bind λ(w:Int×Nat)=>if decide ((⟨i,w.1,w.2⟩:Fl).a<=(b:Int))=true then Ga w else Gb)=lx E (b+1):=by
  funext i
  unfold lx;cases E i with
  | none=>rfl
  | some w =>
   obtain⟨a,m⟩:=w;dsimp only;rw[jn];by_cases c:a<=(b:Int)
   .rw[Ge (Gc c),Ge (by omega)]
   .rw[Gf (λz=>c (of_decide_eq_true z)),Gf (by omega)]
 rw[this]
theorem US (Bd:FS)(Pt:Gj)(S:D)(l m:Int)(Ks:List D)(h1:iy S=Ga (.int l))(h2:wz (.int 63) (.int l)=Ga (.int m))(h3:tS (.int 0) (.int m) (.int 9)=Ga Ks)(q:gO (mf (iP (lG 1) Bd Ks [.val S,.no,.no,.no,.no,.no,.no,.no,.no,.no,.no,.no,.no,.tab Pt]) eC)=Ga (.bool true)) :
  gO ((gy (mn (MU tS fy (gw wz (lQ (.int 63)) ft) fB) (lG 1) Bd) eC) [.val S,.no,.no,.no,.no,.no,.no,.no,.no,.no,.no,.no,.no,.tab Pt])=Ga (.bool true):=by
 simp_arith[h1,h2,h3];exact q
theorem BK (n:Nat)(r:Rn):iV n r=.tuple [.tuple (ij n r.1),.tuple ((gQ n r.2).map fd)]:=by unfold iV mI rd;rw[lR]
theorem zA7 {n b:Nat}(n3:3<=n)(n4:n<=4)(b1:1<=b)(b2:b+2<=n)(v:Nat->Int)(nb:∀ i,i<n->rC (v i))(c:ib)(φ:D->Option D)(U:Ru n φ (mP b)) :
  ∃ (r:Rn) (h u:Nat),Ok n r.2 5/\iB n r.2<=b/\(∀ i,i<n->rC (r.1 i))/\h∈lg n b r/\u∈lg n b r/\h<u/\num n b (mP b) r h≠num n b (mP b) r u/\tD c φ [.tuple [.tuple (ij n v),.tuple []],.int (b:Int),.int (b:Int)]=Ga (.tuple [.str fS,iV n r,.int (h:Int),.int (u:Int)]):=by
 obtain⟨Z,hZ,q⟩:=zyR n b b v (by omega) (by omega) (by omega) b2 (jh b) nb c φ (mP b) U;rw[BK,Ff] at hZ;rcases q with ⟨al,_⟩|⟨_,r,ok,ct,nb2,q⟩
 .exact absurd (al 0 (Cf (by omega) rfl)) (XQ (by omega) (by omega) v b1 (by omega) (by omega))
 .rcases q with ⟨h,u,hm,um,hu,ne,rfl⟩|⟨h,x,hm,hx,n1,n2,_⟩
  .exact⟨r,h,u,ok,ct,nb2,hm,um,hu,ne,hZ⟩
  .rcases XE (b:=b) (K:=b) (by omega) (by omega) ok (by omega) (xD hm) hx with z|z
   .exact absurd z n1
   .exact absurd z n2
theorem zyU (mk:(D->Option D)->ib)(Pt:Gj)(ns:List Int)(hn:ns.length<=63):zkX mk Pt [.list (ns.map jc)]=Ga (.bool true):=by
 obtain⟨K,hK,hB⟩:=Uw (min 63 ns.length) (by omega);obtain⟨T,hT,T0,T6,T1⟩:=DV;have pw:=Oe T hT;rw[ZZ];unfold Tj;refine US _ Pt _ _ _ _ (zGq ns) (Oj _) hK ?_;refine(congrArg gO (AB (f:=λ(k:Nat)=>(.int ((9*k:Nat):Int):D)) (R:=Ga (.rt (.bool true))) K (λ_ ψ=>∃ y1 y2 y3 y4 y5 y6 y7 y8 y9 y10 y11 y12,ψ=[.val (.list (ns.map jc)),y1,y2,y3,y4,y5,y6,y7,y8,y9,y10,y11,y12,.tab Pt]) ⟨_,_,_,_,_,_,_,_,_,_,_,_,rfl⟩ ?_ ?_)).trans rfl
 .rintro k0 hk0 _ ⟨y1,y2,y3,y4,y5,y6,y7,y8,y9,y10,y11,y12,rfl⟩;have hk:=hB k0 hk0;generalize 9*k0=k at hk;obtain⟨cut,s,c1,c2⟩:=zDr ns (Ga (k:Int)) (Ga ((k:Int)+9));obtain⟨M,M1,hM⟩:=zAN s k (by omega);obtain⟨n,hn4⟩:∃ n:Nat,(((k:Int)=0/\(M:Int)%2=0/\(n:Int)=4)\/(¬((k:Int)=0/\(M:Int)%2=0)/\(n:Int)=3)):=by
   by_cases c:(k:Int)=0/\(M:Int)%2=0
   .exact⟨4,.inl ⟨c.1,c.2,rfl⟩⟩
   .exact⟨3,.inr ⟨c,rfl⟩⟩
  have n3:3<=n:=by omega
  have n4:n<=4:=by omega
  rw[zGr _ _ _ _ rfl _ cut (k:Int) s (M:Int) (n:Int) y1 y2 y3 y4 y5 y6 y7 y8 y9 y10 y11 y12 _ c1 c2 hM (λ_=>yX (by decide)) hn4];clear hn4;have A:∀ j:Nat,∃ a,oZ [.list (ns.map jc),.int ((k:Int)+(j:Int))]=Ga (.int a):=λj=>by
   rw[show(k:Int)+(j:Int)=((k+j:Nat):Int) by omega];exact Wx ns (k+j)
  obtain⟨a,ha⟩:∃ a:Nat->Int,∀ j:Nat,oZ [.list (ns.map jc),.int ((k:Int)+(j:Int))]=Ga (.int (a j)):=⟨λj=>Classical.choose (A j),λj=>Classical.choose_spec (A j)⟩;obtain⟨Q,q0,q1,hQ⟩:∃ Q:Int,0<Q/\Q<=2*T/\L2.atI [jc (2*T),.int 3] ((M:Int)/2%2)=Ga (.int Q):=by
   have:(M:Int)/2%2=0\/(M:Int)/2%2=1:=by omega
   rcases this with z|z
   .exact⟨2*T,by omega,ux _,by rw[z];rfl⟩
   .exact⟨3,by omega,by omega,by rw[z];rfl⟩
  obtain⟨v,ev⟩:∃ v:Nat->Int,v=λj=>a j%Q-1:=⟨_,rfl⟩;have nb:∀ i,i<n->rC (v i):=λi hi=>by
   have b1:=Int.emod_nonneg (a i) (show Q≠0 by omega);have b2:=JF (a i) q0;have e:v i=a i%Q-1:=by rw[ev]
   unfold rC;rw[e,T6];split<;>omega
  have e0:=Int.emod_nonneg ((M:Int)/4) (show(n:Int)-2≠0 by omega);have e1:=JF ((M:Int)/4) (show(0:Int)<(n:Int)-2 by omega);obtain⟨b,hb⟩:∃ b:Nat,1+(M:Int)/4%((n:Int)-2)=(b:Int):=⟨(1+(M:Int)/4%((n:Int)-2)).toNat,by omega⟩;have b1:1<=b:=by omega
  have b2:b+2<=n:=by omega
  have hmd:=yX (i:=(M:Int)/4) (j:=(n:Int)-2) (by omega);have d4:nX (.int (M:Int)) (.int 4)=Ga (.int ((M:Int)/4)):=BM (by decide) (by decide);have d2:nX (.int (M:Int)) (.int 2)=Ga (.int ((M:Int)/2)):=BM (by decide) (by decide);have mu:nE (.int 2) (.int T)=Ga (.int (2*T)):=Ot (WX (by decide) (by decide));refine zGs _ _ _ _ rfl _ (k:Int) (M:Int) (n:Int) n (λj=>ij j v) rfl y4 y5 y6 y7 y8 y9 y10 y11 y12 _ (AH (by omega)) _ (λj hj x5=>?_) λx5=>?_
  .refine HB (Ug _ (k:Int) (j:Int) (a j) (M:Int) ((M:Int)/2%2) T Q (ij j v) _ x5 y6 y7 y8 y9 y10 y11 y12 _ (ha j) sf pw mu d2 (yX (by decide)) hQ (yX q0) (by rw[lR];omega)) λe ⟨x5,he⟩=>⟨x5,?_⟩;rw[he];have:ij (j+1) v=ij j v++[.int (a j%Q-1)]:=by
    unfold ij;rw[kz,jZ,ev];rfl
   rw[this]
  .obtain⟨φ,eφ⟩:∃ φ:D->Option D,φ=λd=>(gY om dF) (.val d::[jc (b:Int)].map .val):=⟨_,rfl⟩;have U:Ru n φ (mP b):=⟨YQ b,λv' E' o' h j hh hj=>by
    obtain⟨m,_,z1,z2⟩:=MD (b:=b) (show 2<=n by omega) (show n<=5 by omega) v' o' hh hj;rw[z2,eφ];exact TN om _ _ _ z1⟩
   obtain⟨r,h,u,ok,ct,nb2,hm,um,hu,ne,hZ⟩:=zA7 n3 n4 b1 b2 v nb (mk φ) φ U;obtain⟨s1,s2,s3⟩:=NT (show 2<=n by omega) (show n<=5 by omega) (show b<=3 by omega) b1 ok ct hm um ne;have o2:=(EB (a:=b) ok).mono (show b<=5 by omega);have LL:∀ (fm:ib->(D->Option D)->List D->Option D) (g:FL) (ψ:En) (as:List D) (Y:D),ψ[13]?=Ga (.tab Pt)->wV ψ [12]=Ga [jc (b:Int)]->g ψ=Ga as->(∀ c,fm c φ as=Ga Y)->mi 13 Pt mk (gY om dF) fm [12] g ψ=Ga Y:=λfm g ψ as Y a1 a2 a3 a4=>Yk a1 a2 a3 (by rw[eφ] at a4;exact a4);have T1:=λc=>Sg (show 2<=n by omega) (show n<=5 by omega) (show b<=4 by omega) U c (r:=lz b r) o2;have T2:=λc=>Sg (show 2<=n by omega) (show n<=5 by omega) (show b+1<=4 by omega) U c (r:=lz b r) o2;have q1:(PyData.str fS).canLay0=true:=by first|rfl|decide +kernel
   have us5:(lg n b (lz b r)).length<=5:=jF (Ca n b _) (by omega);have us6:(lg n (b+1) (lz b r)).length<=5:=jF (Ca n (b+1) _) (by omega);have fl5:((gQ n r.2).map fd).length<=1000000:=by rw[jb,yB];omega
   rw[BK] at T1 T2;rw[YJ (mi 13 Pt mk (gY om dF) tD [12] aF) (mi 13 Pt mk (gY om dF) rW [12] dB) (we (sK (mi 13 Pt mk (gY om dF) rW [12] bx))) _ rfl _ (.tuple [.str fS,iV n r,.int (h:Int),.int (u:Int)]) (iV n r) (.tuple (ij n r.1)) (.tuple ((gQ n r.2).map fd)) .none .none (.str fS) ((gQ n r.2).map fd) ((gQ n (lx r.2 (b+1))).map fd) (ij n v) (k:Int) (M:Int) (n:Int) (b:Int) _ Pt x5 y6 y7 y8 y9 y10 y11 y12 d4 hmd hb (λy6 y7=>Va φ eφ (cs:=[jc (b:Int)]) (as:=[.tuple [.tuple (ij n v),.tuple []],.int (b:Int),.int (b:Int)]) rfl rfl rfl hZ) rfl rfl rfl rfl (RY q1 (jO _)) rfl (zFJ (by omega) (by omega) ok ct nb2) (by rw[BK];rfl) (by rw[BK];rfl) rfl fl5 (zGw n b r.2)];rw[zGu (mi 13 Pt mk (gY om dF) tD [12] aF) (mi 13 Pt mk (gY om dF) rW [12] dB) (we (sK (mi 13 Pt mk (gY om dF) rW [12] bx))) _ rfl _ _ _ _ _ _ _ (ij n v) (oX (num n b (mP b) (lz b r)) (lg n b (lz b r))) Pt x5 y8 y9 y10 y11 (λx8=>LL _ _ _ [.tuple [.tuple (ij n r.1),.tuple ((gQ n (lx r.2 (b+1))).map fd)],.int (b:Int)] _ rfl rfl rfl T1)];have asc:=Kb n b (lz b r);obtain⟨e,h1,x9,x10,rfl⟩:=zxE (t:=cA) (g:=eG) (ψ:=[.val (.list (ns.map jc)),.val (.int (k:Int)),.val (.int (M:Int)),.val (.int (n:Int)),.own (ij n v),x5,.val (.tuple [.str fS,iV n r,.int (h:Int),.int (u:Int)]),.val (.tuple [.tuple (ij n r.1),.tuple ((gQ n (lx r.2 (b+1))).map fd)]),.dki Gb [],y9,y10,y11,.val (.int (b:Int)),.tab Pt]) (λ(h:Nat)=>jX [.int (h:Int),num n b (mP b) (lz b r) h]) (λpre ψ=>∃ x9 x10,ψ=[.val (.list (ns.map jc)),.val (.int (k:Int)),.val (.int (M:Int)),.val (.int (n:Int)),.own (ij n v),x5,.val (.tuple [.str fS,iV n r,.int (h:Int),.int (u:Int)]),.val (.tuple [.tuple (ij n r.1),.tuple ((gQ n (lx r.2 (b+1))).map fd)]),.dki Gb (oT (num n b (mP b) (lz b r)) pre),x9,x10,y11,.val (.int (b:Int)),.tab Pt]) (lg n b (lz b r)) ⟨_,_,rfl⟩ (λpre a suf ep ψ ⟨x9,x10,he⟩=>by
    subst he;rw[ep] at asc us5;have pl:pre.length<=5:=by rw[jr] at us5;omega
    rw[Ua _ _ _ _ _ _ _ _ x9 x10 _ _ _ _ (oT (num n b (mP b) (lz b r)) (pre++[a])) (a:Int) _ (by unfold oT;rw[jb];omega) ?_]
    .exact oy ⟨_,_,rfl⟩
    .rw[Rg]
     .unfold oT;rw[jZ];rfl
     .intro p hp2 z;obtain⟨x,hx,rfl⟩:=jv.mp hp2;have:x<a:=(v5.mp asc).2.2 x hx a jf;dsimp only at z;omega)
   rw[show oX (num n b (mP b) (lz b r)) (lg n b (lz b r))=(lg n b (lz b r)).map (λ(h:Nat)=>jX [.int (h:Int),num n b (mP b) (lz b r) h]) from rfl,h1];have hm':=hm;have um':=um;rw[<- OC (show 2<=n by omega) (show n<=5 by omega) ok] at hm' um';have tn:∀ {X:D},oe X->X≠.none->iR X .none=Ga (.bool false)/\iY X .none=Ga (.bool true):=λt z=>by
    rcases t with w|⟨i,rfl⟩
    .exact absurd w z
    .exact⟨rfl,rfl⟩
   have tT:=λK (hK:K<=4) x (hx:x<n)=>DF (k:=K) hK U (lz b r) hx;have hlen:iy (.tuple ((gQ n (lx r.2 (b+1))).map fd))=Ga (.int (b:Int)):=by show Ga (jc ((((gQ n (lx r.2 (b+1))).map fd).length:Nat):Int))=_;rw[jb,yB,s1]
   have LE:=λlate lm q=>Yg (mi 13 Pt mk (gY om dF) tD [12] aF) (mi 13 Pt mk (gY om dF) rW [12] dB) (we (sK (mi 13 Pt mk (gY om dF) rW [12] bx))) (λψ=>∃ y1 y2 y3 y4 y5 y6 y7 y8 y9 y10 y11 y12,ψ=[.val (.list (ns.map jc)),y1,y2,y3,y4,y5,y6,y7,y8,y9,y10,y11,y12,.tab Pt]) (.list (ns.map jc)) (.int (k:Int)) (.int (M:Int)) (.int (n:Int)) (.tuple [.str fS,iV n r,.int (h:Int),.int (u:Int)]) (.tuple (ij n r.1)) (.tuple ((gQ n (lx r.2 (b+1))).map fd)) _ _ _ _ (ij n v) (b:Int) (b:Int) (h:Int) (u:Int) Pt x5 x9 x10 y11 (oT (num n b (mP b) (lz b r)) (lg n b (lz b r))) (oT (num n (b+1) (mP b) (lz b r)) (lg n (b+1) (lz b r))) rfl rfl (by omega) hlen rfl (Fy hm') (Fy um') (λy5 y9 y10 y11=>ZA _ _ _ _ (Kb n (b+1) (lz b r)) us6 (LL _ _ _ [.tuple [.tuple (ij n r.1),.tuple ((gQ n (lx r.2 (b+1))).map fd)],.int ((b:Int)+1)] _ rfl rfl rfl T2)) (Fx _) ((late:Nat):Int) (Fy (s3 late lm).1) (tn (tT (b+1) (by omega) late (xD lm)) (s3 late lm).2).1 q (λx11=>⟨_,_,_,_,_,_,_,_,_,_,_,_,rfl⟩);rcases s2 with ⟨z1,z2⟩|⟨z1,z2⟩
   .exact LE h hm (.inl ⟨z1,(tn (tT b (by omega) u (xD um)) z2).1,rfl⟩)
   .exact LE u um (.inr ⟨(tn (tT b (by omega) h (xD hm)) z1).1,(tn (tT b (by omega) h (xD hm)) z1).2,z2,rfl⟩)
 .rintro _ ⟨y1,y2,y3,y4,y5,y6,y7,y8,y9,y10,y11,y12,rfl⟩;rfl
end Law
end
open PySem PySem.W PyProof.Rows
set_option maxRecDepth 100000 in
set_option maxHeartbeats 0 in
theorem PySem.Challenge.cw_roundfall_k55_whole_soon_is_sharp_holds : PySem.Challenge.rw_roundfall_k55_whole_soon_is_sharp.Holds := by
 w_on
 refine PySem.W.holds_law Law.ws0 λsaid=>?_;refine PySem.W.holds_open (q:=Law.qv0) (loose:=[]) (Xt:=Law.xt0) (XP:=PySem.W.XL Law.qv0 []) (Yf:=PySem.W.Hook.obs (ug Law.KK Law.KA Law.zqR [510])) (Ya:=PySem.W.Hook.val (ug Law.KK Law.KA Law.zqR [510])) (YP:=PySem.W.Hook.says (ug Law.KK Law.KA Law.zqR [510])) (N:=9000) Law.lf0 (PySem.W.Hook.of (ug Law.KK Law.KA Law.zqR [510])) (PySem.W.Hook.keeps (ug Law.KK Law.KA Law.zqR [510])) (λs e=>PySem.W.xl_of s (Jr.mp e).1) PySem.W.XL.keeps (by rfl) (by rfl) (by rfl) (λs e=>PySem.W.recFacts_of (Jr.mp e).2) (by rfl) said (by nofun) ⟨rfl,rfl,rfl,rfl,rfl,by nofun⟩ ?hw ?hc
 case hw=>w_witness2
 k_fill
 refine T3.zzQ (l:=PySem.Challenge.rw_roundfall_k55_whole_soon_is_sharp) (n:=63) (k:=36) (x:="script") (Pt:=510) (K:=Law.KK) (sp:=λK vs H Q E=>∀ mk,T3.spT K 510 (Law.zkX mk 510) vs H Q E) rfl (by decide) rfl ⟨rfl,by decide,by decide⟩ (λw h Y=>⟨PySem.W.km_in_of Y,PySem.W.km_tabs_of Y _ jf⟩) (λP=>Law.zGy P) (λw h X=>T3.zrA X (Law.zFL w.params)) ?F ?S
 case F =>
  intro w mg fa h KX G hmg;refine'(λz=>(Law.zER KX G hmg z:_)) (Law.zEQ KX G ?w_q45 ?w_q60 ?w_q48 ?w_q57 ?w_q40 ?w_q37 ?w_q13 ?w_q22 ?w_q55 ?w_q11 ?w_q31 ?w_q16 ?w_q64 ?w_q32 ?w_q63 ?w_q65 ?w_q2 ?w_q0 ?w_q59 ?w_q26 ?w_q10 ?w_q36 ?w_q49 ?w_q6 ?w_q53 ?w_q1 ?w_q17 ?w_q12 ?w_q4 ?w_q66 ?w_q8 ?w_q23 ?w_q9 ?w_q62 ?w_q24 ?w_q5 ?w_q50 ?w_q20 ?w_q7 ?w_q39 ?w_q46 ?w_q25 ?w_q42 ?w_q43 ?w_q30 ?w_q67 ?w_q19 ?w_q38 ?w_q21 ?w_q47 ?w_q33 ?w_q28 ?w_q58 ?w_q52 ?w_q54 ?w_q34 ?w_q56 ?w_q15 ?w_q61 ?w_q3 ?w_q18 ?w_q68 ?w_q14 ?w_q35 ?w_q27 ?w_q44 ?w_q29 ?w_q41 ?w_q51 ?w_q69 ?z_abs ?z_all ?z_bool ?z_dict ?z_int ?z_isinstance ?z_len ?z_list ?z_max ?z_min ?z_range ?z_reversed ?z_sorted ?z_sum ?z_tuple ?c_LAST_ROUND ?c_LEAST_HANDS ?c_MOST_HANDS (c0:=512) (Pt:=510) (bm:=4) ?l_1 (Law.zFL w.params) ?l_3 ?l_4 (by decide) (by decide))
  all_goals first|k_is|exact rfl|(refine'⟨_,_,_,_,_,_,_,_,?x1,?x2,?x3,?x4,?x5⟩;(case x1=>k_is);(case x2=>exact rfl);(case x3=>exact rfl);(case x4=>k_is);(case x5=>k_is))|skip
 case S=>exact λK H a ns hl hT hS mk=>T3.zB7 hT hS (Law.zyU mk 510 ns hl)
