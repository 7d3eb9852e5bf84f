import PyProof.Rows.All
import Wide.All
import OpenK.AllK
import Wide.FinOn
import Lean
import PyProof.EqAt
import PyProof.EqKinds
import PyProof.TupleCall
import PyProof.NeData
import PyProof.P3In
import PyProof.ZipIter
import PyProof.EnumIter
import PyProof.EnumFor
import PyProof.EnumMake
import PyProof.TupleIter
import KE.KRevIter
import PyProof.ListRange
import PyProof.ConsumeWalk
import PyProof.WalkInts
import PyProof.SeqI3
import PyProof.P3Eq
import PyProof.TupleKey
import PyProof.DictRoadsH
import PyProof.FactsAll.NoneType_1
import PyProof.Rows.RowHeap
import PyProof.DictIter
import PyProof.DictWalks
import PyProof.Rows.TupDisplay
import PyProof.DictKinds
import PyProof.TupleOfSeq
import PyProof.Rows.RuleN_abs
import KE.KLam
import KE.KNestM
import PyProof.ListMulRoad
import PyProof.FactsAll.tuple_2
import PyProof.WalksMore
import PySem.Challenge.RW_roundfall_k53_whole_every_rule_breaks
set_option Elab.async false
set_option linter.all false
set_option maxRecDepth 100000
local macro_rules|`(tactic|nofun)=>`(tactic|decide +kernel)
open Option renaming some->Ga,none->Gb
theorem Gc{p:Prop}[Decidable p](h:p):decide p=true:=decide_eq_true h
theorem Gd{p:Prop}[Decidable p](h:¬p):decide p=false:=decide_eq_false h
theorem Ge{c:Prop}{h:Decidable c}(k:c){α}{t e:α}:ite c t e=t:=if_pos k
theorem Gf{c:Prop}{h:Decidable c}(k:¬c){α}{t e:α}:ite c t e=e:=if_neg k
open PySem renaming wpAny_bind->iK,wpAny_pure->iL
open PySem renaming Value->Gg,Shared->Gh,FuncData->Gi,Addr->Gj
open PySem.W renaming Frag->ja,mg_none_of->ka,nsIn->kj,emptyDict->k6,fnOf->k7,kla_obj->uf,keepIn->ur,kmHook->uy,instObj->uH,kas_sort->vt,envX->vx,codeHd_of_K->vC,codeIn->vQ,mg_of->v5,kas_ask->qd,kla_fn->qq,methodObj->qz,codeHdIn->qJ,cellsFrom_some->qO,KasT->qR,OpenLaw->Jc,lookIn->Jm,tabObj->Jr,WalkO->Jy,callWith_K->JD,kitx_dict->JS,plainGet->JY
open PySem.PyData renaming int->jb,tuple->jZ,bool->kh,canLayAll0->kL,eqv->kN,list->kU,depthAll->ue,none->uN,eqvAll->qD,str->qZ,canLay0->Jp,keyHash->Vc
open List renaming length_map->jc,range->jd,mem_cons_self->jf,length_append->jg,mem_cons_of_mem->jh,getElem?_eq_getElem->ji,size_toArray->jm,mem_range->jn,mem_singleton->jo,getD_eq_getElem?_getD->jq,getElem?_eq_some_iff->jr,mem_cons->ju,mem_map->jx,getElem?_map->jA,contains_iff_mem->jC,mem_filter->jD,length_range->jE,all_eq_true->jH,map_append->jI,map_cons->jK,map_map->jL,length_cons->jM,map_congr_left->jN,replicate->jO,getElem?_set_ne->jQ,mem_append_right->jR,getElem?_set_self->jS,mem_append->jV,length_filter_le->jW,filterMap_cons_none->jX,filter_cons_of_pos->jY,length_singleton->j4,filter_cons_of_neg->kf,nodup_cons->kg,filterMap_cons_some->km,lookup_cons->kn,length_tail->ko,range_succ->kr,getLast?_map->ku,getElem?_eq_none->kx,append_nil->kz,find?_cons_of_neg->kA,filter_append->kC,filter_sublist->kD,mem_of_getElem?->kE,find?_cons_of_pos->kF,not_mem_nil->kH,length_reverse->kJ,filter_congr->kM,range_eq_range'->kP,mem_of_mem_tail->kQ,foldl_cons->kW,length_pos_of_mem->ua,filter_eq_nil_iff->ub,replicate_succ->uc,getElem?_range->ud,mem_reverse->uk,nodup_range->uo,map_tail->uq,foldl_nil->uw,getElem_mem->uB,getElem?_append_right->uD,getElem?_append_left->uF,reverse_cons->uJ,flatten_cons->uK,append_assoc->uM,nodup_append->uO,getLast?_append->uP,foldl_append->uQ,getElem?_replicate->uW,mem_filterMap->u6,find?_eq_none->vb,find?_cons->ve,getLast?_reverse->vj,filterMap_append->vm,mem_of_getLast?->vo,length_take->vq,getElem?_eq_none_iff->vz,mem_map_of_mem->vD,filter_map->vI,getElem?_cons_succ->vM,length_eq_zero_iff->vN,toArray->vU,nodup_nil->vW,length_drop->vY,any_eq_true->vZ,any_cons->v4,length->v8,map->v9,length_nil->qf,filterMap_cons->qg,getElem_of_mem->qi,contains_cons->qu,head?_reverse->qw,drop_eq_getElem_cons->qx,mem_of_find?_eq_some->qy,ext_getElem?->qA,range'->qB,length_erase_of_mem->qF,range'_succ->qK,getLast?_cons_cons->qL,map_reverse->qM,map_nil->qP,drop_eq_nil_of_le->qQ,take_of_length_le->qX,pairwise_lt_range->qY,of_mem_zip->Ja,length_set->Jb,filter_nil->Jf,length_replicate->Jg,singleton_append->Jk,mem_append_left->Jl,tail_cons->Js,head?_map->Jt,pairwise_append->Ju,length_pos_iff->Jw,Pairwise->JA,foldl->JE,filter_filter->JI,pairwise_cons->JK,all_map->JW,getElem_inj->JX,filter_cons->J2,cons_append->J5,cons_ne_nil->J7,forIn_cons->J8,nil_append->J9,find?_some->Va
open PySem.Heap renaming get?_push_of_some->je,lt_size->jt,get?_push_size->jB,get?_update_other->k8,size_push->uC,get?_update_self->uE,SameBut->qN
open Nat renaming le_refl->jj,le_trans->jk,lt_of_lt_of_le->jz,ne_of_lt->jJ,lt_irrefl->jU,zero_le->j5,lt_succ_self->kR,pow_le_pow_right->uv,mul_le_mul_right->ux,le_of_lt->uA,add_mul->uZ,not_lt_zero->vf,ne_of_gt->vp,zero_add->vy,lt_succ_of_lt->vT,mul_le_mul->vX,min_eq_left->Je,eq_zero_or_pos->JH,one_le_two_pow->JJ,le_of_eq->JO,succ_mul->JP,succ->JR,le_succ_of_le->JT,mul_comm->JV,min_le_right->JZ,succ_ne_zero->J3
open Option renaming bind_some->jp,bind_eq_some_iff->uX,isSome_iff_exists->vE,map_eq_some_iff->qU,map_some->Jd,none->Jo,filter_some->JL,isSome_map->JQ,getD_none->J0
open PySem.Str renaming ofString->jv
open Bool renaming false_ne_true->jw,and_eq_true->jG,not_eq_true->jT,eq_iff_iff->kq,not_eq_true'->kB,true_or->k9,false_eq_true->uj,or_eq_true->uI,or_false->uS,true_and->uU,false_or->vg,false_and->vn,and_false->vV,eq_false_iff->qC,or_true->qV,and_eq_true_iff->Jv,not_eq_false'->JM
open PySem renaming Spec->jy,mem_of_lookup->kI,getD_mem->qo,mem_getD->qp,call->JF,seqSlot_of->J6,boot_len->Vb,Fin->Ve
open Option.some renaming inj->jF
open PySem.Builtin.Range renaming rangeSize->jP,small->qh
open PySem.NameKind renaming free->j6,cell->vH
open Int renaming toNat_natCast->j7,emod_lt_of_pos->kw,emod_nonneg->kG,le_refl->kZ,eq_ofNat_of_zero_le->uY,le_trans->va,sub_le_sub_right->qa,le_antisymm->qe,zero_add->qj,ediv_eq_zero_of_lt->qW,lt_irrefl->Jz,natCast_zero->J4
open PySem.Builtin.List renaming listExtendWith->j8,listLengthHint->k5,listSameRef->uT,listTooLong->vG,listItems->qS
open Array renaming length_toList->kb,getElem?_toList->ui,getElem?_eq_getElem->vB,getElem?_eq_none->vS,mem_toList_iff->v7,toArray_toList->Jq,append_assoc->JC,size_append->JU
open PySem.Obj renaming mapSeq->ki,data_mapFields->JG
open Classical renaming byContradiction->ky,propDecidable->vK
open PySem.Value renaming none->kK,ref->kY,type->u5,isInt->v6,int->qG,bool->JB,isInt_shape->JN
open Or renaming inr->kS,inl->uu
open PySem.Builtin.Int renaming intBits->kT
open List.Nodup renaming sublist->kX
open Ne renaming symm->ug
open PySem.Heap.SameBut renaming update->uz
open PySem.Builtin.Slice renaming slicePlaces->uG,sliceAdjust->vA,sliceApplied->qm
open PySem.Builtin.Tuple renaming tupleExact->uR,tupleTooMany->qr
open PySem.Builtin renaming bitAnd->uV,bitXor->vO,bitOr->Jx
open PySem.Calls renaming spliced_cons->u8,callWith_builtin->u9,evalArgs_plain->vd,spliced_nil->vP,Name_function_global->ql
open PySem.F renaming slot_dict_get->vh,args_tuple_add_2->vF,entry_tuple_add->vJ,slot_tuple_add->vR,slot_list_extend->qE,plainAttrs_list->qH,plainAttrs_dict->qI,entry_dict_get->qT,type_dict_get->Jj
open PySem.Builtin.Dict_items renaming ownsTuple->qc
open PySem.Builtin.Dict renaming showsAll->Jh
open PySem.W.Looks renaming of_pure->Ji
open PySem.Around renaming frames_deeper->Jn
open Int.ofNat renaming inj->Vd
noncomputable section
namespace L2
open PySem PySem.Spec PyProof.Rows
abbrev oe:=Sum Int Str
def Go:oe->Gg->Bool
 | .inl k,v=>v6 k v
 | .inr x,v=>Value.isStrOf x v
def WE (w:World):oe->Int
 | .inl k=>hashInt k
 | .inr x=>hashStr w x
theorem ou:∀ {k:oe} {v:Gg},Go k v=true->(∃ i t,k=Sum.inl i/\v=qG i t)\/(∃ x t,k=Sum.inr x/\v=Value.str x t)
 | .inl i,v,h=>by
  obtain⟨t,e⟩:=JN (k:=i) (v:=v) h;exact .inl ⟨i,t,rfl,e⟩
 | .inr x,v,h=>by
  obtain⟨t,e⟩:=Value.isStrOf_shape (x:=x) (v:=v) h;exact .inr ⟨x,t,rfl,e⟩
theorem MM (a b:Int):decide ((Sum.inl a:oe)=Sum.inl b)=(a==b):=by
 by_cases e:a=b
 .subst e;simp
 .have h:¬(Sum.inl a:oe)=Sum.inl b:=λq=>e (Sum.inl.inj q);rw[Gd h];exact(beq_eq_false_iff_ne.mpr e).symm
theorem Ni (a b:Str):decide ((Sum.inr a:oe)=Sum.inr b)=decide (a=b):=by
 by_cases e:a=b
 .subst e;simp
 .have h:¬(Sum.inr a:oe)=Sum.inr b:=λq=>e (Sum.inr.inj q);rw[Gd h,Gd e]
theorem KS (a:Int)(b:Str):decide ((Sum.inl a:oe)=Sum.inr b)=false:=Gd (λq=>nomatch q)
theorem Ox (a:Str)(b:Int):decide ((Sum.inr a:oe)=Sum.inl b)=false:=Gd (λq=>nomatch q)
def zO (prog:Program)(w:World):PySem.KeyKind prog w oe where
 is:=Go
 hash:=WE w
 inj:=λv a b ha hb=>by
  rcases ou ha with ⟨i,t,rfl,rfl⟩|⟨x,t,rfl,rfl⟩
  .rcases ou hb with ⟨j,u,rfl,e⟩|⟨y,u,rfl,e⟩
   .injection e with e1 _;rw[e1]
   .exact nomatch e
  .rcases ou hb with ⟨j,u,rfl,e⟩|⟨y,u,rfl,e⟩
   .exact nomatch e
   .injection e with e1 _;rw[e1]
 byValue:=λk v h=>by
  rcases ou h with ⟨i,t,rfl,rfl⟩|⟨x,t,rfl,rfl⟩<;>rfl
 pyHash:=λhv h=>by
  rcases ou hv with ⟨i,t,rfl,rfl⟩|⟨x,t,rfl,rfl⟩
  .exact wpAny_pyHash_int h
  .exact wpAny_pyHash_str h
 eqBool:=λhu hv h=>by
  rcases ou hu with ⟨i,t,rfl,rfl⟩|⟨x,t,rfl,rfl⟩
  .rcases ou hv with ⟨j,u,rfl,rfl⟩|⟨y,u,rfl,rfl⟩
   .rw[MM] at h;exact wpAny_eqBool_int h
   .rw[KS] at h;exact SeqAt.EqAt.int_str i t y u _ _ _ _ h
  .rcases ou hv with ⟨j,u,rfl,rfl⟩|⟨y,u,rfl,rfl⟩
   .rw[Ox] at h;exact SeqAt.EqAt.str_int x t j u _ _ _ _ h
   .rw[Ni] at h;exact wpAny_eqBool_str h
 «strs»:=λk x t v h=>by
  rcases ou h with ⟨i,u,rfl,e⟩|⟨y,u,rfl,e⟩
  .exact nomatch e
  .injection e with e1 _
   subst e1;cases v<;>rfl
inductive V where
 | non|bl (b:Bool)|int (i:Int)|str (x:Str)|byt (b:Array UInt8)|flt (b:UInt64)|ref (a:Gj)|ty (n:String)
 deriving DecidableEq
def lO:V->Gg->Prop
 | .non,u=>u=kK
 | .bl b,u=>u=JB b
 | .int i,u=>∃ t,u=qG i t
 | .str x,u=>∃ t,u=Value.str x t
 | .byt b,u=>∃ t,u=Value.bytes b t
 | .flt b,u=>∃ t,u=Value.float b t
 | .ref a,u=>u=kY a
 | .ty n,u=>u=u5 n
abbrev lH:List V->List Gg->Prop:=Paired lO
theorem lH.length {xs:List V}{us:List Gg}(r:lH xs us):xs.length=us.length:=Paired.length r
theorem lH.get:∀ {xs:List V} {us:List Gg} {i:Nat} {x:V},lH xs us->xs[i]?=Ga x->∃ u,us[i]?=Ga u/\lO x u
 | _,_,_,_,.nil,e=>by simp at e
 | _,_,0,_,.cons r _,e=>by simp at e;subst e;exact⟨_,rfl,r⟩
 | _,_,i+1,x,.cons _ t,e=>by
  obtain⟨u,h1,h2⟩:=lH.get (i:=i) (x:=x) t (by simpa using e);exact⟨u,by simpa using h1,h2⟩
theorem lH.set {x:V}{u:Gg}(r:lO x u):∀ {xs:List V} {us:List Gg} (i:Nat),lH xs us->lH (xs.set i x) (us.set i u)
 | _,_,_,.nil=>.nil
 | _,_,0,.cons _ t=>.cons r t
 | _,_,i+1,.cons q t=>.cons q (lH.set r i t)
theorem lH.append:∀ {xs ys:List V} {us ws:List Gg},lH xs us->lH ys ws->lH (xs++ys) (us++ws)
 | _,_,_,_,.nil,s=>s
 | _,_,_,_,.cons r t,s=>.cons r (lH.append t s)
theorem lH.take:∀ {xs:List V} {us:List Gg} (n:Nat),lH xs us->lH (xs.take n) (us.take n)
 | _,_,0,_=>.nil
 | _,_,_+1,.nil=>.nil
 | _,_,n+1,.cons r t=>.cons r (lH.take n t)
theorem lH.drop:∀ {xs:List V} {us:List Gg} (n:Nat),lH xs us->lH (xs.drop n) (us.drop n)
 | _,_,0,r=>r
 | _,_,_+1,.nil=>.nil
 | _,_,n+1,.cons _ t=>lH.drop n t
theorem lH.none_of:∀ {xs:List V} {us:List Gg} {i:Nat},lH xs us->xs[i]?=Gb->us[i]?=Gb:=λ{xs us i} r e=>by
 have h1:=r.length;have h2:xs.length<=i:=vz.mp e;exact vz.mpr (by omega)
def tH:Option V->Option Gg->Prop
 | some v,Ga u=>lO v u
 | none,Gb=>True
 | _,_=>False
def KV {κ:Type}:List (κ×V)->List (κ×Gg)->Prop:=Paired λ(p:κ×V) (q:κ×Gg)=>p.1=q.1/\lO p.2 q.2
def kV:oe->V
 | .inl i=>.int i
 | .inr x=>.str x
inductive HO where
 | lst (xs:List V)
 | tup (xs:List V)
 | dK (kvs:List (oe×V))|dT (kvs:List (List oe×V))
 | set (S:Int->Bool) (n:Nat)
 | ins (C dx:Gj) (fs:List (Str×V))
 | own (x:Gj)
 | xd (fs:List (Str×V))
 | met (f x:Gj)
 | rng (lo hi:Int)
 | frz (o:Obj) (u:HO)
 | tbl (ps:Array Gg)
 | ext (φ:Heap->Prop)
abbrev Hp:=Gj->Option HO
def upd (H:Hp)(a:Gj)(o:HO):Hp:=λb=>if b=a then Ga o else H b
theorem lB {H:Hp}{a:Gj}{o:HO}:upd H a o a=Ga o:=by unfold upd;rw[Ge rfl]
theorem ls {H:Hp}{a b:Gj}{o:HO}(h:b≠a):upd H a o b=H b:=by unfold upd;rw[Gf h]
theorem nX {H:Hp}{a b:Gj}{o:HO}(h:H a=Ga o)(h':H b=Gb):a≠b:=by
 intro e;subst e;rw[h] at h';cases h'
section
variable (P:Program)(w:World)
def oQ (H:Hp)(h:Heap)(a:Gj):HO->Prop
 | .lst xs=>xs.length<=sizeLine/\∃ (its:List Gg) (n:Nat),lH xs its/\h.get? a=Ga { cls:=.type "list",data:=.seq its.toArray n }
 | .tup xs=>xs.length<=sizeLine/\∃ its:List Gg,lH xs its/\IsTup h a its.toArray
 | .dK kvs=>kvs.length<=sizeLine/\(a==sysModules)=false/\∃ vs,KV kvs vs/\h.DictOf (zO P w) a vs
 | .dT kvs=>kvs.length<=sizeLine/\(a==sysModules)=false/\∃ xs:List (List oe×Gj×Gg),
   Paired (λ(p:List oe×V) (q:List oe×Gj×Gg)=>p.1=q.1/\H q.2.1=Ga (.tup (p.1.map kV))/\lO p.2 q.2.2) kvs xs /\
   ∃ o es ep,h.get? a=Ga o/\o.ExactDict/\o.data=.dict es ep/\es.toList=xs.map (entryOfKey (tupleKind (zO P w)))/\(xs.map (·.1)).Nodup
 | .set S n=>h.SetOf (intKind P w) a S n
 | .ins C dx fs=>H dx=Ga (.own a)/\fs.length<=1000/\dx≠a/\h.get? a=Ga (uH C dx) /\
   ∃ mA,h.Ns1 dx mA/\(∀ f,tH (fs.lookup f) (mA f))/\PySem.Within mA (fs.map (·.1))
 | .own _=>∃ o,h.get? a=Ga o
 | .xd fs=>∃ mA,h.Ns1 a mA/\∀ f,tH (fs.lookup f) (mA f)
 | .rng lo hi=>∃ t u v,h.get? a=Ga { cls:=.type "range",data:=.fields #[.int lo t,.int hi u,.int 1 v] }
 | .frz o u=>h.get? a=Ga o/\oQ H h a u
 | .tbl ps=>h.get? a=Ga { cls:=.none,data:=.fields ps }
 | .met f x=>h.get? a=Ga (qz (.ref f) (.ref x))
 | .ext φ=>φ h/\(∃ o,h.get? a=Ga o)/\∀ h1 h2:Heap,φ h1->(∀ o,h1.get? a=Ga o->h2.get? a=Ga o)->φ h2
def HOk (H:Hp)(h:Heap):Prop:=∀ a o,H a=Ga o->oQ P w H h a o
end
section
variable {P:Program}{w:World}{H H':Hp}{h h':Heap}{a:Gj}{o:HO}
theorem oQ.lt (x:oQ P w H h a o):a<h.objs.size:=by
 cases o with
 | lst xs=>obtain⟨_,_,_,_,e⟩:=x;exact jt e
 | tup xs=>obtain⟨_,_,_,p⟩:=x;exact p.lt
 | dK kvs=>obtain⟨_,_,_,_,o,_,_,e,_⟩:=x;exact jt e
 | dT kvs=>obtain⟨_,_,_,_,o,_,_,e,_⟩:=x;exact jt e
 | set S n=>obtain⟨o,_,_,_,e,_⟩:=x;exact jt e
 | ins C dx fs=>obtain⟨_,_,_,e,_⟩:=x;exact jt e
 | own y=>obtain⟨_,e⟩:=x;exact jt e
 | xd fs=>obtain⟨_,⟨_,_,_,e,_⟩,_⟩:=x;exact jt e
 | rng lo hi=>obtain⟨_,_,_,e⟩:=x;exact jt e
 | frz ob u=>obtain⟨e,_⟩:=x;exact jt e
 | tbl ps=>exact jt (show h.get? a=Ga _ from x)
 | met f y=>exact jt (show h.get? a=Ga _ from x)
 | ext φ=>obtain⟨_,⟨_,e⟩,_⟩:=x;exact jt e
theorem Paired.mapP {α β:Type}{F G:α->β->Prop}:∀ {l₁:List α} {l₂:List β},Paired F l₁ l₂->(∀ a b,F a b->G a b)->Paired G l₁ l₂
 | _,_,.nil,_=>.nil
 | _,_,.cons r t,f=>.cons (f _ _ r) (Paired.mapP t f)
theorem oQ.stay (x:oQ P w H h a o)(k:∀ b u,(b=a\/H b=Ga (.own a))->h.get? b=Ga u->h'.get? b=Ga u)
  (ho:∀ b,H b=Ga (.own a)->H' b=Ga (.own a)) (ht:∀ b xs,H b=Ga (.tup xs)->H' b=Ga (.tup xs)):oQ P w H' h' a o:=by
 induction o with
 | lst xs=>obtain⟨z,its,n,r,e⟩:=x;exact⟨z,its,n,r,k _ _ (.inl rfl) e⟩
 | tup xs=>obtain⟨z,its,r,ob,e,c⟩:=x;exact⟨z,its,r,ob,k _ _ (.inl rfl) e,c⟩
 | dK kvs=>obtain⟨z,y,vs,r,ob,es,ep,e,c⟩:=x;exact⟨z,y,vs,r,ob,es,ep,k _ _ (.inl rfl) e,c⟩
 | dT kvs =>
  obtain⟨z,y,xs,r,ob,es,ep,e,c⟩:=x;exact⟨z,y,xs,Paired.mapP r λp q z=>⟨z.1,ht _ _ z.2.1,z.2.2⟩,ob,es,ep,k _ _ (.inl rfl) e,c⟩
 | set S n=>obtain⟨ob,es,ep,t,e,c⟩:=x;exact⟨ob,es,ep,t,k _ _ (.inl rfl) e,c⟩
 | ins C dx fs =>
  obtain⟨d,z,ne,e,mA,⟨od,es,ep,e2,c⟩,r⟩:=x;exact⟨ho _ d,z,ne,k _ _ (.inl rfl) e,mA,⟨od,es,ep,k _ _ (.inr d) e2,c⟩,r⟩
 | own y=>obtain⟨ob,e⟩:=x;exact⟨ob,k _ _ (.inl rfl) e⟩
 | xd fs=>obtain⟨mA,⟨od,es,ep,e,c⟩,r⟩:=x;exact⟨mA,⟨od,es,ep,k _ _ (.inl rfl) e,c⟩,r⟩
 | rng lo hi=>obtain⟨t,u,v,e⟩:=x;exact⟨t,u,v,k _ _ (.inl rfl) e⟩
 | frz ob u ih=>obtain⟨e,q⟩:=x;exact⟨k _ _ (.inl rfl) e,ih q⟩
 | tbl ps =>
  have e:h.get? a=Ga { cls:=.none,data:=.fields ps }:=x;show h'.get? a=Ga { cls:=.none,data:=.fields ps };exact k a _ (.inl rfl) e
 | met f y =>
  have e:h.get? a=Ga (qz (.ref f) (.ref y)):=x;show h'.get? a=Ga (qz (.ref f) (.ref y));exact k a _ (.inl rfl) e
 | ext φ=>obtain⟨p,⟨o,e⟩,st⟩:=x;exact⟨st _ _ p λo q=>k _ _ (.inl rfl) q,⟨o,k _ _ (.inl rfl) e⟩,st⟩
theorem HOk.lt (x:HOk P w H h)(e:H a=Ga o):a<h.objs.size:=(x a o e).lt
theorem HOk.fresh (x:HOk P w H h)(e:h.objs.size<=a):H a=Gb:=by
 cases q:H a with
 | none=>rfl
 | some u=>exact absurd (jz (x.lt q) e) (jU _)
theorem HOk.kept (x:HOk P w H h)(k:∀ b u,h.get? b=Ga u->h'.get? b=Ga u):HOk P w H h':=λa o e =>
 (x a o e).stay (λb u _ q=>k b u q) (λ_ q=>q) λ_ _ q=>q
theorem HOk.laid (x:HOk P w H h)(k:∀ b u,h.get? b=Ga u->h'.get? b=Ga u)(hp:h.objs.size<=a)(new:oQ P w (upd H a o) h' a o):HOk P w (upd H a o) h':=λb u e=>by
 have hn:=x.fresh hp;by_cases hb:b=a
 .subst hb;rw[lB] at e;cases e;exact new
 .rw[ls hb] at e;exact(x b u e).stay (λc v _ q=>k c v q) (λc q=>by rw[ls (nX q hn)];exact q) λc xs q=>by rw[ls (nX q hn)];exact q
end
def Rd (H:Hp)(a:Gj)(u:HO):Prop:=H a=Ga u\/∃ o,H a=Ga (.frz o u)
theorem Rd.of {H:Hp}{a:Gj}{u:HO}(h:H a=Ga u):Rd H a u:=.inl h
theorem Rd.ok {P:Program}{w:World}{H:Hp}{h:Heap}{a:Gj}{u:HO}(r:Rd H a u)(x:HOk P w H h):oQ P w H h a u:=by
 rcases r with r|⟨o,r⟩
 .exact x a u r
 .obtain⟨_,q⟩:=x a _ r;exact q
def Eo:Option HO->Prop
 | some (.lst _)=>True
 | some (.dK _)=>True
 | some (.dT _)=>True
 | some (.set _ _)=>True
 | some (.ins _ _ _)=>True
 | some (.ext _)=>True
 | _=>False
section
variable {P:Program}{w:World}{H:Hp}{h h':Heap}{x e:Gj}{o':HO}
theorem HOk.write (ok:HOk P w H h)(mu:Eo (H x))(he:e=x\/H e=Ga (.own x))(k:∀ b u,b≠e->h.get? b=Ga u->h'.get? b=Ga u)(heo:∃ u,h'.get? e=Ga u)
  (new:oQ P w (upd H x o') h' x o'):HOk P w (upd H x o') h':=λb u q=>by
 have nown:∀ c y,H c=Ga (.own y)->c≠x:=λc y r z=>by subst z;rw[r] at mu;exact mu
 have ntup:∀ c xs,H c=Ga (.tup xs)->c≠x:=λc xs r z=>by subst z;rw[r] at mu;exact mu
 by_cases hb:b=x
 .subst hb;rw[lB] at q;cases q;exact new
 .rw[ls hb] at q;by_cases hbe:b=e
  .have q':H b=Ga (.own x):=by
    rcases he with z|z
    .exact absurd (hbe.trans z) hb
    .rw[hbe];exact z
   rw[q] at q';cases q';obtain⟨v,hv⟩:=heo;exact⟨v,by rw[hbe];exact hv⟩
  .refine(ok b u q).stay (λc v hc r=>k c v ?_ r) (λc r=>by rw[ls (nown c b r)];exact r) λc xs r=>by rw[ls (ntup c xs r)];exact r
   rcases hc with rfl|hc
   .exact hbe
   .rintro rfl;rcases he with z|z
    .exact nown c b hc z
    .rw[hc] at z;cases z;exact hb rfl
end
structure Un (fs ex:List Gj)(H H':Hp)(h h':Heap):Prop where
 keep:∀ b o,h.get? b=Ga o->H b=Gb->b∉fs->b∉ex->h'.get? b=Ga o
 slot:∀ b o,h.get? b=Ga o->H b=Gb->b∈fs->b∉ex->∃ sl,h'.get? b=Ga { o with slots:=sl }
 free:∀ b o,h.get? b=Ga o->H b=Gb->b∉ex->H' b=Gb
 there:∀ b o,h.get? b=Ga o->b∉ex->∃ o',h'.get? b=Ga o'
 tups:∀ b xs,H b=Ga (.tup xs)->H' b=Ga (.tup xs)
 frzs:∀ b o u,H b=Ga (.frz o u)->H' b=Ga (.frz o u)
 tbls:∀ b ps,H b=Ga (.tbl ps)->∃ more,H' b=Ga (.tbl (ps++more))
section
variable {fs fs' ex ex':List Gj}{H H1 H2:Hp}{h h1 h2 h':Heap}{a x e:Gj}{o:HO}
theorem Un.any (u:Un fs ex H H1 h h1){b:Gj}{ob:Obj}(q:h.get? b=Ga ob)(n:H b=Gb)(hx:b∉ex):∃ sl,h1.get? b=Ga { ob with slots:=sl }:=by
 by_cases hb:b∈fs
 .exact u.slot b ob q n hb hx
 .exact⟨ob.slots,u.keep b ob q n hb hx⟩
theorem Un.trans (a:Un fs ex H H1 h h1)(b:Un fs ex H1 H2 h1 h2):Un fs ex H H2 h h2 where
 keep:=λc ob q n hc hx=>b.keep c ob (a.keep c ob q n hc hx) (a.free c ob q n hx) hc hx
 slot:=λc ob q n hc hx=>by
  obtain⟨sl,e1⟩:=a.slot c ob q n hc hx;obtain⟨sl',e2⟩:=b.slot c _ e1 (a.free c ob q n hx) hc hx;exact⟨sl',e2⟩
 free:=λc ob q n hx=>by
  obtain⟨o',e1⟩:=a.there c ob q hx;exact b.free c o' e1 (a.free c ob q n hx) hx
 there:=λc ob q hx=>by
  obtain⟨o',e1⟩:=a.there c ob q hx;exact b.there c o' e1 hx
 tups:=λc xs q=>b.tups c xs (a.tups c xs q)
 frzs:=λc ob xs q=>b.frzs c ob xs (a.frzs c ob xs q)
 tbls:=λc ps q=>by
  obtain⟨m1,e1⟩:=a.tbls c ps q;obtain⟨m2,e2⟩:=b.tbls c _ e1;exact⟨m1++m2,by rw[e2,JC]⟩
theorem Un.kept (k:∀ b u,h.get? b=Ga u->h'.get? b=Ga u):Un fs ex H H h h' :=
 ⟨λb ob q _ _ _=>k b ob q,λb ob q _ _ _=>⟨ob.slots,k b ob q⟩,λ_ _ _ n _=>n,λb ob q _=>⟨ob,k b ob q⟩,λ_ _ q=>q,λ_ _ _ q=>q,λ_ ps q=>⟨#[],by rw[q];simp⟩⟩
theorem Un.refl:Un fs ex H H h h:=Un.kept λ_ _ q=>q
theorem Un.laid (k:∀ b u,h.get? b=Ga u->h'.get? b=Ga u)(hp:h.objs.size<=a)(hn:H a=Gb):Un fs ex H (upd H a o) h h' where
 keep:=λb u q _ _ _=>k b u q
 slot:=λb u q _ _ _=>⟨u.slots,k b u q⟩
 free:=λb u q n _=>by rw[ls (jJ (jz (jt q) hp))];exact n
 there:=λb u q _=>⟨u,k b u q⟩
 tups:=λb xs q=>by rw[ls (nX q hn)];exact q
 frzs:=λb u xs q=>by rw[ls (nX q hn)];exact q
 tbls:=λb ps q=>⟨#[],by rw[ls (nX q hn),q];simp⟩
theorem Un.write (mu:Eo (H x))(he:e=x\/H e=Ga (.own x))(k:∀ b u,b≠e->h.get? b=Ga u->h'.get? b=Ga u)(heo:∃ u,h'.get? e=Ga u):Un fs ex H (upd H x o) h h':=by
 have hx:∀ b,H b=Gb->b≠x:=λb n z=>by subst z;rw[n] at mu;exact mu
 have hb:∀ b,H b=Gb->b≠e:=λb n z=>by
  subst z;rcases he with r|r
  .exact hx b n r
  .rw[n] at r;cases r
 have hm:∀ b u,H b=Ga u->¬Eo (Ga u)->b≠x:=λb u q nm z=>by subst z;rw[q] at mu;exact nm mu
 refine⟨λb u q n _ _=>k b u (hb b n) q,λb u q n _ _=>⟨u.slots,k b u (hb b n) q⟩,λb u q n _=>by rw[ls (hx b n)];exact n,λb u q _=>?_,
  λb xs q=>by rw[ls (hm b _ q λz=>z)];exact q,λb u xs q=>by rw[ls (hm b _ q λz=>z)];exact q,λb ps q=>⟨#[],by rw[ls (hm b _ q λz=>z),q];simp⟩⟩
 by_cases hbe:b=e
 .subst hbe;exact heo
 .exact⟨u,k b u hbe q⟩
theorem Un.mono (u:Un fs ex H H1 h h1)(hs:∀ b∈fs,b∈fs')(hx:∀ b∈ex,b∈ex'):Un fs' ex' H H1 h h1 :=
 ⟨λb ob q n hb he=>u.keep b ob q n (λz=>hb (hs b z)) λz=>he (hx b z),λ_ _ q n _ he=>u.any q n λz=>he (hx _ z),λb ob q n he=>u.free b ob q n λz=>he (hx b z),λb ob q he=>u.there b ob q λz=>he (hx b z),u.tups,u.frzs,u.tbls⟩
end
def Ii (h:Heap)(H:Hp):List Gj:=(jd h.objs.size).filter λa=>(H a).isSome
def rX (h:Heap)(H:Hp):Heap:=PySem.W.hideAll h (Ii h H)
theorem AA (h:Heap)(H:Hp):(rX h H).objs.size=h.objs.size:=PySem.W.hideAll_size _ _
theorem BG {h:Heap}{H:Hp}{b:Gj}{o:Obj}(e:h.get? b=Ga o)(n:H b=Gb):(rX h H).get? b=Ga o :=
 PySem.W.hideAll_get _ e λhm=>by
  have q:(H b).isSome=true:=(jD.mp hm).2;rw[n] at q;simp at q
theorem CU {h:Heap}{H:Hp}{b:Gj}{o:Obj}(e:(rX h H).get? b=Ga o):h.get? b=Ga o/\H b=Gb:=by
 have e':h.get? b=Ga o:=PySem.W.of_hideAll (Ii h H) e;refine⟨e',?_⟩;cases q:H b with
 | none=>rfl
 | some x =>
  have hm:b∈Ii h H:=jD.mpr ⟨jn.mpr (jt e'),by simp[q]⟩;have z:(rX h H).get? b=Gb:=PySem.W.hideAll_none (Ii h H) hm;rw[z] at e;cases e
def IG (g h:Heap)(L:Gj):List (Gj×Obj):=(jd h.objs.size).filterMap λa=>if a=L\/(g.get? a).isSome=true then Gb else(h.get? a).map λo=>(a,o)
def rest (g h:Heap)(L d:Gj):List (Gj×Obj):=(IG g h L).filter λp=>decide (p.1≠d)
structure Mod (K:ja)(mg:Str->Option Gg)(base:Heap):Prop where
 kin:K.In base
 glob:base.Ns mainGlobals mg
 blt:∃ mb,base.Ns builtinsNs mb/\∀ x:Str,x≠"__name__"->mb x=bootBuiltins x
 nolimit:base.NoLimit
structure Cx where
 prog:Program
 w:World
 K:ja
 mg:Str->Option Gg
 base:Heap
 A:Around
 N:List Str
 s₀:Gh
 H₀:Hp
 env:Env
 outer:List Env
 stack:List Env
 ex:List Gj
 fn:Str->Bool
 calm:Bool
 pn:List (Gj×Obj)
 xe:Gg->Gh->Prop
def tw (l:List Env):List Gj:=l.filterMap (·.frame)
abbrev Cx.fs (X:Cx):List Gj:=tw X.outer
def xR (sc:Scope)(x:Str):Prop:=sc.names.lookup x=Ga .local\/sc.names.lookup x=Ga .cell\/sc.names.lookup x=Ga .free
def zd (sc:Scope)(x:Str):Prop:=sc.names.lookup x=Ga .local\/sc.names.lookup x=Ga .cell
def Wc (ψ:Env)(h:Heap)(m:Str->Option Gg)(x:Str)(u:Gg):Prop :=
 (ψ.kindOf x=Ga .local/\m x=Ga u)\/((ψ.kindOf x=Ga .cell\/ψ.kindOf x=Ga .free)/\∃ c,ψ.cells.lookup x=Ga c/\h.IsCell c (Ga u))
structure Cx.Ok (X:Cx):Prop where
 mod:Mod X.K X.mg X.base
 kind:X.env.scope.kind=.function
 glob:X.env.globals=mainGlobals
 blt:X.env.builtins=builtinsNs
 above:X.s₀.heap.objs.size<=X.env.locals
 inj:∀ x y c,X.env.cells.lookup x=Ga c->X.env.cells.lookup y=Ga c->x=y
 has:∀ x,(X.env.kindOf x=Ga .cell\/X.env.kindOf x=Ga .free)->∃ c,X.env.cells.lookup x=Ga c
 cab:∀ x c,X.fn x=true->X.env.cells.lookup x=Ga c->X.s₀.heap.objs.size<=c
 hd:X.calm=true->X.A.handled=Gb
 frames:X.A.frames=Ga X.stack
 stk:X.stack=X.outer\/(X.stack=X.env::X.outer/\X.env.frame=Ga X.env.locals)
 exf:∀ b∈X.ex,b≠X.env.locals/\∀ x c,X.env.cells.lookup x=Ga c->c≠b
 bs:∀ b o,X.base.get? b=Ga o->X.s₀.heap.get? b=Ga o/\X.H₀ b=Gb
 bsz:X.base.objs.size<=X.s₀.heap.objs.size
 noex:∀ b o,X.base.get? b=Ga o->b∉X.ex
 exfs:∀ b∈X.ex,b∉X.fs
 funs:X.s₀.heap.FunFrames X.base X.outer
 frf:∀ b∈X.fs,X.H₀ b=Gb
structure iZ (X:Cx)(ω:List (Gj×Obj))(σ:List (Option V))(H:Hp)(s:Gh):Prop where
 ok:X.Ok
 os:s.os=X.s₀.os
 bare:AllBare s.gens
 base:Un X.fs X.ex X.H₀ H X.s₀.heap s.heap
 loc:∃ m,s.heap.Ns X.env.locals m/\∀ (i:Nat) (x:Str) (v:V),X.N[i]?=Ga x->σ[i]?=Ga (Ga v)->xR X.env.scope x->∃ u,lO v u/\Wc X.env s.heap m x u
 cell:∀ x c,X.env.cells.lookup x=Ga c->∃ v,s.heap.IsCell c v
 free:H X.env.locals=Gb
 freeC:∀ x c,X.env.cells.lookup x=Ga c->H c=Gb
 pin:∀ p∈X.pn++ω,s.heap.get? p.1=Ga p.2/\H p.1=Gb/\p.1≠X.env.locals/\p.1∉X.fs/\∀ v,p.2.data≠.cell v
 hok:HOk X.prog X.w H s.heap
 len:σ.length=X.N.length
section
variable {X:Cx}{ω:List (Gj×Obj)}{σ:List (Option V)}{H H':Hp}{s:Gh}{h':Heap}
theorem Cx.Ok.nofr (ok:X.Ok){b:Gj}{o:Obj}(e:X.base.get? b=Ga o):b∉X.fs:=λhb=>by
 have:=(ok.funs.mem hb).1;rw[e] at this;cases this
theorem iZ.bs (I:iZ X ω σ H s):∀ b o,X.base.get? b=Ga o->s.heap.get? b=Ga o/\H b=Gb:=λb o e =>
 ⟨I.base.keep b o (I.ok.bs b o e).1 (I.ok.bs b o e).2 (I.ok.nofr e) (I.ok.noex b o e),I.base.free b o (I.ok.bs b o e).1 (I.ok.bs b o e).2 (I.ok.noex b o e)⟩
theorem iZ.bk (I:iZ X ω σ H s):∀ b o,X.base.get? b=Ga o->s.heap.get? b=Ga o:=λb o e=>(I.bs b o e).1
theorem iZ.mod (I:iZ X ω σ H s):Mod X.K X.mg X.base:=I.ok.mod
theorem iZ.kIn (I:iZ X ω σ H s):X.K.In s.heap:=I.ok.mod.kin.keeps I.bk
theorem iZ.nolimit (I:iZ X ω σ H s):s.heap.NoLimit:=I.ok.mod.nolimit.keeps I.bk
theorem iZ.fr (I:iZ X ω σ H s):∃ m,Fr X.base X.env.locals s.heap m :=
 let ⟨m,hn,_⟩:=I.loc
 ⟨m,hn,I.bk,jk I.ok.bsz I.ok.above⟩
theorem iZ.lt (I:iZ X ω σ H s):X.env.locals<s.heap.objs.size:=let ⟨_,hn,_⟩:=I.loc;hn.lt
theorem iZ.sz (I:iZ X ω σ H s):X.s₀.heap.objs.size<=s.heap.objs.size:=jk I.ok.above (uA I.lt)
theorem iZ.nofs (I:iZ X ω σ H s){a:Gj}(h:s.heap.objs.size<=a):a∉X.fs:=λhb=>by
 obtain⟨_,o,ho,_⟩:=I.ok.funs.mem hb;exact absurd (jz (jt ho) (jk I.sz h)) (jU _)
theorem iZ.cne (I:iZ X ω σ H s):∀ x c,X.env.cells.lookup x=Ga c->c≠X.env.locals:=λx c e z=>by
 obtain⟨v,o,ho,hd⟩:=I.cell x c e;obtain⟨m,⟨o',es,ep,ho',hd',_⟩,_⟩:=I.loc;rw[z,ho'] at ho;cases ho;rw[hd'] at hd;cases hd
theorem iZ.funs (I:iZ X ω σ H s):s.heap.FunFrames X.base X.outer:=by
 have all:∀ (l:List Env),(∀ b∈tw l,b∈X.fs)->X.s₀.heap.FunFrames X.base l->s.heap.FunFrames X.base l:=by
  intro l;induction l with
  | nil=>intro _ _;trivial
  | cons ψ r ih =>
   intro hs hl;obtain⟨hk,⟨L,o,hf,hn,ho,hd⟩,hr⟩:=hl;have hL:L∈X.fs:=hs L (by unfold tw;rw[qg,hf];exact jf);obtain⟨sl,e⟩:=I.base.slot L o ho (I.ok.frf L hL) hL λz=>I.ok.exfs L z hL;exact⟨hk,⟨L,_,hf,hn,e,hd⟩,ih (λb hb=>hs b (by unfold tw;rw[qg,hf];exact jh _ hb)) hr⟩
 exact all X.outer (λ_ hb=>hb) I.ok.funs
theorem iZ.stack (I:iZ X ω σ H s):s.heap.FunFrames X.base X.stack:=by
 rcases I.ok.stk with e|⟨e,hf⟩
 .rw[e];exact I.funs
 .rw[e];obtain⟨m,hn,_⟩:=I.loc;refine .cons (by rw[I.ok.kind];decide) hf hn ?_ I.funs;exact Heap.get?_none_of_le (jk I.ok.bsz I.ok.above)
theorem iZ.stkSub (I:iZ X ω σ H s):∀ b∈tw X.stack,b∈X.env.locals::X.fs:=λb hb=>by
 rcases I.ok.stk with e|⟨e,hf⟩
 .rw[e] at hb;exact jh _ hb
 .rw[e] at hb;unfold tw at hb;rw[qg,hf] at hb;exact hb
theorem iZ.stkFree (I:iZ X ω σ H s):∀ b∈tw X.stack,H b=Gb:=λb hb=>by
 rcases ju.mp (I.stkSub b hb) with e|hb
 .rw[e];exact I.free
 .obtain⟨_,o,ho,_⟩:=I.ok.funs.mem hb;exact I.base.free b o ho (I.ok.frf b hb) λz=>I.ok.exfs b z hb
theorem iZ.step {g':Array GenState}{t':Nat}{d':Drawn}{ch:List Gj}(I:iZ X ω σ H s)
  (hch:∀ b∈ch,(b∈X.ex\/X.s₀.heap.objs.size<=b)/\b≠X.env.locals/\(∀ x c,X.env.cells.lookup x=Ga c->c≠b)/\∀ p∈X.pn++ω,p.1≠b)
  (keep:∀ b o,b≠X.env.locals->b∉X.fs->b∉ch->s.heap.get? b=Ga o->H b=Gb->h'.get? b=Ga o)
  (slot:∀ b o,b≠X.env.locals->b∈X.fs->b∉ch->s.heap.get? b=Ga o->H b=Gb->∃ sl,h'.get? b=Ga { o with slots:=sl }) (free:∀ b o,b∉ch->s.heap.get? b=Ga o->H b=Gb->H' b=Gb)
  (there:∀ b o,b∉ch->s.heap.get? b=Ga o->∃ o',h'.get? b=Ga o')
  (tups:∀ b xs,H b=Ga (.tup xs)->H' b=Ga (.tup xs)) (frzs:∀ b o u,H b=Ga (.frz o u)->H' b=Ga (.frz o u)) (tbls:∀ b ps,H b=Ga (.tbl ps)->∃ more,H' b=Ga (.tbl (ps++more)))
  (ns:∀ m,s.heap.Ns X.env.locals m->h'.Ns X.env.locals m) (hok:HOk X.prog X.w H' h') (hg:AllBare g') :
  iZ X ω σ H' { s with heap:=h',gens:=g',drawn:=d',toks:=t' }:=by
 have neL:∀ b o,X.s₀.heap.get? b=Ga o->b≠X.env.locals:=λb o e=>jJ (jz (jt e) I.ok.above);have neC:∀ b o,X.s₀.heap.get? b=Ga o->b∉X.ex->b∉ch:=λb o e hx hb=>by
  rcases(hch b hb).1 with z|z
  .exact hx z
  .exact absurd (jz (jt e) z) (jU _)
 have cellK:∀ x c,X.env.cells.lookup x=Ga c->∀ v,s.heap.IsCell c v->h'.IsCell c v:=λx c e v ⟨o,ho,hd⟩=>by
  have nch:c∉ch:=λz=>(hch c z).2.2.1 x c e rfl;by_cases hc:c∈X.fs
  .obtain⟨sl,q⟩:=slot c o (I.cne x c e) hc nch ho (I.freeC x c e);exact⟨_,q,hd⟩
  .exact⟨o,keep c o (I.cne x c e) hc nch ho (I.freeC x c e),hd⟩
 refine⟨I.ok,I.os,hg,⟨λb o e n hb hx=>?_,λb o e n hb hx=>?_,λb o e n hx=>?_,λb o e hx=>?_,λb xs e=>tups b xs (I.base.tups b xs e),λb o xs e=>frzs b o xs (I.base.frzs b o xs e),λb ps e=>?_⟩,?_,λx c e=>?_,?_,λx c e=>?_,λp hp=>?_,hok,I.len⟩
 .exact keep b o (neL b o e) hb (neC b o e hx) (I.base.keep b o e n hb hx) (I.base.free b o e n hx)
 .obtain⟨sl,e1⟩:=I.base.slot b o e n hb hx;obtain⟨sl',e2⟩:=slot b _ (neL b o e) hb (neC b o e hx) e1 (I.base.free b o e n hx);exact⟨sl',e2⟩
 .obtain⟨o',e1⟩:=I.base.there b o e hx;exact free b o' (neC b o e hx) e1 (I.base.free b o e n hx)
 .obtain⟨o',e1⟩:=I.base.there b o e hx;exact there b o' (neC b o e hx) e1
 .obtain⟨m1,e1⟩:=I.base.tbls b ps e;obtain⟨m2,e2⟩:=tbls b _ e1;exact⟨m1++m2,by rw[e2,JC]⟩
 .obtain⟨m,hn,hl⟩:=I.loc;refine⟨m,ns m hn,λi x v e1 e2 e3=>?_⟩;obtain⟨u,r,l⟩:=hl i x v e1 e2 e3;refine⟨u,r,?_⟩;rcases l with l|⟨k,c,e,z⟩
  .exact .inl l
  .exact .inr ⟨k,c,e,cellK x c e _ z⟩
 .obtain⟨v,z⟩:=I.cell x c e;exact⟨v,cellK x c e v z⟩
 .obtain⟨m,⟨o,_,_,ho,_⟩,_⟩:=I.loc;exact free _ o (λz=>(hch _ z).2.1 rfl) ho I.free
 .obtain⟨v,o,ho,hd⟩:=I.cell x c e;exact free c o (λz=>(hch c z).2.2.1 x c e rfl) ho (I.freeC x c e)
 .obtain⟨e,n,ne,nf,d⟩:=I.pin p hp;have nch:p.1∉ch:=λz=>(hch p.1 z).2.2.2 p hp rfl;exact⟨keep p.1 p.2 ne nf nch e n,free p.1 p.2 nch e n,ne,nf,d⟩
theorem iZ.un {t':Nat}(I:iZ X ω σ H s)(u:Un X.fs [] H H' s.heap h')(hok:HOk X.prog X.w H' h'):iZ X ω σ H' { s with heap:=h',toks:=t' }:=by
 obtain⟨m,⟨o,es,ep,ho,r⟩,_⟩:=id I.loc;obtain⟨sl,hL⟩:=u.any ho I.free (by simp);exact I.step (g':=s.gens) (d':=s.drawn) (ch:=[]) (λ_ z=>nomatch z) (λb o _ hb _ e n=>u.keep b o e n hb (by simp)) (λb o _ hb _ e n=>u.slot b o e n hb (by simp)) (λb o _ e n=>u.free b o e n (by simp)) (λb o _ e=>u.there b o e (by simp)) u.tups u.frzs u.tbls (λm' hm=>by
  obtain⟨o',es',ep',ho',r'⟩:=hm;rw[ho] at ho';cases ho';exact⟨_,es',ep',hL,r'⟩) hok I.bare
theorem iZ.call {g':Array GenState}{t':Nat}{d':Drawn}{ch:List Gj}(I:iZ X ω σ H s)(u:Un (tw X.stack) ch H H' s.heap h')(hok:HOk X.prog X.w H' h')(hg:AllBare g')
  (hch:∀ b∈ch,(b∈X.ex\/X.s₀.heap.objs.size<=b)/\b≠X.env.locals/\(∀ x c,X.env.cells.lookup x=Ga c->c≠b)/\∀ p∈X.pn++ω,p.1≠b) :
  iZ X ω σ H' { s with heap:=h',gens:=g',drawn:=d',toks:=t' }:=by
 obtain⟨m,⟨o,es,ep,ho,r⟩,_⟩:=id I.loc;obtain⟨sl,hL⟩:=u.any ho I.free λz=>(hch _ z).2.1 rfl;exact I.step (ch:=ch) hch (λb o hL hb hc e n=>u.keep b o e n (λz=>(ju.mp (I.stkSub b z)).elim hL hb) hc) (λb o _ _ hc e n=>u.any e n hc) (λb o hc e n=>u.free b o e n hc) (λb o hc e=>u.there b o e hc) u.tups u.frzs u.tbls (λm' hm=>by
  obtain⟨o',es',ep',ho',r'⟩:=hm;rw[ho] at ho';cases ho';exact⟨_,es',ep',hL,r'⟩) hok hg
theorem iZ.turned {t':Nat}{it:Gj}(I:iZ X ω σ H s)(k:∀ b o,b≠it->s.heap.get? b=Ga o->h'.get? b=Ga o)(hn:H it=Gb)(hL:it≠X.env.locals)
  (h1:it∈X.ex\/X.s₀.heap.objs.size<=it) (h2:∀ x c,X.env.cells.lookup x=Ga c->c≠it) (h3:∀ p∈X.pn++ω,p.1≠it):iZ X ω σ H { s with heap:=h',toks:=t' }:=by
 have nit:∀ b u,H b=Ga u->b≠it:=λb u e z=>by rw[z,hn] at e;cases e
 refine I.step (g':=s.gens) (d':=s.drawn) (ch:=[it]) (λb hb=>?_) (λb o _ _ hc e _=>k b o (λz=>hc (by simp[z])) e) (λb o _ _ hc e _=>⟨o.slots,k b o (λz=>hc (by simp[z])) e⟩) (λ_ _ _ _ n=>n)
  (λb o hc e=>⟨o,k b o (λz=>hc (by simp[z])) e⟩) (λ_ _ e=>e) (λ_ _ _ e=>e) (λb ps e=>⟨#[],by rw[e];simp⟩) (λm hm=>?_) (λb u e=>?_) I.bare
 .have e:b=it:=by simpa using hb
  subst e;exact⟨h1,hL,h2,h3⟩
 .obtain⟨o,es,ep,ho,r⟩:=hm;exact⟨o,es,ep,k _ o (ug hL) ho,r⟩
 .refine(I.hok b u e).stay (λc v hc q=>k c v ?_ q) (λ_ q=>q) λ_ _ q=>q;rcases hc with z|z
  .rw[z];exact nit b u e
  .exact nit c _ z
theorem iZ.tok (I:iZ X ω σ H s)(t:Nat):iZ X ω σ H { s with toks:=t }:=I.un (h':=s.heap) (t':=t) Un.refl I.hok
theorem iZ.kept {t':Nat}(I:iZ X ω σ H s)(k:∀ b u,s.heap.get? b=Ga u->h'.get? b=Ga u):iZ X ω σ H { s with heap:=h',toks:=t' }:=I.un (Un.kept k) (I.hok.kept k)
theorem iZ.laid {a:Gj}{o:HO}{t':Nat}(I:iZ X ω σ H s)(k:∀ b u,s.heap.get? b=Ga u->h'.get? b=Ga u)(hp:s.heap.objs.size<=a)(new:oQ X.prog X.w (upd H a o) h' a o) :
  iZ X ω σ (upd H a o) { s with heap:=h',toks:=t' }:=I.un (Un.laid k hp (I.hok.fresh hp)) (I.hok.laid k hp new)
theorem iZ.write {x e:Gj}{o:HO}{t':Nat}(I:iZ X ω σ H s)(mu:Eo (H x))(he:e=x\/H e=Ga (.own x))(k:∀ b u,b≠e->s.heap.get? b=Ga u->h'.get? b=Ga u)(heo:∃ u,h'.get? e=Ga u)
  (new:oQ X.prog X.w (upd H x o) h' x o):iZ X ω σ (upd H x o) { s with heap:=h',toks:=t' }:=I.un (Un.write mu he k heo) (I.hok.write mu he k heo new)
theorem iZ.pins_of {pins':List (Gj×Obj)}(I:iZ X ω σ H s)(h:∀ p∈pins',s.heap.get? p.1=Ga p.2/\H p.1=Gb/\p.1≠X.env.locals/\p.1∉X.fs/\∀ v,p.2.data≠.cell v):iZ X pins' σ H s :=
 ⟨I.ok,I.os,I.bare,I.base,I.loc,I.cell,I.free,I.freeC,λp hp=>(jV.mp hp).elim (λz=>I.pin p (Jl _ z)) (h p),I.hok,I.len⟩
theorem Bf {N:List Str}(hN:N.Nodup){i j:Nat}{x:Str}(a:N[i]?=Ga x)(b:N[j]?=Ga x):i=j:=by
 obtain⟨h1,e1⟩:=jr.mp a;obtain⟨h2,e2⟩:=jr.mp b;exact(JX hN).mp (e1.trans e2.symm)
theorem zZ {M:Model}{A:Around}{E:Gg->Gh->Prop}{i:Nat}{x:Str}{v:V}{u:Gg}{Q:Unit->Gh->Prop}(I:iZ X ω σ H s)(hN:X.N.Nodup)(hi:X.N[i]?=Ga x)(hx:zd X.env.scope x)(r:lO v u)
  (h:∀ s',iZ X ω (σ.set i (Ga v)) H s'->(∃ a,qN a s.heap s'.heap/\(a=X.env.locals\/X.env.cells.lookup x=Ga a))->Q () s') (hf:X.fn x=true\/X.env.scope.names.lookup x=Ga .local:=by first|exact .inl rfl|exact .inr rfl|assumption):wpAny M A (storeName X.env x u) Q E s:=by
 obtain⟨m,hn,hl⟩:=id I.loc;have hcls:(X.env.scope.kind==.class||(X.env.scope.kind==.module&&X.env.locals !=X.env.globals))=false:=by rw[I.ok.kind];rfl
 have hiσ:i<σ.length:=by rw[I.len];exact(jr.mp hi).1
 have cne:=I.cne;have tracked:∀ {a:Gj} {h':Heap},(∃ o,s.heap.get? a=Ga o/\H a=Gb)->qN a s.heap h'->HOk X.prog X.w H h':=λ{a h'} ha hs b ob e=>by
  obtain⟨_,_,hfree⟩:=ha;refine(I.hok b ob e).stay (λc w' hc q=>(hs.2 c ?_).trans q) (λ_ q=>q) λ_ _ q=>q;rintro rfl;rcases hc with rfl|hc
  .rw[hfree] at e;cases e
  .rw[hfree] at hc;cases hc
 rcases hx with hk|hk
 .refine wpAny_storeName_local hk hn (λh' hn' hs=>?_) hcls;obtain⟨oL,_,_,hoL,_⟩:=id hn;refine h _ ⟨I.ok,I.os,I.bare,⟨λb o e n hb hx=>?_,λb o e n hb hx=>?_,I.base.free,λb o e hx=>?_,I.base.tups,I.base.frzs,I.base.tbls⟩,⟨_,hn',λj y v' e1 e2 e3=>?_⟩,λy c e=>?_,I.free,I.freeC,λp hp=>?_,tracked ⟨oL,hoL,I.free⟩ hs,by simpa using I.len⟩ ⟨_,hs,.inl rfl⟩
  .exact(hs.2 b (jJ (jz (jt e) I.ok.above))).trans (I.base.keep b o e n hb hx)
  .obtain⟨sl,e1⟩:=I.base.slot b o e n hb hx;exact⟨sl,(hs.2 b (jJ (jz (jt e) I.ok.above))).trans e1⟩
  .obtain⟨o',e1⟩:=I.base.there b o e hx;exact⟨o',(hs.2 b (jJ (jz (jt e) I.ok.above))).trans e1⟩
  .by_cases hj:j=i
   .subst hj;rw[hi] at e1;cases e1;rw[jS hiσ] at e2;cases e2;exact⟨u,r,.inl ⟨hk,by simp⟩⟩
   .rw[jQ (ug hj)] at e2;obtain⟨u',r',q⟩:=hl j y v' e1 e2 e3;refine⟨u',r',?_⟩;rcases q with ⟨k,e⟩|⟨k,c,e,z⟩
    .refine .inl ⟨k,?_⟩;have:y≠x:=λe=>hj (Bf hN e1 (e▸hi));simp[this,e]
    .exact .inr ⟨k,c,e,z.sameBut hs (cne y c e)⟩
  .obtain⟨w',z⟩:=I.cell y c e;exact⟨w',z.sameBut hs (cne y c e)⟩
  .obtain⟨e,n,ne,nf,d⟩:=I.pin p hp;exact⟨(hs.2 p.1 ne).trans e,n,ne,nf,d⟩
 .have hfn:X.fn x=true:=by
   rcases hf with z|z
   .exact z
   .rw[z] at hk;cases hk
  obtain⟨c,hc⟩:=I.ok.has x (.inl hk);obtain⟨w',z⟩:=I.cell x c hc;refine wpAny_storeName_cell I.ok.kind hk hc z (λh' hc' hs=>?_);obtain⟨oc,hoc,hocd⟩:=id z;refine h { s with heap:=h' } ⟨I.ok,I.os,I.bare,⟨λb o e n hb hx=>?_,λb o e n hb hx=>?_,I.base.free,λb o e hx=>?_,I.base.tups,I.base.frzs,I.base.tbls⟩,⟨m,hn.sameBut hs (ug (cne x c hc)),λj y v' e1 e2 e3=>?_⟩,λy c' e=>?_,I.free,I.freeC,λp hp=>?_,tracked ⟨oc,hoc,I.freeC x c hc⟩ hs,by simpa using I.len⟩ ⟨c,hs,.inr hc⟩
  .exact(hs.2 b (jJ (jz (jt e) (I.ok.cab x c hfn hc)))).trans (I.base.keep b o e n hb hx)
  .obtain⟨sl,e1⟩:=I.base.slot b o e n hb hx;exact⟨sl,(hs.2 b (jJ (jz (jt e) (I.ok.cab x c hfn hc)))).trans e1⟩
  .obtain⟨o',e1⟩:=I.base.there b o e hx;exact⟨o',(hs.2 b (jJ (jz (jt e) (I.ok.cab x c hfn hc)))).trans e1⟩
  .by_cases hj:j=i
   .subst hj;rw[hi] at e1;cases e1;rw[jS hiσ] at e2;cases e2;exact⟨u,r,.inr ⟨.inl hk,c,hc,hc'⟩⟩
   .rw[jQ (ug hj)] at e2;obtain⟨u',r',q⟩:=hl j y v' e1 e2 e3;refine⟨u',r',?_⟩;rcases q with q|⟨k,c',e,z'⟩
    .exact .inl q
    .refine .inr ⟨k,c',e,z'.sameBut hs ?_⟩;rintro rfl;exact hj (Bf hN e1 (I.ok.inj _ _ _ e hc▸hi))
  .by_cases hcc:c'=c
   .subst hcc;exact⟨_,hc'⟩
   .obtain⟨w2,z2⟩:=I.cell y c' e;exact⟨w2,z2.sameBut hs hcc⟩
  .obtain⟨e,n,ne,nf,d⟩:=I.pin p hp;refine⟨(hs.2 p.1 ?_).trans e,n,ne,nf,d⟩;intro q;rw[q,hoc] at e;have q':oc=p.2:=jF e;exact d w' (by rw[<- q'];exact hocd)
theorem Ba {M:Model}{A:Around}{E:Gg->Gh->Prop}{i:Nat}{x:Str}{v:V}{u:Gg}{Q:Unit->Gh->Prop}(I:iZ X ω σ H s)(hN:X.N.Nodup)(hi:X.N[i]?=Ga x)(hx:zd X.env.scope x)(r:lO v u)
  (h:∀ s',iZ X ω (σ.set i (Ga v)) H s'->Q () s') (hf:X.fn x=true\/X.env.scope.names.lookup x=Ga .local:=by first|exact .inl rfl|exact .inr rfl|assumption):wpAny M A (storeName X.env x u) Q E s :=
 zZ I hN hi hx r (λs' I' _=>h s' I') hf
theorem iZ.call' {s':Gh}{ch:List Gj}(I:iZ X ω σ H s)(ho:s'.os=s.os)(u:Un (tw X.stack) ch H H' s.heap s'.heap)(hok:HOk X.prog X.w H' s'.heap)(hg:AllBare s'.gens)
  (hch:∀ b∈ch,(b∈X.ex\/X.s₀.heap.objs.size<=b)/\b≠X.env.locals/\(∀ x c,X.env.cells.lookup x=Ga c->c≠b)/\∀ p∈X.pn++ω,p.1≠b):iZ X ω σ H' s':=by
 obtain⟨h',g',d',t',o'⟩:=s';have e:o'=s.os:=ho;subst e;exact I.call (g':=g') (t':=t') (d':=d') u hok hg hch
end
abbrev XK:=Gg->Option Gj->Hp->Prop
abbrev St:=List (Option V)
abbrev VK:=V->Hp->Prop
abbrev TE:=St->Hp->VK->Prop
abbrev TT:=St->Hp->(Bool->Hp->Prop)->Prop
abbrev TA:=St->Hp->(List V->Hp->Prop)->Prop
structure yU where
 nx:St->Hp->Prop
 rt:VK
 bk:St->Hp->Prop:=λ_ _=>False
 ct:St->Hp->Prop:=λ_ _=>False
abbrev TS:=yU->St->Hp->Prop
def EP (X:Cx)(ω:List (Gj×Obj))(σ:St)(Q:VK)(u:Gg)(s':Gh):Prop:=∃ v H',iZ X ω σ H' s'/\lO v u/\Q v H'
def TP (X:Cx)(ω:List (Gj×Obj))(σ:St)(Q:Bool->Hp->Prop)(b:Bool)(s':Gh):Prop:=∃ H',iZ X ω σ H' s'/\Q b H'
def AP (X:Cx)(ω:List (Gj×Obj))(σ:St)(Q:List V->Hp->Prop)(us:List Gg)(s':Gh):Prop:=∃ vs H',iZ X ω σ H' s'/\lH vs us/\Q vs H'
def SP (X:Cx)(ω:List (Gj×Obj))(D:yU)(f:Flow)(s':Gh):Prop :=
 match f with
 | .next=>∃ σ' H',iZ X ω σ' H' s'/\D.nx σ' H'
 | .brk=>∃ σ' H',iZ X ω σ' H' s'/\D.bk σ' H'
 | .cont=>∃ σ' H',iZ X ω σ' H' s'/\D.ct σ' H'
 | .ret u=>∃ v σ' H',iZ X ω σ' H' s'/\lO v u/\D.rt v H'
def PE (X:Cx)(e:Expr)(t:TE):Prop :=
 ∀ (ω:List (Gj×Obj)) (s:Gh) (σ:St) (H:Hp) (Q:VK),iZ X ω σ H s->t σ H Q->wpAny (model X.prog X.w) X.A (eval e X.env) (EP X ω σ Q) X.xe s
def PT (X:Cx)(e:Expr)(t:TT):Prop :=
 ∀ (ω:List (Gj×Obj)) (s:Gh) (σ:St) (H:Hp) (Q:Bool->Hp->Prop),iZ X ω σ H s->t σ H Q->wpAny (model X.prog X.w) X.A (isTrue e X.env (eval e X.env)) (TP X ω σ Q) X.xe s
def PW (X:Cx)(e:Expr)(t:TT):Prop :=
 ∀ (whole:Sem Gg) (ω:List (Gj×Obj)) (s:Gh) (σ:St) (H:Hp) (Q:Bool->Hp->Prop),iZ X ω σ H s->t σ H Q->wpAny (model X.prog X.w) X.A (isTrue e X.env whole) (TP X ω σ Q) X.xe s
theorem PW.pt {X:Cx}{e:Expr}{t:TT}(h:PW X e t):PT X e t:=h _
def PA (X:Cx)(es:List Expr)(t:TA):Prop :=
 ∀ (pos:Pos) (ω:List (Gj×Obj)) (s:Gh) (σ:St) (H:Hp) (Q:List V->Hp->Prop),iZ X ω σ H s->t σ H Q->wpAny (model X.prog X.w) X.A (spliced (backTo pos (starEach es X.env))) (AP X ω σ Q) X.xe s
def PS (X:Cx)(st:Stmt)(t:TS):Prop :=
 ∀ (ω:List (Gj×Obj)) (s:Gh) (σ:St) (H:Hp) (D:yU),iZ X ω σ H s->t D σ H->wpAny (model X.prog X.w) X.A (exec st X.env) (SP X ω D) X.xe s
def tz (X:Cx)(st:List Stmt)(t:TS):Prop :=
 ∀ (ω:List (Gj×Obj)) (s:Gh) (σ:St) (H:Hp) (D:yU),iZ X ω σ H s->t D σ H->wpAny (model X.prog X.w) X.A (execs st X.env) (SP X ω D) X.xe s
theorem lZ {α:Type}{t:Sem α}{Q Q':α->Gh->Prop}{M:Model}{A:Around}{E:Gg->Gh->Prop}{s:Gh}(h:wpAny M A t Q E s)(hQ:∀ a s,Q a s->Q' a s):wpAny M A t Q' E s:=wpAny_mono h hQ λ_ _ x=>x
section
variable {X:Cx}
theorem lx {a b:Expr}{ta tb:TE}(ha:PE X a ta)(hb:PE X b tb){ω:List (Gj×Obj)}{s:Gh}{σ:St}{H:Hp}{R:V->V->Hp->Prop}(I:iZ X ω σ H s)(h:ta σ H λx H1=>tb σ H1 λy H2=>R x y H2)
  {α:Type} {Q:α->Gh->Prop} {f:Gg->Gg->Sem α}
  (hf:∀ v u s2 x y H2,iZ X ω σ H2 s2->lO x v->lO y u->R x y H2->wpAny (model X.prog X.w) X.A (f v u) Q X.xe s2) :
  wpAny (model X.prog X.w) X.A (eval a X.env) (λv s₁=>wpAny (model X.prog X.w) X.A (eval b X.env) (λu s₂=>wpAny (model X.prog X.w) X.A (f v u) Q X.xe s₂) X.xe s₁) X.xe s:=by
 refine lZ (ha ω s σ H _ I h) λv s1 ⟨x,H1,I1,r1,q1⟩=>?_;refine lZ (hb ω s1 σ H1 _ I1 q1) λu s2 ⟨y,H2,I2,r2,q2⟩=>?_;exact hf v u s2 x y H2 I2 r1 r2 q2
def WB (i:Nat):TE:=λσ H Q=>∃ v,σ[i]?=Ga (Ga v)/\Q v H
def tC (v:V):TE:=λ_ H Q=>Q v H
theorem su {i:Nat}{x:Str}{pos:Pos}(hN:X.N[i]?=Ga x)(hv:xR X.env.scope x)(hd:(x==("__debug__":Str))=false:=by decide)(hcd:(x==("__classdict__":Str))=false:=by decide):PE X (.Name x pos) (WB i):=by
 intro ω s σ H Q I h;obtain⟨v,e,h⟩:=h;obtain⟨m,hn,hl⟩:=I.loc;obtain⟨u,r,l⟩:=hl i x v hN e hv;have fin:EP X ω σ Q u s:=⟨v,H,I,r,h⟩;rcases l with ⟨hk,hm⟩|⟨hk,c,hc,hcell⟩
 .exact wpAny_Name (wpAny_loadName_local I.ok.kind hk hn hm fin) hd
 .rcases hk with hk|hk
  .exact wpAny_Name (wpAny_loadName_cell I.ok.kind hk hc hcell fin) hd
  .exact wpAny_Name (wpAny_loadName_free I.ok.kind hk hc hcell fin hcd) hd
theorem Mo {i j pos}:PE X (.Constant (.int i) j pos) (tC (.int i)):=λ_ _ _ H _ I h=>wpAny_Constant_int ⟨.int i,H,I.tok _,⟨_,rfl⟩,h⟩
theorem QE {b j pos}:PE X (.Constant (.bool b) j pos) (tC (.bl b)):=λ_ _ _ H _ I h=>Constant_bool ⟨.bl b,H,I,rfl,h⟩
theorem Lm {j pos}:PE X (.Constant .none j pos) (tC .non):=λ_ _ _ H _ I h=>Constant_none ⟨.non,H,I,rfl,h⟩
theorem ND {x j pos}:PE X (.Constant (.str x) j pos) (tC (.str x)):=λ_ _ _ H _ I h=>Calls.Constant_str ⟨.str x,H,I.tok _,⟨_,rfl⟩,h⟩
def Gl (X:Cx)(x:Str):Prop:=X.env.kindOf x=Ga .globalImplicit
theorem zV {E:Gg->Gh->Prop}{ω:List (Gj×Obj)}{s:Gh}{σ:St}{H:Hp}{x:Str}{u:Gg}{pos:Pos}{Q:Gg->Gh->Prop}(I:iZ X ω σ H s)(hg:Gl X x)(hm:X.mg x=Ga u)(h:Q u s)
  (hd:(x==("__debug__":Str))=false:=by decide):wpAny (model X.prog X.w) X.A (eval (.Name x pos) X.env) Q E s :=
 ql I.ok.kind hg (Calls.loadGlobal_global (by rw[I.ok.glob];exact I.mod.glob.keeps I.bk) hm h) hd
theorem sU {E:Gg->Gh->Prop}{ω:List (Gj×Obj)}{s:Gh}{σ:St}{H:Hp}{x:Str}{u:Gg}{pos:Pos}{Q:Gg->Gh->Prop}(I:iZ X ω σ H s)(hg:Gl X x)(hm:X.mg x=Gb)(hv:bootBuiltins x=Ga u)(h:Q u s)
  (hn:x≠"__name__":=by decide) (hd:(x==("__debug__":Str))=false:=by decide):wpAny (model X.prog X.w) X.A (eval (.Name x pos) X.env) Q E s:=by
 obtain⟨mb,h1,h2⟩:=I.mod.blt;exact ql I.ok.kind hg (Calls.loadGlobal_builtin (by rw[I.ok.glob];exact I.mod.glob.keeps I.bk) hm (by rw[I.ok.blt];exact h1.keeps I.bk) ((h2 x hn).trans hv) h) hd
theorem IT {x:Str}{v:V}{u:Gg}{pos:Pos}(hg:Gl X x)(hm:X.mg x=Ga u)(r:lO v u)(hd:(x==("__debug__":Str))=false:=by decide):PE X (.Name x pos) (tC v) :=
 λ_ _ _ H _ I h=>zV I hg hm ⟨v,H,I,r,h⟩ hd
variable {a b:Expr}{ta tb:TE}{pos:Pos}
variable {tA tB':TT}{rest:List Expr}
def WC (t u:TT):TT:=λσ H Q=>t σ H λc H1=>if c=true then u σ H1 Q else Q false H1
def Xq (t u:TT):TT:=λσ H Q=>t σ H λc H1=>if c=true then Q true H1 else u σ H1 Q
def Wm (t:TT):TT:=λσ H Q=>t σ H λc H1=>Q (!c) H1
theorem IM (ha:PT X a tA):PW X (.BoolOp .And [a] pos) tA:=by
 intro wh ω s σ H Q I h;refine isTrue_and (lZ (ha ω s σ H Q I h) λc s1 e=>?_);cases c with
 | true=>exact isTrue_and_nil e
 | false=>exact e
theorem Kp (ha:PT X a tA):PW X (.BoolOp .Or [a] pos) tA:=by
 intro wh ω s σ H Q I h;refine isTrue_or (lZ (ha ω s σ H Q I h) λc s1 e=>?_);cases c with
 | false=>exact isTrue_or_nil e
 | true=>exact e
theorem Px (ha:PT X a tA)(hb:PW X (.BoolOp .And (b::rest) pos) tB'):PW X (.BoolOp .And (a::b::rest) pos) (WC tA tB'):=by
 intro wh ω s σ H Q I h;refine isTrue_and (lZ (ha ω s σ H _ I h) λc s1 ⟨H1,I1,q1⟩=>?_);cases c with
 | true=>exact hb wh ω s1 σ H1 Q I1 q1
 | false=>exact⟨H1,I1,q1⟩
theorem QA (ha:PT X a tA)(hb:PW X (.BoolOp .Or (b::rest) pos) tB'):PW X (.BoolOp .Or (a::b::rest) pos) (Xq tA tB'):=by
 intro wh ω s σ H Q I h;refine isTrue_or (lZ (ha ω s σ H _ I h) λc s1 ⟨H1,I1,q1⟩=>?_);cases c with
 | true=>exact⟨H1,I1,q1⟩
 | false=>exact hb wh ω s1 σ H1 Q I1 q1
theorem LY (ha:PT X a tA):PT X (.UnaryOp .Not a pos) (Wm tA):=by
 intro ω s σ H Q I h;exact isTrue_not (ha ω s σ H (λc H1=>Q (!c) H1) I h)
def Qq (ta tb:TE):TE:=λσ H Q=>ta σ H λx H1=>∃ c,x=.bl c/\if c=true then tb σ H1 Q else Q (.bl false) H1
def We (ta tb:TE):TE:=λσ H Q=>ta σ H λx H1=>∃ c,x=.bl c/\if c=true then Q (.bl true) H1 else tb σ H1 Q
def QF (ta:TE):TE:=λσ H Q=>ta σ H λx H1=>∃ c,x=.bl c/\Q (.bl (!c)) H1
theorem MW {op}{t:TE}(h:PE X a t):PE X (.BoolOp op [a] pos) t:=λω s σ H Q I hw=>BoolOp_one (h ω s σ H Q I hw)
theorem KC (ha:PE X a ta)(hb:PE X (.BoolOp .And (b::rest) pos) tb):PE X (.BoolOp .And (a::b::rest) pos) (Qq ta tb):=by
 intro ω s σ H Q I h;refine BoolOp_and (lZ (ha ω s σ H _ I h) λv s1 ⟨x,H1,I1,r1,q1⟩=>?_);obtain⟨c,rfl,q1⟩:=q1;cases r1;refine wpAny_truthy_bool ?_;cases c with
 | true=>exact hb ω s1 σ H1 Q I1 q1
 | false=>exact⟨.bl false,H1,I1,rfl,q1⟩
theorem Qy (ha:PE X a ta)(hb:PE X (.BoolOp .Or (b::rest) pos) tb):PE X (.BoolOp .Or (a::b::rest) pos) (We ta tb):=by
 intro ω s σ H Q I h;refine BoolOp_or (lZ (ha ω s σ H _ I h) λv s1 ⟨x,H1,I1,r1,q1⟩=>?_);obtain⟨c,rfl,q1⟩:=q1;cases r1;refine wpAny_truthy_bool ?_;cases c with
 | false=>exact hb ω s1 σ H1 Q I1 q1
 | true=>exact⟨.bl true,H1,I1,rfl,q1⟩
theorem MR (ha:PE X a ta):PE X (.UnaryOp .Not a pos) (QF ta):=by
 intro ω s σ H Q I h;refine UnaryOp_ (lZ (ha ω s σ H _ I h) λv s1 ⟨x,H1,I1,r1,q1⟩=>?_);obtain⟨c,rfl,q1⟩:=q1;cases r1;exact not_of (wpAny_truthy_bool ⟨.bl (!c),H1,I1,rfl,q1⟩)
def tIf (t:TT)(ta tb:TE):TE:=λσ H Q=>t σ H λc H1=>if c=true then ta σ H1 Q else tb σ H1 Q
theorem FY {c:Expr}(hc:PT X c tA)(ha:PE X a ta)(hb:PE X b tb):PE X (.IfExp c a b pos) (tIf tA ta tb):=by
 intro ω s σ H Q I h;refine wpAny_IfExp (lZ (hc ω s σ H _ I h) λd s1 ⟨H1,I1,q1⟩=>?_);cases d with
 | true=>exact ha ω s1 σ H1 Q I1 q1
 | false=>exact hb ω s1 σ H1 Q I1 q1
end
def nr (K:ja)(H:Hp)(a:Gj)(xs:List V):Prop :=
 Rd H a (.lst xs) \/
  ∃ (o:Obj) (its:Array Gg) (n:Nat),K.lookup a=Ga o/\o.cls=.type "list"/\o.dict=Gb/\o.data=.seq its n/\its.size<=sizeLine/\lH xs its.toList
def oB (K:ja)(H:Hp)(a:Gj)(xs:List V):Prop :=
 Rd H a (.tup xs) \/
  ∃ (o:Obj) (its:Array Gg) (n:Nat),K.lookup a=Ga o/\o.cls=.type "tuple"/\o.data=.seq its n/\its.size<=sizeLine/\lH xs its.toList
def Wv:Gg->Option V
 | .none=>Ga .non
 | .bool b=>Ga (.bl b)
 | .int i _=>Ga (.int i)
 | .str x _=>Ga (.str x)
 | .bytes b _=>Ga (.byt b)
 | .float b _=>Ga (.flt b)
 | .ref a=>Ga (.ref a)
 | .type n=>Ga (.ty n)
 | _=>Gb
theorem lO.abs {x:V}{u:Gg}(r:lO x u):Wv u=Ga x:=by
 cases x with
 | non=>cases r;rfl
 | bl _=>cases r;rfl
 | int _=>obtain⟨t,rfl⟩:=r;rfl
 | str _=>obtain⟨t,rfl⟩:=r;rfl
 | byt _=>obtain⟨t,rfl⟩:=r;rfl
 | flt _=>obtain⟨t,rfl⟩:=r;rfl
 | ref _=>cases r;rfl
 | ty _=>cases r;rfl
theorem lO.inj {x y:V}{u:Gg}(r:lO x u)(q:lO y u):x=y:=jF (r.abs.symm.trans q.abs)
theorem lH.inj:∀ {xs ys:List V} {us:List Gg},lH xs us->lH ys us->xs=ys
 | _,_,_,.nil,.nil=>rfl
 | _,_,_,.cons r t,.cons r' t'=>by rw[r.inj r',lH.inj t t']
section
variable {X:Cx}{ω:List (Gj×Obj)}{σ:St}{H:Hp}{s:Gh}{a:Gj}{xs ys:List V}
theorem nr.of {K:ja}(h:H a=Ga (.lst xs)):nr K H a xs:=.inl (.inl h)
theorem oB.of {K:ja}(h:H a=Ga (.tup xs)):oB K H a xs:=.inl (.inl h)
theorem iZ.list (I:iZ X ω σ H s)(h:nr X.K H a xs):∃ its:List Gg,lH xs its/\PlainL s.heap a its.toArray/\xs.length<=sizeLine:=by
 rcases h with h|⟨o,its,n,hk,hc,hd,hs,hz,r⟩
 .obtain⟨z,its,n,r,e⟩:=h.ok I.hok;exact⟨its,r,⟨_,n,e,rfl,rfl,rfl⟩,z⟩
 .refine⟨its.toList,r,⟨o,n,I.kIn a o hk,hc,hd,by simpa using hs⟩,?_⟩;have e:=r.length;simp only[kb] at e;omega
theorem iZ.tuple (I:iZ X ω σ H s)(h:oB X.K H a xs):∃ its:List Gg,lH xs its/\IsTup s.heap a its.toArray/\xs.length<=sizeLine:=by
 rcases h with h|⟨o,its,n,hk,hc,hs,hz,r⟩
 .obtain⟨z,its,r,p⟩:=h.ok I.hok;exact⟨its,r,p,z⟩
 .refine⟨its.toList,r,⟨o,I.kIn a o hk,hc,n,by simpa using hs⟩,?_⟩;have e:=r.length;simp only[kb] at e;omega
theorem iZ.list_inj (I:iZ X ω σ H s)(h:nr X.K H a xs)(h':nr X.K H a ys):xs=ys:=by
 obtain⟨its,r,⟨o,n,e,_,_,d⟩,_⟩:=I.list h;obtain⟨its',r',⟨o',n',e',_,_,d'⟩,_⟩:=I.list h';rw[e] at e';cases e';rw[d] at d'
 injection d' with d1 _
 have:its=its':=by simpa using congrArg Array.toList d1
 subst this;exact r.inj r'
theorem iZ.tuple_inj (I:iZ X ω σ H s)(h:oB X.K H a xs)(h':oB X.K H a ys):xs=ys:=by
 obtain⟨its,r,⟨o,e,_,n,d⟩,_⟩:=I.tuple h;obtain⟨its',r',⟨o',e',_,n',d'⟩,_⟩:=I.tuple h';rw[e] at e';cases e';rw[d] at d'
 injection d' with d1 _
 have:its=its':=by simpa using congrArg Array.toList d1
 subst this;exact r.inj r'
end
abbrev Cx.wish (X:Cx)(E:Gg->Gh->Prop):Cx:={ X with xe:=E }
abbrev Cx.nox (X:Cx):Cx:=X.wish λ_ _=>False
theorem Cx.Ok.wish {X:Cx}(ok:X.Ok)(E:Gg->Gh->Prop):(X.wish E).Ok :=
 ⟨ok.mod,ok.kind,ok.glob,ok.blt,ok.above,ok.inj,ok.has,ok.cab,ok.hd,ok.frames,ok.stk,ok.exf,ok.bs,ok.bsz,ok.noex,ok.exfs,ok.funs,ok.frf⟩
theorem Cx.Ok.unwish {X:Cx}{E:Gg->Gh->Prop}(ok:(X.wish E).Ok):X.Ok :=
 ⟨ok.mod,ok.kind,ok.glob,ok.blt,ok.above,ok.inj,ok.has,ok.cab,ok.hd,ok.frames,ok.stk,ok.exf,ok.bs,ok.bsz,ok.noex,ok.exfs,ok.funs,ok.frf⟩
section
variable {X:Cx}{ω:List (Gj×Obj)}{σ:St}{H:Hp}{s:Gh}{E:Gg->Gh->Prop}
theorem iZ.wish (I:iZ X ω σ H s)(E:Gg->Gh->Prop):iZ (X.wish E) ω σ H s:=⟨I.ok.wish E,I.os,I.bare,I.base,I.loc,I.cell,I.free,I.freeC,I.pin,I.hok,I.len⟩
theorem iZ.unwish (I:iZ (X.wish E) ω σ H s):iZ X ω σ H s:=⟨I.ok.unwish,I.os,I.bare,I.base,I.loc,I.cell,I.free,I.freeC,I.pin,I.hok,I.len⟩
theorem SP.unwish {D:yU}{f:Flow}{s':Gh}(h:SP (X.wish E) ω D f s'):SP X ω D f s':=by
 cases f with
 | next=>obtain⟨σ',H',I,q⟩:=h;exact⟨σ',H',I.unwish,q⟩
 | brk=>obtain⟨σ',H',I,q⟩:=h;exact⟨σ',H',I.unwish,q⟩
 | cont=>obtain⟨σ',H',I,q⟩:=h;exact⟨σ',H',I.unwish,q⟩
 | ret u=>obtain⟨v,σ',H',I,r,q⟩:=h;exact⟨v,σ',H',I.unwish,r,q⟩
theorem PE.nox {e:Expr}{t:TE}(h:PE X.nox e t):PE X e t:=λω s σ H Q I hw =>
 wpAny_mono (h ω s σ H Q (I.wish _) hw) (λ_ _ ⟨v,H',I',r,q⟩=>⟨v,H',I'.unwish,r,q⟩) λ_ _ z=>False.elim z
theorem PT.nox {e:Expr}{t:TT}(h:PT X.nox e t):PT X e t:=λω s σ H Q I hw =>
 wpAny_mono (h ω s σ H Q (I.wish _) hw) (λ_ _ ⟨H',I',q⟩=>⟨H',I'.unwish,q⟩) λ_ _ z=>False.elim z
theorem tz.nox {st:List Stmt}{t:TS}(h:tz X.nox st t):tz X st t:=λω s σ H D I hw =>
 wpAny_mono (h ω s σ H D (I.wish _) hw) (λ_ _ q=>q.unwish) λ_ _ z=>False.elim z
end
section
variable {X:Cx}{st:Stmt}{rest:List Stmt}{t u:TS}{e:Expr}{te:TE}{pos:Pos}
def QL:TS:=λD σ H=>D.nx σ H
def VW (t u:TS):TS:=λD σ H=>t { D with nx:=u D } σ H
theorem IB:tz X [] QL:=λ_ _ σ H _ I h=>wpAny_execs_nil ⟨σ,H,I,h⟩
theorem FC (h1:PS X st t)(h2:tz X rest u):tz X (st::rest) (VW t u):=by
 intro ω s σ H D I h;refine wpAny_execs_cons (lZ (h1 ω s σ H { D with nx:=u D } I h) λf s1 q=>?_);cases f with
 | next =>
  obtain⟨σ',H',I',q⟩:=q;exact h2 ω s1 σ' H' D I' q
 | ret v=>exact q
 | brk=>exact q
 | cont=>exact q
theorem IC (h1:PS X st t):tz X [st] t:=by
 intro ω s σ H D I h;refine wpAny_execs_cons (lZ (h1 ω s σ H D I h) λf s1 q=>?_);cases f with
 | next=>exact wpAny_execs_nil q
 | ret v=>exact q
 | brk=>exact q
 | cont=>exact q
theorem iZ.quiet {ω:List (Gj×Obj)}{σ:St}{H:Hp}{s:Gh}(I:iZ X ω σ H s):interactive X.env=false:=by simp[interactive,I.ok.kind]
def QD (te:TE):TS:=λD σ H=>te σ H λ_ H1=>D.nx σ H1
theorem CJ (he:PE X e te)(hs:swapsWith e Gb pos.line X.env=pure false:=by rfl):PS X (.Expr e pos) (QD te):=by
 intro ω s σ H D I h;exact wpAny_Expr_any (lZ (he ω s σ H _ I h) λv s1 ⟨x,H1,I1,r1,q1⟩=>⟨σ,H1,I1,q1⟩) I.quiet hs
def Ww (te:TE):TS:=λD σ H=>te σ H D.rt
theorem Bx (he:PE X e te):PS X (.Return (Ga e) pos) (Ww te):=by
 intro ω s σ H D I h;exact wpAny_Return_some (lZ (he ω s σ H _ I h) λv s1 ⟨x,H1,I1,r1,q1⟩=>⟨x,σ,H1,I1,r1,q1⟩)
def VV (c:TT)(t u:TS):TS:=λD σ H=>c σ H λb H1=>if b=true then t D σ H1 else u D σ H1
theorem QH {c:Expr}{a b:List Stmt}{tc:TT}(hc:PT X c tc)(ha:tz X a t)(hb:tz X b u):PS X (.If c a b pos) (VV tc t u):=by
 intro ω s σ H D I h;refine wpAny_If (lZ (hc ω s σ H _ I h) λd s1 ⟨H1,I1,q1⟩=>?_);cases d with
 | true=>exact ha ω s1 σ H1 D I1 q1
 | false=>exact hb ω s1 σ H1 D I1 q1
end
abbrev TG:=V->St->Hp->(St->Hp->Prop)->Prop
abbrev zx:=List V->St->Hp->(St->Hp->Prop)->Prop
def PG (X:Cx)(target:Expr)(t:TG):Prop :=
 ∀ (ω:List (Gj×Obj)) (s:Gh) (σ:St) (H:Hp) (v:V) (u:Gg) (Q:St->Hp->Prop),iZ X ω σ H s->lO v u->t v σ H Q ->
  wpAny (model X.prog X.w) X.A (assign target X.env u) (λ_ s'=>∃ σ' H',iZ X ω σ' H' s'/\Q σ' H') X.xe s
def Bp (X:Cx)(ts:List Expr)(t:zx):Prop :=
 ∀ (ω:List (Gj×Obj)) (s:Gh) (σ:St) (H:Hp) (vs:List V) (us:List Gg) (Q:St->Hp->Prop),iZ X ω σ H s->lH vs us->t vs σ H Q ->
  wpAny (model X.prog X.w) X.A (assignInOrder ((assignEach ts X.env).map (·.2)) us) (λ_ s'=>∃ σ' H',iZ X ω σ' H' s'/\Q σ' H') X.xe s
abbrev FD:=V->V->V->Hp->(Hp->Prop)->Prop
def Qm (X:Cx)(t:FD):Prop :=
 ∀ (ω:List (Gj×Obj)) (s:Gh) (σ:St) (H:Hp) (o i v:V) (ov iv u:Gg) (Q:Hp->Prop),iZ X ω σ H s->lO o ov->lO i iv->lO v u->t o i v H Q ->
  wpAny (model X.prog X.w) X.A (setItem ov iv u) (λ_ s'=>∃ H',iZ X ω σ H' s'/\Q H') X.xe s
section
variable {X:Cx}{pos:Pos}
def HG (i:Nat):TG:=λv σ H Q=>Q (σ.set i (Ga v)) H
theorem IP {i:Nat}{x:Str}(hN:X.N.Nodup)(hi:X.N[i]?=Ga x)(hx:zd X.env.scope x)(hf:X.fn x=true\/X.env.scope.names.lookup x=Ga .local:=by first|exact .inl rfl|exact .inr rfl|assumption):PG X (.Name x pos) (HG i):=by
 intro ω s σ H v u Q I r h;exact wpAny_assign_Name (Ba I hN hi hx r (λs' I'=>⟨_,H,I',h⟩) hf)
def VS:zx:=λvs σ H Q=>vs=[]/\Q σ H
def QI (t:TG)(u:zx):zx:=λvs σ H Q=>∃ v r,vs=v::r/\t v σ H λσ' H'=>u r σ' H' Q
theorem IQ:Bp X [] VS:=by
 intro ω s σ H vs us Q I r h;obtain⟨e,h⟩:=h;subst e;cases r;exact assignInOrder_nil ⟨σ,H,I,h⟩
theorem Fw {e:Expr}{es:List Expr}{t:TG}{u:zx}(h1:PG X e t)(h2:Bp X es u)
  (hs:(assignEach (e::es) X.env).map (·.2)=assign e X.env::(assignEach es X.env).map (·.2):=by rfl):Bp X (e::es) (QI t u):=by
 intro ω s σ H vs us Q I r h;obtain⟨v,vr,e1,h⟩:=h;subst e1;cases r with
 | cons r rr =>
  rw[hs];refine assignInOrder_cons (lZ (h1 ω s σ H _ _ _ I r h) λ_ s1 ⟨σ1,H1,I1,q1⟩=>?_);exact h2 ω s1 σ1 H1 _ _ Q I1 rr q1
def Wi (K:ja)(n:Nat)(t:zx):TG:=λv σ H Q=>∃ a xs,v=.ref a/\oB K H a xs/\xs.length=n/\t xs σ H Q
theorem Mg {es:List Expr}{k:Nat}{t:zx}{n:Nat}(hc:X.calm=true)(h:Bp X es t)
  (hn:(assignEach es X.env).length=n:=by rfl) (hst:(assignEach es X.env).findIdx? (·.1)=Gb:=by rfl):PG X (.Tuple es k pos) (Wi X.K n t):=by
 intro ω s σ H v u Q I r hw;obtain⟨a,xs,e1,hq,hl,hw⟩:=hw;subst e1;cases r;obtain⟨its,rv,ht,hz⟩:=I.tuple hq;refine assign_Tuple_tuple (I.ok.hd hc) ht (by simp[hn,<- hl,rv.length]) hst λh' hx=>?_;have I1:iZ X ω σ H { s with heap:=h' }:=I.kept (t':=s.toks) λb o e=>hx b o (jJ (jt e)) e;exact h ω _ σ H xs _ Q I1 (by simpa using rv) hw
def WG (to ti:TE)(t:FD):TG:=λv σ H Q=>to σ H λo H1=>ti σ H1 λi H2=>t o i v H2 λH3=>Q σ H3
theorem Qo {o i:Expr}{to ti:TE}{t:FD}(ho:PE X o to)(hi:PE X i ti)(hs:Qm X t)
  (ha:∀ v,assign (.Subscript o i pos) X.env v=(do
   let ov <- holding [v] (eval o X.env)
   let iv <- holding [v,ov] (eval i X.env)
   standAt pos
   holding [v,ov,iv] (setItem ov iv v)
   release [v,ov,iv] []):=by intro _;rfl):PG X (.Subscript o i pos) (WG to ti t):=by
 intro ω s σ H v u Q I r h;rw[ha];refine iK (wpAny_holding (lZ (ho ω s σ H _ I h) λov s1 ⟨x,H1,I1,r1,q1⟩=>?_));refine iK (wpAny_holding (lZ (hi ω s1 σ H1 _ I1 q1) λiv s2 ⟨y,H2,I2,r2,q2⟩=>?_));refine iK (wpAny_standAt (iK (wpAny_holding (lZ (hs ω s2 σ H2 x y v ov iv u _ I2 r1 r2 r q2) λ_ s3 ⟨H3,I3,q3⟩=>?_))));exact wpAny_release ⟨σ,H3,I3,q3⟩
def Nt (te:TE)(g:TG):TS:=λD σ H=>te σ H λx H1=>g x σ H1 D.nx
theorem Ek {tg e:Expr}{te:TE}{g:TG}(he:PE X e te)(hg:PG X tg g)(hs:swapsWithSole [tg] e pos.line X.env=pure false:=by rfl)(hw:swappedStores [tg] e X.env=pure Gb:=by rfl)
  (h1:(assignEach [tg] X.env).map (·.2)=[assign tg X.env]:=by rfl):PS X (.Assign [tg] e pos) (Nt te g):=by
 intro ω s σ H D I h;refine wpAny_Assign_stores (lZ (he ω s σ H _ I h) λv s1 ⟨x,H1,I1,r1,q1⟩=>?_) hs hw;rw[h1];exact lZ (hg ω s1 σ H1 x v _ I1 r1 q1) λ_ s2 q=>q
theorem Bl {i:Nat}{x:Str}{e:Expr}{te:TE}{pos':Pos}(hN:X.N.Nodup)(hi:X.N[i]?=Ga x)(hx:zd X.env.scope x)(he:PE X e te)(hs:swapsWith e (Ga (.Name x pos')) pos.line X.env=pure false:=by rfl)(hf:X.fn x=true\/X.env.scope.names.lookup x=Ga .local:=by first|exact .inl rfl|exact .inr rfl|assumption) :
  PS X (.Assign [.Name x pos'] e pos) (Nt te (HG i)):=by
 intro ω s σ H D I h;refine wpAny_Assign_Name (lZ (he ω s σ H _ I h) λv s1 ⟨y,H1,I1,r1,q1⟩=>?_) hs;exact Ba I1 hN hi hx r1 (λs2 I2=>⟨_,H1,I2,q1⟩) hf
end
section
variable {X:Cx}{pos:Pos}
def Nj (c:TT)(tb:TS):TS:=λD σ H=>∃ W:Nat->St->Hp->Prop,(∃ m,W m σ H)/\∀ m σ H,W m σ H ->
 c σ H λb H1=>if b=true then ∃ N:St->Hp->Prop,(∀ σ' H',N σ' H'->∃ m',m'<m/\W m' σ' H')/\tb { D with nx:=N,ct:=N,bk:=D.nx } σ H1 else D.nx σ H1
theorem FM {c:Expr}{body:List Stmt}{tc:TT}{tb:TS}(hp:PassesOwn (model X.prog X.w) X.A X.env X.xe)(hc:PT X c tc)(hb:tz X body tb):PS X (.While c body [] pos) (Nj tc tb):=by
 intro ω s σ H D I h;obtain⟨W,⟨m0,w0⟩,turn⟩:=h;refine wpAny_While (codeAny_whileLoop (λn s'=>∃ σ' H',iZ X ω σ' H' s'/\W n σ' H') ?_ m0 ⟨σ,H,I,w0⟩);rintro n s1 ⟨σ1,H1,I1,w1⟩;refine wpAny_passesOwn hp (lZ (hc ω s1 σ1 H1 _ I1 (turn n σ1 H1 w1)) λb s2 ⟨H2,I2,q2⟩=>?_);cases b with
 | true =>
  obtain⟨N,hN,q2⟩:=q2;rw[Ge rfl];refine wpAny_passesOwn hp (lZ (hb ω s2 σ1 H2 _ I2 q2) λf s3 q3=>?_);cases f with
  | next =>
   obtain⟨σ3,H3,I3,n3⟩:=q3;obtain⟨m',hm,w3⟩:=hN σ3 H3 n3;exact⟨m',hm,σ3,H3,I3,w3⟩
  | cont =>
   obtain⟨σ3,H3,I3,n3⟩:=q3;obtain⟨m',hm,w3⟩:=hN σ3 H3 n3;exact⟨m',hm,σ3,H3,I3,w3⟩
  | brk=>exact q3
  | ret v=>exact q3
 | false =>
  rw[Gf jw];exact wpAny_execs_nil ⟨σ1,H2,I2,q2⟩
end
structure It where
 go:Nat->Hp->Prop
 yld:Nat->Hp->V->Hp->Prop
 stop:Nat->Hp->Prop
def xD (X:Cx)(ω:List (Gj×Obj))(H:Hp)(b:Gj):Prop :=
 H b=Gb/\b≠X.env.locals/\b∉X.fs/\(b∈X.ex\/X.s₀.heap.objs.size<=b)/\(∀ x c,X.env.cells.lookup x=Ga c->c≠b)/\∀ p∈X.pn++ω,p.1≠b
theorem iZ.fpOk {X:Cx}{ω:List (Gj×Obj)}{σ:St}{H H':Hp}{s:Gh}{b:Gj}(I:iZ X ω σ H s)(hb:s.heap.objs.size<=b)(hn:H' b=Gb):xD X ω H' b:=by
 refine⟨hn,vp (jz I.lt hb),I.nofs hb,.inr (jk I.sz hb),λx c e z=>?_,λp hp z=>?_⟩
 .obtain⟨v,q⟩:=I.cell x c e;exact absurd (jz q.lt (by rw[z];exact hb)) (jU _)
 .exact absurd (jz (jt (I.pin p hp).1) (by rw[z];exact hb)) (jU _)
structure zW (P:Program)(w:World)(K:ja)(tg:Expr)(J:It)(fp:List Gj)(it:Gj)(tn:Nat->Heap->Prop):Prop where
 mem:it∈fp
 obj:∀ i h,tn i h->∀ b∈fp,∃ o,h.get? b=Ga o/\∀ v,o.data≠.cell v
 keep:∀ i h h',tn i h->(∀ b∈fp,∀ o,h.get? b=Ga o->h'.get? b=Ga o)->tn i h'
 item:∀ (X:Cx),X.prog=P->X.w=w->X.K=K->X.calm=true->∀ (i:Nat) (ω:List (Gj×Obj)) (s:Gh) (σ:St) (H:Hp) (E:Gg->Gh->Prop),iZ X ω σ H s->(∀ b∈fp,xD X ω H b)->tn i s.heap->J.go i H ->
  wpAny (model P w) X.A (pyNext (.ref it)) (λr s1=>∃ u,r=Ga u /\
   wpAny (model P w) X.A (letOwnedTupleGo tg (.ref it) u) (λ_ s2=>∃ x H',iZ X ω σ H' s2/\lO x u/\J.yld i H x H'/\tn (i+1) s2.heap/\∀ b∈fp,H' b=Gb) E s1) E s
 done:∀ (X:Cx),X.prog=P->X.w=w->X.K=K->X.calm=true->∀ (i:Nat) (ω:List (Gj×Obj)) (s:Gh) (σ:St) (H:Hp) (E:Gg->Gh->Prop),iZ X ω σ H s->(∀ b∈fp,xD X ω H b)->tn i s.heap->J.stop i H ->
  wpAny (model P w) X.A (pyNext (.ref it)) (λr s1=>r=Gb/\iZ X ω σ H s1) E s
 self:∀ (A:Around) (i:Nat) (s:Gh) (Q:Gg->Gh->Prop) (E:Gg->Gh->Prop),tn i s.heap->Q (.ref it) s->wpAny (model P w) A (pyIter (.ref it)) Q E s
abbrev TI:=St->Hp->(It->Hp->Prop)->Prop
def TQ (X:Cx)(ω:List (Gj×Obj))(σ:St)(tg:Expr)(R:It->Hp->Prop)(itv:Gg)(s2:Gh):Prop :=
 ∃ (it:Gj) (fp:List Gj) (tn:Nat->Heap->Prop) (J:It) (H':Hp),itv=.ref it/\iZ X ω σ H' s2/\zW X.prog X.w X.K tg J fp it tn/\tn 0 s2.heap/\(∀ b∈fp,xD X ω H' b)/\R J H'
def PI (X:Cx)(tg iter:Expr)(wi:TI):Prop :=
 ∀ (ω:List (Gj×Obj)) (s:Gh) (σ:St) (H:Hp) (R:It->Hp->Prop),iZ X ω σ H s->wi σ H R ->
  wpAny (model X.prog X.w) X.A (eval iter X.env) (λv s1=>wpAny (model X.prog X.w) X.A (pyIter v) (TQ X ω σ tg R) X.xe s1) X.xe s
theorem AS {M:Model}{A:Around}{E:Gg->Gh->Prop}{s:Gh}{tg:Expr}{it:Gj}{u:Gg}{o:Obj}{n:String}{vs:Array Gg}{Q:Unit->Gh->Prop}(ho:s.heap.get? it=Ga o)(hc:o.cls=.type n)(hd:o.data=.fields vs)
  (hn:["enumerate","zip","dict_itemiterator","dict_reverseitemiterator","odict_iterator","itertools.zip_longest","itertools.pairwise"].contains n=false) (hQ:Q () s):wpAny M A (letOwnedTupleGo tg (.ref it) u) Q E s:=by
 unfold letOwnedTupleGo;cases tg<;>first
  | exact iL hQ
  | (cases u<;>first
    | exact iL hQ
    | (refine iK (wpAny_load ho ?_)
       rw[hc,hd];show wpAny M A (if (["enumerate","zip","dict_itemiterator","dict_reverseitemiterator","odict_iterator","itertools.zip_longest","itertools.pairwise"].contains n&&vs[0]?==Ga (rawInt _))=true then _ else _) Q E s;rw[Gf (by intro h;rw[hn,vn] at h;cases h)];exact iL hQ))
def Kd (K:ja)(a:Gj):It :=
 ⟨λi H=>∃ xs x,nr K H a xs/\xs[i]?=Ga x,λi H x H'=>H'=H/\∀ xs,nr K H a xs->xs[i]?=Ga x,λi H=>∃ xs,nr K H a xs/\xs.length<=i⟩
def Pw (K:ja)(a:Gj):It :=
 ⟨λi H=>∃ xs x,oB K H a xs/\xs[i]?=Ga x,λi H x H'=>H'=H/\∀ xs,oB K H a xs->xs[i]?=Ga x,λi H=>∃ xs,oB K H a xs/\xs.length<=i⟩
def Es (lo:Int)(n:Nat):It:=⟨λi _=>i<n,λi H x H'=>H'=H/\x=.int (lo+i),λi _=>n<=i⟩
theorem Ee {P:Program}{w:World}{K:ja}{tg:Expr}(a it:Gj):zW P w K tg (Kd K a) [it] it (λi h=>h.IsListIter it a i) where
 mem:=by simp
 obj:=λi h st b hb=>by
  have e:b=it:=by simpa using hb
  subst e;obtain⟨o,e,c,d⟩:=st;exact⟨o,e,λv z=>by rw[d] at z;cases z⟩
 keep:=λi h h' st k=>st.at λo e=>k it (by simp) o e
 item:=by
  intro X hP hw hK hc i ω s σ H E I hf st hg;subst hP hw hK;obtain⟨xs,x,hq,hx⟩:=hg;obtain⟨its,rv,p,hz⟩:=I.list hq;obtain⟨u,hu,ru⟩:=rv.get hx;obtain⟨f0,f1,f2,f3,f4,f5⟩:=hf it (by simp);refine wpAny_pyNext_list_item st p.isList (x:=u) (by simpa using hu) λh' st' sb=>?_;have I1:iZ X ω σ H { s with heap:=h' }:=I.turned (t':=s.toks) (λb o hb e=>(sb.2 b hb).trans e) f0 f1 f3 f4 f5;obtain⟨o,e,c,d⟩:=id st';exact⟨u,rfl,AS (s:={ s with heap:=h' }) e c d (by decide) ⟨x,H,I1,ru,⟨rfl,λys hy=>by rw[I.list_inj hy hq];exact hx⟩,st',λb hb=>(hf b hb).1⟩⟩
 done:=by
  intro X hP hw hK hc i ω s σ H E I hf st hg;subst hP hw hK;obtain⟨xs,hq,hx⟩:=hg;obtain⟨its,rv,p,hz⟩:=I.list hq;obtain⟨f0,f1,f2,f3,f4,f5⟩:=hf it (by simp);have hl:=rv.length;exact wpAny_pyNext_list_end (I.ok.hd hc) st p.isList (by simp;omega) λh' eb=>⟨rfl,I.turned (t':=s.toks) (λb o hb e=>eb b o hb e) f0 f1 f3 f4 f5⟩
 self:=λ_ _ _ _ _ st h=>wpAny_pyIter_listiter st h
theorem DT {P:Program}{w:World}{K:ja}{tg:Expr}(a it:Gj):zW P w K tg (Pw K a) [it] it (λi h=>h.IsTupleIter it a i) where
 mem:=by simp
 obj:=λi h st b hb=>by
  have e:b=it:=by simpa using hb
  subst e;obtain⟨o,e,c,d⟩:=st;exact⟨o,e,λv z=>by rw[d] at z;cases z⟩
 keep:=λi h h' st k=>st.at λo e=>k it (by simp) o e
 item:=by
  intro X hP hw hK hc i ω s σ H E I hf st hg;subst hP hw hK;obtain⟨xs,x,hq,hx⟩:=hg;obtain⟨its,rv,p,hz⟩:=I.tuple hq;obtain⟨u,hu,ru⟩:=rv.get hx;obtain⟨f0,f1,f2,f3,f4,f5⟩:=hf it (by simp);refine wpAny_pyNext_tuple_item st (show s.heap.IsTuple a its.toArray from p) (x:=u) (by simpa using hu) λh' st' sb=>?_;have I1:iZ X ω σ H { s with heap:=h' }:=I.turned (t':=s.toks) (λb o hb e=>(sb.2 b hb).trans e) f0 f1 f3 f4 f5;obtain⟨o,e,c,d⟩:=id st';exact⟨u,rfl,AS (s:={ s with heap:=h' }) e c d (by decide) ⟨x,H,I1,ru,⟨rfl,λys hy=>by rw[I.tuple_inj hy hq];exact hx⟩,st',λb hb=>(hf b hb).1⟩⟩
 done:=by
  intro X hP hw hK hc i ω s σ H E I hf st hg;subst hP hw hK;obtain⟨xs,hq,hx⟩:=hg;obtain⟨its,rv,p,hz⟩:=I.tuple hq;obtain⟨f0,f1,f2,f3,f4,f5⟩:=hf it (by simp);have hl:=rv.length;exact wpAny_pyNext_tuple_end (I.ok.hd hc) st (show s.heap.IsTuple a its.toArray from p) (by simp;omega) λh' eb=>⟨rfl,I.turned (t':=s.toks) (λb o hb e=>eb b o hb e) f0 f1 f3 f4 f5⟩
 self:=λ_ _ _ _ _ st h=>wpAny_pyIter_tupleiter st h
theorem Dj {P:Program}{w:World}{K:ja}{tg:Expr}(it:Gj)(lo:Int)(n:Nat):zW P w K tg (Es lo n) [it] it (λi h=>IsRangeIter h it (lo+(i:Nat)*1) ((n:Int)-(i:Nat)) 1) where
 mem:=by simp
 obj:=λi h st b hb=>by
  have e:b=it:=by simpa using hb
  subst e;exact⟨_,st,λv z=>by
   have z':Data.fields _=Data.cell v:=z;cases z'⟩
 keep:=λi h h' st k=>k it (by simp) _ st
 item:=by
  intro X hP hw hK hc i ω s σ H E I hf st hg;subst hP hw hK;obtain⟨f0,f1,f2,f3,f4,f5⟩:=hf it (by simp);have W:=Walks.range (prog:=X.prog) (w:=X.w) (I.ok.hd hc) it lo 1 n;refine W.item i s _ _ hg st λv h' tk hv st' kk=>?_;obtain⟨t,rfl⟩:=hv;have I1:iZ X ω σ H { s with heap:=h',toks:=tk }:=I.turned (λb o hb e=>kk b o (by simpa using hb) e) f0 f1 f3 f4 f5;refine⟨_,rfl,AS (s:={ s with heap:=h',toks:=tk }) (n:="range_iterator") st' rfl rfl (by decide) ⟨.int (lo+i),H,I1,⟨t,?_⟩,⟨rfl,rfl⟩,st',λb hb=>(hf b hb).1⟩⟩;rw[Int.mul_one]
 done:=by
  intro X hP hw hK hc i ω s σ H E I hf st hg;subst hP hw hK;obtain⟨f0,f1,f2,f3,f4,f5⟩:=hf it (by simp);exact wpAny_pyNext_range_end (I.ok.hd hc) st (by have:n<=i:=hg;omega) λh' eb=>⟨rfl,I.turned (t':=s.toks) (λb o hb e=>eb b o hb e) f0 f1 f3 f4 f5⟩
 self:=λ_ _ _ _ _ st h=>wpAny_pyIter_rangeiter st h
section
variable {X:Cx}{tg:Expr}
theorem AZ {ω:List (Gj×Obj)}{σ:St}{H:Hp}{s:Gh}{R:It->Hp->Prop}{E:Gg->Gh->Prop}{lo hi:Int}{t u v:Tok}{tk:Nat}(I:iZ X ω σ H s)(h1:-(2^62)<=lo)(h2:lo<2^62)(h3:-(2^62)<=hi)(h4:hi<2^62)
  (q:R (Es lo (hi-lo).toNat) H):wpAny (model X.prog X.w) X.A (pyIter (.ref s.heap.objs.size)) (TQ X ω σ tg R) E { s with heap:=s.heap.push { cls:=.type "range",data:=.fields #[.int lo t,.int hi u,.int 1 v] },toks:=tk }:=by
 refine wpAny_pyIter_range (IsRange.new ..) (small_one h1 h2 h3 h4) ?_;have I1:iZ X ω σ H { s with heap:=s.heap.push { cls:=.type "range",data:=.fields #[.int lo t,.int hi u,.int 1 v] },toks:=tk }:=I.kept λb o e=>je _ e;refine⟨(s.heap.push { cls:=.type "range",data:=.fields #[.int lo t,.int hi u,.int 1 v] }).objs.size,[(s.heap.push { cls:=.type "range",data:=.fields #[.int lo t,.int hi u,.int 1 v] }).objs.size],_,_,H,rfl,
  I1.kept (t':=tk) λb o e=>je _ e,Dj _ lo (hi-lo).toNat,?_,λb hb=>?_,q⟩
 .have e1:lo+((0:Nat):Int)*1=lo:=by simp
  have e2:(((hi-lo).toNat:Nat):Int)-((0:Nat):Int)=jP lo hi 1:=by rw[rangeSize_one];split<;>omega
  show IsRangeIter _ _ (lo+((0:Nat):Int)*1) ((((hi-lo).toNat:Nat):Int)-((0:Nat):Int)) 1;rw[e1,e2];exact jB _ rfl
 .have e:b=(s.heap.push { cls:=.type "range",data:=.fields #[.int lo t,.int hi u,.int 1 v] }).objs.size:=by simpa using hb
  subst e;exact I1.fpOk (jj _) (I1.hok.fresh (jj _))
def QO (ta:TA):TI:=λσ H R=>ta σ H λvs H1=>∃ j:Int,vs=[.int j]/\-(2^62)<=j/\j<2^62/\R (Es 0 j.toNat) H1
def Qs (ta:TA):TI:=λσ H R=>ta σ H λvs H1=>∃ i j:Int,vs=[.int i,.int j]/\(-(2^62)<=i/\i<2^62/\-(2^62)<=j/\j<2^62)/\R (Es i (j-i).toNat) H1
theorem Eb {a:Expr}{ta:TA}{p pos:Pos}(hg:Gl X "range")(hm:X.mg "range"=Gb)(ha:PA X [a] ta)(hs:starEach [a] X.env=[(false,eval a X.env)]:=by rfl):PI X tg (.Call (.Name "range" p) [a] [] pos) (QO ta):=by
 intro ω s σ H R I h;refine Call_ (sU I hg hm boot_range (PyProof.Rows.callWith_type1 (lZ (ha pos ω s σ H _ I h) λus s1 ⟨vs,H1,I1,r1,q1⟩=>?_) hs rfl));obtain⟨j,e,q1,q2,q⟩:=q1;subst e;cases r1 with
 | cons r rr =>
  cases rr;obtain⟨t,rfl⟩:=r;exact call_range_1 (AZ I1 (by omega) (by omega) q1 q2 (by simpa using q))
theorem Fe {a b:Expr}{ta:TA}{p pos:Pos}(hg:Gl X "range")(hm:X.mg "range"=Gb)(ha:PA X [a,b] ta)(hs:starEach [a,b] X.env=[(false,eval a X.env),(false,eval b X.env)]:=by rfl)(hs2:starEach [b] X.env=[(false,eval b X.env)]:=by rfl) :
  PI X tg (.Call (.Name "range" p) [a,b] [] pos) (Qs ta):=by
 intro ω s σ H R I h;refine Call_ (sU I hg hm boot_range (PyProof.Rows.callWith_type1 (lZ (ha pos ω s σ H _ I h) λus s1 ⟨vs,H1,I1,r1,q1⟩=>?_) (by rw[hs,hs2]) (by rw[hs2];rfl)));obtain⟨i,j,e,⟨q1,q2,q3,q4⟩,q⟩:=q1;subst e;cases r1 with
 | cons r rr =>
  cases rr with
  | cons r' rr =>
   cases rr;obtain⟨t,rfl⟩:=r;obtain⟨t',rfl⟩:=r';exact call_range_2 (AZ I1 q1 q2 q3 q4 q)
def Wy (wi:TI)(g:TG)(tb:TS):TS:=λD σ H=>wi σ H λJ H1=>∃ W:Nat->Nat->St->Hp->Prop,(∃ m,W 0 m σ H1)/\∀ i m σ H,W i m σ H ->
 (J.stop i H/\D.nx σ H)\/(J.go i H/\∃ N:St->Hp->Prop,(∀ σ' H',N σ' H'->∃ m',m'<m/\W (i+1) m' σ' H')/\∀ x H',J.yld i H x H'->g x σ H' λσ2 H2=>tb { D with nx:=N,ct:=N,bk:=D.nx } σ2 H2)
def wQ (fp:List Gj)(h:Heap):List (Gj×Obj):=fp.filterMap λb=>(h.get? b).map λo=>(b,o)
theorem tD {fp:List Gj}{h:Heap}{b:Gj}{o:Obj}(hb:b∈fp)(e:h.get? b=Ga o):(b,o)∈wQ fp h:=u6.mpr ⟨b,hb,by rw[e];rfl⟩
theorem Ec {fp:List Gj}{h:Heap}{p:Gj×Obj}(hp:p∈wQ fp h):p.1∈fp/\h.get? p.1=Ga p.2:=by
 obtain⟨b,hb,e⟩:=u6.mp hp;cases q:h.get? b with
 | none=>rw[q] at e;cases e
 | some o =>
  rw[q] at e;have e':(b,o)=p:=jF e;subst e';exact⟨hb,q⟩
theorem iZ.pinned {ω:List (Gj×Obj)}{σ:St}{H:Hp}{s:Gh}{fp:List Gj}(I:iZ X ω σ H s)(hf:∀ b∈fp,xD X ω H b)(ho:∀ b∈fp,∃ o,s.heap.get? b=Ga o/\∀ v,o.data≠.cell v):iZ X (ω++wQ fp s.heap) σ H s :=
 I.pins_of λp hp=>(jV.mp hp).elim (λz=>I.pin p (jR _ z)) λz=>by
  obtain⟨hb,e⟩:=Ec z;obtain⟨f0,f1,f2,_⟩:=hf p.1 hb;obtain⟨o,e',d⟩:=ho p.1 hb;rw[e] at e';cases e';exact⟨e,f0,f1,f2,d⟩
theorem iZ.unpinned {ω pl:List (Gj×Obj)}{σ:St}{H:Hp}{s:Gh}(I:iZ X (ω++pl) σ H s):iZ X ω σ H s:=I.pins_of λp hp=>I.pin p (jR _ (Jl _ hp))
theorem Qb {iter:Expr}{body:List Stmt}{wi:TI}{g:TG}{tb:TS}{pos:Pos}(hp:PassesOwn (model X.prog X.w) X.A X.env X.xe)(hc:X.calm=true)(hi:PI X tg iter wi)(hg:PG X tg g)(hb:tz X body tb)
  (hs:∀ x,foldedSetIterable iter X.env x=pure x:=by intro _;rfl):PS X (.For tg iter body [] pos) (Wy wi g tb):=by
 intro ω s σ H D I h;refine wpAny_For (lZ (hi ω s σ H _ I h) λv s1 h1=>lZ h1 λitv s2 h2=>?_) hs;obtain⟨it,fp,tn,J,H2,e,I2,T,st2,f2,W,⟨m0,w0⟩,turn⟩:=h2;subst e;have stat:∀ {H':Hp},(∀ b∈fp,H' b=Gb)->∀ b∈fp,xD X ω H' b:=λhn b hb=>⟨hn b hb,(f2 b hb).2⟩;refine codeAny_forLoop_any (λn s'=>∃ i σ' H',iZ X ω σ' H' s'/\tn i s'.heap/\(∀ b∈fp,H' b=Gb)/\W i n σ' H') ?_ m0 ⟨0,σ,H2,I2,st2,λb hb=>(f2 b hb).1,w0⟩;rintro n s3 ⟨i,σ3,H3,I3,st3,fr3,w3⟩;rcases turn i n σ3 H3 w3 with ⟨stop,qn⟩|⟨go,N,hN,step⟩
 .refine wpAny_passesOwn hp (lZ (T.done X rfl rfl rfl hc i ω s3 σ3 H3 X.xe I3 (stat fr3) st3 stop) λr s4 ⟨hr,I4⟩=>?_);subst hr;exact wpAny_execs_nil ⟨σ3,H3,I4,qn⟩
 .refine wpAny_passesOwn hp (lZ (T.item X rfl rfl rfl hc i ω s3 σ3 H3 X.xe I3 (stat fr3) st3 go) λr s4 ⟨u,hr,h4⟩=>?_);subst hr;refine wpAny_passesOwn hp (lZ h4 λ_ s5 ⟨x,H5,I5,r5,y5,st5,fr5⟩=>?_);have I5':=I5.pinned (stat fr5) (T.obj _ _ st5);refine wpAny_passesOwn hp (lZ (hg _ s5 σ3 H5 x u _ I5' r5 (step x H5 y5)) λ_ s6 ⟨σ6,H6,I6,q6⟩=>?_);refine wpAny_passesOwn hp (lZ (hb _ s6 σ6 H6 _ I6 q6) λf s7 q7=>?_);have again:∀ {σ7:St} {H7:Hp},iZ X (ω++wQ fp s5.heap) σ7 H7 s7->N σ7 H7->∃ m,m<n/\∃ i σ' H',iZ X ω σ' H' s7/\tn i s7.heap/\(∀ b∈fp,H' b=Gb)/\W i m σ' H':=λ{σ7 H7} I7 n7=>by
   obtain⟨m',hm,w7⟩:=hN σ7 H7 n7;refine⟨m',hm,i+1,σ7,H7,I7.unpinned,T.keep _ _ _ st5 λb hb o e=>(I7.pin (b,o) (jR _ (jR _ (tD hb e)))).1,λb hb=>?_,w7⟩;obtain⟨o,e,d⟩:=T.obj _ _ st5 b hb;exact(I7.pin (b,o) (jR _ (jR _ (tD hb e)))).2.1
  cases f with
  | next=>obtain⟨σ7,H7,I7,n7⟩:=q7;exact again I7 n7
  | cont=>obtain⟨σ7,H7,I7,n7⟩:=q7;exact again I7 n7
  | brk=>obtain⟨σ7,H7,I7,q7⟩:=q7;exact⟨σ7,H7,I7.unpinned,q7⟩
  | ret v=>obtain⟨x7,σ7,H7,I7,r7,q7⟩:=q7;exact⟨x7,σ7,H7,I7.unpinned,r7,q7⟩
end
abbrev R2:=V->V->Hp->VK->Prop
def nS (X:Cx)(f:Gg->Gg->Sem Gg)(r:R2):Prop :=
 ∀ (ω:List (Gj×Obj)) (s:Gh) (σ:St) (H:Hp) (x y:V) (v u:Gg) (Q:VK),iZ X ω σ H s->lO x v->lO y u->r x y H Q ->
  wpAny (model X.prog X.w) X.A (f v u) (EP X ω σ Q) X.xe s
def La (X:Cx)(f:Gg->Sem Gg)(r:V->Hp->VK->Prop):Prop :=
 ∀ (ω:List (Gj×Obj)) (s:Gh) (σ:St) (H:Hp) (x:V) (v:Gg) (Q:VK),iZ X ω σ H s->lO x v->r x H Q ->
  wpAny (model X.prog X.w) X.A (f v) (EP X ω σ Q) X.xe s
def nZ (X:Cx)(f:Gg)(r:List V->Hp->VK->Prop):Prop :=
 ∀ (ω:List (Gj×Obj)) (s:Gh) (σ:St) (H:Hp) (xs:List V) (us:List Gg) (Q:VK),iZ X ω σ H s->lH xs us->r xs H Q ->
  wpAny (model X.prog X.w) X.A (call f us) (EP X ω σ Q) X.xe s
def VO (X:Cx)(r:V->Hp->(Bool->Hp->Prop)->Prop):Prop :=
 ∀ (ω:List (Gj×Obj)) (s:Gh) (σ:St) (H:Hp) (x:V) (v:Gg) (Q:Bool->Hp->Prop),iZ X ω σ H s->lO x v->r x H Q ->
  wpAny (model X.prog X.w) X.A (truthy v) (TP X ω σ Q) X.xe s
def Ej (r:R2)(ta tb:TE):TE:=λσ H Q=>ta σ H λx H1=>tb σ H1 λy H2=>r x y H2 Q
def tUn (r:V->Hp->VK->Prop)(ta:TE):TE:=λσ H Q=>ta σ H λx H1=>r x H1 Q
def rI (C:Int->Int->Prop)(g:Int->Int->V):R2:=λx y H Q=>∃ i j,x=.int i/\y=.int j/\C i j/\Q (g i j) H
def wZ (g:Int->Int->V):R2:=λx y H Q=>∃ i j,x=.int i/\y=.int j/\Q (g i j) H
def rU (g:Int->V):V->Hp->VK->Prop:=λx H Q=>∃ i,x=.int i/\Q (g i) H
section
variable {X:Cx}{a b c:Expr}{ta tb tc:TE}{pos:Pos}
theorem Fx (ha:PE X a ta)(hb:PE X b tb){ω:List (Gj×Obj)}{s:Gh}{σ:St}{H:Hp}{R:V->V->Hp->Prop}(I:iZ X ω σ H s)
  (h:ta σ H λx H1=>tb σ H1 λy H2=>R x y H2) {Q:Gg->Gh->Prop} {f:Gg->Gg->Sem Gg}
  (hf:∀ v u s2 x y H2,iZ X ω σ H2 s2->lO x v->lO y u->R x y H2->wpAny (model X.prog X.w) X.A (f v u) Q X.xe s2) :
  wpAny (model X.prog X.w) X.A (eval a X.env) (λv s₁=>wpAny (model X.prog X.w) X.A (eval b X.env) (λu s₂=>wpAny (model X.prog X.w) X.A (f v u) Q X.xe s₂) X.xe s₁) X.xe s:=by
 refine lZ (ha ω s σ H _ I h) λv s1 ⟨x,H1,I1,r1,q1⟩=>?_;refine lZ (hb ω s1 σ H1 _ I1 q1) λu s2 ⟨y,H2,I2,r2,q2⟩=>?_;exact hf v u s2 x y H2 I2 r1 r2 q2
theorem GD {op:Operator}{r:R2}(ho:nS X (binaryOp op) r)(ha:PE X a ta)(hb:PE X b tb):PE X (.BinOp a op b pos) (Ej r ta tb):=by
 intro ω s σ H Q I h;exact wpAny_BinOp (Fx ha hb I h λv u s2 x y H2 I2 rx ry q=>ho ω s2 σ H2 x y v u Q I2 rx ry q)
theorem QK {op:UnaryOp}{r:V->Hp->VK->Prop}(ho:La X (unaryOp op) r)(ha:PE X a ta):PE X (.UnaryOp op a pos) (tUn r ta):=by
 intro ω s σ H Q I h;exact UnaryOp_ (lZ (ha ω s σ H _ I h) λv s1 ⟨x,H1,I1,r1,q1⟩=>ho ω s1 σ H1 x v Q I1 r1 q1)
theorem GZ {f:Gg->Gg->Sem Gg}{C:Int->Int->Prop}{g:Int->Int->Int}
  (rule:∀ (i j:Int) (t u:Tok) (s:Gh) (Q:Gg->Gh->Prop) (E:Gg->Gh->Prop),C i j->Q (.int (g i j) s.toks) { s with toks:=s.toks+1 }->wpAny (model X.prog X.w) X.A (f (.int i t) (.int j u)) Q E s) :
  nS X f (rI C λi j=>.int (g i j)):=by
 intro ω s σ H x y v u Q I rx ry h;obtain⟨i,j,rfl,rfl,hc,q⟩:=h;obtain⟨t,rfl⟩:=rx;obtain⟨t',rfl⟩:=ry;exact rule i j t t' s _ _ hc ⟨.int (g i j),H,I.tok _,⟨_,rfl⟩,q⟩
theorem Cf {f:Gg->Gg->Sem Gg}{g:Int->Int->Int}
  (rule:∀ (i j:Int) (t u:Tok) (s:Gh) (Q:Gg->Gh->Prop) (E:Gg->Gh->Prop),Q (.int (g i j) s.toks) { s with toks:=s.toks+1 }->wpAny (model X.prog X.w) X.A (f (.int i t) (.int j u)) Q E s) :
  nS X f (wZ λi j=>.int (g i j)):=by
 intro ω s σ H x y v u Q I rx ry h;obtain⟨i,j,rfl,rfl,q⟩:=h;obtain⟨t,rfl⟩:=rx;obtain⟨t',rfl⟩:=ry;exact rule i j t t' s _ _ ⟨.int (g i j),H,I.tok _,⟨_,rfl⟩,q⟩
theorem Dr {f:Gg->Gg->Sem Gg}{g:Int->Int->Bool}
  (rule:∀ (i j:Int) (t u:Tok) (s:Gh) (Q:Gg->Gh->Prop) (E:Gg->Gh->Prop),Q (.bool (g i j)) s->wpAny (model X.prog X.w) X.A (f (.int i t) (.int j u)) Q E s) :
  nS X f (wZ λi j=>.bl (g i j)):=by
 intro ω s σ H x y v u Q I rx ry h;obtain⟨i,j,rfl,rfl,q⟩:=h;obtain⟨t,rfl⟩:=rx;obtain⟨t',rfl⟩:=ry;exact rule i j t t' s _ _ ⟨.bl (g i j),H,I,rfl,q⟩
def Ol (i j:Int):Prop:=0<j/\j<1073741824
def NJ (i j:Int):Prop:=0<=j/\j<=1000000/\i.natAbs<2^64
def DM (i j:Int):Prop:=(-(2^64)<i/\i<2^64)\/(-(2^64)<j/\j<2^64)
theorem DM.ok {i j:Int}(h:DM i j):IntMulOk i j:=by
 rcases h with ⟨h1,h2⟩|⟨h1,h2⟩
 .exact .of_left (intBits_le_64 h1 h2)
 .exact .of_right (intBits_le_64 h1 h2)
theorem NO:nS X (binaryOp .Add) (wZ λi j=>.int (i+j)):=Cf λ_ _ _ _ _ _ _ q=>add_int q
theorem LB:nS X (binaryOp .Sub) (wZ λi j=>.int (i-j)):=Cf λ_ _ _ _ _ _ _ q=>sub_int q
theorem Py:nS X (binaryOp .Mult) (rI DM λi j=>.int (i*j)):=GZ λ_ _ _ _ _ _ _ hc q=>mul_int q hc.ok
theorem IL:nS X (binaryOp .FloorDiv) (rI Ol λi j=>.int (i/j)):=GZ λi j _ _ _ _ _ hc q=>by
 have h1:(0:Int)<j:=hc.1;have h2:j<1073741824:=hc.2;exact floordiv_int (by omega) (by rw[Int.fdiv_eq_ediv_of_nonneg i (by omega)];exact q) (.inl (PyProof.noPylong_small (by omega)))
theorem KM:nS X (binaryOp .Mod) (rI (λ_ j=>0<j) λi j=>.int (i%j)):=GZ λi j _ _ _ _ _ hc q=>by
 have h1:(0:Int)<j:=hc;exact mod_int' (by omega) (by rw[Int.fmod_eq_emod_of_nonneg i (by omega)];exact q)
theorem Mz:nS X (binaryOp .Pow) (rI NJ λi j=>.int (i^j.toNat)):=GZ λ_ _ _ _ _ _ _ hc q=>pow_int_small hc.1 hc.2.1 hc.2.2 q
theorem Lq:nS X (binaryOp .BitAnd) (wZ λi j=>.int (uV i j)):=Cf λ_ _ _ _ _ _ _ q=>and_int q
theorem Qz:nS X (binaryOp .BitOr) (wZ λi j=>.int (Jx i j)):=Cf λ_ _ _ _ _ _ _ q=>or_int q
theorem MI:nS X (binaryOp .BitXor) (wZ λi j=>.int (vO i j)):=Cf λ_ _ _ _ _ _ _ q=>xor_int q
theorem unI {f:Gg->Sem Gg}{g:Int->Int}
  (rule:∀ (i:Int) (t:Tok) (s:Gh) (Q:Gg->Gh->Prop) (E:Gg->Gh->Prop),Q (.int (g i) s.toks) { s with toks:=s.toks+1 }->wpAny (model X.prog X.w) X.A (f (.int i t)) Q E s) :
  La X f (rU λi=>.int (g i)):=by
 intro ω s σ H x v Q I rx h;obtain⟨i,rfl,q⟩:=h;obtain⟨t,rfl⟩:=rx;exact rule i t s _ _ ⟨.int (g i),H,I.tok _,⟨_,rfl⟩,q⟩
theorem OS:La X (unaryOp .USub) (rU λi=>.int (-i)):=unI λ_ _ _ _ _ q=>neg_int q
end
section
variable {X:Cx}{a b c:Expr}{ta tb tc:TE}{pos:Pos}
theorem AQ:nS X (compareOp .Lt) (wZ λi j=>.bl (decide (i<j))):=Dr λ_ _ _ _ _ _ _ q=>lt_int q
theorem ym:nS X (compareOp .LtE) (wZ λi j=>.bl (decide (i<=j))):=Dr λ_ _ _ _ _ _ _ q=>le_int q
theorem Ij:nS X (compareOp .Gt) (wZ λi j=>.bl (decide (j<i))):=Dr λ_ _ _ _ _ _ _ q=>gt_int q
theorem Qx:nS X (compareOp .GtE) (wZ λi j=>.bl (decide (j<=i))):=Dr λ_ _ _ _ _ _ _ q=>ge_int q
theorem nS.or {f:Gg->Gg->Sem Gg}{r r':R2}(h:nS X f r)(h':nS X f r'):nS X f (λx y H Q=>r x y H Q\/r' x y H Q):=by
 intro ω s σ H x y v u Q I rx ry q;rcases q with q|q
 .exact h ω s σ H x y v u Q I rx ry q
 .exact h' ω s σ H x y v u Q I rx ry q
theorem Ev (b:Expr){op:CmpOp}(h:op≠.In:=by decide)(h2:op≠.NotIn:=by decide):behindInMarks op b=false:=by
 have e1:(op==CmpOp.In)=false:=by cases op<;>first|rfl|exact absurd rfl h
 have e2:(op==CmpOp.NotIn)=false:=by cases op<;>first|rfl|exact absurd rfl h2
 cases b<;>simp[behindInMarks,e1,e2]
theorem IU {op:CmpOp}{r:R2}(ho:nS X (compareOp op) r)(ha:PE X a ta)(hb:PE X b tb)(hm:behindInMarks op b=false):PE X (.Compare a [op] [b] pos) (Ej r ta tb):=by
 intro ω s σ H Q I h;exact wpAny_Compare1 (Fx ha hb I h λv u s2 x y H2 I2 rx ry q=>ho ω s2 σ H2 x y v u Q I2 rx ry q) hm
def Gy (t:TE):TT:=λσ H Q=>t σ H λx H'=>∃ k,x=.bl k/\Q k H'
theorem II {op:CmpOp}{r:R2}(ho:nS X (compareOp op) r)(ha:PE X a ta)(hb:PE X b tb)(hm:behindInMarks op b=false):PT X (.Compare a [op] [b] pos) (Gy (Ej r ta tb)):=by
 intro ω s σ H Q I h;refine wpAny_isTrue_Compare1 (lZ (ha ω s σ H _ I h) λv s1 ⟨x,H1,I1,r1,q1⟩=>lZ (hb ω s1 σ H1 _ I1 q1) λu s2 ⟨y,H2,I2,r2,q2⟩ =>
  lZ (ho ω s2 σ H2 x y v u _ I2 r1 r2 q2) λc s3 ⟨z,H3,I3,r3,k,e,q3⟩=>?_) hm
 subst e;cases r3;exact wpAny_truthy_bool ⟨H3,I3,q3⟩
def EV (r r':R2)(ta tb tc:TE):TE:=λσ H Q=>ta σ H λx H1=>tb σ H1 λy H2=>r x y H2 λz H3=>∃ k,z=.bl k /\
 (if k=true then tc σ H3 λw' H4=>r' y w' H4 Q else Q (.bl false) H3)
theorem FW {op op':CmpOp}{r r':R2}(ho:nS X (compareOp op) r)(ho':nS X (compareOp op') r')(ha:PE X a ta)(hb:PE X b tb)(hc:PE X c tc)
  (hm:lastMarks [op,op'] [b,c]=false:=by with_unfolding_all rfl):PE X (.Compare a [op,op'] [b,c] pos) (EV r r' ta tb tc):=by
 intro ω s σ H Q I h;refine Compare_chain (lZ (ha ω s σ H _ I h) λv s1 ⟨x,H1,I1,r1,q1⟩=>chain_link (lZ (hb ω s1 σ H1 _ I1 q1) λu s2 ⟨y,H2,I2,r2,q2⟩ =>
  lZ (ho ω s2 σ H2 x y v u _ I2 r1 r2 q2) λd s3 ⟨z,H3,I3,r3,k,e,q3⟩=>?_)) hm
 subst e;cases r3;refine wpAny_truthy_bool ?_;cases k with
 | false=>exact ite_ff ⟨.bl false,H3,I3,rfl,q3⟩
 | true=>exact ite_tt (chain_last (lZ (hc ω s3 σ H3 _ I3 q3) λw' s4 ⟨z',H4,I4,r4,q4⟩=>ho' ω s4 σ H4 y z' u w' Q I4 r2 r4 q4))
theorem FZ {op op':CmpOp}{r r':R2}(ho:nS X (compareOp op) r)(ho':nS X (compareOp op') r')(ha:PE X a ta)(hb:PE X b tb)(hc:PE X c tc)
  (hm:lastMarks [op,op'] [b,c]=false:=by with_unfolding_all rfl):PT X (.Compare a [op,op'] [b,c] pos) (Gy (EV r r' ta tb tc)):=by
 intro ω s σ H Q I h;refine isTrue_chain (lZ (ha ω s σ H _ I h) λv s1 ⟨x,H1,I1,r1,q1⟩=>test_link (lZ (hb ω s1 σ H1 _ I1 q1) λu s2 ⟨y,H2,I2,r2,q2⟩ =>
  lZ (ho ω s2 σ H2 x y v u _ I2 r1 r2 q2) λd s3 ⟨z,H3,I3,r3,k,e,q3⟩=>?_)) hm
 subst e;cases r3;refine wpAny_truthy_bool ?_;cases k with
 | false =>
  obtain⟨k',e',q'⟩:=q3;cases e';exact ite_ff ⟨H3,I3,q'⟩
 | true =>
  refine ite_tt (test_last (lZ (hc ω s3 σ H3 _ I3 q3) λw' s4 ⟨z',H4,I4,r4,q4⟩=>lZ (ho' ω s4 σ H4 y z' u w' _ I4 r2 r4 q4) λd' s5 ⟨z2,H5,I5,r5,k2,e2,q5⟩=>?_));subst e2;cases r5;exact wpAny_truthy_bool ⟨H5,I5,q5⟩
def FG (K:ja)(x:V)(H:Hp)(k:Bool):Prop :=
 match x with
 | .non=>k=false
 | .bl b=>k=b
 | .int i=>k=(i !=0)
 | .str y=>y.length<=sizeLine/\k=((y.length:Int) !=0)
 | .byt y=>y.size<=sizeLine/\k=((y.size:Int) !=0)
 | .ref p=>(∃ xs,nr K H p xs/\k=!xs.isEmpty)\/(∃ xs,oB K H p xs/\k=!xs.isEmpty)\/∃ kvs,H p=Ga (.dK kvs)/\k=!kvs.isEmpty
 | _=>False
theorem DP {κ:Type}{kvs:List (κ×V)}{vs:List (κ×Gg)}(r:KV kvs vs):(!vs.isEmpty)=!kvs.isEmpty:=by
 cases r<;>rfl
theorem zt {xs:List V}{its:List Gg}(r:lH xs its):(!its.toArray.isEmpty)=!xs.isEmpty:=by
 cases r<;>simp
theorem wG:(sizeLine:Nat)<2^63:=by rw[sizeLine_eq];decide
theorem Kq:VO X (λx H Q=>∃ k,FG X.K x H k/\Q k H):=by
 intro ω s σ H x v Q I rx h;obtain⟨k,e,q⟩:=h;have hl:=wG;have hs:sizeLine=16777216:=sizeLine_eq;cases x with
 | non =>
  cases rx;have e':k=false:=e;subst e';exact truthy_none ⟨H,I,q⟩
 | bl b =>
  cases rx;have e':k=b:=e;subst e';exact wpAny_truthy_bool ⟨H,I,q⟩
 | int i =>
  obtain⟨t,rfl⟩:=rx;have e':k=(i !=0):=e;subst e';exact PySem.P.truthy_int ⟨H,I,q⟩
 | str y =>
  obtain⟨t,rfl⟩:=rx;obtain⟨hy,e'⟩:y.length<=sizeLine/\k=((y.length:Int) !=0):=e;subst e';exact PySem.P.truthy_str (by omega) ⟨H,I.tok _,q⟩
 | byt y =>
  obtain⟨t,rfl⟩:=rx;obtain⟨hy,e'⟩:y.size<=sizeLine/\k=((y.size:Int) !=0):=e;subst e';exact PySem.W.truthy_bytes (by omega) ⟨H,I.tok _,q⟩
 | ref p =>
  cases rx;have e':(∃ xs,nr X.K H p xs/\k=!xs.isEmpty)\/(∃ xs,oB X.K H p xs/\k=!xs.isEmpty)\/∃ kvs,H p=Ga (.dK kvs)/\k=!kvs.isEmpty:=e;rcases e' with ⟨xs,hx,e'⟩|⟨xs,hx,e'⟩|⟨kvs,hx,e'⟩
  .subst e';obtain⟨its,r,pl,hz⟩:=I.list hx;have hlen:=r.length;exact wpAny_truthy_list pl.isList (by simp only[jm];omega) ⟨H,I.tok _,by rw[zt r];exact q⟩
  .subst e';obtain⟨its,r,pl,hz⟩:=I.tuple hx;have hlen:=r.length;exact truthy_tuple pl (by simp only[jm];omega) ⟨H,I.tok _,by rw[zt r];exact q⟩
  .subst e';obtain⟨hz,hS,vs,r,m⟩:kvs.length<=sizeLine/\(p==sysModules)=false/\∃ vs,KV kvs vs/\s.heap.DictOf (zO X.prog X.w) p vs:=I.hok p _ hx;have hlen:kvs.length=vs.length:=Paired.length r;exact wpAny_truthy_dict hS m (by omega) ⟨H,I.tok _,by rw[DP r];exact q⟩
 | _=>exact(show False from e).elim
theorem Fv (ha:PE X a ta)(he:∀ whole,isTrue a X.env whole=(do let v <- whole;standAt a.pos;holding [v] (truthy v))) :
  PT X a (λσ H Q=>ta σ H λx H'=>∃ k,FG X.K x H' k/\Q k H'):=by
 intro ω s σ H Q I h;exact isTrue_plain (lZ (ha ω s σ H _ I h) λv s1 ⟨x,H1,I1,r1,q1⟩=>Kq ω s1 σ H1 x v Q I1 r1 q1) (he _)
theorem Dw:nS X (binaryOp .Add) (λx y H Q=>∃ i j,x=.str i/\y=.str j/\i.length+j.length<=sizeLine/\Q (.str (i++j)) H):=by
 intro ω s σ H x y v u Q I rx ry h;obtain⟨i,j,rfl,rfl,hz,q⟩:=h;obtain⟨t,rfl⟩:=rx;obtain⟨t',rfl⟩:=ry;exact add_str (λt' tk=>⟨.str (i++j),H,I.tok _,⟨_,rfl⟩,q⟩) hz
theorem rg {x:V}{us:List Gg}(r:lH [x] us):∃ u,us=[u]/\lO x u:=by
 cases r with
 | cons r1 r2=>cases r2;exact⟨_,rfl,r1⟩
theorem Dk {x y:V}{us:List Gg}(r:lH [x,y] us):∃ u w',us=[u,w']/\lO x u/\lO y w':=by
 cases r with
 | cons r1 r2 =>
  cases r2 with
  | cons r3 r4=>cases r4;exact⟨_,_,rfl,r1,r3⟩
theorem Fg (hc:X.calm=true):nZ X (.builtin "max") (λxs H Q=>∃ i j,xs=[.int i,.int j]/\Q (.int (if j>i then j else i)) H):=by
 intro ω s σ H xs us Q I r h;obtain⟨i,j,rfl,q⟩:=h;obtain⟨u,w',rfl,⟨t,rfl⟩,⟨t',rfl⟩⟩:=Dk r;refine max_two_ints (I.ok.hd hc) λh' tk k=>⟨_,H,I.kept k,?_,q⟩;by_cases hj:j>i
 .rw[Ge hj,Ge hj];exact⟨_,rfl⟩
 .rw[Gf hj,Gf hj];exact⟨_,rfl⟩
theorem Fc (hc:X.calm=true):nZ X (.builtin "min") (λxs H Q=>∃ i j,xs=[.int i,.int j]/\Q (.int (if j<i then j else i)) H):=by
 intro ω s σ H xs us Q I r h;obtain⟨i,j,rfl,q⟩:=h;obtain⟨u,w',rfl,⟨t,rfl⟩,⟨t',rfl⟩⟩:=Dk r;refine min_two_ints (I.ok.hd hc) λh' tk k=>⟨_,H,I.kept k,?_,q⟩;by_cases hj:j<i
 .rw[Ge hj,Ge hj];exact⟨_,rfl⟩
 .rw[Gf hj,Gf hj];exact⟨_,rfl⟩
end
structure Kn (h:Heap)(x dx C:Gj)(mA:Str->Option Gg):Prop where
 obj:h.get? x=Ga (uH C dx)
 ns:h.Ns1 dx mA
 ne:dx≠x
theorem Fq {h:Heap}{dx:Gj}{mA:Str->Option Gg}(n:h.Ns1 dx mA):∃ od,h.get? dx=Ga od/\∀ name,Jm name od=Ga (mA name):=by
 obtain⟨o,es,ep,ho,hd,hk,_,hm⟩:=n;refine⟨o,ho,λname=>?_⟩;have e:=hm name;unfold nsFind findBy at e;rw[<- Array.find?_toList] at e;unfold Jm;rw[hd];dsimp only;split
 .rename_i y q;rw[q] at e;exact congrArg Ga e
 .rename_i q;rw[q] at e;have a:es.toList.any (·.refKey)=false:=by
   rw[List.any_eq_false];intro y hy;obtain⟨z,t,hkey⟩:=hk y (v7.mp hy);simp[DictEntry.refKey,hkey]
  have a':¬es.toList.any (·.refKey)=true:=by rw[a];exact jw
  rw[Gf a'];exact congrArg Ga e
theorem Kn.look {h:Heap}{x dx C:Gj}{mA:Str->Option Gg}(I:Kn h x dx C mA):∃ od,PySem.W.InstAt h x (uH C dx) C (Ga od)/\∀ name,Jm name od=Ga (mA name) :=
 let ⟨od,ho,hl⟩:=Fq I.ns
 ⟨od,⟨I.obj,rfl,rfl,ho⟩,hl⟩
section
variable {prog:Program}{w:World}{A:Around}{E:Gg->Gh->Prop}{s:Gh}{K:ja}{x dx C f:Gj}{mA:Str->Option Gg}{name:Str}{v:Gg}
end
def rO (f:Str)(v:V):List (Str×V)->List (Str×V)
 | []=>[(f,v)]
 | (g,x)::r=>if g=f then(g,v)::r else(g,x)::rO f v r
theorem tH.some_of {v:V}{o:Option Gg}(r:tH (Ga v) o):∃ u,o=Ga u/\lO v u:=by
 cases o with
 | none=>exact(show False from r).elim
 | some u=>exact⟨u,rfl,r⟩
section
variable {P:Program}{w:World}{H H':Hp}{h h':Heap}{a C dx:Gj}{fs fs':List (Str×V)}
end
structure Tk (K:ja)(C:Gj):Prop where
 pg:JY K C Str.empty=true
 hd:PySem.W.hasDictIn K C=true
 po:PySem.W.plainOver K C=true
 sa:PySem.W.findIn K (.ref C) "__setattr__"=Ga (Ga (.builtin "object.__setattr__"))
theorem Tk.get {K:ja}{C:Gj}(c:Tk K C)(f:Str):JY K C f=true:=c.pg
section
variable {X:Cx}{ω:List (Gj×Obj)}{σ:St}{H:Hp}{s:Gh}{a C dx:Gj}{fs:List (Str×V)}{f:Str}{v:V}{A:Around}{E:Gg->Gh->Prop}
theorem iZ.made (I:iZ X ω σ H s):iZ X ω σ (upd (upd H s.heap.objs.size (.own (s.heap.objs.size+1))) (s.heap.objs.size+1) (.ins C s.heap.objs.size []))
  { s with heap:=(s.heap.push k6).push (uH C s.heap.objs.size) }:=by
 have e1:(s.heap.push k6).get? s.heap.objs.size=Ga k6:=jB s.heap rfl;have e2:((s.heap.push k6).push (uH C s.heap.objs.size)).get? (s.heap.objs.size+1)=Ga (uH C s.heap.objs.size):=by
  have:=jB (s.heap.push k6) (o:=uH C s.heap.objs.size) rfl
  rwa [uC] at this
 have e3:(s.heap.push k6).Ns s.heap.objs.size (λ_=>Gb):=⟨k6,#[],_,e1,rfl,(λe he=>absurd he (by simp)),λ_=>rfl⟩;have I1:=I.laid (a:=s.heap.objs.size) (o:=.own (s.heap.objs.size+1)) (h':=s.heap.push k6) (t':=s.toks) (λb u q=>je _ q) (jj _) ⟨_,e1⟩;refine I1.laid (a:=s.heap.objs.size+1) (o:=.ins C s.heap.objs.size []) (t':=s.toks) (λb u q=>je _ q) (JO (uC _ _)) ?_;have ne:s.heap.objs.size≠s.heap.objs.size+1:=jJ (kR _);refine⟨by rw[ls ne,lB],j5 _,ne,e2,λ_=>Gb,(Heap.Ns1.of_empty e3).at λo q=>je _ q,λ_=>True.intro,λy hy=>absurd rfl hy⟩
end
section
variable {X:Cx}{o e value:Expr}{f:Str}{pos pos' tpos:Pos}{ta tv:TE}
end
section
variable {X:Cx}{ω:List (Gj×Obj)}{σ:St}{H:Hp}{s:Gh}{A:Around}{E:Gg->Gh->Prop}{Q:Gg->Gh->Prop}{c:Gg}{b:Bool}
end
structure nv (k:Nat)(A:Around):Prop where
 hd:A.handled=Gb
 dp:A.depth+3*k+5<recursionLimit
 un:A.units+16*k+200<cLine
theorem nv.mono {j k:Nat}{A:Around}(r:nv k A)(h:j<=k):nv j A:=⟨r.hd,by have:=r.dp;omega,by have:=r.un;omega⟩
theorem nv.deeper {k:Nat}{A:Around}(r:nv (k+1) A)(ψ:Env):nv k (A.deeper ψ) :=
 ⟨r.hd,by have:=r.dp;show A.depth+1+3*k+5<_;omega,by have:=r.un;show A.units+3+16*k+200<_;omega⟩
theorem nv.depth {k:Nat}{A:Around}(r:nv k A):A.depth<recursionLimit:=by have:=r.dp;omega
def Nr:TA:=λ_ H Q=>Q [] H
def GY (ta:TE)(tr:TA):TA:=λσ H Q=>ta σ H λx H1=>tr σ H1 λxs H2=>Q (x::xs) H2
section
variable {X:Cx}{e:Expr}{es:List Expr}{te:TE}{t:TA}{pos:Pos}
theorem pM:PA X [] Nr:=λ_ _ _ _ H Q I h=>vP ⟨[],H,I,.nil,h⟩
theorem nL (ha:PE X e te)(hr:PA X es t)(hs:starEach (e::es) X.env=(false,eval e X.env)::starEach es X.env:=by rfl):PA X (e::es) (GY te t):=by
 intro pos ω s σ H Q I h;rw[hs];show wpAny _ _ (spliced ((false,eval e X.env)::backTo pos (starEach es X.env))) _ _ s;refine u8 (lZ (ha ω s σ H _ I h) λu s1 ⟨x,H1,I1,r1,q1⟩=>?_);exact lZ (hr pos ω s1 σ H1 _ I1 q1) λus s2 ⟨xs,H2,I2,r2,q2⟩=>⟨x::xs,H2,I2,.cons r1 r2,q2⟩
def Wh (t:TA):TE:=λσ H Q=>t σ H λxs H1=>xs.length<=sizeLine/\∀ p,H1 p=Gb->Q (.ref p) (upd H1 p (.tup xs))
def WH (t:TA):TE:=λσ H Q=>t σ H λxs H1=>xs.length<=sizeLine/\∀ p,H1 p=Gb->Q (.ref p) (upd H1 p (.lst xs))
theorem PY {x1}(h:PA X es t):PE X (.Tuple es x1 pos) (Wh t):=by
 intro ω s σ H Q I hq;refine wpAny_Tuple_spliced (lZ (h pos ω s σ H _ I hq) λus s1 ⟨xs,H1,I1,r,z,q⟩=>⟨by rw[<- r.length];exact z,?_⟩);have hf:H1 s1.heap.objs.size=Gb:=I1.hok.fresh (jj _);refine⟨.ref s1.heap.objs.size,upd H1 s1.heap.objs.size (.tup xs),I1.laid (t':=s1.toks) (λb u e=>je _ e) (jj _) ?_,rfl,q _ hf⟩;exact⟨z,us,r,⟨_,jB _ rfl,rfl,_,rfl⟩⟩
theorem Pi (h:PA X es t):PE X (.List es pos) (WH t):=by
 intro ω s σ H Q I hq;refine wpAny_List_spliced (lZ (h pos ω s σ H _ I hq) λus s1 ⟨xs,H1,I1,r,z,q⟩=>⟨by rw[<- r.length];exact z,?_⟩);have hf:H1 s1.heap.objs.size=Gb:=I1.hok.fresh (jj _);refine⟨.ref s1.heap.objs.size,upd H1 s1.heap.objs.size (.lst xs),I1.laid (t':=s1.toks) (λb u e=>je _ e) (jj _) ?_,rfl,q _ hf⟩;exact⟨z,us,0,r,jB _ rfl⟩
end
abbrev Sp:=List V->Hp->VK->XK->Prop
abbrev we:=List Env->Hp->Gh->XK->Gg->Gh->Prop
structure wC (P:Program)(w:World)(K:ja)(mg:Str->Option Gg)(base:Heap)(A:Around)(outer:List Env)(s:Gh)(H:Hp):Prop where
 frames:A.frames=Ga outer
 mod:Mod K mg base
 bs:∀ b o,base.get? b=Ga o->s.heap.get? b=Ga o/\H b=Gb
 bsz:base.objs.size<=s.heap.objs.size
 funs:s.heap.FunFrames base outer
 frf:∀ b∈tw outer,H b=Gb
 hok:HOk P w H s.heap
 bare:AllBare s.gens
def CE (outer:List Env)(P:Program)(w:World)(H:Hp)(s:Gh)(Q:VK)(u:Gg)(s':Gh):Prop :=
 ∃ v H',s'.os=s.os/\AllBare s'.gens/\Un (tw outer) [] H H' s.heap s'.heap/\HOk P w H' s'.heap/\lO v u/\Q v H'
def CR (CX:we)(outer:List Env)(P:Program)(w:World)(H:Hp)(s:Gh)(Q:VK)(E:XK)(r:Result)(s':Gh):Prop :=
 match r with
 | .ok (.ret u)=>CE outer P w H s Q u s'
 | .ok _=>False
 | .error e=>CX outer H s E e s'
structure lz (P:Program)(w:World)(K:ja)(mg:Str->Option Gg)(base:Heap)(CX:we)(k:Nat)(f:Gj)(fd:Gi)(ps:List Str)(sp:Sp):Prop where
 len:∀ vs H Q E,sp vs H Q E->vs.length=ps.length
 run:∀ (A:Around) (outer:List Env) (s:Gh) (H:Hp) (args:Args) (us:List Gg) (vs:List V) (Q:VK) (E:XK),nv k A->wC P w K mg base A outer s H->BindsTo s fd args (ps.zip us)->lH vs us->sp vs H Q E ->
  codeAny (model P w) A (.call (.ref f) args) (CR CX outer P w H s Q E) s
theorem lz.mono {P:Program}{w:World}{K:ja}{mg:Str->Option Gg}{base:Heap}{CX:we}{j k:Nat}{f:Gj}{fd:Gi}{ps:List Str}{sp:Sp}(F:lz P w K mg base CX j f fd ps sp)(h:j<=k) :
  lz P w K mg base CX k f fd ps sp:=⟨F.len,λA outer s H args us vs Q E hr=>F.run A outer s H args us vs Q E (hr.mono h)⟩
theorem lz.imp {P:Program}{w:World}{K:ja}{mg:Str->Option Gg}{base:Heap}{CX:we}{k:Nat}{f:Gj}{fd:Gi}{ps:List Str}{sp sp':Sp}(F:lz P w K mg base CX k f fd ps sp)
  (h:∀ vs H Q E,sp' vs H Q E->sp vs H Q E):lz P w K mg base CX k f fd ps sp' :=
 ⟨λvs H Q E q=>F.len vs H Q E (h _ _ _ _ q),λA outer s H args us vs Q E hr he hb hv hs=>F.run A outer s H args us vs Q E hr he hb hv (h _ _ _ _ hs)⟩
section
variable {X:Cx}{ω:List (Gj×Obj)}{σ:St}{H:Hp}{s s':Gh}
theorem iZ.env0 (I:iZ X ω σ H s):wC X.prog X.w X.K X.mg X.base X.A X.stack s H :=
 ⟨I.ok.frames,I.ok.mod,I.bs,jk I.ok.bsz I.sz,I.stack,I.stkFree,I.hok,I.bare⟩
theorem iZ.after {Q:VK}{u:Gg}(I:iZ X ω σ H s)(h:CE X.stack X.prog X.w H s Q u s'):EP X ω σ Q u s':=by
 obtain⟨v,H',os,bare,un,hok,r,q⟩:=h;obtain⟨hh,g,d,t,os'⟩:=s';obtain rfl:os'=s.os:=os;exact⟨v,H',I.call (h':=hh) (g':=g) (d':=d) (t':=t) (ch:=[]) un hok bare (λb z=>absurd z (by simp)),r,q⟩
end
def Qu (sp:Sp)(dvs:List V)(E:XK)(t:TA):TE:=λσ H Q=>t σ H λvs H1=>sp (vs++dvs) H1 Q E
def sO (K:ja)(fd:Gi)(ps:List Str)(ds:List Gg):Prop :=
 ∀ (s:Gh) (us:List Gg),K.In s.heap->(us++ds).length=ps.length->BindsTo s fd ⟨us,[]⟩ (ps.zip (us++ds))
theorem sO.all {K:ja}{fd:Gi}{ps:List Str}(h:∀ us:List Gg,us.length=ps.length->bindArgs fd ⟨us,[]⟩=pure (ps.zip us)):sO K fd ps []:=λs us _ hl=>by
 rw[kz] at hl ⊢;exact .of_eq (h us hl)
def BH (CX:we)(X:Cx)(E:XK):Prop:=∀ (ω:List (Gj×Obj)) (σ:St) (H:Hp) (s:Gh) (e:Gg) (s':Gh),iZ X ω σ H s->CX X.stack H s E e s'->X.xe e s'
section
variable {X:Cx}{CX:we}{k:Nat}{f C:Gj}{fd:Gi}{ps:List Str}{sp:Sp}{dvs:List V}{ds:List Gg}{E:XK}{x m:Str}{p pos apos:Pos}{e o:Expr}{es:List Expr}{ta:TE}{t:TA}
theorem Lv {ω:List (Gj×Obj)}{σ:St}{H:Hp}{s:Gh}{Q:VK}{us:List Gg}{vs:List V}(F:lz X.prog X.w X.K X.mg X.base CX k f fd ps sp)(hr:nv k X.A)(hb:sO X.K fd ps ds)(hd:lH dvs ds)(hx:BH CX X E)
  (I:iZ X ω σ H s) (r:lH vs us) (h:sp (vs++dvs) H Q E):wpAny (model X.prog X.w) X.A (call (.ref f) us) (EP X ω σ Q) X.xe s:=by
 have r2:lH (vs++dvs) (us++ds):=r.append hd;have hl:(us++ds).length=ps.length:=by rw[<- r2.length];exact F.len _ _ _ _ h
 refine wpAny_call (codeAny_mono (F.run X.A X.stack s H ⟨us,[]⟩ (us++ds) (vs++dvs) Q E hr I.env0 (hb s us I.kIn hl) r2 h) λr s' hq=>?_);cases r with
 | error e=>exact hx ω σ H s e s' I hq
 | ok fl =>
  cases fl with
  | ret u=>exact I.after hq
  | next=>exact False.elim hq
  | brk=>exact False.elim hq
  | cont=>exact False.elim hq
theorem zM (F:lz X.prog X.w X.K X.mg X.base CX k f fd ps sp)(hr:nv k X.A)(hg:Gl X x)(hm:X.mg x=Ga (.ref f))(hk:ur X.K (.ref f)=true)(hb:sO X.K fd ps ds)(hd:lH dvs ds)(hx:BH CX X E)
  (ha:PA X (e::es) t) (hdb:(x==("__debug__":Str))=false:=by decide) (he:starEach (e::es) X.env=(false,eval e X.env)::starEach es X.env:=by rfl) (hpl:(backTo pos (starEach es X.env)).any (·.1)=false:=by rfl) :
  PE X (.Call (.Name x p) (e::es) [] pos) (Qu sp dvs E t):=by
 intro ω s σ H Q I h;refine wpAny_Call_Name_kw (zV I hg hm ?_ hdb);refine JD (h₀:=X.base) I.ok.mod.kin hk (lZ (ha pos ω s σ H _ I h) λus s1 ⟨vs,H1,I1,r,q⟩=>⟨I1.kIn,?_⟩) he hpl;exact Lv F hr hb hd hx I1 r q
end
section
variable {X:Cx}{CX:we}{k:Nat}{f C:Gj}{fd:Gi}{ps ks:List Str}{sp:Sp}{E:XK}{x m:Str}{p pos apos kpos:Pos}{e o:Expr}{es:List Expr}{kws:List Keyword}{te ta:TE}{t tk:TA}{nm:Option Str}
variable {g:List Gg->List Gg->List Gg}{gV:List V->List V->List V}
end
structure lg (N P:List Str)(sc:Scope):Prop where
 kind:sc.kind=.function
 co:sc.isCoroutine=false
 gen:sc.isGenerator=false
 nd:N.Nodup
 pre:N.take P.length=P
 par:∀ x∈P,sc.names.lookup x=Ga .local\/sc.names.lookup x=Ga .cell
 nofree:∀ y∈sc.names,y.2≠.free
theorem Ar {kindOf:Str->Option NameKind}{x:Str}:∀ {binds:List (Str×Gg)} {m:Str->Option Gg},(∀ v,(x,v)∉binds)->bindL kindOf binds m x=m x
 | [],_,_=>rfl
 | (n,v)::r,m,h=>by
  unfold bindL;rw[Ar λw hw=>h w (jh _ hw)];split
  .have:x≠n:=by rintro rfl;exact h v jf
   simp[this]
  .rfl
theorem Ag {kindOf:Str->Option NameKind}{x:Str}:∀ {binds:List (Str×Gg)} {m:Str->Option Gg},(∀ v,(x,v)∉binds)->bindC kindOf binds m x=m x
 | [],_,_=>rfl
 | (n,v)::r,m,h=>by
  unfold bindC;rw[Ag λw hw=>h w (jh _ hw)];split
  .rfl
  .have:x≠n:=by rintro rfl;exact h v jf
   simp[this]
theorem Ab {kindOf:Str->Option NameKind}{x:Str}{v:Gg}:∀ {P:List Str} {vs:List Gg} {i:Nat} {m:Str->Option Gg},P.Nodup->P[i]?=Ga x->vs[i]?=Ga v->kindOf x=Ga .local ->
  bindL kindOf (P.zip vs) m x=Ga v
 | [],_,_,_,_,h,_,_=>by simp at h
 | _::_,[],_,_,_,_,h,_=>by simp at h
 | p::P,w::vs,0,m,nd,h1,h2,hk=>by
  simp at h1 h2;subst h1;subst h2;show bindL kindOf ((p,w)::P.zip vs) m p=_;unfold bindL;rw[Ar λv hv=>(kg.mp nd).1 (Ja hv).1,Ge hk];simp
 | p::P,w::vs,i+1,m,nd,h1,h2,hk=>by
  show bindL kindOf ((p,w)::P.zip vs) m x=_;unfold bindL;exact Ab (i:=i) (kg.mp nd).2 (by simpa using h1) (by simpa using h2) hk
theorem AE {kindOf:Str->Option NameKind}{x:Str}{v:Gg}:∀ {P:List Str} {vs:List Gg} {i:Nat} {m:Str->Option Gg},P.Nodup->P[i]?=Ga x->vs[i]?=Ga v->kindOf x≠Ga .local ->
  bindC kindOf (P.zip vs) m x=Ga v
 | [],_,_,_,_,h,_,_=>by simp at h
 | _::_,[],_,_,_,_,h,_=>by simp at h
 | p::P,w::vs,0,m,nd,h1,h2,hk=>by
  simp at h1 h2;subst h1;subst h2;show bindC kindOf ((p,w)::P.zip vs) m p=_;unfold bindC;rw[Ag λv hv=>(kg.mp nd).1 (Ja hv).1,Gf hk];simp
 | p::P,w::vs,i+1,m,nd,h1,h2,hk=>by
  show bindC kindOf ((p,w)::P.zip vs) m x=_;unfold bindC;exact AE (i:=i) (kg.mp nd).2 (by simpa using h1) (by simpa using h2) hk
def start (N:List Str)(vs:List V):St:=vs.map Ga++jO (N.length-vs.length) Gb
def sL (CX:we)(P:Program)(w:World)(K:ja)(mg:Str->Option Gg)(base:Heap)(N:List Str)(qual:Str)(scope:Scope)(f:Gj)(cd:Gg)(A:Around)(outer:List Env)(s:Gh)(H:Hp)(E:XK):Cx where
 prog:=P
 w:=w
 K:=K
 mg:=mg
 base:=base
 A:=A.deeper (envOfC qual scope s.heap.objs.size f cd)
 N:=N
 s₀:=s
 H₀:=H
 env:=envOfC qual scope s.heap.objs.size f cd
 outer:=outer
 stack:=envOfC qual scope s.heap.objs.size f cd::outer
 ex:=[]
 calm:=true
 fn:=λ_=>true
 pn:=[]
 xe:=λe s'=>wpAny (model P w) (A.deeper (envOfC qual scope s.heap.objs.size f cd)) (leaving (envOfC qual scope s.heap.objs.size f cd) e) (λ_ s''=>CX outer H s E e s'') (λe' s''=>CX outer H s E e' s'') s'
theorem Bv {sc:Scope}{n:Nat}{x:Str}(h:sc.names.lookup x=Ga .cell):∃ c,(cellsFrom n sc.names []).lookup x=Ga c:=by
 have q:=qO sc.names n [] (.inl h);exact vE.mp q
theorem Ex {CX:we}{P:Program}{w:World}{K:ja}{mg:Str->Option Gg}{base:Heap}{N ps:List Str}{qual:Str}{scope:Scope}{f:Gj}{cd:Gg}{A:Around}{outer:List Env}{s s1:Gh}{H:Hp}{E:XK}{us:List Gg}{vs:List V}
  (S:lg N ps scope) (hd:A.handled=Gb) (e0:wC P w K mg base A outer s H) (hl:vs.length=ps.length) (r:lH vs us)
  (x:InCallC s s.heap.objs.size (bindL (envOfC qual scope s.heap.objs.size f cd).kindOf (ps.zip us) λ_=>Gb) (cellsFrom (s.heap.objs.size+1) scope.names []) (bindC (envOfC qual scope s.heap.objs.size f cd).kindOf (ps.zip us) λ_=>Gb) s1) :
  iZ (sL CX P w K mg base N qual scope f cd A outer s H E) [] (start N vs) H s1:=by
 have hpl:ps.length<=N.length:=by have:=congrArg v8 S.pre;rw[vq] at this;omega
 obtain⟨h1,tk,rfl,hk⟩:=x.done;have noA:∀ b:Gj,b∉(sL CX P w K mg base N qual scope f cd A outer s H E).ex:=λb z=>absurd (show b∈([]:List Gj) from z) (by simp);refine⟨⟨e0.mod,S.kind,rfl,rfl,jj _,λy z c h1 h2=>?_,λy hy=>?_,λy c _ h=>?_,λ_=>hd,Jn e0.frames,.inr ⟨rfl,rfl⟩,λb z=>absurd z (noA b),e0.bs,e0.bsz,λb _ _=>noA b,λb z=>absurd z (noA b),e0.funs,e0.frf⟩,
  rfl,e0.bare,Un.kept hk,⟨_,x.toInCall.ns,λi y v h1 h2 h3=>?_⟩,λy c h=>⟨_,x.cell y c h⟩,e0.hok.fresh (jj _),λy c h=>?_,λp hp=>absurd (show p∈([]:List (Gj×Obj)) from hp) (by simp),e0.hok.kept hk,?_⟩
 .exact name_of_addr x.apart (kI h1) (kI h2)
 .have hy:scope.names.lookup y=Ga .cell\/scope.names.lookup y=Ga .free:=hy;rcases hy with hy|hy
  .exact Bv hy
  .exact absurd rfl (S.nofree _ (kI hy))
 .exact uA (x.above y c (kI h))
 .have hi:i<vs.length:=by
   unfold start at h2;by_cases hi:i<vs.length
   .exact hi
   .rw[uD (by simpa using hi)] at h2;rw[uW] at h2;split at h2<;>cases h2
  have ha:vs[i]?=Ga v:=by
   unfold start at h2;rw[uF (by simpa using hi),jA] at h2;cases e:vs[i]? with
   | none=>rw[e] at h2;cases h2
   | some a=>rw[e] at h2;cases h2;rfl
  obtain⟨u,hu,rv⟩:=r.get ha;have hp:ps[i]?=Ga y:=by
   rw[<- S.pre,List.getElem?_take_of_lt (by omega)];exact h1
  have ndP:ps.Nodup:=by rw[<- S.pre];exact S.nd.sublist (List.take_sublist _ _)
  refine⟨u,rv,?_⟩;rcases S.par y (kE hp) with k|k
  .exact .inl ⟨k,Ab ndP hp hu k⟩
  .obtain⟨c,e⟩:=Bv (n:=s.heap.objs.size+1) k;refine .inr ⟨.inl k,c,e,?_⟩;have q:=x.cell y c e;rw[AE ndP hp hu (by show scope.names.lookup y≠_;rw[k];decide)] at q;exact q
 .exact e0.hok.fresh (uA (x.above y c (kI h)))
 .unfold start;show _=N.length;rw[jg,jc,Jg];omega
theorem Hr {CX:we}{P:Program}{w:World}{K:ja}{mg:Str->Option Gg}{base:Heap}{k:Nat}{f:Gj}{name qual:Str}{params:Arguments}{body:List Stmt}{scope:Scope}{dV kV doc pm cdv ct oc:Gg}{an od:Option Gj}
  {osl:Array (Option Gg)} {N ps:List Str} {sp:Sp} (lk:K.lookup f=Ga ⟨oc,od,.func (k7 name qual params body scope dV kV doc pm an cdv ct),osl⟩) (hcd:vQ K cdv qual=true) (S:lg N ps scope)
  (len:∀ vs H Q E,sp vs H Q E->vs.length=ps.length)
  (hbody:∀ (A:Around) (outer:List Env) (s:Gh) (H:Hp) (vs:List V) (Q:VK) (E:XK),nv k (A.deeper (envOfC qual scope s.heap.objs.size f cdv))->sp vs H Q E ->
   ∃ t,tz (sL CX P w K mg base N qual scope f cdv A outer s H E) body t/\t { nx:=λ_ H'=>Q .non H',rt:=Q } (start N vs) H) :
  lz P w K mg base CX (k+1) f (k7 name qual params body scope dV kV doc pm an cdv ct) ps sp:=by
 refine⟨len,λA outer s H args us vs Q E hr e0 hb r hsp=>?_⟩;have hl:=len _ _ _ _ hsp;have KX:K.In s.heap:=e0.mod.kin.keeps λb o e=>(e0.bs b o e).1;have lim:s.heap.NoLimit:=e0.mod.nolimit.keeps λb o e=>(e0.bs b o e).1;have hkind:∀ y∈ps.zip us,scope.names.lookup y.1=Ga .local\/(scope.names.lookup y.1=Ga .cell/\((cellsFrom (s.heap.objs.size+1) scope.names []).lookup y.1).isSome=true):=λ⟨n,v⟩ hy=>by
  rcases S.par n (Ja hy).1 with q|q
  .exact .inl q
  .exact .inr ⟨q,qO _ _ _ (.inl q)⟩
 refine codeAny_call_function hr.depth (KX _ _ lk) rfl S.co S.gen rfl (PySem.W.codeRec_of KX hcd) (hb _ _ _ _ ?_);refine wpAny_newFunctionEnv_cells S.kind hkind λψ he s1 x=>?_;subst he;refine⟨lim.keeps x.toInCall.keep,codeAny_func ?_⟩;obtain⟨t,ht,hq⟩:=hbody A outer s H vs Q E (hr.deeper _) hsp;have I:iZ (sL CX P w K mg base N qual scope f cdv A outer s H E) [] (start N vs) H s1:=Ex S hr.hd e0 hl r x;refine wpAny_mono (ht [] s1 (start N vs) H _ I hq) (λfl s' hs=>?_) λe s' hs=>hs;have fin:∀ {σ':St} {H':Hp} {v:V} {u:Gg},iZ (sL CX P w K mg base N qual scope f cdv A outer s H E) [] σ' H' s'->lO v u->Q v H'->CE outer P w H s Q u s' :=
  λ{σ' H' v u} J rv q=>⟨v,H',J.os,J.bare,J.base,J.hok,rv,q⟩
 cases fl with
 | ret u =>
  obtain⟨v,σ',H',J,rv,q⟩:=hs;exact fin J rv q
 | next =>
  obtain⟨σ',H',J,q⟩:=hs;exact fin (v:=V.non) (u:=kK) J rfl q
 | brk =>
  obtain⟨_,_,_,q⟩:=hs;exact False.elim q
 | cont =>
  obtain⟨_,_,_,q⟩:=hs;exact False.elim q
section
variable {X:Cx}{x:Str}{p pos:Pos}{e:Expr}{es:List Expr}{t:TA}{id T:String}{r:List V->Hp->VK->Prop}
def QV (r:List V->Hp->VK->Prop)(t:TA):TE:=λσ H Q=>t σ H λvs H1=>r vs H1 Q
theorem yK (hc:nZ X (.builtin id) r)(hg:Gl X x)(hm:X.mg x=Gb)(hv:bootBuiltins x=Ga (.builtin id))(ha:PA X (e::es) t)(hn:x≠"__name__":=by decide)(hdb:(x==("__debug__":Str))=false:=by decide)
  (he:starEach (e::es) X.env=(false,eval e X.env)::starEach es X.env:=by rfl) (hpl:(backTo pos (starEach es X.env)).any (·.1)=false:=by rfl):PE X (.Call (.Name x p) (e::es) [] pos) (QV r t):=by
 intro ω s σ H Q I h;refine wpAny_Call_Name_kw (sU I hg hm hv ?_ hn hdb);exact PyProof.Rows.callWith_builtin1 (lZ (ha pos ω s σ H _ I h) λus s1 ⟨vs,H1,I1,r1,q1⟩=>hc ω s1 σ H1 vs us Q I1 r1 q1) he hpl
theorem EA (hc:nZ X (.type T) r)(hg:Gl X x)(hm:X.mg x=Gb)(hv:bootBuiltins x=Ga (.type T))(ha:PA X (e::es) t)(hn:x≠"__name__":=by decide)(hdb:(x==("__debug__":Str))=false:=by decide)
  (he:starEach (e::es) X.env=(false,eval e X.env)::starEach es X.env:=by rfl) (hpl:(backTo pos (starEach es X.env)).any (·.1)=false:=by rfl):PE X (.Call (.Name x p) (e::es) [] pos) (QV r t):=by
 intro ω s σ H Q I h;refine wpAny_Call_Name_kw (sU I hg hm hv ?_ hn hdb);exact PyProof.Rows.callWith_type1 (lZ (ha pos ω s σ H _ I h) λus s1 ⟨vs,H1,I1,r1,q1⟩=>hc ω s1 σ H1 vs us Q I1 r1 q1) he hpl
end
end L2
namespace HT
open PySem PyProof.Rows
section
open PySem.SeqAt
open PySem.AutoSeq1 (wpAny_loadPart')
open PySem.MeetsSeq PySem.MeetsSeq2 PySem.MeetsSeq3
end
section
variable {prog:Program}{w:World}{A:Around}{E:Gg->Gh->Prop}{s:Gh}
theorem cat_tup {t b:Gj}{vs ws:List Gg}{Q:Gg->Gh->Prop}(ht:IsTup s.heap t vs.toArray)(hb:IsTup s.heap b ws.toArray)(hv:vs≠[])
  (h1:ws=[]->Q (.ref t) s) (h2:ws≠[]->Q (.ref s.heap.objs.size) { s with heap:=s.heap.push { cls:=.type "tuple",data:=.seq (vs++ws).toArray } })
  (hsz:vs.length+ws.length<=sizeLine):wpAny (model prog w) A (binaryOp .Add (.ref t) (.ref b)) Q E s:=by
 obtain⟨⟨cls,dd,data,sl⟩,ho,hc,n,hd⟩:=id ht;obtain⟨⟨cls2,dd2,data2,sl2⟩,ho2,hc2,n2,hd2⟩:=id hb;simp only at hc hd hc2 hd2;subst hc hd hc2 hd2;have e:vs.toArray++ws.toArray=(vs++ws).toArray:=by simp
 by_cases hw:ws=[]
 .exact concat_meets ⟨_,ho,rfl⟩ ⟨_,ho2,rfl⟩ noFill_tuple_add seq_tuple_add vR vJ (vF _ _)
   (tuple_addW1 t b vs.toArray ws.toArray n n2 dd dd2 sl sl2 (by simpa using hv) (by simp[hw])) ⟨ho,ho2,h1 hw⟩
 .refine concat_meets ⟨_,ho,rfl⟩ ⟨_,ho2,rfl⟩ noFill_tuple_add seq_tuple_add vR vJ (vF _ _)
   (tuple_addW2 t b vs.toArray ws.toArray n n2 dd dd2 sl sl2 (by simpa using hv) (by simpa using hw) (by rw[jm,jm];exact hsz)) ⟨ho,ho2,?_⟩
  rw[e];exact h2 hw
def sIx (n d:Nat):Option Int->Nat
 | none=>d
 | some v=>if v<0 then(v+(n:Int)).toNat else min v.toNat n
theorem sIx_none (n d:Nat):sIx n d Gb=d:=rfl
theorem sIx_nat (n d k:Nat):sIx n d (Ga (k:Int))=min k n:=by
 show(if (k:Int)<0 then((k:Int)+(n:Int)).toNat else min (k:Int).toNat n)=min k n;rw[Gf (by omega),j7]
theorem NB (n d:Nat)(hd:d<=n)(o:Option Int):sIx n d o<=n:=by
 cases o with
 | none=>exact hd
 | some v =>
  show(if v<0 then(v+(n:Int)).toNat else min v.toNat n)<=n;by_cases hv:v<0
  .rw[Ge hv];omega
  .rw[Gf hv];exact JZ _ _
theorem Cz (v:Int)(n d:Nat):(if v<0 then max (v+(n:Int)) 0 else min v (n:Int))=((sIx n d (Ga v):Nat):Int):=by
 show(if v<0 then max (v+(n:Int)) 0 else min v (n:Int))=(((if v<0 then(v+(n:Int)).toNat else min v.toNat n):Nat):Int);by_cases hv:v<0
 .simp only[Ge hv];omega
 .simp only[Gf hv];omega
theorem DG (lo hi:Option Int)(n:Nat):vA lo hi 1 (n:Int)=(((sIx n 0 lo:Nat):Int),((sIx n n hi:Nat):Int)):=by
 have h1:¬((1:Int)<0):=by omega
 unfold vA;simp only[h1,if_false];refine Prod.ext ?_ ?_
 .cases lo with
  | none=>rfl
  | some v=>exact Cz v n 0
 .cases hi with
  | none=>rfl
  | some v=>exact Cz v n n
theorem Dg (i j:Nat):uG (i:Int) (j:Int) 1=j-i:=by
 unfold uG;have h1:(1:Int)>0:=by omega
 simp only[h1,if_true,Int.ediv_one];split<;>omega
theorem zA {v:Gg}{o:Option Int}{Q:Option Int->Gh->Prop}(p:IsPart v o)(h:Q o s):wpAny (model prog w) A (Builtin.Slice.slicePartIndex v) Q E s:=by
 cases p with
 | none=>exact slicePart_none h
 | int i t=>exact slicePart_int h
theorem yN {sl:Gj}{vl vu:Gg}{lo hi:Option Int}{n:Nat}{Q:Int×Int×Nat->Gh->Prop}(hs:s.heap.IsSliceOf sl vl vu .none)(pl:IsPart vl lo)(pu:IsPart vu hi)
  (h:Q (((sIx n 0 lo:Nat):Int),1,sIx n n hi-sIx n 0 lo) s):wpAny (model prog w) A (qm (.ref sl) (pure (n:Int))) Q E s:=by
 obtain⟨os,hos,hcs,hds⟩:=id hs;unfold qm Builtin.Slice.sliceFields;refine iK (iK (wpAny_field hos hds (x:=vl) rfl (iK (wpAny_field hos hds (x:=vu) rfl (iK (wpAny_field hos hds (x:=.none) rfl (iL ?_)))))));refine iK (slicePart_none ?_);show wpAny _ _ (if ((1:Int)==0)=true then _ else _) _ _ s;rw[Gf (by decide)];refine iK (zA pl (iK (zA pu (iK (iL ?_)))));show wpAny _ _ (match vA lo hi 1 (n:Int) with|(lo,hi)=>pure (lo,(1:Int),uG lo hi 1)) _ _ s;rw[DG lo hi n];show wpAny _ _ (pure (((sIx n 0 lo:Nat):Int),(1:Int),uG ((sIx n 0 lo:Nat):Int) ((sIx n n hi:Nat):Int) 1)) _ _ s;rw[Dg];exact iL h
theorem FN (xs:Array Gg)(i k:Nat):((jd k).filterMap λ(m:Nat)=>xs[((i:Int)+(m:Int)*1).toNat]?).toArray=((xs.toList.drop i).take k).toArray:=by
 have e:(λ(m:Nat)=>xs[((i:Int)+(m:Int)*1).toNat]?)=λm=>xs[i+m]?:=by
  funext m
  have:((i:Int)+(m:Int)*1).toNat=i+m:=by omega
  rw[this]
 rw[e];have:=pick_run xs i k;rw[List.filterMap_map] at this;have e2:((λx=>xs[x]?)∘λx=>i+x)=λm=>xs[i+m]?:=rfl;rw[e2] at this;rw[this]
theorem getItem_tuple_cut {t sl:Gj}{items:Array Gg}{vl vu:Gg}{lo hi:Option Int}{Q:Gg->Gh->Prop}(ht:IsTup s.heap t items)(hs:s.heap.IsSliceOf sl vl vu .none)(pl:IsPart vl lo)(pu:IsPart vu hi)
  (hw:¬(sIx items.size 0 lo=0/\sIx items.size items.size hi=items.size))
  (h:Q (.ref s.heap.objs.size) { s with heap:=s.heap.push { cls:=.type "tuple",data:=.seq ((items.toList.drop (sIx items.size 0 lo)).take (sIx items.size items.size hi-sIx items.size 0 lo)).toArray } })
  (hsz:items.size<=sizeLine):wpAny (model prog w) A (getItem (.ref t) (.ref sl)) Q E s:=by
 have htake:sizeOk (.seq ((items.toList.drop (sIx items.size 0 lo)).take (sIx items.size items.size hi-sIx items.size 0 lo)).toArray):=by
  show((items.toList.drop (sIx items.size 0 lo)).take (sIx items.size items.size hi-sIx items.size 0 lo)).toArray.size<=sizeLine;rw[jm,vq,vY,kb];omega
 have hj:sIx items.size items.size hi<=items.size:=NB _ _ (jj _) hi;obtain⟨os,hos,hcs,hds⟩:=id hs;have hTs:s.TypeIs (.ref sl) "slice":=⟨os,hos,hcs⟩;unfold getItem
 try with_reducible refine wpAny_holding ?_
 first|refine iK (iL ?_)|skip
 refine iK (wpAny_sequenceKey ht.typeIs (by decide) ?_);refine iK (wpAny_callSpecial?_slot (name:=jv "__getitem__") ht.typeIs PyProof.Rows.slot_tuple_getitem
  (wpAny_call_entry PyProof.Rows.slot_tuple_getitem ht.typeIs entry_tuple_getitem ?_ (args_tuple_getitem _ _)))
 show wpAny _ _ (Builtin.Tuple.tupleItemsOf (.ref t) >>= _) _ _ s;refine iK (tupleItemsOf_ ht ?_);refine iK (wpAny_typeOf hTs ?_);rw[Ge (by decide)];refine iK (yN hs pl pu ?_);have hno:¬((((sIx items.size 0 lo:Nat):Int)==0&&(1:Int)==1&&(sIx items.size items.size hi-sIx items.size 0 lo)==items.size)=true):=by
  intro q;rw[jG,jG] at q;have q1:((sIx items.size 0 lo:Nat):Int)=0:=eq_of_beq q.1.1;have q2:sIx items.size items.size hi-sIx items.size 0 lo=items.size:=eq_of_beq q.2;exact hw ⟨by omega,by omega⟩
 show wpAny _ _ (if (((sIx items.size 0 lo:Nat):Int)==0&&(1:Int)==1&&(sIx items.size items.size hi-sIx items.size 0 lo)==items.size)=true then _ else _) _ _ s;rw[Gf hno,FN]
 first
  | exact iK (m:=uR _) (wpAny_newObj_type (iL ⟨_,rfl,iL h⟩) htake)
  | exact iK (m:=uR _) (wpAny_newObj_type (iK (iL (iL ⟨_,rfl,iL h⟩))) htake)
  | exact iK (iK (m:=uR _) (wpAny_newObj_type (iL (iL ⟨_,rfl,iL h⟩)) htake))
  | exact iK (iK (m:=uR _) (wpAny_newObj_type (iL ⟨_,rfl,iL h⟩) htake))
end
end HT
namespace L2
open PySem PySem.Spec PyProof.Rows
abbrev TO:=St->Hp->(Option Int->Hp->Prop)->Prop
def PO (X:Cx)(e:Option Expr)(t:TO):Prop :=
 ∀ (ω:List (Gj×Obj)) (s:Gh) (σ:St) (H:Hp) (Q:Option Int->Hp->Prop),iZ X ω σ H s->t σ H Q ->
  wpAny (model X.prog X.w) X.A (evalPart e X.env) (λu s'=>∃ o H',iZ X ω σ H' s'/\IsPart u o/\Q o H') X.xe s
def Iy:TO:=λ_ H Q=>Q Gb H
def QM (t:TE):TO:=λσ H Q=>t σ H λx H1=>∃ i,x=.int i/\Q (Ga i) H1
theorem se {ns:List Int}:∀ {us:List Gg},lH (ns.map V.int) us->IntsAre us ns:=by
 induction ns with
 | nil=>intro us r;rw[qP] at r;cases r;exact .nil
 | cons n ns ih =>
  intro us r;rw[jK] at r;cases r with
  | cons r1 r2 =>
   obtain⟨t,e⟩:=r1;subst e;exact .cons n t (ih r2)
section
variable {X:Cx}{e:Expr}{te:TE}{lo hi:Option Expr}{tl th:TO}{pos p2:Pos}
theorem Iz:PO X Gb Iy:=by
 intro ω s σ H Q I h;rw[evalPart_none];exact iL ⟨Gb,H,I,.none,h⟩
theorem IV (h:PE X e te):PO X (Ga e) (QM te):=by
 intro ω s σ H Q I hw;rw[evalPart_some];refine lZ (h ω s σ H _ I hw) λu s1 ⟨x,H1,I1,r1,q1⟩=>?_;obtain⟨i,rfl,q⟩:=q1;obtain⟨t,rfl⟩:=r1;exact⟨Ga i,H1,I1,.int i t,q⟩
def Cj (X:Cx)(r:V->Option Int->Option Int->Hp->VK->Prop):Prop :=
 ∀ (ω:List (Gj×Obj)) (s:Gh) (σ:St) (H:Hp) (x:V) (v vl vu:Gg) (lo hi:Option Int) (sl:Gj) (Q:VK),iZ X ω σ H s->lO x v->s.heap.IsSliceOf sl vl vu .none->IsPart vl lo->IsPart vu hi->r x lo hi H Q ->
  ∃ T id,typeLookup (.type T) "__getitem__"=pure (Ga (.builtin id))/\s.TypeIs v T/\wpAny (model X.prog X.w) X.A (getItem v (.ref sl)) (EP X ω σ Q) X.xe s
theorem Cj.or {r r':V->Option Int->Option Int->Hp->VK->Prop}(h:Cj X r)(h':Cj X r'):Cj X (λx lo hi H Q=>r x lo hi H Q\/r' x lo hi H Q):=by
 intro ω s σ H x v vl vu lo hi sl Q I rx hs pl pu q;rcases q with q|q
 .exact h ω s σ H x v vl vu lo hi sl Q I rx hs pl pu q
 .exact h' ω s σ H x v vl vu lo hi sl Q I rx hs pl pu q
def tSl (r:V->Option Int->Option Int->Hp->VK->Prop)(te:TE)(tl th:TO):TE:=λσ H Q=>te σ H λx H1=>tl σ H1 λl H2=>th σ H2 λu H3=>r x l u H3 Q
theorem FA {r:V->Option Int->Option Int->Hp->VK->Prop}(hr:Cj X r)(he:PE X e te)(hl:PO X lo tl)(hu:PO X hi th):PE X (.Subscript e (.Slice lo hi Gb p2) pos) (tSl r te tl th):=by
 intro ω s σ H Q I h;refine Subscript_ (lZ (he ω s σ H _ I h) λv s1 ⟨x,H1,I1,r1,q1⟩=>?_);refine wpAny_Slice (lZ (hl ω s1 σ H1 _ I1 q1) λvl s2 ⟨l,H2,I2,pl,q2⟩=>lZ (hu ω s2 σ H2 _ I2 q2) λvu s3 ⟨u,H3,I3,pu,q3⟩=>?_);rw[evalPart_none];refine iL ?_;have I4:iZ X ω σ H3 { s3 with heap:=s3.heap.push { cls:=.type "slice",data:=.fields #[vl,vu,.none] } }:=I3.kept (t':=s3.toks) λb ob q=>je _ q;obtain⟨T,id,hT,ht,hg⟩:=hr ω { s3 with heap:=s3.heap.push { cls:=.type "slice",data:=.fields #[vl,vu,.none] } } σ H3 x v vl vu l u s3.heap.objs.size Q I4 r1 (Heap.IsSliceOf.new ..) pl pu q3;show wpAny (model X.prog X.w) X.A (subscriptTail e (.Slice lo hi Gb p2) v (.ref s3.heap.objs.size)) (EP X ω σ Q) X.xe { s3 with heap:=s3.heap.push { cls:=.type "slice",data:=.fields #[vl,vu,.none] } };exact tail_any (ops:=[.ref s3.heap.objs.size,v]) ht hT hg (by with_unfolding_all rfl)
def wB (xs:List V)(lo hi:Option Int):List V:=(xs.drop (HT.sIx xs.length 0 lo)).take (HT.sIx xs.length xs.length hi-HT.sIx xs.length 0 lo)
theorem yH (xs:List V)(lo hi:Option Int):(wB xs lo hi).length<=xs.length:=by
 unfold wB;rw[vq,vY];omega
def VP (K:ja):V->Option Int->Option Int->Hp->VK->Prop:=λx lo hi H Q=>∃ a xs,x=.ref a/\oB K H a xs /\
 ¬(HT.sIx xs.length 0 lo=0/\HT.sIx xs.length xs.length hi=xs.length)/\∀ p,H p=Gb->Q (.ref p) (upd H p (.tup (wB xs lo hi)))
theorem Mf:Cj X (VP X.K):=by
 intro ω s σ H x v vl vu lo hi sl Q I rx hs pl pu h;obtain⟨a,xs,rfl,hx,hw,q⟩:=h;cases rx;obtain⟨its,r,ht,hz⟩:=I.tuple hx;have hlen:its.toArray.size=xs.length:=by rw[jm];exact r.length.symm
 refine⟨"tuple",_,PyProof.Rows.slot_tuple_getitem.lookup,ht.typeIs,?_⟩;refine HT.getItem_tuple_cut ht hs pl pu (by rw[hlen];exact hw) ?_ (by rw[hlen];exact hz);rw[hlen];refine⟨.ref s.heap.objs.size,_,I.laid (t':=s.toks) (o:=.tup (wB xs lo hi)) (λb ob q=>je _ q) (jj _) ?_,rfl,q _ (I.hok.fresh (jj _))⟩;exact⟨jk (yH xs lo hi) hz,_,(r.drop (HT.sIx xs.length 0 lo)).take (HT.sIx xs.length xs.length hi-HT.sIx xs.length 0 lo),IsTup.new _ _⟩
def QG (K:ja):R2:=λx y H Q=>∃ a b xs ys,x=.ref a/\y=.ref b/\oB K H a xs/\oB K H b ys/\xs≠[]/\xs.length+ys.length<=sizeLine /\
 (ys=[]->Q (.ref a) H)/\(ys≠[]->∀ p,H p=Gb->Q (.ref p) (upd H p (.tup (xs++ys))))
theorem lH.nil_iff {xs:List V}{us:List Gg}(r:lH xs us):us=[]↔xs=[]:=by
 cases r with
 | nil=>simp
 | cons _ _=>simp
theorem Ix:nS X (binaryOp .Add) (QG X.K):=by
 intro ω s σ H x y v u Q I rx ry h;obtain⟨a,b,xs,ys,rfl,rfl,ha,hb,hx,hz,q1,q2⟩:=h;cases rx;cases ry;obtain⟨its,r1,p1,_⟩:=I.tuple ha;obtain⟨its2,r2,p2,_⟩:=I.tuple hb;refine HT.cat_tup p1 p2 (λz=>hx (r1.nil_iff.mp z)) (λz=>⟨.ref a,H,I,rfl,q1 (r2.nil_iff.mp z)⟩) (λz=>?_) (by rw[<- r1.length,<- r2.length];exact hz);refine⟨.ref s.heap.objs.size,_,I.laid (t':=s.toks) (o:=.tup (xs++ys)) (λb ob q=>je _ q) (jj _) ?_,rfl,q2 (λw=>z (r2.nil_iff.mpr w)) _ (I.hok.fresh (jj _))⟩;exact⟨by rw[jg];exact hz,_,r1.append r2,IsTup.new _ _⟩
end
def ixN (n:Nat)(i:Int):Option Nat:=if 0<=i then(if i<n then Ga i.toNat else Gb) else if -(n:Int)<=i then Ga (i+n).toNat else Gb
def atI {α:Type}(xs:List α)(i:Int):Option α:=(ixN xs.length i).bind λj=>xs[j]?
theorem CF {n:Nat}{i:Int}{j:Nat}(h:ixN n i=Ga j):seqIndex? i n=Ga j/\j<n/\-(n:Int)<=i/\i<n:=by
 unfold ixN at h;by_cases h0:0<=i
 .rw[Ge h0] at h;by_cases h1:i<n
  .rw[Ge h1] at h;have e:i.toNat=j:=jF h;exact⟨by rw[seqIndex_of h0 h1,e],by omega,by omega,h1⟩
  .rw[Gf h1] at h;cases h
 .rw[Gf h0] at h;by_cases h1:-(n:Int)<=i
  .rw[Ge h1] at h;have e:(i+n).toNat=j:=jF h;exact⟨by rw[seqIndex_neg (by omega) h1,e],by omega,h1,by omega⟩
  .rw[Gf h1] at h;cases h
theorem zJ {α:Type}{xs:List α}{i:Int}{v:α}(h:atI xs i=Ga v):∃ j,seqIndex? i xs.length=Ga j/\xs[j]?=Ga v/\j<xs.length/\-(xs.length:Int)<=i/\i<xs.length:=by
 unfold atI at h;cases e:ixN xs.length i with
 | none=>rw[e] at h;cases h
 | some j =>
  rw[e] at h;obtain⟨h1,h2,h3,h4⟩:=CF e;exact⟨j,h1,h,h2,h3,h4⟩
theorem atI_nat {α:Type}{xs:List α}{j:Nat}{v:α}(h:xs[j]?=Ga v):atI xs (j:Int)=Ga v:=by
 have hj:j<xs.length:=(jr.mp h).1;have e:ixN xs.length (j:Int)=Ga j:=by
  unfold ixN;rw[Ge (by omega),Ge (by omega)];simp
 unfold atI;rw[e];exact h
theorem atI_last {α:Type}(xs:List α)(v:α):atI (xs++[v]) (-1)=Ga v:=by
 have hl:(xs++[v]).length=xs.length+1:=by simp
 have e:ixN (xs++[v]).length (-1)=Ga xs.length:=by
  unfold ixN;rw[hl,Gf (by decide),Ge (by omega)]
  congr 1
  omega
 unfold atI;rw[e];show(xs++[v])[xs.length]?=Ga v;simp
def zN (b:Expr):Prop:=∀ o i,subscripted b false o i=operate [o,i] (getItem o i)
def zl (X:Cx)(r:R2):Prop :=
 ∀ (value slice:Expr) (ω:List (Gj×Obj)) (s:Gh) (σ:St) (H:Hp) (x y:V) (v u:Gg) (Q:VK),iZ X ω σ H s->lO x v->lO y u->r x y H Q ->
  subscripted slice false v u=operate [v,u] (getItem v u)->wpAny (model X.prog X.w) X.A (subscriptTail value slice v u) (EP X ω σ Q) X.xe s
def AK (X:Cx)(id:String)(r:V->List V->Hp->VK->Prop):Prop :=
 ∀ (ω:List (Gj×Obj)) (s:Gh) (σ:St) (H:Hp) (x:V) (xs:List V) (v:Gg) (us:List Gg) (Q:VK),iZ X ω σ H s->lO x v->lH xs us->r x xs H Q ->
  wpAny (model X.prog X.w) X.A (call (.builtin id) (v::us)) (EP X ω σ Q) X.xe s
section
variable {X:Cx}{a b:Expr}{ta tb:TE}{pos:Pos}
theorem zl.or {r r':R2}(h:zl X r)(h':zl X r'):zl X (λx y H Q=>r x y H Q\/r' x y H Q):=by
 intro value slice ω s σ H x y v u Q I rx ry q hs;rcases q with q|q
 .exact h value slice ω s σ H x y v u Q I rx ry q hs
 .exact h' value slice ω s σ H x y v u Q I rx ry q hs
theorem AK.or {id:String}{r r':V->List V->Hp->VK->Prop}(h:AK X id r)(h':AK X id r'):AK X id (λx xs H Q=>r x xs H Q\/r' x xs H Q):=by
 intro ω s σ H x xs v us Q I rx rs q;rcases q with q|q
 .exact h ω s σ H x xs v us Q I rx rs q
 .exact h' ω s σ H x xs v us Q I rx rs q
theorem Ir {r:R2}(hr:zl X r)(ha:PE X a ta)(hb:PE X b tb)(hs:zN b):PE X (.Subscript a b pos) (Ej r ta tb):=by
 intro ω s σ H Q I h;exact Subscript_ (Fx ha hb I h λv u s2 x y H2 I2 rx ry q=>hr a b ω s2 σ H2 x y v u Q I2 rx ry q (hs _ _))
def Nf (K:ja):R2:=λx y H Q=>∃ p xs i v,x=.ref p/\y=.int i/\nr K H p xs/\atI xs i=Ga v/\Q v H
def Mv (K:ja):R2:=λx y H Q=>∃ p xs i v,x=.ref p/\y=.int i/\oB K H p xs/\atI xs i=Ga v/\Q v H
def OX:R2:=λx y H Q=>∃ z i c,x=.str z/\y=.int i/\z.length<=sizeLine/\atI z.cps.toList i=Ga c/\Q (.str ⟨#[c]⟩) H
theorem CC:zl X (Nf X.K):=by
 intro value slice ω s σ H x y v u Q I rx ry h hs;obtain⟨p,xs,i,z,rfl,rfl,hq,he,q⟩:=h;cases rx;obtain⟨t,rfl⟩:=ry;obtain⟨its,r,pl,hz⟩:=I.list hq;obtain⟨j,h1,h2,h3,h4,h5⟩:=zJ he;obtain⟨w,ew,rw'⟩:=r.get h2;have hl:=r.length;have hn:=wG;have fin:EP X ω σ Q w s:=⟨z,H,I,rw',q⟩;by_cases h0:0<=i
 .have hj:i.toNat=j:=by
   rw[seqIndex_of h0 h5] at h1;exact jF h1
  exact item_listR pl.isList h0 (by omega) (by rw[hj];simpa using ew) fin hs
 .have hj:(i+(its.toArray.size:Int)).toNat=j:=by
   rw[seqIndex_neg (by omega) h4] at h1;rw[jm,<- hl];exact jF h1
  exact subscriptTail_builtinR (x:=w) pl.isList.typeIs slot_list_getitem.lookup
   (wpAny_getItem_list_neg (Q:=λr s'=>r=w/\EP X ω σ Q r s') pl.isList (by omega) (by rw[jm]<;>omega) (by omega) (by rw[hj];simpa using ew) ⟨rfl,fin⟩) hs
theorem OO:zl X (Mv X.K):=by
 intro value slice ω s σ H x y v u Q I rx ry h hs;obtain⟨p,xs,i,z,rfl,rfl,hq,he,q⟩:=h;cases rx;obtain⟨t,rfl⟩:=ry;obtain⟨its,r,pl,hz⟩:=I.tuple hq;obtain⟨j,h1,h2,h3,h4,h5⟩:=zJ he;obtain⟨w,ew,rw'⟩:=r.get h2;have hl:=r.length;have hn:=wG;have fin:EP X ω σ Q w s:=⟨z,H,I,rw',q⟩;exact subscriptTail_builtinR (x:=w) pl.typeIs slot_tuple_getitem.lookup
  (getItem_tuple (j:=j) (Q:=λr s'=>r=w/\EP X ω σ Q r s') pl (by omega) (by omega) (by rw[jm,<- hl];exact h1) (by simpa using ew) ⟨rfl,fin⟩) hs
theorem Lu:zl X OX:=by
 intro value slice ω s σ H x y v u Q I rx ry h hs;obtain⟨z,i,c,rfl,rfl,hz,he,q⟩:=h;obtain⟨t,rfl⟩:=rx;obtain⟨t',rfl⟩:=ry;obtain⟨j,h1,h2,h3,h4,h5⟩:=zJ he;have hl:z.cps.toList.length=z.length:=by simp[Str.length]
 rw[hl] at h1 h4 h5;have hn:=wG;exact tail_any (typeIs_str s z t) slot_str_getitem.lookup (getItem_str (c:=c) (by
  have e1:decide (i < -(2^63:Int))=false:=Gd (by omega);have e2:decide (i≥2^63)=false:=Gd (by omega);rw[e1,e2,uS]) (by rw[h1];simpa using h2) ⟨.str ⟨#[c]⟩,H,I.tok _,⟨_,rfl⟩,q⟩) hs
def Th (K:ja):R2:=λx y H Q=>Nf K x y H Q\/Mv K x y H Q\/OX x y H Q
theorem Mb:zl X (Th X.K):=CC.or (OO.or Lu)
theorem DH (its:List Gg)(n j:Nat)(u:Gg):ki (·.setIfInBounds j u) { cls:=.type "list",data:=.seq its.toArray n }={ cls:=.type "list",data:=.seq (its.set j u).toArray n }:=by
 simp[ki]
theorem iZ.lst {ω:List (Gj×Obj)}{σ:St}{H:Hp}{s:Gh}{p:Gj}{xs:List V}(I:iZ X ω σ H s)(h:H p=Ga (.lst xs)) :
  ∃ (its:List Gg) (n:Nat),lH xs its/\s.heap.get? p=Ga { cls:=.type "list",data:=.seq its.toArray n }/\xs.length<=sizeLine:=by
 obtain⟨z,its,n,r,e⟩:=I.hok p _ h;exact⟨its,n,r,e,z⟩
theorem iZ.lstUpd {ω:List (Gj×Obj)}{σ:St}{H:Hp}{s:Gh}{p:Gj}{xs ys:List V}{its its':List Gg}{n n':Nat}{f:Obj->Obj}(I:iZ X ω σ H s)(h:H p=Ga (.lst xs))
  (ho:s.heap.get? p=Ga { cls:=.type "list",data:=.seq its.toArray n }) (hf:f { cls:=.type "list",data:=.seq its.toArray n }={ cls:=.type "list",data:=.seq its'.toArray n' }) (r:lH ys its') (hz:ys.length<=sizeLine) (t:Nat) :
  iZ X ω σ (upd H p (.lst ys)) { s with heap:=s.heap.update p f,toks:=t }:=by
 have e:(s.heap.update p f).get? p=Ga { cls:=.type "list",data:=.seq its'.toArray n' }:=by
  rw[uE f ho (by rw[hf]<;>rfl),hf]
 refine I.write (x:=p) (e:=p) (by rw[h];trivial) (.inl rfl) (λb u hb q=>(k8 _ _ (ug hb)).trans q) ⟨_,e⟩ ?_;exact⟨hz,its',n',r,e⟩
def Qw:V->V->V->Hp->(Hp->Prop)->Prop:=λo i v H Q=>∃ p xs k j,o=.ref p/\i=.int k/\H p=Ga (.lst xs)/\ixN xs.length k=Ga j/\Q (upd H p (.lst (xs.set j v)))
theorem FH:Qm X Qw:=by
 intro ω s σ H o i v ov iv u Q I ro ri rv h;obtain⟨p,xs,k,j,rfl,rfl,hp,hj,q⟩:=h;cases ro;obtain⟨t,rfl⟩:=ri;obtain⟨its,n,r,ho,hz⟩:=I.lst hp;obtain⟨h1,h2,h3,h4⟩:=CF hj;have hl:=r.length;have hn:=wG;have I':iZ X ω σ (upd H p (.lst (xs.set j v))) { s with heap:=s.heap.update p (ki (·.setIfInBounds j u)) } :=
  I.lstUpd hp ho (DH its n j u) (r.set rv j) (by rw[Jb];exact hz) s.toks
 by_cases h0:0<=k
 .have hk:k.toNat=j:=by
   rw[seqIndex_of h0 h4] at h1;exact jF h1
  exact PySem.W.ki_setAt ho h0 (by omega) (by rw[jm,<- hl];exact h4) (by rw[hk];exact⟨_,I',q⟩)
 .have hk:(k+(its.toArray.size:Int)).toNat=j:=by
   rw[seqIndex_neg (by omega) h3] at h1;rw[jm,<- hl];exact jF h1
  exact PySem.W.ki_setBack ho (by omega) (by rw[jm,<- hl];exact h3) (by omega) (by rw[hk];exact⟨_,I',q⟩)
theorem AW (lo hi:Option Int)(n:Nat):(sliceBounds lo hi Gb n).1=((HT.sIx n 0 lo:Nat):Int)/\(sliceBounds lo hi Gb n).2.1=((HT.sIx n n hi:Nat):Int)/\(sliceBounds lo hi Gb n).2.2=1:=by
 refine⟨?_,?_,rfl⟩
 .cases lo with
  | none=>simp[sliceBounds,HT.sIx]
  | some i =>
   simp only[sliceBounds,HT.sIx,J0,show(1:Int)>0 by decide,if_true];by_cases h:i<0
   .simp only[h,if_true]<;>omega
   .simp only[h,if_false]<;>omega
 .cases hi with
  | none=>simp[sliceBounds,HT.sIx]
  | some i =>
   simp only[sliceBounds,HT.sIx,J0,show(1:Int)>0 by decide,if_true];by_cases h:i<0
   .simp only[h,if_true]<;>omega
   .simp only[h,if_false]<;>omega
theorem AM (its:List Gg)(lo hi:Option Int):slicePick its.toArray lo hi Gb=((its.drop (HT.sIx its.length 0 lo)).take (HT.sIx its.length its.length hi-HT.sIx its.length 0 lo)).toArray:=by
 obtain⟨h1,h2,h3⟩:=AW lo hi its.toArray.size;unfold slicePick;rw[h1,h2,h3];simp only[sliceRange_one,pick_run,jm]<;>rfl
def VX (K:ja):V->Option Int->Option Int->Hp->VK->Prop:=λx lo hi H Q=>∃ a xs,x=.ref a/\nr K H a xs/\∀ p,H p=Gb->Q (.ref p) (upd H p (.lst (wB xs lo hi)))
theorem IW:Cj X (VX X.K):=by
 intro ω s σ H x v vl vu lo hi sl Q I rx hs pl pu h;obtain⟨a,xs,rfl,hx,q⟩:=h;cases rx;obtain⟨its,r,ht,hz⟩:=I.list hx;have hlen:=r.length;refine⟨"list",_,slot_list_getitem.lookup,ht.isList.typeIs,?_⟩;refine wpAny_getItem_list_slice ht.isList hs pl pu .none (by simp) ?_ (by rw[jm]<;>omega);rw[AM,<- hlen];refine⟨.ref s.heap.objs.size,_,I.laid (t':=s.toks) (o:=.lst (wB xs lo hi)) (λb ob q=>je _ q) (jj _) ?_,rfl,q _ (I.hok.fresh (jj _))⟩;exact⟨jk (yH xs lo hi) hz,_,0,(r.drop (HT.sIx xs.length 0 lo)).take (HT.sIx xs.length xs.length hi-HT.sIx xs.length 0 lo),jB _ rfl⟩
theorem Be:nZ X (.builtin "len") (λxs H Q=>∃ p ys,xs=[.ref p]/\(nr X.K H p ys\/oB X.K H p ys)/\Q (.int ys.length) H):=by
 intro ω s σ H xs us Q I r h;obtain⟨p,ys,rfl,hq,q⟩:=h;obtain⟨u,rfl,rx⟩:=rg r;cases rx;have hn:=wG;rcases hq with hq|hq
 .obtain⟨its,r',pl,hz⟩:=I.list hq;have hlen:=r'.length;exact Calls.call_len_list pl.isList (by simp only[jm]<;>omega) ⟨.int ys.length,H,I.tok _,⟨s.toks+1,by rw[jm,hlen]⟩,q⟩
 .obtain⟨its,r',pl,hz⟩:=I.tuple hq;have hlen:=r'.length;exact len_tuple pl (by simp only[jm]<;>omega) ⟨.int ys.length,H,I.tok _,⟨s.toks+1,by rw[jm,hlen]⟩,q⟩
theorem nZ.or {f:Gg}{r r':List V->Hp->VK->Prop}(h:nZ X f r)(h':nZ X f r'):nZ X f (λxs H Q=>r xs H Q\/r' xs H Q):=by
 intro ω s σ H xs us Q I rs q;rcases q with q|q
 .exact h ω s σ H xs us Q I rs q
 .exact h' ω s σ H xs us Q I rs q
theorem AN:nZ X (.type "tuple") (λxs H Q=>∃ p ys,xs=[.ref p]/\((nr X.K H p ys/\∀ l,H l=Gb->Q (.ref l) (upd H l (.tup ys)))\/(oB X.K H p ys/\Q (.ref p) H))):=by
 intro ω s σ H xs us Q I r h;obtain⟨p,ys,rfl,h⟩:=h;obtain⟨u,rfl,rx⟩:=rg r;cases rx;rcases h with ⟨hq,q⟩|⟨hq,q⟩
 .obtain⟨its,r',pl,hz⟩:=I.list hq;have hlen:=r'.length;refine call_tuple_list pl.isList (λh' kp=>?_) (by simp only[jm]<;>omega);have I1:iZ X ω σ H { s with heap:=h' }:=I.kept (t':=s.toks) kp;have I2:iZ X ω σ (upd H h'.objs.size (.tup ys)) { s with heap:=h'.push { cls:=.type "tuple",data:=.seq its.toArray } } :=
   I1.laid (t':=s.toks) (λb o e=>je _ e) (jj _) (show oQ X.prog X.w _ _ _ (.tup ys) from⟨hz,its,r',IsTup.new _ _⟩)
  exact⟨.ref h'.objs.size,_,I2,rfl,q _ (I1.hok.fresh (jj _))⟩
 .obtain⟨its,r',pl,hz⟩:=I.tuple hq;exact call_tuple_same pl ⟨.ref p,H,I,rfl,q⟩
def OW (K:ja)(T:String)(x:V)(H:Hp):Prop:=match x with
 | .str _=>T="str"
 | .int _=>T="int"
 | .ref p=>(T="list"/\∃ xs,nr K H p xs)\/(T="tuple"/\∃ o,K.lookup p=Ga o/\o.cls=.type "tuple"/\o.dict=Gb) \/
   (T="dict"/\((∃ kvs,H p=Ga (.dK kvs))\/∃ kvs,H p=Ga (.dT kvs)))\/(T="set"/\∃ S n,H p=Ga (.set S n))
 | _=>False
theorem EH {ω:List (Gj×Obj)}{σ:St}{H:Hp}{s:Gh}{T:String}{x:V}{v:Gg}(I:iZ X ω σ H s)(r:lO x v)(ty:OW X.K T x H) :
  s.TypeIs v T/\∀ a,v=.ref a->∃ ob,s.heap.get? a=Ga ob/\ob.dict=Gb:=by
 cases x with
 | str z =>
  obtain⟨t,rfl⟩:=r;cases(show T="str" from ty);exact⟨typeIs_str s z t,λ_ e=>nomatch e⟩
 | int i =>
  obtain⟨t,rfl⟩:=r;cases(show T="int" from ty);exact⟨typeIs_int s i t,λ_ e=>nomatch e⟩
 | ref p =>
  cases r;rcases ty with ⟨rfl,xs,hq⟩|⟨rfl,o,hk,hc,hd⟩|⟨rfl,hk⟩|⟨rfl,S,n,hk⟩
  .obtain⟨its,_,pl,_⟩:=I.list hq;refine⟨pl.isList.typeIs,λa e=>?_⟩;cases e;obtain⟨o,n,e,c,hd,_⟩:=pl;exact⟨o,e,hd⟩
  .refine⟨⟨o,I.kIn p o hk,hc⟩,λa e=>?_⟩;cases e;exact⟨o,I.kIn _ o hk,hd⟩
  .have z:∃ o,s.heap.get? p=Ga o/\o.ExactDict:=by
    rcases hk with ⟨kvs,hk⟩|⟨kvs,hk⟩
    .obtain⟨_,_,_,_,o,_,_,e,ex,_⟩:=I.hok p _ hk;exact⟨o,e,ex⟩
    .obtain⟨_,_,_,_,o,_,_,e,ex,_⟩:=I.hok p _ hk;exact⟨o,e,ex⟩
   obtain⟨o,e,ex⟩:=z;refine⟨⟨o,e,ex.1⟩,λa e2=>?_⟩;cases e2;exact⟨o,e,ex.2.1⟩
  .obtain⟨o,_,_,_,e,ex,_⟩:=I.hok p _ hk;refine⟨⟨o,e,ex.1⟩,λa e2=>?_⟩;cases e2;exact⟨o,e,ex.2.1⟩
 | _=>exact False.elim ty
def Wx (K:ja)(T:String)(r:V->List V->Hp->VK->Prop)(to:TE):TE:=λσ H Q=>to σ H λx H1=>OW K T x H1/\r x [] H1 Q
def tBM (K:ja)(T:String)(r:V->List V->Hp->VK->Prop)(to:TE)(t:TA):TE:=λσ H Q=>to σ H λx H1=>OW K T x H1/\t σ H1 λxs H2=>r x xs H2 Q
variable {o e:Expr}{es:List Expr}{to:TE}{t:TA}{name:Str}{apos cpos:Pos}{T id:String}{r:V->List V->Hp->VK->Prop}
theorem Qp (pa:PlainAttrs T)(slot:Slot T name id)(hty:typeOf (.builtin id)=pure (.type "method_descriptor"))(hm:AK X id r)(ho:PE X o to)
  (hbase:attributeBase o name X.env (eval o X.env)=eval o X.env:=by rfl) (hline:(apos.endLine==cpos.line)=true:=by rfl):PE X (.Call (.Attribute o name apos) [] [] cpos) (Wx X.K T r to):=by
 intro ω s σ H Q I h;refine wpAny_Call_method0_late hbase hline (lZ (ho ω s σ H _ I h) λv s1 ⟨x,H1,I1,r1,ty,q1⟩=>?_);obtain⟨h1,h2⟩:=EH I1 r1 ty;exact⟨T,id,pa,slot,hty,h1,h2,u9 rfl (PySem.evalArgs_none (hm ω s1 σ H1 x [] v [] Q I1 r1 .nil q1))⟩
theorem Hi (pa:PlainAttrs T)(slot:Slot T name id)(hty:typeOf (.builtin id)=pure (.type "method_descriptor"))(hm:AK X id r)(ho:PE X o to)(ha:PA X (e::es) t)
  (hbase:attributeBase o name X.env (eval o X.env)=eval o X.env:=by rfl)
  (hfew:((backTo cpos (starEach (e::es) X.env)).all (λx=>!x.1)&&(backToKw cpos (keywordEach [] X.env)).all (λx=>x.1.isSome)
   && decide ((e::es).length+([]:List Keyword).length+(if ([]:List Keyword).isEmpty then 0 else 1)<30))=true:=by rfl)
  (hline:(apos.endLine==cpos.line)=true:=by rfl) (hs:starEach (e::es) X.env=(false,eval e X.env)::starEach es X.env:=by rfl) (hplain:(backTo cpos (starEach es X.env)).any (·.1)=false:=by rfl) :
  PE X (.Call (.Attribute o name apos) (e::es) [] cpos) (tBM X.K T r to t):=by
 intro ω s σ H Q I h;refine wpAny_Call_method_late hbase hfew hline rfl (lZ (ho ω s σ H _ I h) λv s1 ⟨x,H1,I1,r1,ty,q1⟩=>?_);obtain⟨h1,h2⟩:=EH I1 r1 ty;refine⟨T,id,pa,slot,hty,h1,h2,?_⟩;have hA:=ha cpos ω s1 σ H1 _ I1 q1;rw[hs] at hA ⊢;refine u9 (by show(false||(backTo cpos (starEach es X.env)).any (·.1))=false;rw[hplain]<;>rfl) (vd ?_);exact lZ hA λus s2 ⟨vs,H2,I2,r2,q2⟩=>hm ω s2 σ H2 x vs v us Q I2 r1 r2 q2
end
def MtM (X:Cx)(id:String)(r:V->List V->Hp->VK->Prop):Prop :=
 ∀ (ω:List (Gj×Obj)) (s:Gh) (σ:St) (H:Hp) (x:V) (xs:List V) (v:Gg) (us:List Gg) (Q:VK),iZ X ω σ H s->lO x v->lH xs us->r x xs H Q ->
  wpAny (model X.prog X.w) X.A (call (.builtin id) (v::us)) (EP X ω σ Q) X.xe s
theorem lH.one:∀ {x:V} {us:List Gg},lH [x] us->∃ u,us=[u]/\lO x u
 | _,_,.cons r .nil=>⟨_,rfl,r⟩
theorem lH.zero:∀ {us:List Gg},lH [] us->us=[]
 | _,.nil=>rfl
theorem lH.reverse {xs:List V}{us:List Gg}(h:lH xs us):lH xs.reverse us.reverse:=by
 induction h with
 | nil=>exact .nil
 | cons r t ih=>rw[uJ,uJ];exact lH.append ih (.cons r .nil)
theorem lH.rep {xs:List V}{us:List Gg}(h:lH xs us):∀ k:Nat,lH (jO k xs).flatten (jO k us).flatten
 | 0=>.nil
 | k+1=>by
  rw[uc,uc,uK,uK];exact lH.append h (lH.rep h k)
theorem As (its:List Gg):∀ (k:Nat) (acc:List Gg),
  JE (λx1 x2=>x1++x2) acc.toArray (jO k its.toArray)=(acc++(jO k its).flatten).toArray
 | 0,acc=>by simp
 | k+1,acc=>by
  have e:acc.toArray++its.toArray=(acc++its).toArray:=by simp
  have e2:(acc++its)++(jO k its).flatten=acc++(jO (k+1) its).flatten:=by
   rw[uc,uK,uM]
  rw[<- e2,<- As its k (acc++its),<- e,uc,kW]
section
variable {X:Cx}{ω:List (Gj×Obj)}{σ:St}{H:Hp}{s:Gh}{l b:Gj}{xs ys zs:List V}
theorem iZ.lset {its its':List Gg}{n:Nat}{f:Array Gg->Array Gg}{t':Nat}(I:iZ X ω σ H s)(hH:H l=Ga (.lst xs))
  (e:s.heap.get? l=Ga { cls:=.type "list",data:=.seq its.toArray n }) (hf:f its.toArray=its'.toArray) (hv:lH ys its') (hz:ys.length<=sizeLine) :
  iZ X ω σ (upd H l (.lst ys)) { s with heap:=s.heap.update l (ki f),toks:=t' }:=by
 have q:=PySem.IsL.update e f;rw[hf] at q;refine I.write (x:=l) (e:=l) (by rw[hH];exact trivial) (.inl rfl) (λb' u hb hu=>(k8 s.heap (ki f) (ug hb)).trans hu) ⟨_,q⟩ ?_;exact⟨hz,its',_,hv,q⟩
theorem iZ.lnew {its:List Gg}{t':Nat}(I:iZ X ω σ H s)(hv:lH ys its)(hz:ys.length<=sizeLine) :
  iZ X ω σ (upd H s.heap.objs.size (.lst ys)) { s with heap:=s.heap.push { cls:=.type "list",data:=.seq its.toArray },toks:=t' } :=
 I.laid (λ_ _ q=>je _ q) (jj _) ⟨hz,its,0,hv,jB _ rfl⟩
theorem iZ.fresh (I:iZ X ω σ H s):H s.heap.objs.size=Gb:=I.hok.fresh (jj _)
theorem iZ.lstM (I:iZ X ω σ H s)(hH:H l=Ga (.lst xs)):xs.length<=sizeLine/\∃ (its:List Gg) (n:Nat),lH xs its/\xs.length=its.length/\s.heap.get? l=Ga { cls:=.type "list",data:=.seq its.toArray n }:=by
 obtain⟨z,its,n,r,e⟩:=I.hok l _ hH;exact⟨z,its,n,r,r.length,e⟩
theorem FU {n:Nat}(h:n<=sizeLine):vG n=false:=by
 unfold vG;exact Gd (by omega)
end
section
variable {X:Cx}
def IJ:V->List V->Hp->VK->Prop:=λx vs H Q=>∃ l xs y,x=.ref l/\vs=[y]/\H l=Ga (.lst xs)/\xs.length<sizeLine/\Q .non (upd H l (.lst (xs++[y])))
theorem Ac:MtM X "list.append" IJ:=by
 intro ω s σ H x vs v us Q I rx rv h;obtain⟨l,xs,y,rfl,rfl,hH,hz,q⟩:=h;cases rx;obtain⟨u,rfl,ru⟩:=rv.one;obtain⟨z,its,n,r,hl,e⟩:=I.lstM hH;refine call_meets F.slot_list_append ⟨_,e,rfl⟩ F.entry_list_append (F.args_list_append_2 _ _) (PySem.list_append l its.toArray n u (by rw[jm];omega)) ⟨e,?_⟩;refine⟨.non,_,I.lset (its':=its++[u]) hH e (by simp) (r.append (.cons ru .nil)) ?_,rfl,q⟩;rw[jg,j4];omega
theorem CH {α:Type}(xs:List α)(k:Nat):(jO k xs).flatten.length=k*xs.length:=by
 induction k with
 | zero=>simp
 | succ k ih=>rw[uc,uK,jg,ih,JP,Nat.add_comm]
end
section
variable {prog:Program}{w:World}{A:Around}{E:Gg->Gh->Prop}{s:Gh}
end
section
variable {X:Cx}
end
end L2
namespace Att
open PySem PySem.W PySem.Calls PyProof.Rows
theorem zi {P:Params}{h:Heap}:∀ (ns:List Int) (vs:List Gg),WellAll P h vs (ns.map WData.int)->IntsAre vs ns:=by
 intro ns;induction ns with
 | nil =>
  intro vs w;rw[qP] at w;cases w;exact .nil
 | cons n ns ih =>
  intro vs w;rw[jK] at w;cases w with
  | cons a b =>
   cases a;exact .cons _ _ (ih _ b)
theorem DW {l:OpenLaw}{n:Nat}(hn:l.most=Ga n){P:Params}{h:Heap}{args:List WData}{vals:List Gg}
  (hpre:l.row.toRowW.claim.pre args=true) (hwl:WellAll P h vals args) :
  ∃ a vs ns,vals=[kY a]/\args=[WData.list (ns.map WData.int)]/\h.get? a=Ga { cls:=.type "list",data:=.seq vs.toArray }/\IntsAre vs ns/\ns.length<=n:=by
 have hsh:WShape.hasAll [] args [.list .int]=true:=(pre_splitW hpre).1;have hc:l.pre.holds [] { args:=args }=true:=(pre_splitW hpre).2;obtain⟨d,r,rfl,h1,h2⟩:=hasAllW_cons hsh;obtain rfl:=hasAllW_nil h2;obtain⟨xs,rfl,h3⟩:=hasW_list h1;obtain⟨ns,rfl⟩:=items_int h3;have hlen:ns.length<=n:=by
  unfold OpenLaw.pre at hc;have h4:(WTm.not (.lt (.lit (.int (n:Int))) (.len (.arg 0)))).holds [] { args:=[.list (ns.map .int)] }=true:=by
   have h4:=(holds_andW hc).1;rw[hn] at h4;exact h4
  have h5:=condW_of h4 (w_not (w_lt w_lit (w_len_list (w_arg rfl))));rw[jc] at h5;refine Nat.le_of_not_lt λq=>?_;have q':(n:Int)<((ns.length:Nat):Int):=by omega
  first
   | (rw[Gc q'] at h5;exact absurd h5 (by decide))
   | (simp at h5;omega)
 cases hwl with
 | cons w1 w2 =>
  cases w2;cases w1 with
  | list ho hall=>exact⟨_,_,ns,rfl,rfl,ho,zi ns _ hall,hlen⟩
theorem Ei (l:OpenLaw)(args:List WData):l.row.toRowW.claim.post args (.bool true) args=true :=
 postW_of (r:=l.row.toRowW) (X:=(true==true))
  (show WShape.has [] (.bool true) .bool=true by first|rfl|decide|simp[WShape.has,WShape.arms,WShape.armsAll])
  (show(WTm.eq .res (.lit (.bool true))).value [] { args:=args,res:=Ga (.bool true),after:=args }=Ga (.bool (true==true)) from w_eq_bool (w_res rfl) w_lit) rfl
theorem attach_call {l:OpenLaw}{n:Nat}{q:Program}{loose:List Str}{XP:(Str->Option Gg)->Heap->Prop}{YP:World->Heap->Prop}{d:DefRec}
  (hn:l.most=Ga n) (hdf:d.params.defaults=[])
  (call:∀ (w:World) (s₀ s₁:Gh) (mg mb:Str->Option Gg) (fa:Gj) (o:Obj) (pm cd doc:Gg) (a:Gj) (vs:List Gg) (ns:List Int),
   Ground q loose [] XP w s₀ mg mb s₁.heap->YP w s₁.heap ->
   s₁.heap.get? fa=Ga o->o.data=.func (docDef d.name d.params d.body d.scope pm cd doc)->s₁.heap.CodeRec cd d.name->mg d.name=Ga (.ref fa) ->
   s₁.heap.get? a=Ga { cls:=.type "list",data:=.seq vs.toArray }->IntsAre vs ns->ns.length<=n->s₁.gens=#[] ->
   codeAny (model l.prog w) callerA (.call (.ref fa) ⟨[.ref a],[]⟩) (λr s'=>r=.ok (.ret (.bool true))/\OldK s₁.heap s'.heap/\s'.os=s₁.os/\AllBare s'.gens) s₁) :
  WalkO q loose XP YP l.row.toRowW d [] (λf vs=>JF f vs):=by
 intro w s₀ s₁ mg mb G Y fa o pm cd doc dV kV ho hd hcd hD hmg hg args vals as hpre hlay hrd hwl hlo;obtain rfl:dV=.none:=Dflts.none hD hdf;obtain rfl:kV=.none:=Dflts.noKw hD;obtain⟨a,vs,ns,rfl,rfl,hobj,hints,hlen⟩:=DW hn hpre hwl;refine enter_call (codeAny_mono (call w s₀ s₁ mg mb fa o pm cd doc a vs ns G Y ho (fd_plain hd) hcd hmg hobj hints hlen hg) λr s' hq=>?_);obtain⟨rfl,h2,h3,h4⟩:=hq;exact⟨.inl ⟨.bool true,.bool true,[],rfl,λ_=>rfl,.bool true,Ei l _,λ_=>⟨List.Pairwise.nil,λ_ hm=>(nomatch hm)⟩⟩,h2,h3,h4⟩
section
variable {prog:Program}{w:World}{A:Around}{E:Gg->Gh->Prop}{s:Gh}{K:Frag}
end
end Att
namespace L2
open PySem PySem.Spec PyProof.Rows
theorem yc:∀ {vs:List Gg} {ns:List Int},IntsAre vs ns->lH (ns.map V.int) vs
 | _,_,.nil=>.nil
 | _,_,.cons n t h=>.cons ⟨t,rfl⟩ (yc h)
def DU (H:Hp):Prop:=∀ b,H b=Gb\/∃ o xs,H b=Ga (.frz o (.lst xs))
theorem FJ {P:Program}{w:World}{K:ja}{mg mb:Str->Option Gg}{CX:we}{k:Nat}{fa a:Gj}{fd:Gi}{x:Str}{sp:Sp}{s₁:Gh}{vs:List Gg}{ns:List Int}
  (KX:K.In s₁.heap) (hns:s₁.heap.Ns mainGlobals mg) (hb:s₁.heap.Ns builtinsNs mb) (hbb:∀ x:Str,x≠"__name__"->mb x=bootBuiltins x) (hlim:s₁.heap.NoLimit) (hg:s₁.gens=#[])
  (ha:s₁.heap.get? a=Ga { cls:=.type "list",data:=.seq vs.toArray }) (hi:IntsAre vs ns) (hl:ns.length<=sizeLine) (hr:nv k callerA)
  (F:∀ base:Heap,K.In base->base.Ns mainGlobals mg->lz P w K mg base CX k fa fd [x] sp) (hbind:∀ (s:Gh) (u:Gg),BindsTo s fd ⟨[u],[]⟩ [(x,u)])
  (hsp:∀ H:Hp,DU H->nr K H a (ns.map V.int)->sp [.ref a] H (λv _=>v=.bl true) λ_ _ _=>False)
  (hCX:∀ H e s',CX [] H s₁ (λ_ _ _=>False) e s'->False) :
  codeAny (model P w) callerA (.call (.ref fa) ⟨[.ref a],[]⟩) (λr s'=>r=.ok (.ret (.bool true))/\OldK s₁.heap s'.heap/\s'.os=s₁.os/\AllBare s'.gens) s₁:=by
 have rv:=yc hi;have lenV:=hi.length;have core:∀ H:Hp,DU H->nr K H a (ns.map V.int)->HOk P w H s₁.heap->(∀ b,H b≠Gb->b=a)->(H a≠Gb->K.lookup a=Gb) ->
   codeAny (model P w) callerA (.call (.ref fa) ⟨[.ref a],[]⟩) (λr s'=>r=.ok (.ret (.bool true))/\OldK s₁.heap s'.heap/\s'.os=s₁.os/\AllBare s'.gens) s₁:=by
  intro H hO hS hok hA hK;have base_of:∀ {b:Gj} {o:Obj},s₁.heap.get? b=Ga o->H b=Gb->(rX s₁.heap H).get? b=Ga o:=λe n=>BG e n;have noA:∀ {b:Gj} {o:Obj} {es:Array DictEntry} {ep:Nat},s₁.heap.get? b=Ga o->o.data=.dict es ep->H b=Gb:=λ{b o es ep} e d=>by
   cases q:H b with
   | none=>rfl
   | some u =>
    have e':b=a:=hA b (by rw[q];simp);subst e';rw[ha] at e;cases e;have d':Data.seq vs.toArray _=Data.dict es ep:=d;cases d'
  have nsK:∀ {b:Gj} {m:Str->Option Gg},s₁.heap.Ns b m->(rX s₁.heap H).Ns b m:=λ{b m} ⟨o,es,ep,e,d,r⟩=>⟨o,es,ep,base_of e (noA e d),d,r⟩;have hKb:K.In (rX s₁.heap H):=λb o e=>base_of (KX b o e) (by
   cases q:H b with
   | none=>rfl
   | some u =>
    have e':b=a:=hA b (by rw[q];simp);subst e';rw[hK (by rw[q];simp)] at e;cases e)
  have hM:Mod K mg (rX s₁.heap H):=⟨hKb,nsK hns,⟨mb,nsK hb,hbb⟩,let ⟨mc,h1,h2⟩:=hlim;⟨mc,nsK h1,h2⟩⟩;have e0:wC P w K mg (rX s₁.heap H) callerA [] s₁ H:=⟨rfl,hM,λb o e=>CU e,JO (AA _ _),trivial,λb hb=>absurd (show b∈([]:List Gj) from hb) (by simp),hok,.of_eq hg⟩;refine codeAny_mono ((F _ hKb (nsK hns)).run callerA [] s₁ H ⟨[.ref a],[]⟩ [.ref a] [.ref a] _ _ hr e0 (hbind s₁ (.ref a)) (.cons rfl .nil) (hsp H hO hS)) λr s' h=>?_;cases r with
  | error e=>exact(hCX H e s' h).elim
  | ok fl =>
   cases fl with
   | next=>exact False.elim h
   | brk=>exact False.elim h
   | cont=>exact False.elim h
   | ret u =>
    obtain⟨v,H',os,bare,un,hok',r',q⟩:=h;have q':v=.bl true:=q;subst q';obtain rfl:u=JB true:=r';refine⟨rfl,OldK.of_keep λb o e=>?_,os,bare⟩;cases q:H b with
    | none=>exact un.keep b o e q (by intro z;exact absurd (show b∈([]:List Gj) from z) (by simp)) (by simp)
    | some u =>
     rcases hO b with z|⟨ob,xs,z⟩
     .rw[q] at z;cases z
     .have z2:=un.frzs b ob _ z;obtain⟨e1,_⟩:=hok b _ z;obtain⟨e2,_⟩:=hok' b _ z2;rw[e] at e1;cases e1;exact e2
 cases hk:K.lookup a with
 | some o =>
  have e:=KX a o hk;rw[ha] at e;cases e;refine core (λ_=>Gb) (λ_=>.inl rfl) (.inr ⟨_,vs.toArray,_,hk,rfl,rfl,rfl,by rw[jm,lenV];exact hl,by simpa using rv⟩) (λb u z=>by have z':(Gb:Option HO)=Ga u:=z;cases z') (λb z=>absurd rfl z) λz=>absurd rfl z
 | none =>
  refine core (λb=>if b=a then Ga (.frz { cls:=.type "list",data:=.seq vs.toArray } (.lst (ns.map V.int))) else Gb) (λb=>?_) (.inl (.inr ⟨{ cls:=.type "list",data:=.seq vs.toArray },Ge rfl⟩)) (λb u z=>?_) (λb z=>?_) λ_=>hk
  .by_cases hb:b=a
   .exact .inr ⟨_,_,Ge hb⟩
   .exact .inl (Gf hb)
  .by_cases hb:b=a
   .have z':=(Ge hb).symm.trans z;cases z';subst hb;exact⟨ha,by rw[jc];exact hl,vs,_,rv,ha⟩
   .have z':=(Gf hb).symm.trans z;cases z'
  .by_cases hb:b=a
   .exact hb
   .exact absurd (Gf hb) z
theorem IK {l:Jc}{n k:Nat}{q:Program}{loose:List Str}{XP:(Str->Option Gg)->Heap->Prop}{YP:World->Heap->Prop}{d:DefRec}{K:Params->ja}{CX:World->we}{sp:World->Sp}{x:Str}
  (hn:l.most=Ga n) (hn2:n<=sizeLine) (hdf:d.params.defaults=[]) (hr:nv k callerA)
  (hY:∀ (w:World) (h:Heap),YP w h->(K w.params).In h)
  (F:∀ (w:World) (mg:Str->Option Gg) (fa:Gj) (h:Heap),(K w.params).In h->h.Ns mainGlobals mg->mg d.name=Ga (.ref fa) ->
   ∃ fd:Gi,(∀ (s:Gh) (u:Gg),BindsTo s fd ⟨[u],[]⟩ [(x,u)]) /\
    ∀ base:Heap,(K w.params).In base->base.Ns mainGlobals mg->lz l.prog w (K w.params) mg base (CX w) k fa fd [x] (sp w))
  (hsp:∀ (w:World) (H:Hp) (a:Gj) (ns:List Int),ns.length<=n->DU H->nr (K w.params) H a (ns.map V.int)->sp w [.ref a] H (λv _=>v=.bl true) λ_ _ _=>False)
  (hCX:∀ (w:World) (H:Hp) (s:Gh) (e:Gg) (s':Gh),CX w [] H s (λ_ _ _=>False) e s'->False) :
  Jy q loose XP YP l.row.toRowW d [] (λf vs=>JF f vs):=by
 refine Att.attach_call hn hdf λw s₀ s₁ mg mb fa o pm cd doc a vs ns G Y ho hd hcd hmg hobj hints hlen hg=>?_;have KX:=hY w _ Y;obtain⟨fd,hb,hF⟩:=F w mg fa _ KX G.T.g hmg;exact FJ KX G.T.g G.T.b G.T.builtins G.T.nolimit hg hobj hints (jk hlen hn2) hr hF hb (λH hO hS=>hsp w H a ns hlen hO hS) λH e s'=>hCX w H s₁ e s'
theorem VY {l:Jc}{n k:Nat}{q:Program}{loose:List Str}{XP:(Str->Option Gg)->Heap->Prop}{YP:World->Heap->Prop}{d:DefRec}{K:Params->ja}{CX:we}{sp:ja->Sp}{x:Str}
  (hn:l.most=Ga n) (hn2:n<=sizeLine) (hdf:d.params.defaults=[]) (hr:nv k callerA)
  (hY:∀ (w:World) (h:Heap),YP w h->(K w.params).In h)
  (F:∀ (w:World) (mg:Str->Option Gg) (fa:Gj) (h:Heap),(K w.params).In h->h.Ns mainGlobals mg->mg d.name=Ga (.ref fa) ->
   ∃ fd:Gi,(∀ (s:Gh) (u:Gg),BindsTo s fd ⟨[u],[]⟩ [(x,u)]) /\
    ∀ base:Heap,(K w.params).In base->base.Ns mainGlobals mg->lz l.prog w (K w.params) mg base CX k fa fd [x] (sp (K w.params)))
  (hsp:∀ (K:ja) (H:Hp) (a:Gj) (ns:List Int),ns.length<=n->DU H->nr K H a (ns.map V.int)->sp K [.ref a] H (λv _=>v=.bl true) λ_ _ _=>False)
  (hCX:∀ (H:Hp) (s:Gh) (e:Gg) (s':Gh),CX [] H s (λ_ _ _=>False) e s'->False) :
  Jy q loose XP YP l.row.toRowW d [] (λf vs=>JF f vs) :=
 IK (K:=K) (CX:=λ_=>CX) (sp:=λw=>sp (K w.params)) hn hn2 hdf hr hY F (λw H a ns h1 h2 h3=>hsp (K w.params) H a ns h1 h2 h3) λ_ H s e s'=>hCX H s e s'
def pA (s:Stmt):Arguments:=match s with
 | .FunctionDef _ a _ _ _ _ _ _ _ _=>a
 | _=>{ posonlyargs:=[],args:=[],vararg:=Gb,kwonlyargs:=[],kw_defaults:=[],kwarg:=Gb,defaults:=[] }
def nQ (s:Stmt):List Stmt:=match s with
 | .FunctionDef _ _ b _ _ _ _ _ _ _=>b
 | _=>[]
def iT (s:Stmt):Scope:=match s with
 | .FunctionDef _ _ _ _ _ _ sc _ _ _=>sc
 | _=>{ kind:=.function,names:=[],isGenerator:=false,isCoroutine:=false }
abbrev lK:we:=λ_ _ _ _ _ _=>False
abbrev E0:XK:=λ_ _ _=>False
theorem DK {X:Cx}:BH lK X E0:=λ_ _ _ _ _ _ _ h=>h.elim
structure wI (K:ja)(x qual:Str)(st:Stmt)(f:Gj)(fd:Gi):Prop where
 ex:∃ (oc:Gg) (od:Option Gj) (kV doc pm:Gg) (an:Option Gj) (cdv ct:Gg) (osl:Array (Option Gg)),
  fd=k7 x qual (pA st) (nQ st) (iT st) .none kV doc pm an cdv ct/\K.lookup f=Ga ⟨oc,od,.func fd,osl⟩/\vQ K cdv qual=true
 kp:ur K (.ref f)=true
section
variable {P:Program}{w:World}{K:ja}{mg:Str->Option Gg}{base:Heap}
theorem wI.ok {x qual:Str}{st:Stmt}{f:Gj}{fd:Gi}{N ps:List Str}{k:Nat}{sp:Sp}(F:wI K x qual st f fd)(S:lg N ps (iT st))(len:∀ vs H Q E,sp vs H Q E->vs.length=ps.length)
  (hbody:∀ (cdv:Gg) (A:Around) (outer:List Env) (s:Gh) (H:Hp) (vs:List V) (Q:VK) (E:XK),nv k (A.deeper (envOfC qual (iT st) s.heap.objs.size f cdv))->sp vs H Q E ->
   ∃ t,tz (sL lK P w K mg base N qual (iT st) f cdv A outer s H E).nox (nQ st) t/\t { nx:=λ_ H'=>Q .non H',rt:=Q } (start N vs) H):lz P w K mg base lK (k+1) f fd ps sp:=by
 obtain⟨oc,od,kV,doc,pm,an,cdv,ct,osl,rfl,lk,hcd⟩:=F.ex;refine Hr lk hcd S len λA outer s H vs Q E hr hsp=>?_;obtain⟨t,h,q⟩:=hbody cdv A outer s H vs Q E hr hsp;exact⟨t,h.nox,q⟩
theorem wI.binds {x qual:Str}{st:Stmt}{f:Gj}{fd:Gi}{ps:List Str}(F:wI K x qual st f fd)
  (h:∀ (kV doc pm:Gg) (an:Option Gj) (cdv ct:Gg) (us:List Gg),us.length=ps.length->bindArgs (k7 x qual (pA st) (nQ st) (iT st) .none kV doc pm an cdv ct) ⟨us,[]⟩=pure (ps.zip us)):sO K fd ps []:=by
 obtain⟨oc,od,kV,doc,pm,an,cdv,ct,osl,rfl,lk,hcd⟩:=F.ex;exact .all (h kV doc pm an cdv ct)
theorem PQ {x qual:Str}{st:Stmt}{f:Gj}{oc:Gg}{od an:Option Gj}{osl:Array (Option Gg)}{kV doc pm cdv ct:Gg}(l:K.lookup f=Ga ⟨oc,od,.func (k7 x qual (pA st) (nQ st) (iT st) .none kV doc pm an cdv ct),osl⟩)
  (c:vQ K cdv qual=true) (k:ur K (.ref f)=true):wI K x qual st f (k7 x qual (pA st) (nQ st) (iT st) .none kV doc pm an cdv ct):=⟨⟨oc,od,kV,doc,pm,an,cdv,ct,osl,rfl,l,c⟩,k⟩
end
theorem Ah {n:Nat}(h:n<=1000):n<sizeLine:=Nat.lt_of_le_of_lt h (by decide)
section
variable {X:Cx}
end
theorem wz {A B:Prop}(h:B):if false=true then A else B:=by
 rw[Gf jw];exact h
theorem wx {A B:Prop}(h:A):if true=true then A else B:=by
 rw[Ge rfl];exact h
def iP (H H':Hp):Prop:=∀ b o,H b=Ga o->H' b=Ga o
theorem iP.refl (H:Hp):iP H H:=λ_ _ h=>h
theorem iP.trans {H H1 H2:Hp}(a:iP H H1)(b:iP H1 H2):iP H H2:=λc o h=>b c o (a c o h)
theorem iP.free {H H':Hp}(e:iP H H'){l:Gj}(h:H' l=Jo):H l=Jo:=by
 cases q:H l with
 | none=>rfl
 | some o =>
  rw[e l o q] at h;cases h
theorem iP.seq {K:ja}{H H':Hp}{a:Gj}{xs:List V}(e:iP H H')(h:nr K H a xs):nr K H' a xs:=by
 rcases h with (h|⟨o,h⟩)|h
 .exact .inl (.inl (e _ _ h))
 .exact .inl (.inr ⟨o,e _ _ h⟩)
 .exact .inr h
section
variable {κ:Type}[DecidableEq κ]
def rR (kvs:List (κ×V))(k:κ):Option V:=(kvs.find? λkv=>decide (kv.1=k)).map (·.2)
def tj (kvs:List (κ×V))(k:κ)(v:V):List (κ×V) :=
 if (kvs.any λkv=>decide (kv.1=k))=true then kvs.map (λkv=>if kv.1=k then(kv.1,v) else kv) else kvs++[(k,v)]
def Gp (kvs:List (κ×V))(k:κ):List (κ×V):=kvs.filter λkv=>decide (kv.1≠k)
theorem yQ {p:κ×V}{r:List (κ×V)}{k:κ}(e:p.1=k):rR (p::r) k=Ga p.2:=by simp[rR,ve,e]
theorem yY {p:κ×V}{r:List (κ×V)}{k:κ}(e:¬p.1=k):rR (p::r) k=rR r k:=by simp[rR,ve,e]
theorem BK (k:κ):∀ kvs:List (κ×V),(kvs.any λkv=>decide (kv.1=k))=(rR kvs k).isSome
 | []=>rfl
 | p::r=>by
  rw[v4];by_cases e:p.1=k
  .simp only[yQ e,Gc e,k9,Option.isSome_some]
  .rw[yY e,Gd e,vg];exact BK k r
theorem tH.isSome_eq {o:Option V}{u:Option Gg}(r:tH o u):o.isSome=u.isSome:=by
 cases o with
 | none=>cases u with
  | none=>rfl
  | some _=>exact(show False from r).elim
 | some _=>cases u with
  | none=>exact(show False from r).elim
  | some _=>rfl
theorem tH.getD {o:Option V}{u:Option Gg}{d:V}{d':Gg}(r:tH o u)(rd:lO d d'):lO (o.getD d) (u.getD d'):=by
 cases o with
 | none=>cases u with
  | none=>exact rd
  | some _=>exact(show False from r).elim
 | some _=>cases u with
  | none=>exact(show False from r).elim
  | some _=>exact r
theorem KV.val {kvs:List (κ×V)}{vs:List (κ×Gg)}(r:KV kvs vs)(k:κ):tH (rR kvs k) (valueAt vs k):=by
 unfold KV at r;induction r with
 | nil=>exact True.intro
 | @cons p q ps qs h t ih =>
  obtain⟨h1,h2⟩:=h;by_cases e:p.1=k
  .have e':q.1=k:=h1.symm.trans e;have b:valueAt (q::qs) k=Ga q.2:=by simp[valueAt,ve,e']
   rw[yQ e,b];exact h2
  .have e':¬q.1=k:=λz=>e (h1.trans z);have b:valueAt (q::qs) k=valueAt qs k:=by simp[valueAt,ve,e']
   rw[yY e,b];exact ih
theorem KV.any {kvs:List (κ×V)}{vs:List (κ×Gg)}(r:KV kvs vs)(k:κ):(kvs.any λkv=>decide (kv.1=k))=vs.any λkv=>decide (kv.1=k):=by
 unfold KV at r;induction r with
 | nil=>rfl
 | cons h t ih=>rw[v4,v4,ih,h.1]
theorem KV.repl {kvs:List (κ×V)}{vs:List (κ×Gg)}(r:KV kvs vs)(k:κ){y:V}{u:Gg}(ry:lO y u) :
  KV (kvs.map λkv=>if kv.1=k then(kv.1,y) else kv) (vs.map λkv=>if kv.1=k then(kv.1,u) else kv):=by
 unfold KV at r ⊢;induction r with
 | nil=>exact .nil
 | @cons p q ps qs h t ih =>
  rw[jK,jK];refine .cons ?_ ih;obtain⟨h1,h2⟩:=h;by_cases e:p.1=k
  .rw[Ge e,Ge (h1.symm.trans e)];exact⟨h1,ry⟩
  .rw[Gf e,Gf (λz=>e (h1.trans z))];exact⟨h1,h2⟩
theorem KV.put {kvs:List (κ×V)}{vs:List (κ×Gg)}(r:KV kvs vs)(k:κ){y:V}{u:Gg}(ry:lO y u):KV (tj kvs k y) (stored vs k u):=by
 unfold tj stored;rw[r.any k];by_cases e:(vs.any λkv=>decide (kv.1=k))=true
 .rw[Ge e,Ge e];exact r.repl k ry
 .rw[Gf e,Gf e];exact Paired.snoc r ⟨rfl,ry⟩
theorem KV.drop {kvs:List (κ×V)}{vs:List (κ×Gg)}(r:KV kvs vs)(k:κ):KV (Gp kvs k) (without vs k):=by
 unfold KV at r ⊢;unfold Gp without;induction r with
 | nil=>exact .nil
 | @cons p q ps qs h t ih =>
  obtain⟨h1,h2⟩:=h;rw[J2,J2];by_cases e:p.1=k
  .have a:¬decide (p.1≠k)=true:=by simp[e]
   have b:¬decide (q.1≠k)=true:=by simp[h1.symm.trans e]
   rw[Gf a,Gf b];exact ih
  .have e':¬q.1=k:=λz=>e (h1.trans z);have a:decide (p.1≠k)=true:=by simp[e]
   have b:decide (q.1≠k)=true:=by simp[e']
   rw[Ge a,Ge b];exact .cons ⟨h1,h2⟩ ih
theorem KV.length {kvs:List (κ×V)}{vs:List (κ×Gg)}(r:KV kvs vs):kvs.length=vs.length:=Paired.length r
end
abbrev KT (H:Hp):List (List oe×V)->List (List oe×Gj×Gg)->Prop:=Paired λp q=>p.1=q.1/\H q.2.1=Ga (.tup (p.1.map kV))/\lO p.2 q.2.2
theorem KT.val {H:Hp}{kvs:List (List oe×V)}{xs:List (List oe×Gj×Gg)}(r:KT H kvs xs)(k:List oe):tH (rR kvs k) ((atKey xs k).map (·.2)):=by
 induction r with
 | nil=>exact True.intro
 | @cons p q ps qs h t ih =>
  obtain⟨h1,_,h2⟩:=h;by_cases e:p.1=k
  .have e':q.1=k:=h1.symm.trans e;have b:atKey (q::qs) k=Ga q.2:=by simp[atKey,ve,e']
   rw[yQ e,b];exact h2
  .have e':¬q.1=k:=λz=>e (h1.trans z);have b:atKey (q::qs) k=atKey qs k:=by simp[atKey,ve,e']
   rw[yY e,b];exact ih
theorem KT.repl {H:Hp}{kvs:List (List oe×V)}{xs:List (List oe×Gj×Gg)}(r:KT H kvs xs)(k:List oe){y:V}{u:Gg}(ry:lO y u) :
  KT H (kvs.map λkv=>if kv.1=k then(kv.1,y) else kv) (xs.map (putAt k u)):=by
 induction r with
 | nil=>exact .nil
 | @cons p q ps qs h t ih =>
  rw[jK,jK];refine .cons ?_ ih;obtain⟨h1,h2,h3⟩:=h;unfold putAt;by_cases e:p.1=k
  .rw[Ge e,Ge (h1.symm.trans e)];exact⟨h1,h2,ry⟩
  .rw[Gf e,Gf (λz=>e (h1.trans z))];exact⟨h1,h2,h3⟩
theorem KT.put {H:Hp}{kvs:List (List oe×V)}{xs:List (List oe×Gj×Gg)}(r:KT H kvs xs)(k:List oe){b:Gj}{y:V}{u:Gg}(hb:H b=Ga (.tup (k.map kV)))(ry:lO y u) :
  KT H (tj kvs k y) (storedH xs k b u):=by
 have e:(kvs.any λkv=>decide (kv.1=k))=(atKey xs k).isSome:=by
  rw[BK,(r.val k).isSome_eq,JQ]
 unfold tj storedH;rw[e];by_cases q:(atKey xs k).isSome=true
 .rw[Ge q,Ge q];exact r.repl k ry
 .rw[Gf q,Gf q];exact Paired.snoc r ⟨rfl,hb,ry⟩
theorem KT.keeps {H H':Hp}{kvs:List (List oe×V)}{xs:List (List oe×Gj×Gg)}(r:KT H kvs xs)(ht:∀ b ys,H b=Ga (.tup ys)->H' b=Ga (.tup ys)):KT H' kvs xs :=
 Paired.mapP r λ_ _ z=>⟨z.1,ht _ _ z.2.1,z.2.2⟩
section
variable {P:Program}{w:World}{H:Hp}{h:Heap}{a:Gj}
end
def Du (H:Hp)(a:Gj)(y:V)(r:Option V):Prop :=
 (∃ kvs k,Rd H a (.dK kvs)/\y=kV k/\r=rR kvs k)\/∃ kvs k b,Rd H a (.dT kvs)/\y=.ref b/\H b=Ga (.tup (k.map kV))/\r=rR kvs k
def DF (H:Hp)(a:Gj)(y v:V)(H':Hp):Prop :=
 (∃ kvs k,H a=Ga (.dK kvs)/\y=kV k/\kvs.length<sizeLine/\H'=upd H a (.dK (tj kvs k v))) \/
 ∃ kvs k b,H a=Ga (.dT kvs)/\y=.ref b/\H b=Ga (.tup (k.map kV))/\kvs.length<sizeLine/\H'=upd H a (.dT (tj kvs k v))
theorem Du.k {H:Hp}{a:Gj}{kvs:List (oe×V)}{k:oe}(e:H a=Ga (.dK kvs)):Du H a (kV k) (rR kvs k):=.inl ⟨kvs,k,.inl e,rfl,rfl⟩
theorem Du.t {H:Hp}{a b:Gj}{kvs:List (List oe×V)}{k:List oe}(e:H a=Ga (.dT kvs))(eb:H b=Ga (.tup (k.map kV))):Du H a (.ref b) (rR kvs k):=.inr ⟨kvs,k,b,.inl e,rfl,eb,rfl⟩
theorem DF.k {H:Hp}{a:Gj}{kvs:List (oe×V)}{k:oe}{v:V}(e:H a=Ga (.dK kvs))(hl:kvs.length<sizeLine):DF H a (kV k) v (upd H a (.dK (tj kvs k v))):=.inl ⟨kvs,k,e,rfl,hl,rfl⟩
theorem DF.t {H:Hp}{a b:Gj}{kvs:List (List oe×V)}{k:List oe}{v:V}(e:H a=Ga (.dT kvs))(eb:H b=Ga (.tup (k.map kV)))(hl:kvs.length<sizeLine) :
  DF H a (.ref b) v (upd H a (.dT (tj kvs k v))):=.inr ⟨kvs,k,b,e,rfl,eb,hl,rfl⟩
section
variable {X:Cx}{ω:List (Gj×Obj)}{σ:St}{H:Hp}{s:Gh}{a:Gj}{y v:V}{u r:Gg}{o:Option V}{A:Around}{E:Gg->Gh->Prop}
theorem iZ.big (I:iZ X ω σ H s):sysModules<s.heap.objs.size:=by
 have h:mainGlobals<s.heap.objs.size:=(I.mod.glob.keeps I.bk).lt;exact Nat.lt_trans (by decide) h
theorem IA {h':Heap}{t':Nat}{ob:HO}(I:iZ X ω σ H s)(mu:Eo (H a))(hs:qN a s.heap h')(he:∃ q,h'.get? a=Ga q)(new:oQ X.prog X.w (upd H a ob) h' a ob) :
  iZ X ω σ (upd H a ob) { s with heap:=h',toks:=t' } :=
 I.write (x:=a) (e:=a) mu (.inl rfl) (λb q hb z=>(hs.2 b hb).trans z) he new
end
section
variable {X:Cx}{ω:List (Gj×Obj)}{σ:St}{H:Hp}{s:Gh}{a:Gj}{kvs:List (oe×V)}{k:oe}{u:Gg}{A:Around}{E:Gg->Gh->Prop}
end
def OT (i:Expr):Prop:=∀ ov iv,subscripted i false ov iv=operate [ov,iv] (getItem ov iv)
theorem Iw {prog:Program}{w:World}{A:Around}{E:Gg->Gh->Prop}{s:Gh}{ψ:Env}{value slice:Expr}{pos:Pos}{T id:String}{Q:Gg->Gh->Prop}
  (hl:typeLookup (.type T) "__getitem__"=pure (Ga (.builtin id))) (hs:OT slice)
  (h:wpAny (model prog w) A (eval value ψ) (λo s₁=>wpAny (model prog w) A (eval slice ψ) (λi s₂=>s₂.TypeIs o T/\wpAny (model prog w) A (getItem o i) Q E s₂) E s₁) E s) :
  wpAny (model prog w) A (eval (.Subscript value slice pos) ψ) Q E s:=by
 refine Subscript_ (wpAny_mono h (λo s₁ h₁=>wpAny_mono h₁ (λi s₂ h₂=>?_) λ_ _ x=>x) λ_ _ x=>x);obtain⟨hT,h₂⟩:=h₂;unfold subscriptTail;refine iK ?_;rw[getitemInPython_of_ne hT.not_modules];refine iK (wpAny_specialOf hT hl ?_);have fin:wpAny (model prog w) A (subscripted slice false o i) (λr s₃=>wpAny (model prog w) A (letTemporaryGo value o r >>= λ_=>pure r) Q E s₃) E s₂:=by
  rw[hs o i];exact wpAny_operating (wpAny_mono h₂ (λr s₃ h₃=>iK (wpAny_letTemporaryGo (iL h₃))) λ_ _ x=>x)
 first
  | exact iL (iK fin)
  | exact iK (iL (iK fin))
  | exact iK fin
section
variable {X:Cx}{o i e value:Expr}{pos pos' tpos:Pos}{td ty tv:TE}
end
section
variable {X:Cx}{pos:Pos}
end
structure M1 (X:Cx)(o:Expr)(m:Str)(apos:Pos)(e:Expr)(cpos:Pos):Prop where
 base:attributeBase o m X.env (eval o X.env)=eval o X.env
 few:((backTo cpos (starEach [e] X.env)).all (λx=>!x.1)&&(backToKw cpos (keywordEach [] X.env)).all (λx=>x.1.isSome)
  && decide (([e]:List Expr).length+([]:List Keyword).length+(if ([]:List Keyword).isEmpty then 0 else 1)<30))=true
 line:(apos.endLine==cpos.line)=true
 trees:backTo cpos (starEach [e] X.env)=[(false,eval e X.env)]
structure M2 (X:Cx)(o:Expr)(m:Str)(apos:Pos)(e f:Expr)(cpos:Pos):Prop where
 base:attributeBase o m X.env (eval o X.env)=eval o X.env
 few:((backTo cpos (starEach [e,f] X.env)).all (λx=>!x.1)&&(backToKw cpos (keywordEach [] X.env)).all (λx=>x.1.isSome)
  && decide (([e,f]:List Expr).length+([]:List Keyword).length+(if ([]:List Keyword).isEmpty then 0 else 1)<30))=true
 line:(apos.endLine==cpos.line)=true
 trees:backTo cpos (starEach [e,f] X.env)=[(false,eval e X.env),(false,eval f X.env)]
section
variable {X:Cx}{ω:List (Gj×Obj)}{σ:St}{H:Hp}{s:Gh}{a:Gj}{y d:V}{u r:Gg}{o:Option V}{A:Around}{E:Gg->Gh->Prop}
end
section
variable {X:Cx}{o e f:Expr}{apos cpos:Pos}{td ty tx:TE}
end
section
variable {X:Cx}{ω:List (Gj×Obj)}{σ:St}{H:Hp}{s:Gh}{a:Gj}{kvs:List (oe×V)}{A:Around}{E:Gg->Gh->Prop}
end
section
variable {X:Cx}{ω:List (Gj×Obj)}{σ:St}{H:Hp}{s:Gh}{a:Gj}{y:V}{u:Gg}{A:Around}{E:Gg->Gh->Prop}
end
section
variable {κ:Type}[DecidableEq κ]
end
end L2
set_option autoImplicit false
namespace T3
open PySem PySem.Spec
noncomputable instance decD:DecidableEq PyData:=λa b=>vK (a=b)
mutual
def nq:PyData->Nat->Bool
 | .none,_=>true
 | .int _,_=>true
 | .tuple _,0=>false
 | .tuple xs,n+1=>sj xs n
 | .bool _,_=>false
 | .str _,_=>false
 | .list _,_=>false
 | .dict _,_=>false
def sj:List PyData->Nat->Bool
 | [],_=>true
 | x::xs,n=>nq x n&&sj xs n
end
mutual
def Dh:PyData->Int
 | .int i=>hashInt i
 | .tuple xs=>reduceHash (Builtin.Tuple.tupleHashOf (Cn xs))
 | _=>0xFCA86420
def Cn:List PyData->List Int
 | []=>[]
 | x::xs=>Dh x::Cn xs
end
mutual
theorem Gk:∀ (d:PyData) (n:Nat),nq d n=true->d.canLay0=true/\d.depth<=n
 | .none,_,_=>⟨rfl,j5 _⟩
 | .int _,_,_=>⟨rfl,j5 _⟩
 | .tuple xs,0,h=>by simp[nq] at h
 | .tuple xs,n+1,h=>by
  rw[nq] at h;have:=SV xs n h;exact⟨this.1,Nat.succ_le_succ this.2⟩
 | .bool _,_,h=>by simp[nq] at h
 | .str _,_,h=>by simp[nq] at h
 | .list _,_,h=>by simp[nq] at h
 | .dict _,_,h=>by simp[nq] at h
theorem SV:∀ (xs:List PyData) (n:Nat),sj xs n=true->kL xs=true/\ue xs<=n
 | [],_,_=>⟨rfl,j5 _⟩
 | x::xs,n,h=>by
  rw[sj,jG] at h;have a:=Gk x n h.1;have b:=SV xs n h.2;refine⟨?_,?_⟩
  .rw[kL,a.1,b.1];rfl
  .rw[ue];omega
end
mutual
theorem Sj:∀ (a b:PyData) (n m:Nat),nq a n=true->nq b m=true->kN a b=true->a=b
 | .none,.none,_,_,_,_,_=>rfl
 | .none,.int _,_,_,_,_,h=>by simp[kN] at h
 | .none,.tuple _,_,_,_,_,h=>by simp[kN] at h
 | .int _,.none,_,_,_,_,h=>by simp[kN] at h
 | .int i,.int j,_,_,_,_,h=>by simp only[kN] at h;rw[beq_iff_eq] at h;rw[h]
 | .int _,.tuple _,_,_,_,_,h=>by simp[kN] at h
 | .tuple _,.none,_,_,_,_,h=>by simp[kN] at h
 | .tuple _,.int _,_,_,_,_,h=>by simp[kN] at h
 | .tuple xs,.tuple ys,0,_,p,_,_=>by simp[nq] at p
 | .tuple xs,.tuple ys,_+1,0,_,q,_=>by simp[nq] at q
 | .tuple xs,.tuple ys,n+1,m+1,p,q,h=>by rw[kN] at h;rw[nq] at p q;rw[Ux xs ys n m p q h]
 | .bool _,_,_,_,p,_,_=>by simp[nq] at p
 | .str _,_,_,_,p,_,_=>by simp[nq] at p
 | .list _,_,_,_,p,_,_=>by simp[nq] at p
 | .dict _,_,_,_,p,_,_=>by simp[nq] at p
 | .none,.bool _,_,_,_,q,_=>by simp[nq] at q
 | .none,.str _,_,_,_,q,_=>by simp[nq] at q
 | .none,.list _,_,_,_,q,_=>by simp[nq] at q
 | .none,.dict _,_,_,_,q,_=>by simp[nq] at q
 | .int _,.bool _,_,_,_,q,_=>by simp[nq] at q
 | .int _,.str _,_,_,_,q,_=>by simp[nq] at q
 | .int _,.list _,_,_,_,q,_=>by simp[nq] at q
 | .int _,.dict _,_,_,_,q,_=>by simp[nq] at q
 | .tuple _,.bool _,_,_,_,q,_=>by simp[nq] at q
 | .tuple _,.str _,_,_,_,q,_=>by simp[nq] at q
 | .tuple _,.list _,_,_,_,q,_=>by simp[nq] at q
 | .tuple _,.dict _,_,_,_,q,_=>by simp[nq] at q
theorem Ux:∀ (xs ys:List PyData) (n m:Nat),sj xs n=true->sj ys m=true->qD xs ys=true->xs=ys
 | [],[],_,_,_,_,_=>rfl
 | [],_::_,_,_,_,_,h=>by simp[qD] at h
 | _::_,[],_,_,_,_,h=>by simp[qD] at h
 | x::xs,y::ys,n,m,p,q,h=>by
  rw[qD,jG] at h;rw[sj,jG] at p q;rw[Sj x y n m p.1 q.1 h.1,Ux xs ys n m p.2 q.2 h.2]
end
section
variable {prog:Program}{w:World}
end
section
variable {prog:Program}{w:World}{A:Around}{E:Gg->Gh->Prop}{s:Gh}
def sg (h:Heap)(d:Gj)(es:Array DictEntry)(ep:Nat):Prop:=∃ o,h.get? d=Ga o/\o.ExactDict/\o.data=.dict es ep
theorem sg.ty {d:Gj}{es:Array DictEntry}{ep:Nat}(x:sg s.heap d es ep):s.TypeIs (.ref d) "dict":=let ⟨o,ho,hc,_⟩:=x;⟨o,ho,hc.1⟩
theorem sg.kept {h h':Heap}{d:Gj}{es:Array DictEntry}{ep:Nat}(x:sg h d es ep)(k:∀ o,h.get? d=Ga o->h'.get? d=Ga o):sg h' d es ep:=let ⟨o,ho,r⟩:=x;⟨o,k _ ho,r⟩
theorem Xp {d:Gj}{es:Array DictEntry}{ep:Nat}{Q:Gg->Gh->Prop}(hd:(d==sysModules)=false)(hm:sg s.heap d es ep)
  (hQ:Q (.ref s.heap.objs.size) { s with heap:=s.heap.push { cls:=.type "dict_keyiterator",data:=.fields #[.ref d,.int 0 0,.int es.size 0,.int ep 0] } }):wpAny (model prog w) A (pyIter (.ref d)) Q E s:=by
 have hT:=hm.ty;obtain⟨o,ho,hc,hdat⟩:=hm;refine wpAny_pyIter_slot hT F.slot_dict_iter (wpAny_call_entry F.slot_dict_iter hT F.entry_dict_iter ?_ (F.args_dict_iter_1 _));unfold Builtin.«dict.__iter__» Builtin.Dict.dictSlotNone;refine iK (iK (wpAny_notOrdered_dict hT ?_));show wpAny _ _ (pure (kY d)) _ _ s;refine iL ?_;show wpAny _ _ (Jh d >>= _) _ _ s;unfold Jh;rw[Gf (by rw[hd];exact jw)];refine iK (iL (iK (wpAny_dictEntries ho hdat (iK (wpAny_dictEpoch ho hdat ?_)))));exact iK (wpAny_newObj_type (iL ⟨_,rfl,"dict_keyiterator",_,⟨_,jB _ rfl,rfl⟩,F.slot_dict_keyiterator_next.lookup,hQ⟩))
theorem zy9 {it d:Gj}{i ep:Nat}{es:Array DictEntry}{e:DictEntry}{Q:Option Gg->Gh->Prop}(hit:s.heap.IsKeyIter it d i es.size ep)(hm:sg s.heap d es ep)(hx:es[i]?=Ga e)
  (hQ:∀ h',h'.IsKeyIter it d (i+1) es.size ep->qN it s.heap h'->Q (Ga e.key) { s with heap:=h' }):wpAny (model prog w) A (pyNext (.ref it)) Q E s:=by
 obtain⟨o,ho,hc,hd⟩:=id hit;obtain⟨od,hod,hcd,hdd⟩:=id hm;unfold pyNext;refine iK (wpAny_attempt (wpAny_callSpecial?_slot (name:=jv "__next__") hit.typeIs F.slot_dict_keyiterator_next (wpAny_call_entry F.slot_dict_keyiterator_next hit.typeIs F.entry_dict_keyiterator_next ?_ (F.args_dict_keyiterator_next_1 _))));refine iK (iL (iK (iK ?_)))
 first|refine iK (wpAny_typeNameOfWhole_keyiter hit.typeIs (iL ?_))|refine iK (wpAny_typeNameOf_keyiter hit.typeIs (iL ?_))
 refine iK (wpAny_fieldsOf ho hd ?_);simp only[show qc "dict_keyiterator"=false by decide,uj,if_false];show wpAny _ _ (if (kY d==kK)=true then _ else _) _ _ s;rw[Gf (show ¬((kY d==kK)=true) from jw)];refine iK (iL (iK (wpAny_dictEntries hod hdd ?_)));rw[Gf (by simp)];refine iK (iL (iK (wpAny_dictEpoch hod hdd ?_)));rw[Gf (by simp)];refine iL ?_;simp only[show ¬((i:Int)<0) from by omega,if_false,j7,hx];refine iK ?_
 first|refine iK (wpAny_typeNameOfWhole_keyiter hit.typeIs (iL ?_))|refine iK (wpAny_typeNameOf_keyiter hit.typeIs (iL ?_))
 refine iK (wpAny_isOneOf_keyiter hit.typeIs ?_);show wpAny _ _ (setField (.ref it) 1 (rawInt ((i:Int)+1)) >>= _) _ _ s;refine iK (wpAny_setField ho hd (by simp) ?_);have hit':(s.heap.update it (Obj.mapFields (·.setIfInBounds 1 (rawInt ((i:Int)+1))))).IsKeyIter it d (i+1) es.size ep :=
  ⟨_,uE _ ho (Obj.isFreed_of_fields (JG hd _)),(Obj.cls_mapFields ..).trans hc,by rw[JG hd];simp[rawInt]⟩
 refine iK (wpAny_holding (iK (wpAny_isOneOf_keyiter (s:={ s with heap:=s.heap.update it (Obj.mapFields (·.setIfInBounds 1 (rawInt ((i:Int)+1)))) }) hit'.typeIs ?_)));show wpAny _ _ (pure e.key) _ _ _;exact iL (iL ⟨_,rfl,iL (hQ _ hit' (uz ..))⟩)
theorem zzA {it d:Gj}{i ep:Nat}{es:Array DictEntry}{Q:Option Gg->Gh->Prop}(hh:A.handled=Gb)(hit:s.heap.IsKeyIter it d i es.size ep)(hm:sg s.heap d es ep)(hx:es.size<=i)
  (hQ:∀ h',Heap.ExtBut it s.heap h'->Q Gb { s with heap:=h' }):wpAny (model prog w) A (pyNext (.ref it)) Q E s:=by
 obtain⟨o,ho,hc,hd⟩:=id hit;obtain⟨od,hod,hcd,hdd⟩:=id hm;unfold pyNext;refine iK (wpAny_attempt (wpAny_callSpecial?_slot (name:=jv "__next__") hit.typeIs F.slot_dict_keyiterator_next (wpAny_call_entry F.slot_dict_keyiterator_next hit.typeIs F.entry_dict_keyiterator_next ?_ (F.args_dict_keyiterator_next_1 _))));refine iK (iL (iK (iK ?_)))
 first|refine iK (wpAny_typeNameOfWhole_keyiter hit.typeIs (iL ?_))|refine iK (wpAny_typeNameOf_keyiter hit.typeIs (iL ?_))
 refine iK (wpAny_fieldsOf ho hd ?_);simp only[show qc "dict_keyiterator"=false by decide,uj,if_false];show wpAny _ _ (if (kY d==kK)=true then _ else _) _ _ s;rw[Gf (show ¬((kY d==kK)=true) from jw)];refine iK (iL (iK (wpAny_dictEntries hod hdd ?_)));rw[Gf (by simp)];refine iK (iL (iK (wpAny_dictEpoch hod hdd ?_)));rw[Gf (by simp)];refine iL ?_;simp only[show ¬((i:Int)<0) from by omega,if_false,j7,vS hx];refine iK ?_
 first|refine iK (wpAny_typeNameOfWhole_keyiter hit.typeIs (iL ?_))|refine iK (wpAny_typeNameOf_keyiter hit.typeIs (iL ?_))
 show wpAny _ _ (setField (.ref it) 0 .none >>= _) _ _ s;refine iK (wpAny_setField ho hd (by simp) ?_);show wpAny _ _ (newExc (.type "StopIteration") [] >>= _) _ _ _;refine iK ?_;simp only[newExc,newTuple];refine iK (wpAny_newObj_type (iK (m:=firstArgMember _ _) (wpAny_of_eq (a:=kK) (by first|rfl|(simp only[firstArgMember];rfl)) (wpAny_newObj_type ?_ (by size_fits)))) (by size_fits));simp only[raiseNew];refine iK (wpAny_handled ?_);rw[show A.in1.handled=Gb from hh];refine iK (iL (wpAny_throw ?_));refine(iK (wpAny_isInstance (T:="StopIteration") (b:=true) ⟨_,jB _ rfl,rfl⟩ isSubtype_stop ?_));exact iL (hQ _ (((uz ..).extBut.push _).push _))
theorem zwC (hh:A.handled=Gb)(I d:Gj)(hne:d≠I)(es:Array DictEntry)(ep:Nat) :
  Walks prog w A I [I,d] [I] es.size (λi v=>∃ e,es[i]?=Ga e/\v=e.key) (λi h=>h.IsKeyIter I d i es.size ep/\sg h d es ep) where
 sub:=λb hb=>by simp at hb;simp[hb]
 frame:=λ_ _ _ st hk=>⟨st.1.at λo e=>hk I (by simp) o e,st.2.kept λo e=>hk d (by simp) o e⟩
 item:=λi s Q E hi st hQ=>by
  have hx:es[i]?=Ga es[i]:=vB hi;refine zy9 st.1 st.2 hx λh' hit' hs'=>?_;exact hQ _ h' s.toks ⟨_,hx,rfl⟩ ⟨hit',st.2.kept λo eo=>(hs'.2 d hne).trans eo⟩ λb o hb eo=>hs'.extBut b o (λh=>hb (by simp[h])) eo
 done:=λs Q E st hQ=>zzA hh st.1 st.2 (jj _) λh' he'=>hQ h' s.toks λb o hb eo=>he' b o (λh=>hb (by simp[h])) eo
 self:=λ_ _ _ _ st hQ=>wpAny_pyIter_keyiter st.1 hQ
end
open PySem PySem.Spec PyProof.Rows L2
abbrev St:=L2.St
abbrev D:=PySem.PyData
def mJ (H:Hp)(l:List Gg):Prop:=TriplesOk l/\∀ pos cv,codeAmong pos l=Ga cv->∃ c o vs,∃ v:Str×Tok,cv=.ref c/\H c=Ga (.frz o (.own c))/\o.data=.fields vs/\vs[1]?=Ga (.str v.1 v.2)
def Gr (H:Hp)(o:HO)(H':Hp)(x:Option HO):Prop:=match o with
 | .tbl ps=>∃ qs,x=Ga (.tbl qs)/\(mJ H ps.toList->mJ H' qs.toList)
 | o=>x=Ga o
theorem Gr.some {H H':Hp}{o:HO}{x:Option HO}(g:Gr H o H' x):∃ u,x=Ga u:=by
 cases o<;>first|exact⟨_,g⟩|exact⟨_,g.choose_spec.1⟩
theorem Gr.of {H H':Hp}{o:HO}{x:Option HO}(e:x=Option.some o)(g:∀ l,mJ H l->mJ H' l):Gr H o H' x:=by
 cases o<;>first|exact e|exact⟨_,e,g _⟩
theorem Gr.to {H H' H2:Hp}{o:HO}{x:Option HO}(a:Gr H o H' x)(g:∀ l,mJ H' l->mJ H2 l):Gr H o H2 x:=by
 cases o<;>first|exact a|exact⟨a.choose,a.choose_spec.1,λz=>g _ (a.choose_spec.2 z)⟩
def iP (H H':Hp):Prop:=∀ b o,H b=Ga o->Gr H o H' (H' b)
theorem iP.refl (H:Hp):iP H H:=λ_ _ h=>.of h λ_ z=>z
theorem iP.trans {H H1 H2:Hp}(a:iP H H1)(b:iP H1 H2):iP H H2:=λc o h=>by
 have g:=a c o h;cases o<;>first
  | exact b c _ g
  | (obtain⟨qs,e,k⟩:=g
     obtain⟨rs,e2,k2⟩:=b c _ e;exact⟨rs,e2,λz=>k2 (k z)⟩)
theorem iP.free {H H':Hp}(e:iP H H'){l:Gj}(h:H' l=Jo):H l=Jo:=by
 cases q:H l with
 | none=>rfl
 | some o =>
  obtain⟨u,z⟩:=(e l o q).some;rw[z] at h;cases h
theorem iP.seq {K:ja}{H H':Hp}{a:Gj}{xs:List V}(e:iP H H')(h:nr K H a xs):nr K H' a xs:=by
 rcases h with (h|⟨o,h⟩)|h
 .exact .inl (.inl (e _ _ h))
 .exact .inl (.inr ⟨o,e _ _ h⟩)
 .exact .inr h
theorem mJ.updG {H:Hp}{a:Gj}{ob:HO}(m:∀ o u,H a≠Ga (.frz o u)){l:List Gg}(g:mJ H l):mJ (upd H a ob) l :=
 ⟨g.1,λpos cv e=>by
  obtain⟨c,o,vs,v,e1,e2,e3⟩:=g.2 pos cv e;exact⟨c,o,vs,v,e1,by rw[ls (λz=>by subst z;exact m _ _ e2)];exact e2,e3⟩⟩
theorem mJ.sub {H H':Hp}(m:∀ c o,H c=Ga o->H' c=Ga o){l:List Gg}(g:mJ H l):mJ H' l :=
 ⟨g.1,λpos cv e=>by
  obtain⟨c,o,vs,v,e1,e2,e3⟩:=g.2 pos cv e;exact⟨c,o,vs,v,e1,m _ _ e2,e3⟩⟩
theorem iP.of {H H':Hp}(m:∀ c o,H c=Ga o->H' c=Ga o):iP H H':=λb o h=>.of (m b o h) λ_ z=>z.sub m
theorem Gr.from {H H1 H':Hp}{o:HO}{x:Option HO}(a:Gr H o H' x)(g:∀ l,mJ H1 l->mJ H l):Gr H1 o H' x:=by
 cases o<;>first|exact a|exact⟨a.choose,a.choose_spec.1,λz=>a.choose_spec.2 (g _ z)⟩
theorem iP.put {H0 H:Hp}{a:Gj}{ob:HO}(s:iP H0 H)(n:H0 a=Gb)(m:∀ o u,H a≠Ga (.frz o u)):iP H0 (upd H a ob):=λb o h=>by
 rw[ls (nX h n)];exact(s b o h).to λ_=>mJ.updG m
theorem iP.new {H:Hp}{a:Gj}{ob:HO}(n:H a=Gb):iP H (upd H a ob):=(iP.refl H).put n λo u z=>by rw[n] at z;cases z
def Ow:HO->Prop
 | .lst _=>True
 | .ext _=>True
 | _=>False
theorem iP.ow {H H':Hp}{a:Gj}{ob:HO}(s:iP H H')(h:H a=Ga ob)(o:Ow ob):H' a=Ga ob:=by
 have g:=s a ob h;cases ob<;>first|exact g|exact o.elim
theorem Ow.nf {H:Hp}{a:Gj}{ob:HO}(o:Ow ob)(h:H a=Ga ob):∀ x u,H a≠Ga (.frz x u):=λx u z=>by
 rw[h] at z;cases z;exact o
def Pl:HO->Prop
 | .lst _=>True
 | .tup _=>True
 | .ext _=>True
 | _=>False
theorem Ow.pl {ob:HO}(o:Ow ob):Pl ob:=by cases ob<;>first|exact o|trivial
theorem mJ.un {F:Hp}{a:Gj}{ob:HO}(o:Pl ob){l:List Gg}(g:mJ (upd F a ob) l):mJ F l :=
 ⟨g.1,λpos cv e=>by
  obtain⟨c,x,vs,v,e1,e2,e3⟩:=g.2 pos cv e;have ne:c≠a:=λz=>by subst z;rw[lB] at e2;cases e2;exact o
  rw[ls ne] at e2;exact⟨c,x,vs,v,e1,e2,e3⟩⟩
theorem iP.upL {F H:Hp}{a:Gj}{ob:HO}(s:iP F H)(ha:H a=Ga ob)(p:Pl ob):iP (upd F a ob) H:=λb o h=>by
 by_cases hb:b=a
 .subst hb;rw[lB] at h;cases h;cases ob<;>first|exact ha|exact p.elim
 .rw[ls hb] at h;have g:=s b o h;cases o<;>first|exact g|exact⟨g.choose,g.choose_spec.1,λz=>g.choose_spec.2 (z.un p)⟩
theorem iP.up2 {F H:Hp}{a:Gj}{ob:HO}(s:iP F H)(nF:F a=Gb)(nH:H a=Gb)(p:Pl ob):iP (upd F a ob) (upd H a ob) :=
 (s.put nF λo u z=>by rw[nH] at z;cases z).upL lB p
theorem Pl.nf {H:Hp}{a:Gj}{ob:HO}(o:Pl ob)(h:H a=Ga ob):∀ x u,H a≠Ga (.frz x u):=λx u z=>by
 rw[h] at z;cases z;exact o
theorem iP.pl {H H':Hp}{a:Gj}{ob:HO}(s:iP H H')(h:H a=Ga ob)(o:Pl ob):H' a=Ga ob:=by
 have g:=s a ob h;cases ob<;>first|exact g|exact o.elim
theorem iP.swp {H0 H:Hp}{a:Gj}{o o':HO}(s:iP (upd H0 a o) H)(p:Pl o)(p':Pl o'):iP (upd H0 a o') (upd H a o'):=λb u h=>by
 have ha:=s.pl lB p;by_cases hb:b=a
 .subst hb;rw[lB] at h;cases h;rw[lB];cases o'<;>first|exact rfl|exact p'.elim
 .rw[ls hb] at h ⊢;have g:=s b u (by rw[ls hb];exact h);cases u<;>first
   | exact g
   | (obtain⟨qs,e,k⟩:=g
      refine⟨qs,e,λz=>(k ⟨z.1,λpos cv e=>?_⟩).updG (p.nf ha)⟩;obtain⟨c,x,vs,v,e1,e2,e3⟩:=z.2 pos cv e;have ne:c≠a:=λw=>by subst w;rw[lB] at e2;cases e2;exact p'
      rw[ls ne] at e2;exact⟨c,x,vs,v,e1,by rw[ls ne];exact e2,e3⟩)
def Qr (a:Gj)(H H':Hp):Prop:=∀ b o,b≠a->H b=Ga o->Gr H o H' (H' b)
theorem iP.x {H H':Hp}(s:iP H H')(a:Gj):Qr a H H':=λb o _ h=>s b o h
def Ws (ks:List D)(as:List Gj):List DictEntry:=(ks.zip as).map λp=>{ key:=.ref p.2,hash:=Dh p.1,val:=.bool true }
def Ln (a:Gj)(ks:List D)(as:List Gj)(ep:Nat):Heap->Prop:=λh=>∃ o es,h.get? a=Ga o/\o.ExactDict/\o.data=.dict es ep/\es.toList=Ws ks as
structure EQ (ks:List D):Prop where
 key:∀ k∈ks,nq k 8=true
 tup:∀ k∈ks,∃ xs,k=.tuple xs
 nd:ks.Nodup
 len:ks.length<=1000000
abbrev QP (ks:List D):D:=PyData.dict (ks.map λk=>(k,kh true))
inductive pS:List (Int×V)->List DictEntry->Prop where
 | nil:pS [] []
 | cons {k:Int} {v:V} {e:DictEntry} {ws:List (Int×V)} {es:List DictEntry} (hk:v6 k e.key=true) (hh:e.hash=hashInt k) (hv:lO v e.val) (t:pS ws es):pS ((k,v)::ws) (e::es)
def rj (a:Gj)(ws:List (Int×V))(ep:Nat):Heap->Prop:=λh=>∃ o es,h.get? a=Ga o/\o.ExactDict/\o.data=.dict es ep/\pS ws es.toList
structure xq (kvs:List (Int×D)):Prop where
 nd:(kvs.map (·.1)).Nodup
 len:kvs.length<=1000000
def YZ (l:List (D×Gj×Gg)):List DictEntry:=l.map λx=>{ key:=.ref x.2.1,hash:=Dh x.1,val:=x.2.2 }
inductive WV:List (D×Gj×V)->List (D×Gj×Gg)->Prop where
 | nil:WV [] []
 | cons {k:D} {b:Gj} {v:V} {u:Gg} {ws:List (D×Gj×V)} {l:List (D×Gj×Gg)} (r:lO v u) (t:WV ws l):WV ((k,b,v)::ws) ((k,b,u)::l)
def YD (a:Gj)(ws:List (D×Gj×V))(ep:Nat):Heap->Prop:=λh=>∃ o es l,h.get? a=Ga o/\o.ExactDict/\o.data=.dict es ep/\es.toList=YZ l/\WV ws l
structure Wb (kvs:List (D×D)):Prop where
 key:∀ k∈kvs.map (·.1),nq k 8=true
 nd:(kvs.map (·.1)).Nodup
 len:kvs.length<=1000000
def sw (kvs:List (Int×D)):D:=PyData.dict ((uN,uN)::kvs.map λp=>(jb p.1,p.2))
mutual
inductive md (K:ja)(H:Hp):D->V->Prop where
 | non:md K H .none .non
 | bl (b:Bool):md K H (.bool b) (.bl b)
 | int (i:Int):md K H (.int i) (.int i)
 | str (x:Str):md K H (.str x) (.str x)
 | tup {a:Gj} {xs:List V} {ds:List D} (h:oB K H a xs) (r:ly K H ds xs):md K H (.tuple ds) (.ref a)
 | lst {a:Gj} {xs:List V} {ds:List D} (h:nr K H a xs) (r:ly K H ds xs):md K H (.list ds) (.ref a)
 | dic {a:Gj} {ks:List D} {as:List Gj} {ep:Nat} (hs:(a==sysModules)=false) (h:H a=Ga (.ext (Ln a ks as ep))) (ok:EQ ks) (r:ly K H ks (as.map V.ref)):md K H (.dict (ks.map λk=>(k,kh true))) (.ref a)
 | dci {a:Gj} {kvs:List (Int×D)} {ws:List (Int×V)} {ep:Nat} (hs:(a==sysModules)=false) (h:H a=Ga (.ext (rj a ws ep))) (ok:xq kvs) (r:mC K H kvs ws):md K H (.dict ((uN,uN)::kvs.map λp=>(jb p.1,p.2))) (.ref a)
inductive ly (K:ja)(H:Hp):List D->List V->Prop where
 | nil:ly K H [] []
 | cons {d:D} {v:V} {ds:List D} {vs:List V} (h:md K H d v) (t:ly K H ds vs):ly K H (d::ds) (v::vs)
inductive mC (K:ja)(H:Hp):List (Int×D)->List (Int×V)->Prop where
 | nil:mC K H [] []
 | cons {k:Int} {d:D} {v:V} {l:List (Int×D)} {m:List (Int×V)} (h:md K H d v) (t:mC K H l m):mC K H ((k,d)::l) ((k,v)::m)
end
inductive yW (K:ja)(H:Hp):List (D×D)->List (D×Gj×V)->Prop where
 | nil:yW K H [] []
 | cons {k d:D} {b:Gj} {v:V} {l:List (D×D)} {m:List (D×Gj×V)} (hk:md K H k (.ref b)) (h:md K H d v) (t:yW K H l m):yW K H ((k,d)::l) ((k,b,v)::m)
theorem oN {K:ja}{H H':Hp}{a:Gj}{xs:List V}(e:iP H H')(h:oB K H a xs):oB K H' a xs:=by
 rcases h with (h|⟨o,h⟩)|h
 .exact .inl (.inl (e _ _ h))
 .exact .inl (.inr ⟨o,e _ _ h⟩)
 .exact .inr h
mutual
theorem md.mono {K:ja}{H H':Hp}(e:iP H H'):∀ {d:D} {v:V},md K H d v->md K H' d v
 | _,_,.non=>.non
 | _,_,.bl b=>.bl b
 | _,_,.int i=>.int i
 | _,_,.str x=>.str x
 | _,_,.tup h r=>.tup (oN e h) (ly.mono e r)
 | _,_,.lst h r=>.lst (e.seq h) (ly.mono e r)
 | _,_,.dic hs h ok r=>.dic hs (e _ _ h) ok (ly.mono e r)
 | _,_,.dci hs h ok r=>.dci hs (e _ _ h) ok (mC.mono e r)
theorem ly.mono {K:ja}{H H':Hp}(e:iP H H'):∀ {ds:List D} {vs:List V},ly K H ds vs->ly K H' ds vs
 | _,_,.nil=>.nil
 | _,_,.cons h t=>.cons (md.mono e h) (ly.mono e t)
theorem mC.mono {K:ja}{H H':Hp}(e:iP H H'):∀ {l:List (Int×D)} {m:List (Int×V)},mC K H l m->mC K H' l m
 | _,_,.nil=>.nil
 | _,_,.cons h t=>.cons (md.mono e h) (mC.mono e t)
end
theorem yW.mono {K:ja}{H H':Hp}(e:iP H H'):∀ {l:List (D×D)} {m:List (D×Gj×V)},yW K H l m->yW K H' l m
 | _,_,.nil=>.nil
 | _,_,.cons k h t=>.cons (k.mono e) (h.mono e) (t.mono e)
theorem ly.length {K:ja}{H:Hp}:∀ {ds:List D} {vs:List V},ly K H ds vs->ds.length=vs.length
 | _,_,.nil=>rfl
 | _,_,.cons _ t=>congrArg JR t.length
theorem ly.get {K:ja}{H:Hp}:∀ {ds:List D} {vs:List V} {i:Nat} {d:D},ly K H ds vs->ds[i]?=Ga d->∃ v,vs[i]?=Ga v/\md K H d v
 | _,_,_,_,.nil,e=>by simp at e
 | _,_,0,_,.cons h _,e=>by simp at e;subst e;exact⟨_,rfl,h⟩
 | _,_,i+1,d,.cons _ t,e=>by
  obtain⟨v,h1,h2⟩:=ly.get (i:=i) (d:=d) t (by simpa using e);exact⟨v,by simpa using h1,h2⟩
theorem ly.append {K:ja}{H:Hp}:∀ {ds es:List D} {vs ws:List V},ly K H ds vs->ly K H es ws->ly K H (ds++es) (vs++ws)
 | _,_,_,_,.nil,q=>q
 | _,_,_,_,.cons h t,q=>.cons h (t.append q)
theorem ly.take {K:ja}{H:Hp}:∀ {ds:List D} {vs:List V} (n:Nat),ly K H ds vs->ly K H (ds.take n) (vs.take n)
 | _,_,0,_=>.nil
 | _,_,_+1,.nil=>.nil
 | _,_,n+1,.cons h t=>.cons h (t.take n)
theorem ly.drop {K:ja}{H:Hp}:∀ {ds:List D} {vs:List V} (n:Nat),ly K H ds vs->ly K H (ds.drop n) (vs.drop n)
 | _,_,0,r=>r
 | _,_,_+1,.nil=>.nil
 | _,_,n+1,.cons _ t=>t.drop n
theorem ly.set {K:ja}{H:Hp}{d:D}{v:V}(q:md K H d v):∀ {ds:List D} {vs:List V} (i:Nat),ly K H ds vs->ly K H (ds.set i d) (vs.set i v)
 | _,_,_,.nil=>.nil
 | _,_,0,.cons _ t=>.cons q t
 | _,_,i+1,.cons h t=>.cons h (t.set q i)
theorem ly.reverse {K:ja}{H:Hp}:∀ {ds:List D} {vs:List V},ly K H ds vs->ly K H ds.reverse vs.reverse
 | _,_,.nil=>.nil
 | _,_,.cons h t=>by
  rw[uJ,uJ];exact t.reverse.append (.cons h .nil)
theorem ly.ints {K:ja}{H:Hp}:∀ (ns:List Int),ly K H (ns.map jb) (ns.map V.int)
 | []=>.nil
 | n::ns=>.cons (.int n) (ly.ints ns)
def Fz (H H':Hp):Prop:=∀ b x,H b=Ga (.frz x (.own b))->H' b=Ga (.frz x (.own b))
theorem iP.fz {H H':Hp}(s:iP H H'):Fz H H':=λ_ _ h=>s _ _ h
theorem Fz.upd {H:Hp}{a:Gj}{ob:HO}(m:∀ o u,H a≠Ga (.frz o u)):Fz H (upd H a ob):=λb x h=>by
 rw[ls (λz=>by subst z;exact m _ _ h)];exact h
structure lN where
 C:Gj->Hp->Hp->Prop
 mono:∀ f F F' H H',iP F F'->Fz H H'->C f F H->C f F' H'
inductive Sl where
 | no|val (d:D)|own (ds:List D)|dic (ks:List D)|dki (oa:Option Gj) (kvs:List (Int×D))|tab (P:Gj)|fn (c:lN)|owk (a:Gj) (ds:List D)|dkt (kvs:List (D×D))
 deriving Inhabited
abbrev En:=List Sl
def pI:Sl->Bool
 | .own _=>true
 | .dic _=>true
 | .dki _ _=>true
 | .owk _ _=>true
 | .dkt _=>true
 | _=>false
def mz (F F' H:Hp):Prop:=∀ b o,F' b=Ga o->F b=Gb->H b=Gb
theorem mz.refl (F H:Hp):mz F F H:=λb o e n=>by rw[e] at n;cases n
theorem mz.trans {F F1 F2 H H1:Hp}(a:mz F F1 H)(b:mz F1 F2 H1)(s:iP H H1):mz F F2 H:=λc o e n=>by
 cases q:F1 c with
 | none=>exact s.free (b c o e q)
 | some u=>exact a c u q n
def sv (K:ja)(H0 F H:Hp):Sl->Option V->Prop
 | .no,_=>True
 | .val d,u=>∃ v,u=Ga v/\md K F d v
 | .own ds,u=>∃ a xs,u=Ga (.ref a)/\H a=Ga (.lst xs)/\F a=Gb/\H0 a=Gb/\ly K F ds xs
 | .dic ks,u=>∃ a as ep,u=Ga (.ref a)/\H a=Ga (.ext (Ln a ks as ep))/\F a=Gb/\H0 a=Gb/\ly K F ks (as.map V.ref)/\(a==sysModules)=false/\EQ ks
 | .dki oa kvs,u=>∃ a ws ep,u=Ga (.ref a)/\H a=Ga (.ext (rj a ws ep))/\F a=Gb/\H0 a=Gb/\mC K F kvs ws/\(a==sysModules)=false/\xq kvs/\∀ x,oa=Ga x->a=x
 | .tab P,_=>∃ ps,H0 P=Ga (.tbl ps)/\mJ H0 ps.toList
 | .fn c,u=>∃ f,u=Ga (.ref f)/\c.C f F H
 | .dkt kvs,u=>∃ a ws ep,u=Ga (.ref a)/\H a=Ga (.ext (YD a ws ep))/\F a=Gb/\H0 a=Gb/\yW K F kvs ws/\(a==sysModules)=false/\Wb kvs
 | .owk a ds,u=>∃ xs,u=Ga (.ref a)/\H a=Ga (.lst xs)/\F a=Gb/\H0 a=Gb/\ly K F ds xs
structure RS (K:ja)(H0 F H:Hp)(ψ:En)(σ:St):Prop where
 h0:iP H0 H
 fh:iP F H
 sl:∀ (i:Nat) (s:Sl),ψ[i]?=Ga s->∃ u,σ[i]?=Ga u/\sv K H0 F H s u
 ap:∀ (i j:Nat) (a:Gj) (s t:Sl),pI s=true->pI t=true->ψ[i]?=Ga s->ψ[j]?=Ga t->σ[i]?=Ga (Ga (.ref a))->σ[j]?=Ga (Ga (.ref a))->i=j
section
variable {K:ja}{H0 F F' H H':Hp}{ψ:En}{σ:St}
theorem sv.at {s:Sl}{u:Option V}(r:sv K H0 F H s u)(o:pI s=true):∃ a ob,u=Ga (.ref a)/\H a=Ga ob/\F a=Gb/\H0 a=Gb/\Ow ob:=by
 cases s with
 | no=>cases o
 | val d=>cases o
 | own ds=>obtain⟨a,xs,e,h,f,g,_⟩:=r;exact⟨a,_,e,h,f,g,trivial⟩
 | dic ks=>obtain⟨a,as,ep,e,h,f,g,_⟩:=r;exact⟨a,_,e,h,f,g,trivial⟩
 | dki oa kvs=>obtain⟨a,ws,ep,e,h,f,g,_⟩:=r;exact⟨a,_,e,h,f,g,trivial⟩
 | tab P=>cases o
 | fn c=>cases o
 | owk a ds=>obtain⟨xs,e,h,f,g,_⟩:=r;exact⟨a,_,e,h,f,g,trivial⟩
 | dkt kvs=>obtain⟨a,ws,ep,e,h,f,g,_⟩:=r;exact⟨a,_,e,h,f,g,trivial⟩
theorem sv.to {s:Sl}{u:Option V}(r:sv K H0 F H s u)(f:iP F F')(zz:Fz H H')(k:∀ a ob,pI s=true->u=Ga (.ref a)->H a=Ga ob->F a=Gb->Ow ob->H' a=Ga ob/\F' a=Gb):sv K H0 F' H' s u:=by
 cases s with
 | no=>trivial
 | val d=>obtain⟨v,e2,q⟩:=r;exact⟨v,e2,q.mono f⟩
 | own ds =>
  obtain⟨a,xs,e2,ha,fa,h0a,q⟩:=r;obtain⟨k1,k2⟩:=k a _ rfl e2 ha fa trivial;exact⟨a,xs,e2,k1,k2,h0a,q.mono f⟩
 | dic ks =>
  obtain⟨a,as,ep,e2,ha,fa,h0a,q,r2⟩:=r;obtain⟨k1,k2⟩:=k a _ rfl e2 ha fa trivial;exact⟨a,as,ep,e2,k1,k2,h0a,q.mono f,r2⟩
 | dki oa kvs =>
  obtain⟨a,ws,ep,e2,ha,fa,h0a,q,r2⟩:=r;obtain⟨k1,k2⟩:=k a _ rfl e2 ha fa trivial;exact⟨a,ws,ep,e2,k1,k2,h0a,q.mono f,r2⟩
 | tab P=>exact r
 | fn c=>obtain⟨g,e,q⟩:=r;exact⟨g,e,c.mono _ _ _ _ _ f zz q⟩
 | dkt kvs =>
  obtain⟨a,ws,ep,e2,ha,fa,h0a,q,r2⟩:=r;obtain⟨k1,k2⟩:=k a _ rfl e2 ha fa trivial;exact⟨a,ws,ep,e2,k1,k2,h0a,q.mono f,r2⟩
 | owk a ds =>
  obtain⟨xs,e2,ha,fa,h0a,q⟩:=r;obtain⟨k1,k2⟩:=k a _ rfl e2 ha fa trivial;exact⟨xs,e2,k1,k2,h0a,q.mono f⟩
theorem RS.ne_free (r:RS K H0 F H ψ σ){a:Gj}(n:H a=Gb):∀ (j:Nat) (s:Sl),pI s=true->ψ[j]?=Ga s->σ[j]?≠Ga (Ga (.ref a)):=λj s o e z=>by
 obtain⟨u,e1,q⟩:=r.sl j s e;obtain⟨b,ob,e2,hb,_⟩:=q.at o;rw[z] at e1;cases e1;cases e2;rw[n] at hb;cases hb
theorem RS.grow (r:RS K H0 F H ψ σ)(g:iP H H')(f:iP F F')(fh:iP F' H')(n:mz F F' H):RS K H0 F' H' ψ σ:=by
 refine⟨r.h0.trans g,fh,λi s e=>?_,r.ap⟩;obtain⟨u,e1,q⟩:=r.sl i s e;refine⟨u,e1,q.to f g.fz λa ob _ _ ha fa ow=>⟨g.ow ha ow,?_⟩⟩;cases z:F' a with
 | none=>rfl
 | some o=>have:=n a o z fa;rw[ha] at this;cases this
theorem RS.later (r:RS K H0 F H ψ σ)(g:iP H H'):RS K H0 F H' ψ σ:=r.grow g (.refl _) (r.fh.trans g) (.refl _ _)
theorem RS.put (r:RS K H0 F H ψ σ){i:Nat}{d:D}{v:V}(hi:i<σ.length)(q:md K F d v):RS K H0 F H (ψ.set i (.val d)) (σ.set i (Ga v)):=by
 refine⟨r.h0,r.fh,λj s e=>?_,λj k a s t o1 o2 e1 e2 e3 e4=>?_⟩
 .by_cases h:i=j
  .subst h;refine⟨Ga v,by rw[jS hi],?_⟩;by_cases hl:i<ψ.length
   .rw[jS hl] at e;cases e;exact⟨v,rfl,q⟩
   .rw[kx (by simpa using hl)] at e;cases e
  .rw[jQ h] at e ⊢;exact r.sl j s e
 .have nj:∀ (j:Nat) (s:Sl),pI s=true->(ψ.set i (.val d))[j]?=Ga s->i≠j:=λj s o e z=>by
   subst z;by_cases hl:i<ψ.length
   .rw[jS hl] at e;cases e;cases o
   .rw[kx (by simpa using hl)] at e;cases e
  have n1:=nj j s o1 e1;have n2:=nj k t o2 e2;rw[jQ n1] at e1 e3;rw[jQ n2] at e2 e4;exact r.ap j k a s t o1 o2 e1 e2 e3 e4
theorem RS.putG (r:RS K H0 F H ψ σ){i:Nat}{s0:Sl}{a:Gj}(hi:i<σ.length)(q:sv K H0 F H s0 (Ga (.ref a)))
  (ne:∀ (j:Nat) (s:Sl),pI s=true->j≠i->ψ[j]?=Ga s->σ[j]?≠Ga (Ga (.ref a))):RS K H0 F H (ψ.set i s0) (σ.set i (Ga (.ref a))):=by
 refine⟨r.h0,r.fh,λj s e=>?_,λj k b s t o1 o2 e1 e2 e3 e4=>?_⟩
 .by_cases h:i=j
  .subst h;refine⟨Ga (.ref a),by rw[jS hi],?_⟩;by_cases hl:i<ψ.length
   .rw[jS hl] at e;cases e;exact q
   .rw[kx (by simpa using hl)] at e;cases e
  .rw[jQ h] at e ⊢;exact r.sl j s e
 .by_cases hj:i=j
  .by_cases hk:i=k
   .exact hj.symm.trans hk
   .subst hj;rw[jS hi] at e3;rw[jQ hk] at e2 e4;cases e3;exact absurd e4 (ne k t o2 (ug hk) e2)
  .by_cases hk:i=k
   .subst hk;rw[jS hi] at e4;rw[jQ hj] at e1 e3;cases e4;exact absurd e3 (ne j s o1 (ug hj) e1)
   .rw[jQ hj] at e1 e3;rw[jQ hk] at e2 e4;exact r.ap j k b s t o1 o2 e1 e2 e3 e4
theorem RS.putO (r:RS K H0 F H ψ σ){i:Nat}{ds:List D}{a:Gj}{xs:List V}(hi:i<σ.length)(ha:H a=Ga (.lst xs))(fa:F a=Gb)(h0a:H0 a=Gb)(q:ly K F ds xs)
  (ne:∀ (j:Nat) (s:Sl),pI s=true->j≠i->ψ[j]?=Ga s->σ[j]?≠Ga (Ga (.ref a))):RS K H0 F H (ψ.set i (.own ds)) (σ.set i (Ga (.ref a))) :=
 r.putG hi ⟨a,xs,rfl,ha,fa,h0a,q⟩ ne
theorem RS.chgG (r:RS K H0 F H ψ σ){i:Nat}{s0 s1:Sl}{a:Gj}{ob:HO}(e:ψ[i]?=Ga s0)(o0:pI s0=true)(u:σ[i]?=Ga (Ga (.ref a)))(q:sv K H0 F (upd H a ob) s1 (Ga (.ref a))) :
  RS K H0 F (upd H a ob) (ψ.set i s1) σ:=by
 obtain⟨u',e',q'⟩:=r.sl i _ e;obtain⟨a',ob',z,ha,fa,h0a,ow0⟩:=q'.at o0;rw[u] at e';cases e';cases z;have hl:i<ψ.length:=(jr.mp e).1;refine⟨r.h0.put h0a (ow0.nf ha),r.fh.put fa (ow0.nf ha),λj s ej=>?_,λj k b s t o1 o2 e1 e2 e3 e4=>?_⟩
 .by_cases h:i=j
  .subst h;rw[jS hl] at ej;cases ej;exact⟨_,u,q⟩
  .rw[jQ h] at ej;obtain⟨w,e2,q2⟩:=r.sl j s ej;refine⟨w,e2,q2.to (.refl _) (Fz.upd (ow0.nf ha)) λb ob2 ow z1 hb fb _=>⟨?_,fb⟩⟩;subst z1;rw[ls (λz=>by subst z;exact h (r.ap i j b _ _ o0 ow e ej u e2))];exact hb
 .have f1:∀ (j:Nat) (s:Sl),pI s=true->(ψ.set i s1)[j]?=Ga s->∃ s',pI s'=true/\ψ[j]?=Ga s':=λj s o h=>by
   by_cases hj:i=j
   .subst hj;exact⟨_,o0,e⟩
   .rw[jQ hj] at h;exact⟨_,o,h⟩
  obtain⟨_,o1,e1⟩:=f1 j _ o1 e1;obtain⟨_,o2,e2⟩:=f1 k _ o2 e2;exact r.ap j k b _ _ o1 o2 e1 e2 e3 e4
theorem RS.chg (r:RS K H0 F H ψ σ){i:Nat}{ds es:List D}{a:Gj}{ys:List V}(e:ψ[i]?=Ga (.own ds))(u:σ[i]?=Ga (Ga (.ref a)))(q:ly K F es ys) :
  RS K H0 F (upd H a (.lst ys)) (ψ.set i (.own es)) σ:=by
 obtain⟨u',e',a',xs,z,ha,fa,h0a,_⟩:=r.sl i _ e;rw[u] at e';cases e';cases z;exact r.chgG e rfl u ⟨a,ys,rfl,lB,fa,h0a,q⟩
end
def sM:Sl->Sl
 | .own ds=>.val (.list ds)
 | .dic ks=>.val (QP ks)
 | .dki _ kvs=>.val (sw kvs)
 | .owk _ ds=>.val (.list ds)
 | .dkt _=>.no
 | s=>s
theorem YL (s:Sl):pI (sM s)=false:=by cases s<;>rfl
def frz (ψ:En):En:=ψ.map sM
theorem RS.frz {K:ja}{H0 F H:Hp}{ψ:En}{σ:St}(r:RS K H0 F H ψ σ):RS K H0 H H (T3.frz ψ) σ:=by
 refine⟨r.h0,.refl _,λi s e=>?_,λi j a s t o1 o2 e1=>?_⟩
 .unfold T3.frz at e;rw[jA] at e;cases z:ψ[i]? with
  | none=>rw[z] at e;cases e
  | some s' =>
   rw[z] at e;obtain⟨u,e1,q⟩:=r.sl i s' z;refine⟨u,e1,?_⟩;cases s' with
   | no=>cases e;trivial
   | val d=>cases e;obtain⟨v,e2,q⟩:=q;exact⟨v,e2,q.mono r.fh⟩
   | own ds =>
    cases e;obtain⟨a,xs,e2,ha,fa,h0a,q⟩:=q;exact⟨_,e2,.lst (nr.of ha) (q.mono r.fh)⟩
   | dic ks =>
    cases e;obtain⟨a,as,ep,e2,ha,fa,h0a,q,sm,ok⟩:=q;exact⟨_,e2,.dic sm ha ok (q.mono r.fh)⟩
   | dki oa kvs =>
    cases e;obtain⟨a,ws,ep,e2,ha,fa,h0a,q,sm,ok,_⟩:=q;exact⟨_,e2,.dci sm ha ok (q.mono r.fh)⟩
   | tab P=>cases e;exact q
   | fn c=>cases e;obtain⟨g,e2,q⟩:=q;exact⟨g,e2,c.mono _ _ _ _ _ r.fh (λ_ _ h=>h) q⟩
   | dkt kvs=>cases e;trivial
   | owk a ds =>
    cases e;obtain⟨xs,e2,ha,fa,h0a,q⟩:=q;exact⟨_,e2,.lst (nr.of ha) (q.mono r.fh)⟩
 .exfalso;unfold T3.frz at e1;rw[jA] at e1;cases z:ψ[i]? with
  | none=>rw[z] at e1;cases e1
  | some s'=>rw[z] at e1;cases e1;rw[YL] at o1;cases o1
def frzAt (i:Nat)(ψ:En):En:=match ψ[i]? with
 | some (.own ds)=>ψ.set i (.val (.list ds))
 | some (.dic ks)=>ψ.set i (.val (QP ks))
 | some (.dki _ kvs)=>ψ.set i (.val (sw kvs))
 | _=>ψ
theorem RS.frzG {K:ja}{H0 F H:Hp}{ψ:En}{σ:St}(r:RS K H0 F H ψ σ){i:Nat}{s0 s1:Sl}{a:Gj}{ob:HO}(os:pI s1=false)(e:ψ[i]?=Ga s0)(o0:pI s0=true)(e1:σ[i]?=Ga (Ga (.ref a)))(ha:H a=Ga ob)(ow0:Ow ob)(fa:F a=Gb)(h0a:H0 a=Gb)
  (q:∀ F',iP F F'->F' a=Ga ob->sv K H0 F' H s1 (Ga (.ref a))):F a=Gb/\H a=Ga ob/\Ow ob/\iP F (upd F a ob)/\mz F (upd F a ob) H0/\RS K H0 (upd F a ob) H (ψ.set i s1) σ:=by
 have hi:i<σ.length:=(jr.mp e1).1;have hl:i<ψ.length:=(jr.mp e).1;have sF:iP F (upd F a ob):=iP.new fa;refine⟨fa,ha,ow0,sF,λb o h n=>?_,⟨r.h0,λb o h=>?_,λj s ej=>?_,λj k b s t o1 o2 x1 x2 x3 x4=>?_⟩⟩
 .by_cases hb:b=a
  .subst hb;exact h0a
  .rw[ls hb,n] at h;cases h
 .by_cases hb:b=a
  .subst hb;rw[lB] at h;cases h;cases ob<;>first|exact ha|exact ow0.elim
  .rw[ls hb] at h;have g:=r.fh b o h;cases o<;>first|exact g|exact⟨g.choose,g.choose_spec.1,λz=>g.choose_spec.2 (z.un ow0.pl)⟩
 .by_cases h:i=j
  .subst h;rw[jS hl] at ej;cases ej;exact⟨_,e1,q _ sF lB⟩
  .rw[jQ h] at ej;obtain⟨w,z1,q2⟩:=r.sl j s ej;refine⟨w,z1,q2.to sF (λ_ _ h=>h) λb ob2 ow z2 hb fb _=>⟨hb,?_⟩⟩;subst z2;rw[ls (λz=>by subst z;exact h (r.ap i j b _ _ o0 ow e ej e1 z1))];exact fb
 .have f1:∀ (j:Nat) (s:Sl),pI s=true->(ψ.set i s1)[j]?=Ga s->ψ[j]?=Ga s:=λj s o h=>by
   by_cases hj:i=j
   .subst hj;rw[jS hl] at h;cases h;rw[os] at o;cases o
   .rw[jQ hj] at h;exact h
  exact r.ap j k b _ _ o1 o2 (f1 j _ o1 x1) (f1 k _ o2 x2) x3 x4
theorem RS.frzAt2 {K:ja}{H0 F H:Hp}{ψ:En}{σ:St}(r:RS K H0 F H ψ σ)(i:Nat):T3.frzAt i ψ=ψ\/∃ a ob,F a=Gb/\H a=Ga ob/\Ow ob/\iP F (upd F a ob)/\mz F (upd F a ob) H0/\RS K H0 (upd F a ob) H (T3.frzAt i ψ) σ:=by
 unfold T3.frzAt;split
 .rename_i ds e;obtain⟨u,e1,a,xs,e2,ha,fa,h0a,q⟩:=r.sl i _ e;subst e2;exact .inr ⟨_,_,r.frzG rfl e rfl e1 ha trivial fa h0a λF' f h=>⟨_,rfl,.lst (nr.of h) (q.mono f)⟩⟩
 .rename_i ks e;obtain⟨u,e1,a,as,ep,e2,ha,fa,h0a,q,sm,ok⟩:=r.sl i _ e;subst e2;exact .inr ⟨_,_,r.frzG rfl e rfl e1 ha trivial fa h0a λF' f h=>⟨_,rfl,.dic sm h ok (q.mono f)⟩⟩
 .rename_i oa kvs e;obtain⟨u,e1,a,ws,ep,e2,ha,fa,h0a,q,sm,ok,_⟩:=r.sl i _ e;subst e2;exact .inr ⟨_,_,r.frzG rfl e rfl e1 ha trivial fa h0a λF' f h=>⟨_,rfl,.dci sm h ok (q.mono f)⟩⟩
 .exact .inl rfl
theorem RS.frzAt {K:ja}{H0 F H:Hp}{ψ:En}{σ:St}(r:RS K H0 F H ψ σ)(i:Nat):∃ F',iP F F'/\mz F F' H0/\RS K H0 F' H (T3.frzAt i ψ) σ:=by
 rcases r.frzAt2 i with e|⟨a,ob,_,_,_,f,n,q⟩
 .rw[e];exact⟨F,.refl _,.refl _ _,r⟩
 .exact⟨_,f,n,q⟩
abbrev FV:=En->Option D
abbrev FL:=En->Option (List D)
abbrev FB:=En->Option Bool
def tV (K:ja)(f:FV):TE:=λσ H Q=>∃ H0 F ψ d,RS K H0 F H ψ σ/\f ψ=Ga d/\∀ v H' F',iP H H'->iP F F'->iP F' H'->mz F F' H->md K F' d v->Q v H'
def tO (K:ja)(f:FL):TE:=λσ H Q=>∃ H0 F ψ ds,RS K H0 F H ψ σ/\f ψ=Ga ds /\
 ∀ a xs H' F',iP H H'->iP F F'->iP F' H'->mz F F' H->H a=Gb->F' a=Gb->H' a=Ga (.lst xs)->ly K F' ds xs->Q (.ref a) H'
def tT (K:ja)(f:FB):TT:=λσ H Q=>∃ H0 F ψ b,RS K H0 F H ψ σ/\f ψ=Ga b/\∀ H',iP H H'->Q b H'
def tL (K:ja)(f:FL):TA:=λσ H Q=>∃ H0 F ψ ds,RS K H0 F H ψ σ/\f ψ=Ga ds/\∀ vs H' F',iP H H'->iP F F'->iP F' H'->mz F F' H->ly K F' ds vs->Q vs H'
abbrev PV (X:Cx)(e:Expr)(f:FV):Prop:=PE X e (tV X.K f)
abbrev PO (X:Cx)(e:Expr)(f:FL):Prop:=PE X e (tO X.K f)
abbrev PB (X:Cx)(e:Expr)(f:FB):Prop:=PT X e (tT X.K f)
abbrev oX (X:Cx)(e:Expr)(f:FB):Prop:=PW X e (tT X.K f)
structure PL (X:Cx)(es:List Expr)(f:FL):Prop where
 pa:PA X es (tL X.K f)
 len:∀ ψ ds,f ψ=Ga ds->ds.length=es.length
theorem oh {X:Cx}{e:Expr}{t t':TE}(h:PE X e t)(m:∀ σ H Q,t' σ H Q->t σ H Q):PE X e t':=λω s σ H Q I q=>h ω s σ H Q I (m σ H Q q)
theorem GH {X:Cx}{e:Expr}{t t':TT}(h:PT X e t)(m:∀ σ H Q,t' σ H Q->t σ H Q):PT X e t':=λω s σ H Q I q=>h ω s σ H Q I (m σ H Q q)
theorem UF {X:Cx}{e:Expr}{t t':TT}(h:PW X e t)(m:∀ σ H Q,t' σ H Q->t σ H Q):PW X e t':=λwh ω s σ H Q I q=>h wh ω s σ H Q I (m σ H Q q)
theorem Hm {X:Cx}{e:List Expr}{t t':TA}(h:PA X e t)(m:∀ σ H Q,t' σ H Q->t σ H Q):PA X e t':=λp ω s σ H Q I q=>h p ω s σ H Q I (m σ H Q q)
theorem TJ {X:Cx}{e:List Stmt}{t t':TS}(h:tz X e t)(m:∀ D σ H,t' D σ H->t D σ H):tz X e t':=λω s σ H D I q=>h ω s σ H D I (m D σ H q)
theorem wF {X:Cx}{e:Stmt}{t t':TS}(h:PS X e t)(m:∀ D σ H,t' D σ H->t D σ H):PS X e t':=λω s σ H D I q=>h ω s σ H D I (m D σ H q)
theorem iO {α β:Type}{o:Option α}{f:α->Option β}{b:β}(h:o.bind f=Ga b):∃ a,o=Ga a/\f a=Ga b:=by
 cases o with
 | none=>cases h
 | some a=>exact⟨a,rfl,h⟩
section
variable {X:Cx}{pos:Pos}
theorem PO.v {e:Expr}{f:FL}(h:PO X e f):PV X e (λψ=>(f ψ).bind λds=>Ga (.list ds)):=by
 refine oh h λσ H Q=>?_;rintro⟨H0,F,ψ,d,r,e,q⟩;obtain⟨ds,z,e⟩:=iO e;cases e
 .refine⟨H0,F,ψ,ds,r,z,λa xs H' F' g f1 fh n ha fa ha' rr=>?_⟩;have sF:iP F' (upd F' a (.lst xs)):=iP.new fa;refine q (.ref a) H' (upd F' a (.lst xs)) g (f1.trans sF) (λb o h=>?_) (λb o h nb=>?_) (.lst (nr.of lB) (rr.mono sF))
  .exact iP.upL fh ha' trivial b o h
  .by_cases hb:b=a
   .subst hb;exact ha
   .rw[ls hb] at h;exact n b o h nb
noncomputable def gv (i:Nat):FV:=λψ=>match ψ[i]? with
 | some (.val d)=>Ga d
 | _=>Gb
theorem iM (i:Nat){x:Str}(hN:X.N[i]?=Ga x:=by rfl)(hv:xR X.env.scope x:=by first|exact uu rfl|exact kS (uu rfl)|exact kS (kS rfl))(hd:(x==("__debug__":Str))=false:=by decide)
  (hcd:(x==("__classdict__":Str))=false:=by decide):PV X (.Name x pos) (gv i):=by
 refine oh (su hN hv hd hcd) λσ H Q=>?_;rintro⟨H0,F,ψ,d,r,e,q⟩;unfold gv at e;cases z:ψ[i]? with
 | none=>rw[z] at e;cases e
 | some s =>
  rw[z] at e;cases s with
  | val d' =>
   cases e;obtain⟨u,e1,v,e2,h⟩:=r.sl i _ z;subst e2;exact⟨v,e1,q v H F (.refl _) (.refl _) r.fh (.refl _ _) h⟩
  | no=>cases e
  | own _=>cases e
  | dic _=>cases e
  | dki _ _=>cases e
  | tab _=>cases e
  | fn _=>cases e
  | owk _ _=>cases e
  | dkt _=>cases e
theorem Fa {e:Expr}{d:D}{v:V}(h:PE X e (tC v))(r:∀ K F,md K F d v):PV X e (λ_=>Ga d):=by
 refine oh h λσ H Q=>?_;rintro⟨H0,F,ψ,d',rs,e,q⟩;cases e;exact q v H F (.refl _) (.refl _) rs.fh (.refl _ _) (r _ _)
theorem iR {i j}:PV X (.Constant (.int i) j pos) (λ_=>Ga (.int i)):=Fa Mo λ_ _=>.int i
theorem pP {b j}:PV X (.Constant (.bool b) j pos) (λ_=>Ga (.bool b)):=Fa QE λ_ _=>.bl b
theorem pR {j}:PV X (.Constant .none j pos) (λ_=>Ga .none):=Fa Lm λ_ _=>.non
theorem GV {x:String}{j}:PV X (.Constant (.str x) j pos) (λ_=>Ga (.str x)):=Fa ND λ_ _=>.str _
theorem lr:PL X [] (λ_=>Ga []):=by
 refine⟨Hm pM λσ H Q=>?_,λψ ds e=>by cases e;rfl⟩;rintro⟨H0,F,ψ,ds,r,e,q⟩;cases e;exact q [] H F (.refl _) (.refl _) r.fh (.refl _ _) .nil
theorem iQ {e:Expr}{es:List Expr}{f:FV}{g:FL}(ha:PV X e f)(hr:PL X es g)(hs:starEach (e::es) X.env=(false,eval e X.env)::starEach es X.env:=by rfl) :
  PL X (e::es) (λψ=>(f ψ).bind λd=>(g ψ).bind λds=>Ga (d::ds)):=by
 refine⟨Hm (nL ha hr.pa hs) λσ H Q=>?_,λψ ds e=>?_⟩
 .rintro⟨H0,F,ψ,ds,r,e,q⟩;obtain⟨d,e1,e⟩:=iO e;obtain⟨ds',e2,e⟩:=iO e;cases e;refine⟨H0,F,ψ,d,r,e1,λv H1 F1 g1 f1 fh1 n1 rv=>⟨H0,F1,ψ,ds',r.grow g1 f1 fh1 n1,e2,λvs H2 F2 g2 f2 fh2 n2 rvs=>?_⟩⟩;exact q (v::vs) H2 F2 (g1.trans g2) (f1.trans f2) fh2 (n1.trans n2 g1) (.cons (rv.mono f2) rvs)
 .obtain⟨d,e1,e⟩:=iO e;obtain⟨ds',e2,e⟩:=iO e;cases e;exact congrArg JR (hr.len ψ _ e2)
theorem rB {es:List Expr}{x1}{g:FL}(h:PL X es g)(hz:es.length<=1000:=by decide):PV X (.Tuple es x1 pos) (λψ=>(g ψ).bind λds=>Ga (.tuple ds)):=by
 refine oh (PY h.pa) λσ H Q=>?_;rintro⟨H0,F,ψ,d,r,e,q⟩;obtain⟨ds,e1,e⟩:=iO e;cases e;refine⟨H0,F,ψ,ds,r,e1,λvs H1 F1 g1 f1 fh1 n1 rv=>⟨?_,λp hp=>?_⟩⟩
 .rw[<- rv.length,h.len ψ ds e1];exact uA (Ah hz)
 .have fp:F1 p=Gb:=fh1.free hp;have s1:iP F1 (upd F1 p (.tup vs)):=iP.new fp;have s2:iP H1 (upd H1 p (.tup vs)):=iP.new hp;refine q (.ref p) (upd H1 p (.tup vs)) (upd F1 p (.tup vs)) (g1.trans s2) (f1.trans s1) (λb o h=>?_) (λb o h nb=>?_) (.tup (oB.of lB) (rv.mono s1))
  .exact iP.up2 (ob:=.tup vs) fh1 fp hp trivial b o h
  .by_cases hb:b=p
   .subst hb;exact g1.free hp
   .rw[ls hb] at h;exact n1 b o h nb
theorem rF {es:List Expr}{g:FL}(h:PL X es g)(hz:es.length<=1000:=by decide):PO X (.List es pos) g:=by
 refine oh (Pi h.pa) λσ H Q=>?_;rintro⟨H0,F,ψ,ds,r,e1,q⟩;refine⟨H0,F,ψ,ds,r,e1,λvs H1 F1 g1 f1 fh1 n1 rv=>⟨?_,λp hp=>?_⟩⟩
 .rw[<- rv.length,h.len ψ ds e1];exact uA (Ah hz)
 .have s2:iP H1 (upd H1 p (.lst vs)):=iP.new hp;exact q p vs (upd H1 p (.lst vs)) F1 (g1.trans s2) f1 (fh1.trans s2) n1 (g1.free hp) (fh1.free hp) lB rv
def wE (K:ja)(r:R2)(g:D->D->Option D):Prop:=∀ (F H:Hp) (x y:V) (a b d:D) (Q:VK),iP F H->md K F a x->md K F b y->g a b=Ga d ->
 (∀ v H' F',iP H H'->iP F F'->iP F' H'->mz F F' H->md K F' d v->Q v H')->r x y H Q
theorem Ip {K:ja}{r:R2}{g:D->D->Option D}(hr:wE K r g){fa fb:FV}{σ:St}{H:Hp}{Q:VK}(h:tV K (λψ=>(fa ψ).bind λa=>(fb ψ).bind λb=>g a b) σ H Q):Ej r (tV K fa) (tV K fb) σ H Q:=by
 obtain⟨H0,F,ψ,d,rs,e,q⟩:=h;obtain⟨a,e1,e⟩:=iO e;obtain⟨b,e2,e⟩:=iO e;refine⟨H0,F,ψ,a,rs,e1,λv H1 F1 g1 f1 fh1 n1 rv=>⟨H0,F1,ψ,b,rs.grow g1 f1 fh1 n1,e2,λu H2 F2 g2 f2 fh2 n2 ru=>?_⟩⟩;refine hr F2 H2 v u a b d Q fh2 (rv.mono f2) ru e λw H3 F3 g3 f3 fh3 n3 rw3=>?_;exact q w H3 F3 ((g1.trans g2).trans g3) ((f1.trans f2).trans f3) fh3 ((n1.trans n2 g1).trans n3 (g1.trans g2)) rw3
theorem wU {op:Operator}{r:R2}{g:D->D->Option D}(ho:nS X (binaryOp op) r)(hr:wE X.K r g){a b:Expr}{fa fb:FV}(ha:PV X a fa)(hb:PV X b fb) :
  PV X (.BinOp a op b pos) (λψ=>(fa ψ).bind λx=>(fb ψ).bind λy=>g x y):=oh (GD ho ha hb) λ_ _ _ h=>Ip hr h
theorem Ce {op:CmpOp}{r:R2}{g:D->D->Option D}(ho:nS X (compareOp op) r)(hr:wE X.K r g){a b:Expr}{fa fb:FV}(ha:PV X a fa)(hb:PV X b fb)(hm:behindInMarks op b=false:=by first|exact Ev _|rfl|with_unfolding_all rfl) :
  PV X (.Compare a [op] [b] pos) (λψ=>(fa ψ).bind λx=>(fb ψ).bind λy=>g x y):=oh (IU ho ha hb hm) λ_ _ _ h=>Ip hr h
def nN:D->Option Bool
 | .bool b=>Ga b
 | _=>Gb
theorem BA {d:D}{b:Bool}(h:nN d=Ga b):d=.bool b:=by cases d<;>cases h;rfl
theorem Wd {K:ja}{f:FV}{σ:St}{H:Hp}{Q:Bool->Hp->Prop}(h:tT K (λψ=>(f ψ).bind nN) σ H Q):tV K f σ H (λx H'=>∃ k,x=.bl k/\Q k H'):=by
 obtain⟨H0,F,ψ,b,rs,e,q⟩:=h;obtain⟨d,e1,e2⟩:=iO e;cases BA e2;refine⟨H0,F,ψ,_,rs,e1,λv H1 F1 g1 f1 fh1 n1 rv=>?_⟩;cases rv;exact⟨b,rfl,q H1 g1⟩
theorem ya {op:CmpOp}{r:R2}{g:D->D->Option D}(ho:nS X (compareOp op) r)(hr:wE X.K r g){a b:Expr}{fa fb:FV}(ha:PV X a fa)(hb:PV X b fb)(hm:behindInMarks op b=false:=by first|exact Ev _|rfl|with_unfolding_all rfl) :
  PB X (.Compare a [op] [b] pos) (λψ=>((fa ψ).bind λx=>(fb ψ).bind λy=>g x y).bind nN):=by
 refine GH (II ho ha hb hm) λσ H Q h=>?_;exact Ip hr (Wd h)
def BP:D->Option Bool
 | .none=>Ga false
 | .bool b=>Ga b
 | .int i=>Ga (i !=0)
 | .tuple xs=>Ga (!xs.isEmpty)
 | .list xs=>Ga (!xs.isEmpty)
 | _=>Gb
theorem ly.isEmpty {K:ja}{H:Hp}{ds:List D}{vs:List V}(r:ly K H ds vs):ds.isEmpty=vs.isEmpty:=by cases r<;>rfl
theorem YG {K:ja}{F H:Hp}{d:D}{v:V}{b:Bool}(e:BP d=Ga b)(r:md K F d v)(s:iP F H):FG K v H b:=by
 cases r with
 | non=>cases e;rfl
 | bl c=>cases e;rfl
 | int i=>cases e;rfl
 | str x=>cases e
 | tup h r=>cases e;exact .inr (.inl ⟨_,oN s h,by rw[r.isEmpty]⟩)
 | lst h r=>cases e;exact .inl ⟨_,s.seq h,by rw[r.isEmpty]⟩
 | dic hs h ok r=>cases e
 | dci hs h ok r=>cases e
theorem oO {e:Expr}{f:FV}(h:PV X e f)(he:∀ whole,isTrue e X.env whole=(do let v <- whole;standAt e.pos;holding [v] (truthy v)):=by intro _;rfl):PB X e (λψ=>(f ψ).bind BP):=by
 refine GH (Fv h he) λσ H Q=>?_;rintro⟨H0,F,ψ,b,rs,e,q⟩;obtain⟨d,e1,e2⟩:=iO e;exact⟨H0,F,ψ,d,rs,e1,λv H1 F1 g1 f1 fh1 n1 rv=>⟨b,YG e2 rv fh1,q H1 g1⟩⟩
theorem pL {e:Expr}{f:FB}(h:PB X e f):PB X (.UnaryOp .Not e pos) (λψ=>(f ψ).bind λc=>Ga (!c)):=by
 refine GH (LY h) λσ H Q=>?_;rintro⟨H0,F,ψ,b,rs,e,q⟩;obtain⟨c,z,e⟩:=iO e;cases e;exact⟨H0,F,ψ,c,rs,z,q⟩
theorem BN {a:Expr}{f:FB}(h:PB X a f):oX X (.BoolOp .And [a] pos) f:=IM h
theorem tK {a:Expr}{f:FB}(h:PB X a f):oX X (.BoolOp .Or [a] pos) f:=Kp h
theorem Cg {a b:Expr}{rest:List Expr}{f g:FB}(ha:PB X a f)(hb:oX X (.BoolOp .And (b::rest) pos) g):oX X (.BoolOp .And (a::b::rest) pos) (λψ=>(f ψ).bind λc=>if c then g ψ else Ga false):=by
 refine UF (Px ha hb) λσ H Q=>?_;rintro⟨H0,F,ψ,b,rs,e,q⟩;obtain⟨c,e1,e2⟩:=iO e;refine⟨H0,F,ψ,c,rs,e1,λH1 g1=>?_⟩;cases c with
 | true=>exact wx ⟨H0,F,ψ,b,rs.later g1,e2,λH2 g2=>q H2 (g1.trans g2)⟩
 | false=>cases e2;exact wz (q H1 g1)
theorem oH {a b:Expr}{rest:List Expr}{f g:FB}(ha:PB X a f)(hb:oX X (.BoolOp .Or (b::rest) pos) g):oX X (.BoolOp .Or (a::b::rest) pos) (λψ=>(f ψ).bind λc=>if c then Ga true else g ψ):=by
 refine UF (QA ha hb) λσ H Q=>?_;rintro⟨H0,F,ψ,b,rs,e,q⟩;obtain⟨c,e1,e2⟩:=iO e;refine⟨H0,F,ψ,c,rs,e1,λH1 g1=>?_⟩;cases c with
 | false=>exact wz ⟨H0,F,ψ,b,rs.later g1,e2,λH2 g2=>q H2 (g1.trans g2)⟩
 | true=>cases e2;exact wx (q H1 g1)
theorem oX.b {e:Expr}{f:FB}(h:oX X e f):PB X e f:=PW.pt h
theorem yh {op}{a:Expr}{f:FV}(h:PV X a f):PV X (.BoolOp op [a] pos) f:=MW h
theorem yx {a b:Expr}{rest:List Expr}{f g:FV}(ha:PV X a f)(hb:PV X (.BoolOp .And (b::rest) pos) g):PV X (.BoolOp .And (a::b::rest) pos) (λψ=>((f ψ).bind nN).bind λc=>if c then g ψ else Ga (.bool false)):=by
 refine oh (KC ha hb) λσ H Q=>?_;rintro⟨H0,F,ψ,d,rs,e,q⟩;obtain⟨c,e1,e2⟩:=iO e;obtain⟨d',e3,e4⟩:=iO e1;cases BA e4;refine⟨H0,F,ψ,_,rs,e3,λv H1 F1 g1 f1 fh1 n1 rv=>?_⟩;cases rv;refine⟨c,rfl,?_⟩;cases c with
 | true=>exact wx ⟨H0,F1,ψ,d,rs.grow g1 f1 fh1 n1,e2,λw H2 F2 g2 f2 fh2 n2 rw2=>q w H2 F2 (g1.trans g2) (f1.trans f2) fh2 (n1.trans n2 g1) rw2⟩
 | false=>cases e2;exact wz (q (.bl false) H1 F1 g1 f1 fh1 n1 (.bl false))
theorem PZ {a b:Expr}{rest:List Expr}{f g:FV}(ha:PV X a f)(hb:PV X (.BoolOp .Or (b::rest) pos) g):PV X (.BoolOp .Or (a::b::rest) pos) (λψ=>((f ψ).bind nN).bind λc=>if c then Ga (.bool true) else g ψ):=by
 refine oh (Qy ha hb) λσ H Q=>?_;rintro⟨H0,F,ψ,d,rs,e,q⟩;obtain⟨c,e1,e2⟩:=iO e;obtain⟨d',e3,e4⟩:=iO e1;cases BA e4;refine⟨H0,F,ψ,_,rs,e3,λv H1 F1 g1 f1 fh1 n1 rv=>?_⟩;cases rv;refine⟨c,rfl,?_⟩;cases c with
 | false=>exact wz ⟨H0,F1,ψ,d,rs.grow g1 f1 fh1 n1,e2,λw H2 F2 g2 f2 fh2 n2 rw2=>q w H2 F2 (g1.trans g2) (f1.trans f2) fh2 (n1.trans n2 g1) rw2⟩
 | true=>cases e2;exact wx (q (.bl true) H1 F1 g1 f1 fh1 n1 (.bl true))
theorem Lj {a:Expr}{f:FV}(ha:PV X a f):PV X (.UnaryOp .Not a pos) (λψ=>((f ψ).bind nN).bind λc=>Ga (.bool (!c))):=by
 refine oh (MR ha) λσ H Q=>?_;rintro⟨H0,F,ψ,d,rs,e,q⟩;obtain⟨c,e1,e2⟩:=iO e;obtain⟨d',e3,e4⟩:=iO e1;cases BA e4;cases e2;refine⟨H0,F,ψ,_,rs,e3,λv H1 F1 g1 f1 fh1 n1 rv=>?_⟩;cases rv;exact⟨c,rfl,q (.bl (!c)) H1 F1 g1 f1 fh1 n1 (.bl _)⟩
theorem BS {c a b:Expr}{fc:FB}{f g:FV}(hc:PB X c fc)(ha:PV X a f)(hb:PV X b g):PV X (.IfExp c a b pos) (λψ=>(fc ψ).bind λk=>if k then f ψ else g ψ):=by
 refine oh (FY hc ha hb) λσ H Q=>?_;rintro⟨H0,F,ψ,d,rs,e,q⟩;obtain⟨k,e1,e2⟩:=iO e;refine⟨H0,F,ψ,k,rs,e1,λH1 g1=>?_⟩;cases k with
 | true=>exact wx ⟨H0,F,ψ,d,rs.later g1,e2,λw H2 F2 g2 f2 fh2 n2 rw2=>q w H2 F2 (g1.trans g2) f2 fh2 (λb o h nb=>g1.free (n2 b o h nb)) rw2⟩
 | false=>exact wz ⟨H0,F,ψ,d,rs.later g1,e2,λw H2 F2 g2 f2 fh2 n2 rw2=>q w H2 F2 (g1.trans g2) f2 fh2 (λb o h nb=>g1.free (n2 b o h nb)) rw2⟩
end
section
variable {X:Cx}{ω:List (Gj×Obj)}{σ:St}{F H:Hp}{s:Gh}
mutual
def tJ:D->Bool
 | .dict _=>false
 | .list xs=>wa xs
 | .tuple xs=>wa xs
 | _=>true
def wa:List D->Bool
 | []=>true
 | x::xs=>tJ x&&wa xs
end
mutual
theorem BZ:∀ {d:D},d.canLay0=true->tJ d=true
 | .none,_=>by rw[tJ]<;>(intros;contradiction)
 | .bool _,_=>by rw[tJ]<;>(intros;contradiction)
 | .int _,_=>by rw[tJ]<;>(intros;contradiction)
 | .str _,_=>by rw[tJ]<;>(intros;contradiction)
 | .list xs,h=>by rw[Jp] at h;rw[tJ];exact EL h
 | .tuple xs,h=>by rw[Jp] at h;rw[tJ];exact EL h
 | .dict _,h=>by rw[Jp] at h;cases h
theorem EL:∀ {ds:List D},kL ds=true->wa ds=true
 | [],_=>by rw[wa]
 | x::xs,h=>by
  rw[kL,jG] at h;rw[wa,BZ h.1,EL h.2];rfl
end
mutual
theorem md.reads (I:iZ X ω σ H s)(g:iP F H):∀ {d:D} {v:V},md X.K F d v->tJ d=true->∀ {u:Gg},lO v u->∃ as,Reads s.heap u d as
 | _,_,.non,_,u,r=>by cases r;exact⟨_,.none⟩
 | _,_,.bl b,_,u,r=>by cases r;exact⟨_,.bool b⟩
 | _,_,.int i,_,u,r=>by obtain⟨t,rfl⟩:=r;exact⟨_,.int i t⟩
 | _,_,.str x,_,u,r=>by obtain⟨t,rfl⟩:=r;exact⟨_,.str x t⟩
 | _,_,.tup h q,pl,u,r=>by
  cases r;rw[tJ] at pl;obtain⟨its,rv,⟨o,e,c,n,d⟩,_⟩:=I.tuple (oN g h);obtain⟨as,ra⟩:=ly.reads I g q pl rv;exact⟨_,.tuple e c d (by simpa using ra)⟩
 | _,_,.lst h q,pl,u,r=>by
  cases r;rw[tJ] at pl;obtain⟨its,rv,⟨o,n,e,c,_,d⟩,_⟩:=I.list (g.seq h);obtain⟨as,ra⟩:=ly.reads I g q pl rv;exact⟨_,.list e c d (by simpa using ra)⟩
 | _,_,.dic _ _ _ _,pl,u,r=>by rw[tJ] at pl;cases pl
 | _,_,.dci _ _ _ _,pl,u,r=>by rw[tJ] at pl;cases pl
theorem ly.reads (I:iZ X ω σ H s)(g:iP F H):∀ {ds:List D} {vs:List V},ly X.K F ds vs->wa ds=true->∀ {us:List Gg},lH vs us->∃ as,ReadsAll s.heap us ds as
 | _,_,.nil,_,us,r=>by cases r;exact⟨_,.nil⟩
 | _,_,.cons h t,pl,us,r=>by
  rw[wa,jG] at pl;cases r with
  | cons r1 r2 =>
   obtain⟨as,a⟩:=md.reads I g h pl.1 r1;obtain⟨bs,b⟩:=ly.reads I g t pl.2 r2;exact⟨_,.cons a b⟩
end
end
def tq (a b:D):Bool:=a.canLay0&&b.canLay0&&decide (min a.depth b.depth<=100)
def mm (a b:D):Option D:=if tq a b then Ga (.bool (kN a b)) else Gb
def nG (a b:D):Option D:=if tq a b then Ga (.bool (!PyData.eqv a b)) else Gb
def xH (K:ja)(g:D->D->Option D):R2:=λx y H Q=>∃ F a b d,iP F H/\md K F a x/\md K F b y/\g a b=Ga d/\∀ k,d=.bool k->Q (.bl k) H
theorem Uz {a b:D}(h:tq a b=true):a.canLay0=true/\b.canLay0=true/\min a.depth b.depth<=100:=by
 unfold tq at h;simp only[jG,decide_eq_true_eq] at h;exact⟨h.1.1,h.1.2,h.2⟩
theorem RV {X:Cx}(hu:X.A.units+100<cLine):nS X (compareOp .Eq) (xH X.K mm):=by
 intro ω s σ H x y v u Q I rx ry h;obtain⟨F,a,b,d,g,ra,rb,e,q⟩:=h;unfold mm at e;split at e
 .rename_i ok;obtain⟨h1,h2,h3⟩:=Uz ok;obtain⟨as,ha⟩:=ra.reads I g (BZ h1) rx;obtain⟨bs,hb⟩:=rb.reads I g (BZ h2) ry;refine SeqAt.compareEq_reads ha hb h1 h2 (by omega) ⟨.bl _,H,I,rfl,q _ (jF e).symm⟩
 .cases e
theorem Sg {X:Cx}(hu:X.A.units+100<cLine):nS X (compareOp .NotEq) (xH X.K nG):=by
 intro ω s σ H x y v u Q I rx ry h;obtain⟨F,a,b,d,g,ra,rb,e,q⟩:=h;unfold nG at e;split at e
 .rename_i ok;obtain⟨h1,h2,h3⟩:=Uz ok;obtain⟨as,ha⟩:=ra.reads I g (BZ h1) rx;obtain⟨bs,hb⟩:=rb.reads I g (BZ h2) ry;refine SeqAt.compareNe_reads ha hb h1 h2 (by omega) ⟨.bl _,H,I,rfl,q _ (jF e).symm⟩
 .cases e
theorem xI {K:ja}{g:D->D->Option D}(hg:∀ a b d,g a b=Ga d->∃ k,d=.bool k):wE K (xH K g) g:=by
 intro F H x y a b d Q s ra rb e q;refine⟨F,a,b,d,s,ra,rb,e,λk ek=>?_⟩;subst ek;exact q (.bl k) H F (.refl _) (.refl _) s (.refl _ _) (.bl k)
theorem Tf:∀ a b d,mm a b=Ga d->∃ k,d=.bool k:=λa b d h=>by unfold mm at h;split at h<;>cases h;exact⟨_,rfl⟩
theorem Tj:∀ a b d,nG a b=Ga d->∃ k,d=.bool k:=λa b d h=>by unfold nG at h;split at h<;>cases h;exact⟨_,rfl⟩
def dI (C:Int->Int->Bool)(g:Int->Int->D):D->D->Option D
 | .int i,.int j=>if C i j then Ga (g i j) else Gb
 | _,_=>Gb
theorem DB {K:ja}{C:Int->Int->Prop}{C':Int->Int->Bool}{g:Int->Int->V}{g':Int->Int->D}(hC:∀ i j,C' i j=true->C i j)(hg:∀ i j F,md K F (g' i j) (g i j)):wE K (rI C g) (dI C' g'):=by
 intro F H x y a b d Q s ra rb e q;cases ra<;>cases rb<;>first|(cases e;done)|skip
 rename_i i j;unfold dI at e;dsimp only at e;split at e
 .rename_i c;cases e;exact⟨i,j,rfl,rfl,hC i j c,q _ H F (.refl _) (.refl _) s (.refl _ _) (hg i j F)⟩
 .cases e
def xi (g:Int->Int->D):D->D->Option D
 | .int i,.int j=>Ga (g i j)
 | _,_=>Gb
theorem sS {K:ja}{g:Int->Int->V}{g':Int->Int->D}(hg:∀ i j F,md K F (g' i j) (g i j)):wE K (wZ g) (xi g'):=by
 intro F H x y a b d Q s ra rb e q;cases ra<;>cases rb<;>first|(cases e;done)|skip
 rename_i i j;cases e;exact⟨i,j,rfl,rfl,q _ H F (.refl _) (.refl _) s (.refl _ _) (hg i j F)⟩
def nV:D->D->Option D:=xi λi j=>.int (i-j)
def tP (i j:Int):Bool:=(decide (-(2^64)<i)&&decide (i<2^64))||(decide (-(2^64)<j)&&decide (j<2^64))
def mM:D->D->Option D:=dI tP λi j=>.int (i*j)
def mS:D->D->Option D:=dI (λ_ j=>decide (0<j)&&decide (j<1073741824)) λi j=>.int (i/j)
def lM:D->D->Option D:=dI (λ_ j=>decide (0<j)) λi j=>.int (i%j)
def pO:D->D->Option D:=dI (λi j=>decide (0<=j)&&decide (j<=1000000)&&decide (i.natAbs<2^64)) λi j=>.int (i^j.toNat)
def Ls:D->D->Option D:=xi λi j=>.int (uV i j)
def Ha:D->D->Option D:=xi λi j=>.int (Jx i j)
def rJ:D->D->Option D:=xi λi j=>.bool (decide (i<j))
def sT:D->D->Option D:=xi λi j=>.bool (decide (i<=j))
def sd:D->D->Option D:=xi λi j=>.bool (decide (j<i))
def ET:D->D->Option D:=xi λi j=>.bool (decide (j<=i))
def lJ:D->D->Option D
 | .int i,.int j=>Ga (.int (i+j))
 | .tuple xs,.tuple ys=>if xs.length+ys.length<=sizeLine then Ga (.tuple (xs++ys)) else Gb
 | .list xs,.list ys=>if xs.length+ys.length<=sizeLine then Ga (.list (xs++ys)) else Gb
 | .str x,.str y=>if x.length+y.length<=sizeLine then Ga (.str (x++y)) else Gb
 | _,_=>Gb
section
variable {X:Cx}
theorem zzE {ω:List (Gj×Obj)}{s:Gh}{σ:St}{H:Hp}{a b:Gj}{ys:List V}{Q:Gg->Gh->Prop}(I:iZ X ω σ H s)(ha:oB X.K H a [])(hb:oB X.K H b ys)(h:Q (.ref b) s) :
  wpAny (model X.prog X.w) X.A (binaryOp .Add (.ref a) (.ref b)) Q X.xe s:=by
 obtain⟨its,r1,p1,_⟩:=I.tuple ha;obtain⟨its2,r2,p2,_⟩:=I.tuple hb;cases r1;obtain⟨⟨cls,dd,data,sl⟩,ho,hc,n,hd⟩:=id p1;obtain⟨⟨cls2,dd2,data2,sl2⟩,ho2,hc2,n2,hd2⟩:=id p2;simp only at hc hd hc2 hd2;subst hc hd hc2 hd2;exact concat_meets ⟨_,ho,rfl⟩ ⟨_,ho2,rfl⟩ noFill_tuple_add seq_tuple_add vR vJ (vF _ _)
   (tuple_addW0 a b #[] its2.toArray n n2 dd dd2 sl sl2 (by rfl)) ⟨ho,ho2,h⟩
def GT (K:ja):R2:=λx y H Q=>∃ F a b d,iP F H/\md K F a x/\md K F b y/\lJ a b=Ga d/\∀ v H' F',iP H H'->iP F F'->iP F' H'->mz F F' H->md K F' d v->Q v H'
theorem zC {F H:Hp}{p:Gj}{o:HO}(g:iP F H)(hp:H p=Gb)(pl:Pl o:=by trivial):iP H (upd H p o)/\iP F (upd F p o)/\iP (upd F p o) (upd H p o)/\mz F (upd F p o) H:=by
 have fp:F p=Gb:=g.free hp;refine⟨iP.new hp,iP.new fp,iP.up2 g fp hp pl,λb u h nb=>?_⟩
 .by_cases hb:b=p
  .subst hb;exact hp
  .rw[ls hb,nb] at h;cases h
theorem zBL:nS X (binaryOp .Add) (GT X.K):=by
 intro ω s σ H x y v u Q I rx ry h;obtain⟨F,a,b,d,g,ra,rb,e,q⟩:=h;cases ra with
 | int i =>
  cases rb<;>first|(cases e;done)|skip
  cases e;exact NO ω s σ H _ _ v u Q I rx ry ⟨i,_,rfl,rfl,q _ H F (.refl _) (.refl _) g (.refl _ _) (.int _)⟩
 | str i =>
  cases rb<;>first|(cases e;done)|skip
  unfold lJ at e;dsimp only at e;split at e
  .rename_i c;cases e;exact Dw ω s σ H _ _ v u Q I rx ry ⟨i,_,rfl,rfl,c,q _ H F (.refl _) (.refl _) g (.refl _ _) (.str _)⟩
  .cases e
 | @tup p xs ds h1 q1 =>
  cases rb<;>first|(cases e;done)|skip
  rename_i p2 xs2 ds2 h2 q2;unfold lJ at e;dsimp only at e;split at e
  .rename_i c;cases e;by_cases hx:xs=[]
   .subst hx;cases q1;cases rx;cases ry;exact zzE I (oN g h1) (oN g h2) ⟨.ref p2,H,I,rfl,q _ H F (.refl _) (.refl _) g (.refl _ _) (.tup h2 q2)⟩
   .refine Ix ω s σ H _ _ v u Q I rx ry ⟨p,p2,xs,xs2,rfl,rfl,oN g h1,oN g h2,hx,by rw[<- q1.length,<- q2.length];exact c,λz=>?_,λz l hl=>?_⟩
    .subst z;cases q2;exact q _ H F (.refl _) (.refl _) g (.refl _ _) (by rw[kz];exact .tup h1 q1)
    .obtain⟨s1,s2,s3,s4⟩:=zC (o:=.tup (xs++xs2)) g hl;exact q _ _ _ s1 s2 s3 s4 (.tup (oB.of lB) ((q1.append q2).mono s2))
  .cases e
 | @lst p xs ds h1 q1 =>
  cases rb<;>first|(cases e;done)|skip
  rename_i p2 xs2 ds2 h2 q2;unfold lJ at e;dsimp only at e;split at e
  .rename_i c;cases e;cases rx;cases ry;obtain⟨its,r,pl,hz⟩:=I.list (g.seq h1);obtain⟨its2,r2,pl2,hz2⟩:=I.list (g.seq h2);obtain⟨o,n,e1,c1,d1,k1⟩:=pl;obtain⟨o2,n2,e2,c2,d2,k2⟩:=pl2;have l1:=q1.length;have l2:=q2.length;have l3:=r.length;have l4:=r2.length;obtain⟨oc,od,oda,osl⟩:=o;obtain⟨oc2,od2,oda2,osl2⟩:=o2;simp only at c1 d1 k1 c2 d2 k2;subst c1 d1 k1 c2 d2 k2;refine concat_meets ⟨_,e1,rfl⟩ ⟨_,e2,rfl⟩ noFill_list_add seq_list_add PySem.F.slot_list_add PySem.F.entry_list_add (PySem.F.args_list_add_2 _ _)
    (list_addW p p2 its.toArray its2.toArray n n2 _ _ _ _ (by rw[jm,jm];omega)) ⟨e1,e2,?_⟩
   have ea:its.toArray++its2.toArray=(its++its2).toArray:=by simp
   rw[ea];obtain⟨s1,s2,s3,s4⟩:=zC (o:=.lst (xs++xs2)) g I.fresh;exact⟨.ref _,_,I.lnew (t':=s.toks) (r.append r2) (by rw[jg];omega),rfl,q _ _ _ s1 s2 s3 s4 (.lst (nr.of lB) ((q1.append q2).mono s2))⟩
  .cases e
 | non=>cases e
 | bl k=>cases e
 | dic hs h ok r=>cases e
 | dci hs h ok r=>cases e
theorem zDF {K:ja}:wE K (GT K) lJ:=λF H x y a b d Q s ra rb e q=>⟨F,a,b,d,s,ra,rb,e,q⟩
end
section
variable {X:Cx}{pos:Pos}{a b:Expr}{f g:FV}
theorem nT (ha:PV X a f)(hb:PV X b g):PV X (.BinOp a .Add b pos) (λψ=>(f ψ).bind λx=>(g ψ).bind λy=>lJ x y):=wU zBL zDF ha hb
theorem sC (ha:PV X a f)(hb:PV X b g):PV X (.BinOp a .Sub b pos) (λψ=>(f ψ).bind λx=>(g ψ).bind λy=>nV x y):=wU LB (sS λ_ _ _=>.int _) ha hb
theorem tE (ha:PV X a f)(hb:PV X b g):PV X (.BinOp a .Mult b pos) (λψ=>(f ψ).bind λx=>(g ψ).bind λy=>mM x y) :=
 wU Py (DB (λi j h=>by simpa [tP,DM] using h) λ_ _ _=>.int _) ha hb
theorem sB (ha:PV X a f)(hb:PV X b g):PV X (.BinOp a .FloorDiv b pos) (λψ=>(f ψ).bind λx=>(g ψ).bind λy=>mS x y) :=
 wU IL (DB (λi j h=>by simpa [Ol] using h) λ_ _ _=>.int _) ha hb
theorem oJ (ha:PV X a f)(hb:PV X b g):PV X (.BinOp a .Mod b pos) (λψ=>(f ψ).bind λx=>(g ψ).bind λy=>lM x y) :=
 wU KM (DB (λi j h=>by simpa using h) λ_ _ _=>.int _) ha hb
theorem Da (ha:PV X a f)(hb:PV X b g):PV X (.BinOp a .Pow b pos) (λψ=>(f ψ).bind λx=>(g ψ).bind λy=>pO x y) :=
 wU Mz (DB (λi j h=>by simpa [NJ,and_assoc] using h) λ_ _ _=>.int _) ha hb
theorem zDG (ha:PV X a f)(hb:PV X b g):PV X (.BinOp a .BitAnd b pos) (λψ=>(f ψ).bind λx=>(g ψ).bind λy=>Ls x y):=wU Lq (sS λ_ _ _=>.int _) ha hb
theorem Xw (ha:PV X a f)(hb:PV X b g):PV X (.BinOp a .BitOr b pos) (λψ=>(f ψ).bind λx=>(g ψ).bind λy=>Ha x y):=wU Qz (sS λ_ _ _=>.int _) ha hb
theorem FR (ha:PV X a f)(hb:PV X b g):PV X (.Compare a [.Lt] [b] pos) (λψ=>(f ψ).bind λx=>(g ψ).bind λy=>rJ x y):=Ce AQ (sS λ_ _ _=>.bl _) ha hb
theorem WA (ha:PV X a f)(hb:PV X b g):PV X (.Compare a [.LtE] [b] pos) (λψ=>(f ψ).bind λx=>(g ψ).bind λy=>sT x y):=Ce ym (sS λ_ _ _=>.bl _) ha hb
theorem VN (ha:PV X a f)(hb:PV X b g):PV X (.Compare a [.Gt] [b] pos) (λψ=>(f ψ).bind λx=>(g ψ).bind λy=>sd x y):=Ce Ij (sS λ_ _ _=>.bl _) ha hb
theorem Bn (hu:X.A.units+100<cLine)(ha:PV X a f)(hb:PV X b g):PV X (.Compare a [.Eq] [b] pos) (λψ=>(f ψ).bind λx=>(g ψ).bind λy=>mm x y):=Ce (RV hu) (xI Tf) ha hb
theorem Fu (hu:X.A.units+100<cLine)(ha:PV X a f)(hb:PV X b g):PV X (.Compare a [.NotEq] [b] pos) (λψ=>(f ψ).bind λx=>(g ψ).bind λy=>nG x y):=Ce (Sg hu) (xI Tj) ha hb
theorem yL (ha:PV X a f)(hb:PV X b g):PB X (.Compare a [.Lt] [b] pos) (λψ=>((f ψ).bind λx=>(g ψ).bind λy=>rJ x y).bind nN):=ya AQ (sS λ_ _ _=>.bl _) ha hb
theorem DE (ha:PV X a f)(hb:PV X b g):PB X (.Compare a [.LtE] [b] pos) (λψ=>((f ψ).bind λx=>(g ψ).bind λy=>sT x y).bind nN):=ya ym (sS λ_ _ _=>.bl _) ha hb
theorem ww (ha:PV X a f)(hb:PV X b g):PB X (.Compare a [.Gt] [b] pos) (λψ=>((f ψ).bind λx=>(g ψ).bind λy=>sd x y).bind nN):=ya Ij (sS λ_ _ _=>.bl _) ha hb
theorem Ms (ha:PV X a f)(hb:PV X b g):PB X (.Compare a [.GtE] [b] pos) (λψ=>((f ψ).bind λx=>(g ψ).bind λy=>ET x y).bind nN):=ya Qx (sS λ_ _ _=>.bl _) ha hb
theorem oz (hu:X.A.units+100<cLine)(ha:PV X a f)(hb:PV X b g):PB X (.Compare a [.Eq] [b] pos) (λψ=>((f ψ).bind λx=>(g ψ).bind λy=>mm x y).bind nN):=ya (RV hu) (xI Tf) ha hb
theorem sX (hu:X.A.units+100<cLine)(ha:PV X a f)(hb:PV X b g):PB X (.Compare a [.NotEq] [b] pos) (λψ=>((f ψ).bind λx=>(g ψ).bind λy=>nG x y).bind nN):=ya (Sg hu) (xI Tj) ha hb
end
def tSh (K:ja)(f:FL):TE:=λσ H Q=>∃ H0 F ψ ds,RS K H0 F H ψ σ/\f ψ=Ga ds /\
 ∀ a xs H' F',iP H H'->iP F F'->iP F' H'->mz F F' H->nr K H' a xs->ly K F' ds xs->Q (.ref a) H'
abbrev xQ (X:Cx)(e:Expr)(f:FL):Prop:=PE X e (tSh X.K f)
def yv:D->Option (List D)
 | .list xs=>Ga xs
 | _=>Gb
def xY:D->Option (List D)
 | .tuple xs=>Ga xs
 | _=>Gb
theorem Vw {d:D}{xs:List D}(h:yv d=Ga xs):d=.list xs:=by cases d<;>cases h;rfl
theorem Vh {d:D}{xs:List D}(h:xY d=Ga xs):d=.tuple xs:=by cases d<;>cases h;rfl
def gl (i:Nat):FL:=λψ=>match ψ[i]? with
 | some (.own ds)=>Ga ds
 | some (.val (.list ds))=>Ga ds
 | _=>Gb
section
variable {X:Cx}{pos:Pos}
theorem PV.sh {e:Expr}{f:FV}(h:PV X e f):xQ X e (λψ=>(f ψ).bind yv):=by
 refine oh h λσ H Q=>?_;rintro⟨H0,F,ψ,ds,r,e,q⟩;obtain⟨d,e1,e2⟩:=iO e;cases Vw e2;refine⟨H0,F,ψ,_,r,e1,λv H' F' g f1 fh n rv=>?_⟩;cases rv with
 | lst h1 h2=>exact q _ _ H' F' g f1 fh n (fh.seq h1) h2
theorem PO.sh {e:Expr}{f:FL}(h:PO X e f):xQ X e f:=by
 refine oh h λσ H Q=>?_;rintro⟨H0,F,ψ,ds,r,e,q⟩;exact⟨H0,F,ψ,ds,r,e,λa xs H' F' g f1 fh n ha fa ha' rr=>q a xs H' F' g f1 fh n (nr.of ha') rr⟩
theorem xt (i:Nat){x:Str}(hN:X.N[i]?=Ga x:=by rfl)(hv:xR X.env.scope x:=by first|exact uu rfl|exact kS (uu rfl)|exact kS (kS rfl))(hd:(x==("__debug__":Str))=false:=by decide)
  (hcd:(x==("__classdict__":Str))=false:=by decide):xQ X (.Name x pos) (gl i):=by
 refine oh (su hN hv hd hcd) λσ H Q=>?_;rintro⟨H0,F,ψ,ds,r,e,q⟩;unfold gl at e;split at e
 .rename_i ds' z;cases e;obtain⟨u,e1,a,xs,e2,ha,fa,h0a,rr⟩:=r.sl i _ z;subst e2;exact⟨.ref a,e1,q a xs H F (.refl _) (.refl _) r.fh (.refl _ _) (nr.of ha) rr⟩
 .rename_i ds' z;cases e;obtain⟨u,e1,v,e2,h⟩:=r.sl i _ z;subst e2;cases h with
  | lst h1 h2=>exact⟨_,e1,q _ _ H F (.refl _) (.refl _) r.fh (.refl _ _) (r.fh.seq h1) h2⟩
 .cases e
def iY:D->D->Option D
 | .list xs,.int i=>atI xs i
 | .tuple xs,.int i=>atI xs i
 | _,_=>Gb
theorem ly.at {K:ja}{F:Hp}{ds:List D}{vs:List V}(r:ly K F ds vs){i:Int}{d:D}(h:atI ds i=Ga d):∃ v,atI vs i=Ga v/\md K F d v:=by
 unfold atI at h ⊢;rw[<- r.length];obtain⟨j,e1,e2⟩:=iO h;obtain⟨v,e3,e4⟩:=r.get e2;exact⟨v,by rw[e1];exact e3,e4⟩
theorem zF8 {K:ja}:wE K (Th K) iY:=by
 intro F H x y a b d Q s ra rb e q;cases ra<;>first|(cases e;done)|skip
 .rename_i p xs ds h1 h2;cases rb<;>first|(cases e;done)|skip
  rename_i i;obtain⟨v,e1,e2⟩:=h2.at e;exact .inr (.inl ⟨p,xs,i,v,rfl,rfl,oN s h1,e1,q v H F (.refl _) (.refl _) s (.refl _ _) e2⟩)
 .rename_i p xs ds h1 h2;cases rb<;>first|(cases e;done)|skip
  rename_i i;obtain⟨v,e1,e2⟩:=h2.at e;exact .inl ⟨p,xs,i,v,rfl,rfl,s.seq h1,e1,q v H F (.refl _) (.refl _) s (.refl _ _) e2⟩
theorem lc {a b:Expr}{f g:FV}(ha:PV X a f)(hb:PV X b g)(hs:zN b:=by exact λ_ _=>rfl):PV X (.Subscript a b pos) (λψ=>(f ψ).bind λx=>(g ψ).bind λy=>iY x y) :=
 oh (Ir Mb ha hb hs) λ_ _ _ h=>Ip zF8 h
def zK (xs:List D):D->Option D
 | .int i=>atI xs i
 | _=>Gb
theorem yu {a b:Expr}{f:FL}{g:FV}(ha:xQ X a f)(hb:PV X b g)(hs:zN b:=by exact λ_ _=>rfl):PV X (.Subscript a b pos) (λψ=>(f ψ).bind λx=>(g ψ).bind λy=>zK x y):=by
 refine oh (Ir CC ha hb hs) λσ H Q=>?_;rintro⟨H0,F,ψ,d,r,e,q⟩;obtain⟨ds,e1,e⟩:=iO e;obtain⟨b,e2,e⟩:=iO e;refine⟨H0,F,ψ,ds,r,e1,λp xs H1 F1 g1 f1 fh1 n1 hl rr=>⟨H0,F1,ψ,b,r.grow g1 f1 fh1 n1,e2,λu H2 F2 g2 f2 fh2 n2 ru=>?_⟩⟩;cases ru<;>first|(cases e;done)|skip
 rename_i i;obtain⟨v,e3,e4⟩:=rr.at e;exact⟨p,xs,i,v,rfl,rfl,g2.seq hl,e3,q v H2 F2 (g1.trans g2) (f1.trans f2) fh2 (n1.trans n2 g1) (e4.mono f2)⟩
theorem xU {e:Expr}{te:TE}{p:Pos}{x:Str}{id:String}{r:List V->Hp->VK->Prop}(hc:nZ X (.builtin id) r)(hg:Gl X x)(hm:X.mg x=Gb)(hv:bootBuiltins x=Ga (.builtin id))(ha:PE X e te)
  (hn:x≠"__name__":=by decide) (hdb:(x==("__debug__":Str))=false:=by decide) (hs:starEach [e] X.env=[(false,eval e X.env)]:=by rfl):PE X (.Call (.Name x p) [e] [] pos) (λσ H Q=>te σ H λv H1=>r [v] H1 Q) :=
 oh (yK hc hg hm hv (nL ha pM hs) hn hdb hs (by rfl)) λσ H Q h=>h
theorem Xu {e:Expr}{te:TE}{p:Pos}{x:Str}{id:String}{r:List V->Hp->VK->Prop}(hc:nZ X (.type id) r)(hg:Gl X x)(hm:X.mg x=Gb)(hv:bootBuiltins x=Ga (.type id))(ha:PE X e te)
  (hn:x≠"__name__":=by decide) (hdb:(x==("__debug__":Str))=false:=by decide) (hs:starEach [e] X.env=[(false,eval e X.env)]:=by rfl):PE X (.Call (.Name x p) [e] [] pos) (λσ H Q=>te σ H λv H1=>r [v] H1 Q) :=
 oh (EA hc hg hm hv (nL ha pM hs) hn hdb hs (by rfl)) λσ H Q h=>h
def ma:D->Option D
 | .list xs=>Ga (.int xs.length)
 | .tuple xs=>Ga (.int xs.length)
 | _=>Gb
theorem oY {e:Expr}{f:FV}{p:Pos}(hg:Gl X "len")(hm:X.mg "len"=Gb)(ha:PV X e f)(hs:starEach [e] X.env=[(false,eval e X.env)]:=by rfl):PV X (.Call (.Name "len" p) [e] [] pos) (λψ=>(f ψ).bind ma):=by
 refine oh (xU Be hg hm Vb ha (hs:=hs)) λσ H Q=>?_;rintro⟨H0,F,ψ,d,r,e,q⟩;obtain⟨d',e1,e⟩:=iO e;refine⟨H0,F,ψ,d',r,e1,λv H1 F1 g1 f1 fh1 n1 rv=>?_⟩;cases rv<;>first|(cases e;done)|skip
 .rename_i p xs ds h1 h2;cases e;exact⟨p,xs,rfl,.inr (oN fh1 h1),q _ H1 F1 g1 f1 fh1 n1 (by rw[h2.length];exact .int _)⟩
 .rename_i p xs ds h1 h2;cases e;exact⟨p,xs,rfl,.inl (fh1.seq h1),q _ H1 F1 g1 f1 fh1 n1 (by rw[h2.length];exact .int _)⟩
theorem zu {e:Expr}{f:FL}{p:Pos}(hg:Gl X "tuple")(hm:X.mg "tuple"=Gb)(ha:xQ X e f)(hs:starEach [e] X.env=[(false,eval e X.env)]:=by rfl):PV X (.Call (.Name "tuple" p) [e] [] pos) (λψ=>(f ψ).bind λxs=>Ga (.tuple xs)):=by
 refine oh (Xu AN hg hm boot_tuple ha (hs:=hs)) λσ H Q=>?_;rintro⟨H0,F,ψ,d,r,e,q⟩;obtain⟨ds,e1,e⟩:=iO e;cases e;refine⟨H0,F,ψ,ds,r,e1,λp xs H1 F1 g1 f1 fh1 n1 hl rr=>⟨p,xs,rfl,.inl ⟨hl,λl hl'=>?_⟩⟩⟩;obtain⟨s1,s2,s3,s4⟩:=zC (o:=.tup xs) fh1 hl';exact q _ _ _ (g1.trans s1) (f1.trans s2) s3 (n1.trans s4 g1) (.tup (oB.of lB) (rr.mono s2))
def Hk:D->String
 | .none=>"NoneType"|.bool _=>"bool"|.int _=>"int"|.str _=>"str"|.list _=>"list"|.tuple _=>"tuple"|.dict _=>"dict"
def Ho (T:String)(d:D):Bool:=Hk d==T||(T=="int"&&Hk d=="bool")
def Ie:List String:=["int","bool","str","list","tuple"]
theorem zBM {K:ja}{T:String}(hT:T∈Ie)(d:D):PySem.W.kitOne K (.type (Hk d)) (.type T)=Ga (Ho T d):=by
 simp only[Ie,ju,kH,or_false] at hT;rcases hT with rfl|rfl|rfl|rfl|rfl<;>cases d<;>kernel_rfl
theorem zF9 {ω:List (Gj×Obj)}{σ:St}{F H:Hp}{s:Gh}(I:iZ X ω σ H s)(g:iP F H){d:D}{v:V}(r:md X.K F d v){u:Gg}(ru:lO v u):∃ P,PySem.W.KitX X.K u (.type (Hk d)) P/\P s.heap:=by
 cases r with
 | non=>cases ru;exact⟨_,PySem.W.kitx_none,True.intro⟩
 | bl b=>cases ru;exact⟨_,PySem.W.kitx_bool,True.intro⟩
 | int i=>obtain⟨t,rfl⟩:=ru;exact⟨_,PySem.W.kitx_int,True.intro⟩
 | str x=>obtain⟨t,rfl⟩:=ru;exact⟨_,PySem.W.kitx_str,True.intro⟩
 | tup h q=>cases ru;obtain⟨its,rv,⟨o,e,c,n,d⟩,_⟩:=I.tuple (oN g h);exact⟨_,PySem.W.kitx_tuple,⟨o,e,c⟩⟩
 | lst h q=>cases ru;obtain⟨its,rv,⟨o,n,e,c,_,d⟩,_⟩:=I.list (g.seq h);exact⟨_,PySem.W.kitx_list,⟨o,e,c⟩⟩
 | dic sm h ok q=>cases ru;obtain⟨⟨o,es,e,c,d,k⟩,_,_⟩:=(show oQ X.prog X.w H s.heap _ (.ext _) from I.hok _ _ (g _ _ h));exact⟨_,JS,⟨o,e,c.1⟩⟩
 | dci sm h ok q=>cases ru;obtain⟨⟨o,es,e,c,d,k⟩,_,_⟩:=(show oQ X.prog X.w H s.heap _ (.ext _) from I.hok _ _ (g _ _ h));exact⟨_,JS,⟨o,e,c.1⟩⟩
theorem zu1 {v:V}{u:Gg}(r:lO v u):u≠.builtin "__main__.__loader__#opaque":=by
 intro z;subst z;cases v<;>first|(cases r;done)|(obtain⟨t,q⟩:=r;cases q)
theorem zwF {T:String}(hT:T∈Ie):nZ X (.builtin "isinstance") (λxs H Q=>∃ F d x,xs=[x,.ty T]/\iP F H/\md X.K F d x/\Q (.bl (Ho T d)) H):=by
 intro ω s σ H xs us Q I r h;obtain⟨F,d,x,rfl,g,rx,q⟩:=h;obtain⟨u,w',rfl,r1,r2⟩:=Dk r;cases r2;obtain⟨P,Z,z⟩:=zF9 I g rx r1;exact PySem.W.kia_one Z I.kIn z (zBM hT d) (zu1 r1) λtk=>⟨.bl _,H,I.tok tk,rfl,q⟩
theorem zGa {x:Str}{T:String}(hg:Gl X x)(hm:X.mg x=Gb)(hv:bootBuiltins x=Ga (.type T))(hn:x≠"__name__":=by decide)(hd:(x==("__debug__":Str))=false:=by decide):PE X (.Name x pos) (tC (.ty T)) :=
 λ_ _ _ H _ I h=>sU I hg hm hv ⟨.ty T,H,I,rfl,h⟩ hn hd
theorem wu {e:Expr}{f:FV}{p p2:Pos}{x:Str}{T:String}(hT:T∈Ie)(hg:Gl X "isinstance")(hm:X.mg "isinstance"=Gb)(hg2:Gl X x)(hm2:X.mg x=Gb)(hv:bootBuiltins x=Ga (.type T))(ha:PV X e f)
  (hn:x≠"__name__":=by decide) (hd:(x==("__debug__":Str))=false:=by decide)
  (hs:starEach [e,.Name x p2] X.env=(false,eval e X.env)::starEach [.Name x p2] X.env:=by rfl) (hs2:starEach [.Name x p2] X.env=[(false,eval (.Name x p2) X.env)]:=by rfl) :
  PV X (.Call (.Name "isinstance" p) [e,.Name x p2] [] pos) (λψ=>(f ψ).bind λd=>Ga (.bool (Ho T d))):=by
 refine oh (yK (zwF hT) hg hm boot_isinstance (nL ha (nL (zGa (pos:=p2) hg2 hm2 hv hn hd) pM hs2) hs) (by decide) (by decide) hs (by rw[hs2];rfl)) λσ H Q=>?_;rintro⟨H0,F,ψ,d,r,e,q⟩;obtain⟨d',e1,e⟩:=iO e;cases e;refine⟨H0,F,ψ,d',r,e1,λv H1 F1 g1 f1 fh1 n1 rv=>?_⟩;exact⟨F1,d',v,rfl,fh1,rv,q _ H1 F1 g1 f1 fh1 n1 (.bl _)⟩
end
inductive tu where
 | nx (ψ:En)|rt (d:D)|ro (ds:List D)|bk (ψ:En)|ct (ψ:En)|rm (a:Gj) (kvs:List (Int×D))|rc (d:D) (ψ:En)
abbrev FS:=En->Option tu
def Dx (K:ja)(H0 F:Hp)(E:yU):tu->Prop
 | .nx ψ=>∀ σ' H' F',iP F F'->mz F F' H0->RS K H0 F' H' ψ σ'->E.nx σ' H'
 | .bk ψ=>∀ σ' H' F',iP F F'->mz F F' H0->RS K H0 F' H' ψ σ'->E.bk σ' H'
 | .ct ψ=>∀ σ' H' F',iP F F'->mz F F' H0->RS K H0 F' H' ψ σ'->E.ct σ' H'
 | .rt d=>∀ v H' F',iP H0 H'->iP F F'->iP F' H'->mz F F' H0->md K F' d v->E.rt v H'
 | .ro ds=>∀ a xs H' F',iP H0 H'->iP F F'->iP F' H'->mz F F' H0->H0 a=Gb->F' a=Gb->H' a=Ga (.lst xs)->ly K F' ds xs->E.rt (.ref a) H'
 | .rm a kvs=>∀ ws ep H' F',iP H0 H'->iP F F'->iP F' H'->mz F F' H0->F' a=Gb->H' a=Ga (.ext (rj a ws ep))->mC K F' kvs ws->xq kvs->E.rt (.ref a) H'
 | .rc d ψ=>∀ v σ' H' F',iP F F'->mz F F' H0->RS K H0 F' H' ψ σ'->md K F' d v->E.rt v H'
theorem mz.up {F F1 F2 H0:Hp}(a:mz F F1 H0)(b:mz F1 F2 H0):mz F F2 H0:=a.trans b (.refl _)
theorem mz.dn {F F1 H H0:Hp}(a:mz F F1 H)(s:iP H0 H):mz F F1 H0:=λb o h n=>s.free (a b o h n)
theorem Dx.mono {K:ja}{H0 F F1:Hp}{E:yU}{o:tu}(f:iP F F1)(n:mz F F1 H0)(p:Dx K H0 F E o):Dx K H0 F1 E o:=by
 cases o with
 | nx ψ=>exact λσ' H' F' f2 n2 r=>p σ' H' F' (f.trans f2) (n.up n2) r
 | bk ψ=>exact λσ' H' F' f2 n2 r=>p σ' H' F' (f.trans f2) (n.up n2) r
 | ct ψ=>exact λσ' H' F' f2 n2 r=>p σ' H' F' (f.trans f2) (n.up n2) r
 | rt d=>exact λv H' F' g f2 fh n2 r=>p v H' F' g (f.trans f2) fh (n.up n2) r
 | ro ds=>exact λa xs H' F' g f2 fh n2 h1 h2 h3 r=>p a xs H' F' g (f.trans f2) fh (n.up n2) h1 h2 h3 r
 | rm a kvs=>exact λws ep H' F' g f2 fh n2 h1 h2 h3 r=>p ws ep H' F' g (f.trans f2) fh (n.up n2) h1 h2 h3 r
 | rc d ψ=>exact λv σ' H' F' f2 n2 r q=>p v σ' H' F' (f.trans f2) (n.up n2) r q
def Nx (K:ja)(g:FS):TS:=λE σ H=>∃ H0 F ψ o,RS K H0 F H ψ σ/\g ψ=Ga o/\Dx K H0 F E o
abbrev rh (X:Cx)(st:Stmt)(g:FS):Prop:=PS X st (Nx X.K g)
abbrev rQ (X:Cx)(st:List Stmt)(g:FS):Prop:=tz X st (Nx X.K g)
noncomputable def mU (o:Option tu)(k:FS):Option tu:=o.bind λo=>match o with
 | .nx ψ=>k ψ
 | o=>Ga o
section
variable {X:Cx}{pos:Pos}
theorem nt:rQ X [] (λψ=>Ga (.nx ψ)):=by
 refine TJ IB λE σ H=>?_;rintro⟨H0,F,ψ,o,r,e,p⟩;cases e;exact p σ H F (.refl _) (.refl _ _) r
theorem lu {st:Stmt}{rest:List Stmt}{g k:FS}(h1:rh X st g)(h2:rQ X rest k):rQ X (st::rest) (λψ=>mU (g ψ) k):=by
 refine TJ (FC h1 h2) λE σ H=>?_;rintro⟨H0,F,ψ,o,r,e,p⟩;obtain⟨o1,e1,e2⟩:=iO e;refine⟨H0,F,ψ,o1,r,e1,?_⟩;cases o1 with
 | nx env1=>exact λσ' H' F' f n r'=>⟨H0,F',env1,o,r',e2,p.mono f n⟩
 | rt d=>cases e2;exact p
 | ro d=>cases e2;exact p
 | rm a d=>cases e2;exact p
 | rc a d=>cases e2;exact p
 | bk d=>cases e2;exact p
 | ct d=>cases e2;exact p
theorem lv {st:Stmt}{g:FS}(h1:rh X st g):rQ X [st] g:=IC h1
theorem EM (i:Nat){st:Stmt}{g:FS}(h:rh X st g):rh X st (λψ=>g (frzAt i ψ)):=by
 refine wF h λE σ H=>?_;rintro⟨H0,F,ψ,o,r,e,p⟩;obtain⟨F',f,n,r'⟩:=r.frzAt i;exact⟨H0,F',_,o,r',e,p.mono f n⟩
theorem lR {e:Expr}{f:FV}(h:PV X e f):rh X (.Return (Ga e) pos) (λψ=>(f ψ).bind λd=>Ga (.rt d)):=by
 refine wF (Bx h) λE σ H=>?_;rintro⟨H0,F,ψ,o,r,e,p⟩;obtain⟨d,e1,e⟩:=iO e;cases e;exact⟨H0,F,ψ,d,r,e1,λv H' F' g f1 fh n rv=>p v H' F' (r.h0.trans g) f1 fh (n.dn r.h0) rv⟩
theorem Kx {e:Expr}{f:FL}(h:PO X e f):rh X (.Return (Ga e) pos) (λψ=>(f ψ).bind λd=>Ga (.ro d)):=by
 refine wF (Bx h) λE σ H=>?_;rintro⟨H0,F,ψ,o,r,e,p⟩;obtain⟨d,e1,e⟩:=iO e;cases e;exact⟨H0,F,ψ,d,r,e1,λa xs H' F' g f1 fh n ha fa ha' rr=>p a xs H' F' (r.h0.trans g) f1 fh (n.dn r.h0) (r.h0.free ha) fa ha' rr⟩
def go (i:Nat):FL:=λψ=>match ψ[i]? with
 | some (.own ds)=>Ga ds
 | _=>Gb
theorem zm (i:Nat){x:Str}{p:Pos}(hN:X.N[i]?=Ga x:=by rfl)(hv:xR X.env.scope x:=by first|exact uu rfl|exact kS (uu rfl)|exact kS (kS rfl))(hd:(x==("__debug__":Str))=false:=by decide)
  (hcd:(x==("__classdict__":Str))=false:=by decide):rh X (.Return (Ga (.Name x p)) pos) (λψ=>(go i ψ).bind λd=>Ga (.ro d)):=by
 refine wF (Bx (su hN hv hd hcd)) λE σ H=>?_;rintro⟨H0,F,ψ,o,r,e,p⟩;obtain⟨ds,e1,e⟩:=iO e;cases e;unfold go at e1;split at e1
 .rename_i ds' z;cases e1;obtain⟨u,e1,a,xs,e2,ha,fa,h0a,rr⟩:=r.sl i _ z;subst e2;exact⟨.ref a,e1,p a xs H F r.h0 (.refl _) r.fh (.refl _ _) h0a fa ha rr⟩
 .cases e1
theorem mi {c:Expr}{a b:List Stmt}{fc:FB}{g k:FS}(hc:PB X c fc)(ha:rQ X a g)(hb:rQ X b k):rh X (.If c a b pos) (λψ=>(fc (frz ψ)).bind λt=>if t then g ψ else k ψ):=by
 refine wF (QH hc ha hb) λE σ H=>?_;rintro⟨H0,F,ψ,o,r,e,p⟩;obtain⟨t,e1,e⟩:=iO e;refine⟨H0,H,frz ψ,t,r.frz,e1,λH' g'=>?_⟩;cases t with
 | true=>exact wx ⟨H0,F,ψ,o,r.later g',e,p⟩
 | false=>exact wz ⟨H0,F,ψ,o,r.later g',e,p⟩
theorem lW (i:Nat){x:Str}{e:Expr}{f:FV}{pos':Pos}(h:PV X e f)(hN:X.N.Nodup)(hi:X.N[i]?=Ga x:=by rfl)(hx:zd X.env.scope x:=by first|exact uu rfl|exact kS rfl)
  (hs:swapsWith e (Ga (.Name x pos')) pos.line X.env=pure false:=by rfl) (hf:X.fn x=true\/X.env.scope.names.lookup x=Ga .local:=by first|exact .inl rfl|exact .inr rfl) :
  rh X (.Assign [.Name x pos'] e pos) (λψ=>(f ψ).bind λd=>Ga (.nx (ψ.set i (.val d)))):=by
 intro ω s σ H D I hw;refine Bl hN hi hx h hs hf ω s σ H D I ?_;obtain⟨H0,F,ψ,o,r,e,p⟩:=hw;obtain⟨d,e1,e⟩:=iO e;cases e;have hl:i<σ.length:=by rw[I.len];exact(jr.mp hi).1
 exact⟨H0,F,ψ,d,r,e1,λv H' F' g f1 fh n rv=>p _ H' F' f1 (n.dn r.h0) ((r.grow g f1 fh n).put hl rv)⟩
theorem yq (i:Nat){x:Str}{e:Expr}{f:FL}{pos':Pos}(h:PO X e f)(hN:X.N.Nodup)(hi:X.N[i]?=Ga x:=by rfl)(hx:zd X.env.scope x:=by first|exact uu rfl|exact kS rfl)
  (hs:swapsWith e (Ga (.Name x pos')) pos.line X.env=pure false:=by rfl) (hf:X.fn x=true\/X.env.scope.names.lookup x=Ga .local:=by first|exact .inl rfl|exact .inr rfl) :
  rh X (.Assign [.Name x pos'] e pos) (λψ=>(f ψ).bind λd=>Ga (.nx (ψ.set i (.own d)))):=by
 intro ω s σ H D I hw;refine Bl hN hi hx h hs hf ω s σ H D I ?_;obtain⟨H0,F,ψ,o,r,e,p⟩:=hw;obtain⟨d,e1,e⟩:=iO e;cases e;have hl:i<σ.length:=by rw[I.len];exact(jr.mp hi).1
 refine⟨H0,F,ψ,d,r,e1,λa xs H' F' g f1 fh n ha fa ha' rr=>p _ H' F' f1 (n.dn r.h0) ((r.grow g f1 fh n).putO hl ha' fa (r.h0.free ha) rr ?_)⟩;exact λj s o _ ej=>r.ne_free ha j s o ej
theorem Bt (i:Nat){x:Str}{e:Expr}{f:FV}{p p2 p3:Pos}(h:PV X e f)(hN:X.N[i]?=Ga x:=by rfl)(hv:xR X.env.scope x:=by first|exact uu rfl|exact kS (uu rfl)|exact kS (kS rfl))
  (hst:starEach [e] X.env=[(false,eval e X.env)]:=by rfl) (hline:(p2.endLine==p3.line)=true:=by rfl)
  (hd:(x==("__debug__":Str))=false:=by decide) (hcd:(x==("__classdict__":Str))=false:=by decide)
  (hs:swapsWith (.Call (.Attribute (.Name x p) "append" p2) [e] [] p3) Gb pos.line X.env=pure false:=by rfl) :
  rh X (.Expr (.Call (.Attribute (.Name x p) "append" p2) [e] [] p3) pos) (λψ=>(go i ψ).bind λds=>(f ψ).bind λd=>if ds.length<1000000 then Ga (.nx (ψ.set i (.own (ds++[d])))) else Gb):=by
 refine wF (CJ (Hi qH PySem.F.slot_list_append PySem.F.type_list_append Ac (su (pos:=p) hN hv hd hcd) (nL h pM hst) rfl (by rw[hst];rfl) hline hst rfl) hs) λE σ H=>?_;rintro⟨H0,F,ψ,o,r,e,p⟩;obtain⟨ds,e1,e⟩:=iO e;obtain⟨d,e2,e⟩:=iO e;split at e;rotate_left
 .cases e
 rename_i hz;cases e;unfold go at e1;split at e1;rotate_left
 .cases e1
 rename_i ds' z;cases e1;obtain⟨u,e3,a,xs,e4,ha,fa,h0a,rr⟩:=r.sl i _ z;subst e4;refine⟨.ref a,e3,.inl ⟨rfl,xs,nr.of ha⟩,H0,F,ψ,d,r,e2,λv H' F' g f1 fh n rv=>?_⟩;have r2:=r.grow g f1 fh n;obtain⟨u2,e5,a2,xs2,e6,ha2,fa2,h0a2,rr2⟩:=r2.sl i _ z;rw[e3] at e5;cases e5;cases e6;have ex:xs2=xs:=by have:=g a _ ha;rw[ha2] at this;cases this;rfl
 subst ex;refine⟨a,xs2,v,rfl,rfl,ha2,?_,?_⟩
 .rw[<- rr2.length];exact jz hz (by rw[sizeLine_eq];decide)
 .exact p σ _ F' f1 (n.dn r.h0) (r2.chg z e3 (rr2.append (.cons rv .nil)))
abbrev FT:=D->En->Option En
def tG (K:ja)(t:FT):TG:=λv σ H Q=>∃ H0 F ψ d env',RS K H0 F H ψ σ/\md K F d v/\t d ψ=Ga env'/\∀ σ',RS K H0 F H env' σ'->Q σ' H
abbrev yz (X:Cx)(tg:Expr)(t:FT):Prop:=PG X tg (tG X.K t)
def tGs (K:ja)(t:List D->En->Option En):zx:=λvs σ H Q=>∃ H0 F ψ ds env',RS K H0 F H ψ σ/\ly K F ds vs/\t ds ψ=Ga env'/\∀ σ',RS K H0 F H env' σ'->Q σ' H
abbrev BU (X:Cx)(tg:List Expr)(t:List D->En->Option En):Prop:=Bp X tg (tGs X.K t)
theorem zBN {tg:Expr}{t t':TG}(h:PG X tg t)(m:∀ v σ H Q,t' v σ H Q->t v σ H Q):PG X tg t':=λω s σ H v u Q I r q=>h ω s σ H v u Q I r (m _ _ _ _ q)
theorem Vu {tg:List Expr}{t t':zx}(h:Bp X tg t)(m:∀ v σ H Q,t' v σ H Q->t v σ H Q):Bp X tg t':=λω s σ H v u Q I r q=>h ω s σ H v u Q I r (m _ _ _ _ q)
theorem My (i:Nat){x:Str}(hN:X.N.Nodup)(hi:X.N[i]?=Ga x:=by rfl)(hx:zd X.env.scope x:=by first|exact uu rfl|exact kS rfl)(hf:X.fn x=true\/X.env.scope.names.lookup x=Ga .local:=by first|exact .inl rfl|exact .inr rfl) :
  yz X (.Name x pos) (λd ψ=>Ga (ψ.set i (.val d))):=by
 intro ω s σ H v u Q I r hw;refine IP hN hi hx hf ω s σ H v u Q I r ?_;obtain⟨H0,F,ψ,d,env',rs,rv,e,q⟩:=hw;cases e;have hl:i<σ.length:=by rw[I.len];exact(jr.mp hi).1
 exact q _ (rs.put hl rv)
theorem Yp:BU X [] (λds ψ=>match ds with|[]=>Ga ψ|_=>Gb):=by
 refine Vu IQ λvs σ H Q=>?_;rintro⟨H0,F,ψ,ds,env',rs,rv,e,q⟩;cases rv with
 | nil=>cases e;exact⟨rfl,q σ rs⟩
 | cons _ _=>cases e
theorem zBO {e:Expr}{es:List Expr}{t:FT}{u:List D->En->Option En}(h1:yz X e t)(h2:BU X es u)(hs:(assignEach (e::es) X.env).map (·.2)=assign e X.env::(assignEach es X.env).map (·.2):=by rfl) :
  BU X (e::es) (λds ψ=>match ds with|d::r=>(t d ψ).bind λenv1=>u r env1|[]=>Gb):=by
 refine Vu (Fw h1 h2 hs) λvs σ H Q=>?_;rintro⟨H0,F,ψ,ds,env',rs,rv,e,q⟩;cases rv with
 | nil=>cases e
 | @cons d v ds vs h t =>
  obtain⟨env1,e1,e2⟩:=iO e;exact⟨v,vs,rfl,H0,F,ψ,d,env1,rs,h,e1,λσ1 r1=>⟨H0,F,env1,ds,env',r1,t,e2,q⟩⟩
theorem Zb {es:List Expr}{k:Nat}{t:List D->En->Option En}(hc:X.calm=true)(h:BU X es t)(hl:∀ ds ψ env',t ds ψ=Ga env'->ds.length=es.length)
  (hn:(assignEach es X.env).length=es.length:=by rfl) (hst:(assignEach es X.env).findIdx? (·.1)=Gb:=by rfl):yz X (.Tuple es k pos) (λd ψ=>(xY d).bind λds=>t ds ψ):=by
 refine zBN (Mg hc h hn hst) λv σ H Q=>?_;rintro⟨H0,F,ψ,d,env',rs,rv,e,q⟩;obtain⟨ds,e1,e2⟩:=iO e;cases Vh e1;cases rv with
 | @tup a xs _ h1 rr=>exact⟨a,xs,rfl,oN rs.fh h1,by rw[<- rr.length];exact hl _ _ _ e2,H0,F,ψ,ds,env',rs,rr,e2,q⟩
theorem RZ {tg e:Expr}{f:FV}{t:FT}(he:PV X e f)(hg:yz X tg t)(hs:swapsWithSole [tg] e pos.line X.env=pure false:=by rfl)(hw:swappedStores [tg] e X.env=pure Gb:=by rfl)
  (h1:(assignEach [tg] X.env).map (·.2)=[assign tg X.env]:=by rfl):rh X (.Assign [tg] e pos) (λψ=>(f ψ).bind λd=>(t d ψ).bind λenv1=>Ga (.nx env1)):=by
 refine wF (Ek he hg hs hw h1) λE σ H=>?_;rintro⟨H0,F,ψ,o,r,e,p⟩;obtain⟨d,e1,e⟩:=iO e;obtain⟨env1,e2,e⟩:=iO e;cases e;exact⟨H0,F,ψ,d,r,e1,λv H' F' g f1 fh n rv=>⟨H0,F',ψ,d,env1,r.grow g f1 fh n,rv,e2,λσ' r'=>p σ' H' F' f1 (n.dn r.h0) r'⟩⟩
def lS (t:FT)(body:FS):List D->FS
 | [],ψ=>Ga (.nx ψ)
 | x::r,ψ=>(t x ψ).bind λe1=>(body e1).bind λo=>match o with
  | .nx e=>lS t body r e
  | .ct e=>lS t body r e
  | .bk e=>Ga (.nx e)
  | .rt d=>Ga (.rt d)
  | .ro ds=>Ga (.ro ds)
  | .rm a kvs=>Ga (.rm a kvs)
  | .rc d e=>Ga (.rc d e)
def sP (K:ja)(J:It)(F:Hp)(items:List D):Prop:=∀ (H:Hp),iP F H->∀ i,(items.length<=i->J.stop i H) /\
 ∀ d,items[i]?=Ga d->J.go i H/\∀ x H',J.yld i H x H'->iP H H'/\∃ F',iP F F'/\iP F' H'/\mz F F' H/\md K F' d x
def tI (K:ja)(f:FL):TI:=λσ H R=>∃ H0 F ψ ds,RS K H0 F H ψ σ/\f ψ=Ga ds/\∀ J H' F',iP H H'->iP F F'->iP F' H'->mz F F' H->(∀ F2,iP F' F2->sP K J F2 ds)->R J H'
abbrev BB (X:Cx)(tg iter:Expr)(f:FL):Prop:=PI X tg iter (tI X.K f)
theorem Lp {tg it:Expr}{t t':TI}(h:PI X tg it t)(m:∀ σ H Q,t' σ H Q->t σ H Q):PI X tg it t':=λω s σ H Q I q=>h ω s σ H Q I (m σ H Q q)
theorem pe {tg iter:Expr}{body:List Stmt}{f:FL}{t:FT}{g:FS}(hp:PassesOwn (model X.prog X.w) X.A X.env X.xe)(hc:X.calm=true)(hi:BB X tg iter f)(hg:yz X tg t)(hb:rQ X body g)
  (hs:∀ x,foldedSetIterable iter X.env x=pure x:=by intro _;rfl):rh X (.For tg iter body [] pos) (λψ=>(f ψ).bind λds=>lS t g ds ψ):=by
 refine wF (Qb hp hc hi hg hb hs) λE σ H=>?_;rintro⟨H0,F,ψ,o,r,e,p⟩;obtain⟨ds,e1,e⟩:=iO e;refine⟨H0,F,ψ,ds,r,e1,λJ H1 F1 g1 f1 fh1 n1 Y=>?_⟩;have p1:=p.mono f1 (n1.dn r.h0);have r1:=r.grow g1 f1 fh1 n1;refine⟨λi m σ H=>i+m=ds.length/\∃ F2 ψ,RS X.K H0 F2 H ψ σ/\iP F1 F2/\mz F1 F2 H0/\lS t g (ds.drop i) ψ=Ga o,⟨ds.length,by omega,F1,ψ,r1,.refl _,.refl _ _,e⟩,?_⟩;rintro i m σ' H' ⟨hm,F2,env2,r2,f2,n2,e2⟩;have p2:=p1.mono f2 n2;obtain⟨yd,yg⟩:=Y F2 f2 H' r2.fh i;by_cases hlt:i<ds.length
 .obtain⟨go,yy⟩:=yg ds[i] (by simp[hlt]);rw[qx hlt] at e2;unfold lS at e2;obtain⟨e3,x1,x2⟩:=iO e2;obtain⟨o1,x3,x4⟩:=iO x2;refine .inr ⟨go,λσ3 H3=>i+1+(m-1)=ds.length/\∃ F3 ψ,RS X.K H0 F3 H3 ψ σ3/\iP F1 F3/\mz F1 F3 H0/\lS t g (ds.drop (i+1)) ψ=Ga o,λσ3 H3 h3=>⟨m-1,by omega,h3⟩,λx Hx yl=>?_⟩;obtain⟨gx,F4,f4,fh4,n4,rx⟩:=yy x Hx yl;have r4:=r2.grow gx f4 fh4 n4;refine⟨H0,F4,env2,ds[i],e3,r4,rx,x1,λσ5 r5=>⟨H0,F4,e3,o1,r5,x3,?_⟩⟩;have p4:=p2.mono f4 (n4.dn r2.h0);cases o1 with
  | nx e5=>exact λσ6 H6 F6 f6 n6 r6=>⟨by omega,F6,e5,r6,f2.trans (f4.trans f6),n2.up ((n4.dn r2.h0).up n6),x4⟩
  | ct e5=>exact λσ6 H6 F6 f6 n6 r6=>⟨by omega,F6,e5,r6,f2.trans (f4.trans f6),n2.up ((n4.dn r2.h0).up n6),x4⟩
  | bk e5=>cases x4;exact p4
  | rt d=>cases x4;exact p4
  | ro d=>cases x4;exact p4
  | rm a d=>cases x4;exact p4
  | rc a d=>cases x4;exact p4
 .rw[qQ (by omega)] at e2;cases e2;exact .inl ⟨yd (by omega),p2 σ' H' F2 (.refl _) (.refl _ _) r2⟩
def toS:D->Option (List D)
 | .list xs=>Ga xs
 | .tuple xs=>Ga xs
 | _=>Gb
theorem zsR {K:ja}{F:Hp}{a:Gj}{xs:List V}{ds:List D}(h:nr K F a xs)(r:ly K F ds xs):sP K (Kd K a) F ds:=by
 intro H g i;refine⟨λhi=>⟨xs,g.seq h,by rw[<- r.length];exact hi⟩,λd hd=>?_⟩;obtain⟨v,e1,e2⟩:=r.get hd;refine⟨⟨xs,v,g.seq h,e1⟩,λx H' y=>?_⟩;obtain⟨rfl,y⟩:=y;have:=y xs (g.seq h);rw[e1] at this;cases this;exact⟨.refl _,F,.refl _,g,.refl _ _,e2⟩
theorem zu2 {K:ja}{F:Hp}{a:Gj}{xs:List V}{ds:List D}(h:oB K F a xs)(r:ly K F ds xs):sP K (Pw K a) F ds:=by
 intro H g i;refine⟨λhi=>⟨xs,oN g h,by rw[<- r.length];exact hi⟩,λd hd=>?_⟩;obtain⟨v,e1,e2⟩:=r.get hd;refine⟨⟨xs,v,oN g h,e1⟩,λx H' y=>?_⟩;obtain⟨rfl,y⟩:=y;have:=y xs (oN g h);rw[e1] at this;cases this;exact⟨.refl _,F,.refl _,g,.refl _ _,e2⟩
end
theorem Hc {ψ:Env}:∀ (names:List (Str×NameKind)) (cs:List (Str×Gj)),(∀ y∈names,y.2=.free->∃ c,ψ.cells.lookup y.1=Ga c)->(∀ x c,cs.lookup x=Ga c->ψ.cells.lookup x=Ga c) ->
  ∃ cl,(forIn names cs λ(y:Str×NameKind) (r:List (Str×Gj))=>(if (y.2==.free)=true then(do let a <- cellOf ψ y.1;pure (ForInStep.yield ((y.1,a)::r))) else pure (ForInStep.yield r):Sem (ForInStep (List (Str×Gj)))))=(pure cl:Sem (List (Str×Gj))) /\
   (∀ x c,cl.lookup x=Ga c->ψ.cells.lookup x=Ga c)/\(∀ x,(x,j6)∈names->∃ c,cl.lookup x=Ga c)/\∀ x c,cs.lookup x=Ga c->∃ c',cl.lookup x=Ga c'
 | [],cs,_,h2=>⟨cs,rfl,h2,λx hx=>by simp at hx,λx c h=>⟨c,h⟩⟩
 | (n,k)::r,cs,h1,h2=>by
  have h1':∀ y∈r,y.2=.free->∃ c,ψ.cells.lookup y.1=Ga c:=λy hy=>h1 y (jh _ hy);by_cases hk:k=.free
  .obtain⟨c,hc⟩:=h1 (n,k) jf hk;have h2':∀ x c',((n,c)::cs).lookup x=Ga c'->ψ.cells.lookup x=Ga c':=λx c' h=>by
    rw[kn] at h;cases hx:x==n with
    | true=>rw[hx] at h;cases h;rw[beq_iff_eq.mp hx];exact hc
    | false=>rw[hx] at h;exact h2 x c' h
   obtain⟨cl,e,a,b,d⟩:=Hc r ((n,c)::cs) h1' h2';refine⟨cl,?_,a,λx hx=>?_,λx c' h=>?_⟩
   .rw[J8];have hb:(k==j6)=true:=by simp[hk]
    simp only[hb,if_true];have hcell:cellOf ψ n=pure c:=by unfold cellOf;rw[hc]
    rw[hcell];exact e
   .rcases ju.mp hx with z|z
    .cases z;exact d n c (by simp[kn])
    .exact b x z
   .cases hx:x==n with
    | true=>exact d x c (by rw[kn,hx])
    | false=>exact d x c' (by rw[kn,hx];exact h)
  .obtain⟨cl,e,a,b,d⟩:=Hc r cs h1' h2;refine⟨cl,?_,a,λx hx=>?_,d⟩
   .rw[J8];have hb:(k==j6)=false:=by simpa using hk
    simp only[hb,uj,if_false];exact e
   .rcases ju.mp hx with z|z
    .cases z;exact absurd rfl hk
    .exact b x z
theorem Uc {scope:Scope}{ψ:Env}:closureFor scope ψ=(forIn scope.names [] λ(y:Str×NameKind) (r:List (Str×Gj))=>(if (y.2==.free)=true then(do let a <- cellOf ψ y.1;pure (ForInStep.yield ((y.1,a)::r))) else pure (ForInStep.yield r):Sem (ForInStep (List (Str×Gj))))) >>= pure:=by
 unfold closureFor;rfl
theorem NY {ψ:Env}:∀ {names:List (Str×NameKind)} {x:Str},names.lookup x=Ga .free ->
  (names.map λ(n,k)=>if (k==j6&&ψ.scope.kind==.function&&ψ.kindOf n==Ga .cell) then(n,vH) else(n,k)).lookup x=Ga .cell \/
  (names.map λ(n,k)=>if (k==j6&&ψ.scope.kind==.function&&ψ.kindOf n==Ga .cell) then(n,vH) else(n,k)).lookup x=Ga .free
 | [],_,h=>by simp at h
 | (n,k)::r,x,h=>by
  have ih:=@NY ψ r x;show List.lookup x ((if (k==j6&&ψ.scope.kind==.function&&ψ.kindOf n==Ga .cell)=true then(n,vH) else(n,k))::_)=_\/List.lookup x ((if (k==j6&&ψ.scope.kind==.function&&ψ.kindOf n==Ga .cell)=true then(n,vH) else(n,k))::_)=_;cases hx:x==n with
  | true =>
   simp only[kn,hx] at h;cases h;by_cases hc:(j6==j6&&ψ.scope.kind==.function&&ψ.kindOf n==Ga .cell)=true
   .rw[Ge hc];simp[kn,hx]
   .rw[Gf hc];simp[kn,hx]
  | false =>
   simp only[kn,hx] at h;by_cases hc:(k==j6&&ψ.scope.kind==.function&&ψ.kindOf n==Ga .cell)=true
   .rw[Ge hc];simp only[kn,hx];exact ih h
   .rw[Gf hc];simp only[kn,hx];exact ih h
structure sf (N:List Str)(osc:Scope)(scope:Scope)(x:Str)(fr:List Str)(ix:List Nat):Prop where
 kind:scope.kind=.function
 nocell:∀ y∈scope.names,y.2≠.cell
 locs:∀ y∈scope.names,y.2=.local->scope.names.lookup y.1=Ga .local
 tgt:scope.names.lookup x=Ga .local
 outs:∀ y∈scope.names,y.2=.free->osc.names.lookup y.1=Ga .cell\/osc.names.lookup y.1=Ga .free
 free:∀ y∈fr,scope.names.lookup y=Ga .free
 len:fr.length=ix.length
 at_:∀ (j i:Nat) (y:Str),ix[j]?=Ga i->fr[j]?=Ga y->N[i]?=Ga y
 apart:ix.Nodup
def prj (ix:List Nat)(σ:St):St:=Gb::ix.map λi=>(σ[i]?).join
def oj (X:Cx)(scope:Scope)(cl:List (Str×Gj))(C:Gj)(N':List Str)(s:Gh)(H:Hp)(fp:List Gj)(ω:List (Gj×Obj)):Cx :=
 { X with N:=N',s₀:=s,H₀:=H,env:=compEnvC scope cl C X.env,outer:=X.stack,ex:=fp,fn:=λ_=>false,pn:=X.pn++ω,xe:=λ_ _=>False }
def Hz (J:It)(g:TG)(tc:TT)(te:TE)(D0:Gj)(σ:St)(H:Hp)(Qv:Hp->Prop):Prop:=∃ W:Nat->Nat->St->Hp->Prop,(∃ m,W 0 m σ H)/\∀ i m σ H,W i m σ H ->
 (J.stop i H/\Qv H)\/(J.go i H/\∃ N:St->Hp->Prop,(∀ σ' H',N σ' H'->∃ m',m'<m/\W (i+1) m' σ' H') /\
  ∀ x H',J.yld i H x H'->g x σ H' λσ2 H2=>tc σ2 H2 λb H3=>if b=true then te σ2 H3 λy H4=>∃ ys,H4 D0=Ga (.lst ys)/\ys.length<sizeLine/\N σ2 (upd H4 D0 (.lst (ys++[y]))) else N σ2 H3)
def Om (X:Cx):List Expr->TT->Prop
 | [],t=>t=λ_ H Q=>Q true H
 | [c],t=>PT X c t
 | _,_=>False
section
variable {X:Cx}{ω:List (Gj×Obj)}{σ:St}{H2:Hp}{s2:Gh}{elt iter:Expr}{x:Str}{px pos:Pos}{ifs:List Expr}{scope:Scope}{cl:List (Str×Gj)}{fr:List Str}{ix:List Nat}
theorem RH {E:Gg->Gh->Prop}(S:sf X.N X.env.scope scope x fr ix)(hl1:∀ x c,cl.lookup x=Ga c->X.env.cells.lookup x=Ga c)(hl2:∀ x,(x,j6)∈scope.names->∃ c,cl.lookup x=Ga c)
  {it:Gj} {fp:List Gj} {tn:Nat->Heap->Prop} {J:It} (I:iZ X ω σ H2 s2) (T:zW X.prog X.w X.K (.Name x px) J fp it tn) (st:tn 0 s2.heap) (hf:∀ b∈fp,xD X ω H2 b) (hc:X.calm=true)
  {Qv:Gj->Hp->Prop} {g:TG} {tc:TT} {te:TE}
  (hblk:∀ C s H,PG (oj X scope cl C (x::fr) s H fp ω) (.Name x px) g/\Om (oj X scope cl C (x::fr) s H fp ω) ifs tc/\PE (oj X scope cl C (x::fr) s H fp ω) elt te)
  (hW:∀ D0,H2 D0=Gb->Hz J g tc te D0 (prj ix σ) (upd H2 D0 (.lst [])) (Qv D0))
  {RR:Gg->Gj->Result->Gh->Prop}
  (hRR:∀ D0 C s' H',iZ X ω σ H' s'->s2.heap.objs.size<=C->(∃ m,s'.heap.Ns C m)->H' C=Gb->Qv D0 H'->RR (.ref D0) C (.ok .next) s') :
  wpAny (model X.prog X.w) X.A (newList []) (λacc s3=>wpAny (model X.prog X.w) X.A (newFunctionEnv scope X.env.globals cl [] X.env.qual Gb .none (Ga X.env)) (λcenv s4 =>
   codeAny (model X.prog X.w) X.A (.compStart (.ListComp elt [⟨.Name x px,iter,ifs,0⟩] scope pos) 0 (.ref it) acc { cenv with scope:=relabel scope X.env }) (RR acc cenv.locals) s4) E s3) E s2:=by
 have hD0:H2 s2.heap.objs.size=Gb:=I.fresh;obtain⟨W,⟨m0,w0⟩,turn⟩:=hW s2.heap.objs.size hD0;have I3:=I.lnew (t':=s2.toks) (ys:=[]) (its:=[]) .nil (j5 _);refine wpAny_newList (wpAny_newFunctionEnv S.nocell (by intro y hy;simp at hy) (λh1 hns hsb=>?_) S.kind);dsimp only at hns hsb ⊢;generalize hHp:s2.heap.push { cls:=.type "list",dict:=Gb,data:=.seq ([]:List Gg).toArray }=P2 at hns hsb I3 ⊢;have hC:P2.objs.size=s2.heap.objs.size+1:=by rw[<- hHp,uC]
 have keep:∀ b o,P2.get? b=Ga o->h1.get? b=Ga o:=λb o e=>hsb.extBut b o (jJ (jt e)) (je _ e);have neC:∀ b o,P2.get? b=Ga o->b≠P2.objs.size:=λb o e=>jJ (jt e);have keep2:∀ b o,s2.heap.get? b=Ga o->P2.get? b=Ga o:=λb o e=>by rw[<- hHp];exact je _ e
 have fpo:∀ b∈fp,∃ o,s2.heap.get? b=Ga o/\∀ v,o.data≠.cell v:=λb hb=>T.obj 0 _ st b hb;have fpC:∀ b∈fp,b≠P2.objs.size:=λb hb=>by obtain⟨o,e,_⟩:=fpo b hb;exact neC b o (keep2 b o e)
 have fpD:∀ b∈fp,b≠s2.heap.objs.size:=λb hb=>by obtain⟨o,e,_⟩:=fpo b hb;exact jJ (jt e)
 have fpS:∀ b∈fp,b∉tw X.stack:=λb hb z=>by
  obtain⟨_,f1,f2,_⟩:=hf b hb;rcases ju.mp (I.stkSub b z) with q|q
  .exact f1 q
  .exact f2 q
 have cellK:∀ x c,cl.lookup x=Ga c->∃ v,P2.IsCell c v:=λx c e=>by
  obtain⟨v,o,ho,hd⟩:=I.cell x c (hl1 x c e);exact⟨v,o,keep2 c o ho,hd⟩
 have okB:(oj X scope cl P2.objs.size (x::fr) { s2 with heap:=P2 } (upd H2 s2.heap.objs.size (.lst [])) fp ω).Ok:=by
  refine⟨I.ok.mod,by show(relabel scope X.env).kind=_;exact S.kind,I.ok.glob,I.ok.blt,jj _,λy z c e1 e2=>?_,λy hy=>?_,λy c hfn _=>?_,I.ok.hd,I.ok.frames,.inl rfl,λb hb=>⟨fpC b hb,λy c e=>?_⟩,λb o e=>?_,?_,λb o e hb=>?_,fpS,I3.stack,I3.stkFree⟩
  .exact I.ok.inj y z c (hl1 y c e1) (hl1 z c e2)
  .
   have hy':(relabel scope X.env).names.lookup y=Ga .cell\/(relabel scope X.env).names.lookup y=Ga .free:=hy;have mem:(y,j6)∈scope.names:=by
    have hfind:∀ (names:List (Str×NameKind)),(∀ z∈names,z.2≠.cell)->((names.map λ(n,k)=>if (k==j6&&X.env.scope.kind==.function&&X.env.kindOf n==Ga .cell) then(n,vH) else(n,k)).lookup y=Ga .cell \/
      (names.map λ(n,k)=>if (k==j6&&X.env.scope.kind==.function&&X.env.kindOf n==Ga .cell) then(n,vH) else(n,k)).lookup y=Ga .free)->(y,j6)∈names:=by
     intro names;induction names with
     | nil=>intro _ h;simp at h
     | cons p r ih =>
      obtain⟨n,k⟩:=p;intro hn h;have ih':=ih (λz hz=>hn z (jh _ hz));have hk:k≠.cell:=hn (n,k) jf;rw[jK] at h;dsimp only at h;by_cases hcnd:(k==j6&&X.env.scope.kind==.function&&X.env.kindOf n==Ga .cell)=true
      .rw[Ge hcnd] at h;have hkf:k=.free:=by simp only[jG,beq_iff_eq] at hcnd;exact hcnd.1.1
       cases hx:y==n with
       | true=>rw[beq_iff_eq.mp hx,hkf];exact jf
       | false =>
        rw[kn,hx] at h;exact jh _ (ih' h)
      .rw[Gf hcnd] at h;cases hx:y==n with
       | true =>
        rw[kn,hx] at h;rcases h with h|h
        .exact absurd (jF h) hk
        .rw[beq_iff_eq.mp hx,<- jF h];exact jf
       | false =>
        rw[kn,hx] at h;exact jh _ (ih' h)
    exact hfind scope.names S.nocell hy'
   exact hl2 y mem
  .cases hfn
  .obtain⟨_,_,_,_,f4,_⟩:=hf b hb;exact f4 y c (hl1 y c e)
  .obtain⟨e1,e2⟩:=I3.bs b o e;exact⟨e1,e2⟩
  .exact jk I.ok.bsz I3.sz
  .obtain⟨_,_,_,f3,_⟩:=hf b hb;rcases f3 with z|z
   .exact I.ok.noex b o e z
   .exact absurd (jz (jt e) (jk I.ok.bsz z)) (jU _)
 have i4:iZ (oj X scope cl P2.objs.size (x::fr) { s2 with heap:=P2 } (upd H2 s2.heap.objs.size (.lst [])) fp ω) [] (prj ix σ) (upd H2 s2.heap.objs.size (.lst [])) { s2 with heap:=h1,toks:=s2.toks+([]:List (Str×Gg)).length }:=by
  refine⟨okB,rfl,I.bare,Un.kept keep,⟨_,hns,λi y v e1 e2 e3=>?_⟩,λy c e=>?_,?_,λy c e=>?_,λp hp=>?_,I3.hok.kept keep,?_⟩
  .cases i with
   | zero=>simp[prj] at e2
   | succ j =>
    have e1':fr[j]?=Ga y:=by simpa [oj] using e1
    have hj:j<ix.length:=by rw[<- S.len];exact(jr.mp e1').1
    have eix:ix[j]?=Ga ix[j]:=ji hj;have e2':(σ[ix[j]]?).join=Ga v:=by simpa [prj,eix] using e2
    have e2'':σ[ix[j]]?=Ga (Ga v):=by
     cases z:σ[ix[j]]? with
     | none=>rw[z] at e2';cases e2'
     | some w=>rw[z] at e2';cases e2';rfl
    have hN:=S.at_ j ix[j] y eix e1';have hfree:=S.free y (kE e1');have hmem:(y,j6)∈scope.names:=kI hfree;have hout:=S.outs _ hmem rfl;obtain⟨m,hn,hl⟩:=I.loc;obtain⟨u,ru,lk⟩:=hl ix[j] y v hN e2'' (hout.elim (λz=>.inr (.inl z)) λz=>.inr (.inr z));refine⟨u,ru,.inr ?_⟩;rcases lk with ⟨k,_⟩|⟨k,c,ec,hcell⟩
    .exfalso;have k':X.env.scope.names.lookup y=Ga .local:=k;rcases hout with z|z
     .rw[z] at k';cases k'
     .rw[z] at k';cases k'
    .obtain⟨c',ec'⟩:=hl2 y hmem;have:c'=c:=by have:=hl1 y c' ec';rw[ec] at this;cases this;rfl
     subst this;obtain⟨o,ho,hd⟩:=hcell;exact⟨NY (ψ:=X.env) hfree,c',ec',o,keep _ o (keep2 _ o ho),hd⟩
  .obtain⟨v,o,ho,hd⟩:=cellK y c e;exact⟨v,o,keep _ o ho,hd⟩
  .show upd H2 s2.heap.objs.size (.lst []) P2.objs.size=Gb;exact I3.hok.fresh (jj _)
  .exact I3.freeC y c (hl1 y c e)
  .have hp':p∈X.pn++ω:=by simpa [oj] using hp
   obtain⟨e,n,ne,nf,d⟩:=I3.pin p hp';refine⟨keep _ _ e,n,neC _ _ e,λz=>?_,d⟩;rcases ju.mp (I.stkSub _ z) with q|q
   .exact ne q
   .exact nf q
  .simp[prj,oj,S.len]
 obtain⟨hg,hif,he⟩:=hblk P2.objs.size { s2 with heap:=P2 } (upd H2 s2.heap.objs.size (.lst []));generalize hX':oj X scope cl P2.objs.size (x::fr) { s2 with heap:=P2 } (upd H2 s2.heap.objs.size (.lst [])) fp ω=X' at okB i4 hg hif he;have xA:X'.A=X.A:=by rw[<- hX'];rfl
 have xP:X'.prog=X.prog:=by rw[<- hX'];rfl
 have xw:X'.w=X.w:=by rw[<- hX'];rfl
 have xK:X'.K=X.K:=by rw[<- hX'];rfl
 have xc:X'.calm=true:=by rw[<- hX'];exact hc
 have xe:X'.env=compEnvC scope cl P2.objs.size X.env:=by rw[<- hX'];rfl
 have xx:∀ v s,X'.xe v s->False:=by rw[<- hX'];exact λ_ _ z=>z
 have stat:∀ {H':Hp},(∀ b∈fp,H' b=Gb)->∀ b∈fp,xD X' [] H' b:=λhn b hb=>by
  obtain⟨_,f1,f2,f3,f4,f5⟩:=hf b hb;refine⟨hn b hb,?_,?_,?_,?_,?_⟩
  .rw[xe];exact fpC b hb
  .rw[<- hX'];exact fpS b hb
  .rw[<- hX'];exact .inl hb
  .rw[<- hX'];exact λy c e=>f4 y c (hl1 y c e)
  .rw[<- hX'];intro p hp;exact f5 p (by simpa [oj] using hp)
 have st1:tn 0 h1:=T.keep 0 _ _ st λb hb o e=>keep b o (keep2 b o e);have fr0:∀ b∈fp,upd H2 s2.heap.objs.size (.lst []) b=Gb:=λb hb=>by rw[ls (fpD b hb)];exact(hf b hb).1
 have loop:∀ s4:Gh,s4={ s2 with heap:=h1,toks:=s2.toks+([]:List (Str×Gg)).length } ->
   codeAny (model X.prog X.w) X.A (.compLoop (.ListComp elt [⟨.Name x px,iter,ifs,0⟩] scope pos) 0 (.ref it) (.ref s2.heap.objs.size) (compEnvC scope cl P2.objs.size X.env)) (RR (.ref s2.heap.objs.size) P2.objs.size) s4:=by
  rintro s4 rfl;refine codeAny_compLoop_tests (λn s'=>∃ i σ' H',iZ X' [] σ' H' s'/\tn i s'.heap/\(∀ b∈fp,H' b=Gb)/\W i n σ' H') ?_ m0 ⟨0,_,_,i4,st1,fr0,w0⟩;rintro n s5 ⟨i,σ5,H5,I5,st5,fr5,w5⟩;rcases turn i n σ5 H5 w5 with ⟨stop,qn⟩|⟨go,N,hN,step⟩
  .have dn:=T.done X' xP xw xK xc i [] s5 σ5 H5 (λ_ _=>False) I5 (stat fr5) st5 stop;rw[xA] at dn;refine wpAny_mono dn (λr s6 ⟨hr,I6⟩=>?_) λ_ _ z=>z.elim;subst hr;have base6:Un (tw X.stack) fp (upd H2 s2.heap.objs.size (.lst [])) H5 P2 s6.heap:=by have:=I6.base;rw[<- hX'] at this;exact this
   have os6:s6.os=s2.os:=by have:=I6.os;rw[<- hX'] at this;exact this
   have hok6:HOk X.prog X.w H5 s6.heap:=by have:=I6.hok;rw[xP,xw] at this;exact this
   have I7:iZ X ω σ H5 s6:=iZ.call' (s:={ s2 with heap:=P2,toks:=s2.toks }) I3 os6 base6 hok6 I6.bare λb hb=>by
    obtain⟨_,f1,_,f3,f4,f5⟩:=hf b hb;exact⟨f3,f1,f4,f5⟩
   refine hRR _ _ s6 H5 I7 (by rw[hC];exact Nat.le_succ _) ?_ ?_ qn
   .obtain⟨m,hm,_⟩:=I6.loc;rw[xe] at hm;exact⟨m,hm⟩
   .have:=I6.free;rw[xe] at this;exact this
  .have itm:=T.item X' xP xw xK xc i [] s5 σ5 H5 (λ_ _=>False) I5 (stat fr5) st5 go;rw[xA] at itm;refine wpAny_mono itm (λr s6 ⟨u,hr,h6⟩=>?_) λ_ _ z=>z.elim;subst hr;show wpAny _ _ ((letOwnedTupleGo (.Name x px) (.ref it) u) >>= λ_=>assign (.Name x px) (compEnvC scope cl P2.objs.size X.env) u) _ _ _;refine iK (wpAny_mono h6 (λ_ s7 ⟨xv,H7,I7,r7,y7,st7,fr7⟩=>?_) λ_ _ z=>z.elim);have I7':=I7.pinned (stat fr7) (T.obj _ _ st7);have stepx:=step xv H7 y7;have asg:=hg _ s7 σ5 H7 xv u _ I7' r7 stepx;rw[xA,xP,xw,xe] at asg;refine wpAny_mono asg (λ_ s8 ⟨σ8,H8,I8,q8⟩=>?_) λ_ _ z=>(xx _ _ z).elim;have again:∀ {H9:Hp} {s9:Gh},iZ X' ([]++wQ fp s7.heap) σ8 H9 s9->N σ8 H9->∃ m,m<n/\∃ i σ' H',iZ X' [] σ' H' s9/\tn i s9.heap/\(∀ b∈fp,H' b=Gb)/\W i m σ' H':=λ{H9 s9} I9 n9=>by
    obtain⟨m',hm,w9⟩:=hN σ8 H9 n9;refine⟨m',hm,i+1,σ8,H9,I9.unpinned,T.keep _ _ _ st7 λb hb o e=>(I9.pin (b,o) (jR _ (jR _ (tD hb e)))).1,λb hb=>?_,w9⟩;obtain⟨o,e,d⟩:=T.obj _ _ st7 b hb;exact(I9.pin (b,o) (jR _ (jR _ (tD hb e)))).2.1
   have fin:∀ (ok:Bool) (H9:Hp) (s9:Gh),iZ X' ([]++wQ fp s7.heap) σ8 H9 s9->(if ok=true then te σ8 H9 λy H4=>∃ ys,H4 s2.heap.objs.size=Ga (.lst ys)/\ys.length<sizeLine/\N σ8 (upd H4 s2.heap.objs.size (.lst (ys++[y]))) else N σ8 H9) ->
     if ok=true then wpAny (model X.prog X.w) X.A (eval elt (compEnvC scope cl P2.objs.size X.env)) (λxv s10=>wpAny (model X.prog X.w) X.A (call (.builtin "list.append") [.ref s2.heap.objs.size,xv]) (λ_ s11=>∃ m,m<n/\∃ i σ' H',iZ X' [] σ' H' s11/\tn i s11.heap/\(∀ b∈fp,H' b=Gb)/\W i m σ' H')
      (notedBy (model X.prog X.w) X.A (compEnvC scope cl P2.objs.size X.env) λe s'=>RR (.ref s2.heap.objs.size) P2.objs.size (.error e) s') s10) (notedBy (model X.prog X.w) X.A (compEnvC scope cl P2.objs.size X.env) λe s'=>RR (.ref s2.heap.objs.size) P2.objs.size (.error e) s') s9
     else ∃ m,m<n/\∃ i σ' H',iZ X' [] σ' H' s9/\tn i s9.heap/\(∀ b∈fp,H' b=Gb)/\W i m σ' H':=by
    intro ok H9 s9 I9 q9;cases ok with
    | false =>
     rw[Gf jw] at q9 ⊢;exact again I9 q9
    | true =>
     rw[Ge rfl] at q9 ⊢;have ev:=he _ s9 σ8 H9 _ I9 q9;rw[xA,xP,xw,xe] at ev;refine wpAny_mono ev (λu s10 ⟨y,H10,I10,r10,ys,hys,hz,q10⟩=>?_) λ_ _ z=>(xx _ _ z).elim;have ap:=Ac (X:=X') _ s10 σ8 H10 (.ref s2.heap.objs.size) [y] (.ref s2.heap.objs.size) [u] (λ_ H'=>N σ8 H') I10 rfl (.cons r10 .nil) ⟨_,ys,y,rfl,rfl,hys,hz,q10⟩;rw[xA,xP,xw] at ap;refine wpAny_mono ap (λ_ s11 ⟨_,H11,I11,_,q11⟩=>again I11 q11) λ_ _ z=>(xx _ _ z).elim
   match ifs,hif with
   | [],hif=>exact wpAny_tests_nil (by
     have hif':tc=λ_ H Q=>Q true H:=hif;rw[hif'] at q8;exact fin true H8 s8 I8 q8)
   | [c],hif =>
    have pq:=(show PT X' c tc from hif) _ s8 σ8 H8 _ I8 q8;rw[xA,xP,xw,xe] at pq;exact wpAny_tests_one (wpAny_mono pq (λok s9 ⟨H9,I9,q9⟩=>fin ok H9 s9 I9 q9) λ_ _ z=>(xx _ _ z).elim)
   | _::_::_,hif=>exact hif.elim
 exact codeAny_compStart_list (loop _ rfl) (T.self _ 0 _ _ _ st1 (loop _ rfl))
end
def rW:Option Sl->Sl
 | some (.val d)=>.val d
 | some (.own ds)=>.own ds
 | some (.fn c)=>.fn c
 | _=>.no
def pD (ix:List Nat)(ψ:En):En:=ix.map λ(i:Nat)=>rW ψ[i]?
def mv (fc:FB)(fe:FV)(base:En):List D->Option (List D)
 | []=>Ga []
 | x::r=>(fc (.val x::base)).bind λb=>if b then(fe (.val x::base)).bind λy=>(mv fc fe base r).bind λys=>Ga (y::ys) else mv fc fe base r
theorem RS.lend {K:ja}{H0 F H:Hp}{ψ:En}{σ:St}(r:RS K H0 F H ψ σ){a:Gj}{o:HO}(ha:H a=Gb)(pl:Pl o:=by trivial):RS K (upd H0 a o) F (upd H a o) ψ σ:=by
 have fa:=r.fh.free ha;refine⟨iP.up2 r.h0 (r.h0.free ha) ha pl,r.fh.put fa (λx u z=>by rw[ha] at z;cases z),λi s e=>?_,r.ap⟩
 .obtain⟨u,e1,q⟩:=r.sl i s e;refine⟨u,e1,?_⟩;cases s with
  | no=>trivial
  | val d=>exact q
  | own ds=>obtain⟨b,xs,e2,hb,fb,h0b,rr⟩:=q;have n:=nX hb ha;exact⟨b,xs,e2,by rw[ls n];exact hb,fb,by rw[ls n];exact h0b,rr⟩
  | owk b ds=>obtain⟨xs,e2,hb,fb,h0b,rr⟩:=q;have n:=nX hb ha;exact⟨xs,e2,by rw[ls n];exact hb,fb,by rw[ls n];exact h0b,rr⟩
  | dic ks=>obtain⟨b,as,ep,e2,hb,fb,h0b,rr⟩:=q;have n:=nX hb ha;exact⟨b,as,ep,e2,by rw[ls n];exact hb,fb,by rw[ls n];exact h0b,rr⟩
  | dki oa kvs=>obtain⟨b,ws,ep,e2,hb,fb,h0b,rr⟩:=q;have n:=nX hb ha;exact⟨b,ws,ep,e2,by rw[ls n];exact hb,fb,by rw[ls n];exact h0b,rr⟩
  | dkt kvs=>obtain⟨b,ws,ep,e2,hb,fb,h0b,rr⟩:=q;have n:=nX hb ha;exact⟨b,ws,ep,e2,by rw[ls n];exact hb,fb,by rw[ls n];exact h0b,rr⟩
  | tab P=>obtain⟨ps,q,g⟩:=q;exact⟨ps,by rw[ls (nX q (r.h0.free ha))];exact q,g.updG λx u z=>by rw[r.h0.free ha] at z;cases z⟩
  | fn c=>obtain⟨g,e,q⟩:=q;exact⟨g,e,c.mono _ _ _ _ _ (.refl _) (Fz.upd λx u z=>by rw[ha] at z;cases z) q⟩
theorem mJ.swp {H:Hp}{a:Gj}{o o':HO}(p:Pl o){l:List Gg}(g:mJ (upd H a o) l):mJ (upd H a o') l :=
 ⟨g.1,λpos cv e=>by
  obtain⟨c,x,vs,v,e1,e2,e3⟩:=g.2 pos cv e;have ne:c≠a:=λz=>by subst z;rw[lB] at e2;cases e2;exact p
  rw[ls ne] at e2;exact⟨c,x,vs,v,e1,by rw[ls ne];exact e2,e3⟩⟩
theorem RS.swap {K:ja}{H0 F H:Hp}{ψ:En}{σ:St}{a:Gj}{o o':HO}(r:RS K (upd H0 a o) F H ψ σ)(fa:F a=Gb)(pl:Pl o:=by trivial)(pl':Pl o':=by trivial):RS K (upd H0 a o') F (upd H a o') ψ σ:=by
 refine⟨r.h0.swp pl pl',r.fh.put fa (pl.nf (r.h0.pl lB pl)),λi s e=>?_,r.ap⟩
 .obtain⟨u,e1,q⟩:=r.sl i s e;have ne:∀ b,upd H0 a o b=Gb->b≠a:=λb h z=>by subst z;rw[lB] at h;cases h
  refine⟨u,e1,?_⟩;cases s with
  | no=>trivial
  | val d=>exact q
  | own ds=>obtain⟨b,xs,e2,hb,fb,h0b,rr⟩:=q;have n:=ne b h0b;exact⟨b,xs,e2,by rw[ls n];exact hb,fb,by rw[ls n] at h0b ⊢;exact h0b,rr⟩
  | owk b ds=>obtain⟨xs,e2,hb,fb,h0b,rr⟩:=q;have n:=ne b h0b;exact⟨xs,e2,by rw[ls n];exact hb,fb,by rw[ls n] at h0b ⊢;exact h0b,rr⟩
  | dic ks=>obtain⟨b,as,ep,e2,hb,fb,h0b,rr⟩:=q;have n:=ne b h0b;exact⟨b,as,ep,e2,by rw[ls n];exact hb,fb,by rw[ls n] at h0b ⊢;exact h0b,rr⟩
  | dki oa kvs=>obtain⟨b,ws,ep,e2,hb,fb,h0b,rr⟩:=q;have n:=ne b h0b;exact⟨b,ws,ep,e2,by rw[ls n];exact hb,fb,by rw[ls n] at h0b ⊢;exact h0b,rr⟩
  | dkt kvs=>obtain⟨b,ws,ep,e2,hb,fb,h0b,rr⟩:=q;have n:=ne b h0b;exact⟨b,ws,ep,e2,by rw[ls n];exact hb,fb,by rw[ls n] at h0b ⊢;exact h0b,rr⟩
  | tab P =>
   obtain⟨ps,q,g⟩:=q;have n:P≠a:=λz=>by subst z;rw[lB] at q;cases q;exact pl
   exact⟨ps,by rw[ls n] at q ⊢;exact q,g.swp pl⟩
  | fn c=>obtain⟨g,e,q⟩:=q;exact⟨g,e,c.mono _ _ _ _ _ (.refl _) (Fz.upd (pl.nf (r.h0.pl lB pl))) q⟩
theorem Ry {ix:List Nat}{ψ:En}{j:Nat}{s:Sl}(h:(pD ix ψ)[j]?=Ga s)(o:pI s=true):∃ k ds,ix[j]?=Ga k/\ψ[k]?=Ga (.own ds)/\s=.own ds:=by
 unfold pD at h;rw[jA] at h;cases z:ix[j]? with
 | none=>rw[z] at h;cases h
 | some k =>
  rw[z] at h;have h2:=jF h;unfold rW at h2;dsimp only at h2;split at h2
  .subst h2;cases o
  .rename_i ds hd;subst h2;exact⟨k,ds,rfl,hd,rfl⟩
  .subst h2;cases o
  .subst h2;cases o
theorem RS.prj {K:ja}{H0 F H:Hp}{ψ:En}{σ:St}(r:RS K H0 F H ψ σ)(ix:List Nat)(nd:ix.Nodup):RS K H0 F H (.no::pD ix ψ) (T3.prj ix σ):=by
 refine⟨r.h0,r.fh,λi s e=>?_,λi j a s t o1 o2 e1 e2 e3 e4=>?_⟩
 .cases i with
  | zero=>simp at e;subst e;exact⟨Gb,rfl,trivial⟩
  | succ j =>
   have e':(pD ix ψ)[j]?=Ga s:=by simpa using e
   unfold pD at e';rw[jA] at e';cases z:ix[j]? with
   | none=>rw[z] at e';cases e'
   | some k =>
    rw[z] at e';have e2:=jF e';refine⟨(σ[k]?).join,by simp[T3.prj,z],?_⟩;unfold rW at e2;dsimp only at e2;split at e2
    .rename_i d hd;subst e2;obtain⟨u,e3,v,e4,rv⟩:=r.sl k _ hd;exact⟨v,by rw[e3,e4];rfl,rv⟩
    .rename_i ds hd;subst e2;obtain⟨u,e3,a,xs,e4,rv⟩:=r.sl k _ hd;exact⟨a,xs,by rw[e3,e4];rfl,rv⟩
    .rename_i c hd;subst e2;obtain⟨u,e3,f,e4,rv⟩:=r.sl k _ hd;exact⟨f,by rw[e3,e4];rfl,rv⟩
    .subst e2;trivial
 .cases i with
  | zero=>simp at e1;subst e1;cases o1
  | succ i =>
   cases j with
   | zero=>simp at e2;subst e2;cases o2
   | succ j =>
    obtain⟨k1,d1,x1,y1,z1⟩:=Ry (by simpa using e1) o1;obtain⟨k2,d2,x2,y2,z2⟩:=Ry (by simpa using e2) o2;have g1:σ[k1]?=Ga (Ga (.ref a)):=by
     obtain⟨u,e5,b,xs,e6,_⟩:=r.sl k1 _ y1;have:(T3.prj ix σ)[i+1]?=Ga ((σ[k1]?).join):=by simp[T3.prj,x1]
     rw[e3] at this;rw[e5,e6] at this ⊢;exact congrArg Ga (jF this).symm
    have g2:σ[k2]?=Ga (Ga (.ref a)):=by
     obtain⟨u,e5,b,xs,e6,_⟩:=r.sl k2 _ y2;have:(T3.prj ix σ)[j+1]?=Ga ((σ[k2]?).join):=by simp[T3.prj,x2]
     rw[e4] at this;rw[e5,e6] at this ⊢;exact congrArg Ga (jF this).symm
    have ek:k1=k2:=r.ap k1 k2 a _ _ rfl rfl y1 y2 g1 g2;subst ek;have hi:i<ix.length:=(jr.mp x1).1;have hj:j<ix.length:=(jr.mp x2).1;have:i=j:=(JX (h₀:=hi) (h₁:=hj) nd).mp (by rw[(jr.mp x1).2,(jr.mp x2).2]);rw[this]
theorem Rk {K:ja}{J:It}{H0 F1 H1:Hp}{ψ:En}{σ:St}{ds rs:List D}{fc:FB}{fe:FV}{ix:List Nat}{tc:TT}{D0:Gj}{Qv:Hp->Prop}{g:TG}
  (hg:∀ v σ H Q,tG K (λd ψ=>Ga (ψ.set 0 (.val d))) v σ H Q->g v σ H Q)
  (htc:∀ σ H Q,tT K fc σ H Q->tc σ H Q) (nd:ix.Nodup) (r:RS K H0 F1 H1 ψ σ) (Y:∀ F2,iP F1 F2->sP K J F2 ds) (e:mv fc fe (pD ix ψ) ds=Ga rs) (hz:ds.length<=1000000) (hD:H1 D0=Gb)
  (q:∀ xs H' F',iP H1 H'->iP F1 F'->iP F' H'->mz F1 F' H1->F' D0=Gb->H' D0=Ga (.lst xs)->ly K F' rs xs->Qv H') :
  Hz J g tc (tV K fe) D0 (prj ix σ) (upd H1 D0 (.lst [])) Qv:=by
 have fD:F1 D0=Gb:=r.fh.free hD;have h0D:H0 D0=Gb:=r.h0.free hD;have g0:iP H1 (upd H1 D0 (.lst [])):=iP.new hD;refine⟨λi m σ' H'=>i+m=ds.length/\∃ F2 sx don ys rest,RS K (upd H0 D0 (.lst ys)) F2 H' (sx::pD ix ψ) σ'/\iP F1 F2/\mz F1 F2 H1/\iP H1 H'/\F2 D0=Gb/\H' D0=Ga (.lst ys)/\ly K F2 don ys/\don.length<=i /\
  mv fc fe (pD ix ψ) (ds.drop i)=Ga rest/\rs=don++rest,⟨ds.length,by omega,F1,.no,[],[],rs,(r.prj ix nd).lend hD,.refl _,.refl _ _,g0,fD,lB,.nil,jj _,e,rfl⟩,?_⟩
 rintro i m σ' H' ⟨hm,F2,sx,don,ys,rest,r2,f2,n2,g2,fd2,hd2,rr2,hl2,e2,ers⟩;obtain⟨yd,yg⟩:=Y F2 f2 H' r2.fh i;by_cases hlt:i<ds.length
 .obtain⟨go,yy⟩:=yg ds[i] (by simp[hlt]);rw[qx hlt] at e2;unfold mv at e2;obtain⟨b,x1,x2⟩:=iO e2;refine .inr ⟨go,λσ3 H3=>i+1+(m-1)=ds.length/\∃ F2 sx don ys rest,RS K (upd H0 D0 (.lst ys)) F2 H3 (sx::pD ix ψ) σ3/\iP F1 F2/\mz F1 F2 H1/\iP H1 H3/\F2 D0=Gb/\H3 D0=Ga (.lst ys)/\ly K F2 don ys/\don.length<=i+1 /\
   mv fc fe (pD ix ψ) (ds.drop (i+1))=Ga rest/\rs=don++rest,λσ3 H3 h3=>⟨m-1,by omega,h3⟩,λx Hx yl=>?_⟩
  obtain⟨gx,F4,f4,fh4,n4,rx⟩:=yy x Hx yl;have r4:=r2.grow gx f4 fh4 n4;have noD:∀ {F F' H:Hp},F D0=Gb->(∃ o,H D0=Ga o)->mz F F' H->F' D0=Gb:=λ{F F' H} a ⟨o,b⟩ n=>by
   cases z:F' D0 with
   | none=>rfl
   | some o'=>have:=n D0 o' z a;rw[b] at this;cases this
  have fd4:F4 D0=Gb:=noD fd2 ⟨_,hd2⟩ n4;refine hg _ _ _ _ ⟨upd H0 D0 (.lst ys),F4,sx::pD ix ψ,ds[i],.val ds[i]::pD ix ψ,r4,rx,rfl,λσ5 r5=>?_⟩;refine htc _ _ _ ⟨upd H0 D0 (.lst ys),F4,.val ds[i]::pD ix ψ,b,r5,x1,λH6 g6=>?_⟩;have r6:=r5.later g6;have hd6:H6 D0=Ga (.lst ys):=g6 _ _ (gx _ _ hd2);have s6:iP H1 H6:=g2.trans (gx.trans g6);have nn4:mz F1 F4 H1:=n2.trans n4 g2;cases b with
  | true =>
   obtain⟨y,x3,x4⟩:=iO x2;obtain⟨ys',x5,x6⟩:=iO x4;cases x6;refine wx ⟨upd H0 D0 (.lst ys),F4,.val ds[i]::pD ix ψ,y,r6,x3,λv H7 F7 g7 f7 fh7 n7 rv=>⟨ys,g7 _ _ hd6,?_,by omega,F7,.val ds[i],don++[y],ys++[v],ys',?_,f2.trans (f4.trans f7),?_,?_,noD fd4 ⟨_,hd6⟩ n7,lB,?_,?_,x5,?_⟩⟩
   .rw[<- rr2.length];have:don.length<1000000:=by omega
    exact jz this (by rw[sizeLine_eq];decide)
   .exact(r6.grow g7 f7 fh7 n7).swap (noD fd4 ⟨_,hd6⟩ n7)
   .exact nn4.trans n7 s6
   .exact(s6.trans g7).put hD (Ow.nf (ob:=.lst ys) trivial (g7 _ _ hd6))
   .exact((rr2.mono f4).mono f7).append (.cons rv .nil)
   .rw[jg,j4];omega
   .rw[ers,uM];rfl
  | false =>
   exact wz ⟨by omega,F4,.val ds[i],don,ys,rest,r6,f2.trans f4,nn4,s6,fd4,hd6,rr2.mono f4,by omega,x2,ers⟩
 .rw[qQ (by omega)] at e2;cases e2;refine .inl ⟨yd (by omega),q ys H' F2 g2 f2 r2.fh n2 fd2 hd2 ?_⟩;rw[ers,kz];exact rr2
def lY (fi:FL)(fc:FB)(fe:FV)(ix:List Nat):FL:=λψ=>(fi ψ).bind λds=>if ds.length<=1000000 then mv fc fe (pD ix ψ) ds else Gb
section
variable {X:Cx}{elt iter:Expr}{x:Str}{px pos:Pos}{ifs:List Expr}{scope:Scope}{fr:List Str}{ix:List Nat}{fi:FL}{fc:FB}{fe:FV}
def zX (K:ja)(ifs:List Expr)(fc:FB):TT:=match ifs with
 | []=>λ_ H Q=>Q true H
 | _=>tT K fc
structure Cp (X:Cx)(scope:Scope)(x:Str)(px:Pos)(fr:List Str)(ifs:List Expr)(elt:Expr)(fc:FB)(fe:FV):Prop where
 h:∀ cl C s H fp ω,yz (oj X scope cl C (x::fr) s H fp ω) (.Name x px) (λd ψ=>Ga (ψ.set 0 (.val d))) /\
  Om (oj X scope cl C (x::fr) s H fp ω) ifs (zX X.K ifs fc)/\PV (oj X scope cl C (x::fr) s H fp ω) elt fe
 hn:ifs=[]->fc=λ_=>Ga true
theorem rP (nd:(x::fr).Nodup)(hl:scope.names.lookup x=Ga .local)(he:∀ cl C s H fp ω,PV (oj X scope cl C (x::fr) s H fp ω) elt fe):Cp X scope x px fr [] elt (λ_=>Ga true) fe :=
 ⟨λcl C s H fp ω=>⟨My 0 nd rfl (.inl (lookup_relabel_local hl)) (.inr (lookup_relabel_local hl)),rfl,he cl C s H fp ω⟩,λ_=>rfl⟩
theorem sA {c:Expr}(nd:(x::fr).Nodup)(hl:scope.names.lookup x=Ga .local)(hc:∀ cl C s H fp ω,PB (oj X scope cl C (x::fr) s H fp ω) c fc)(he:∀ cl C s H fp ω,PV (oj X scope cl C (x::fr) s H fp ω) elt fe) :
  Cp X scope x px fr [c] elt fc fe :=
 ⟨λcl C s H fp ω=>⟨My 0 nd rfl (.inl (lookup_relabel_local hl)) (.inr (lookup_relabel_local hl)),hc cl C s H fp ω,he cl C s H fp ω⟩,λh=>nomatch h⟩
theorem Cp.tc (B:Cp X scope x px fr ifs elt fc fe):∀ σ H Q,tT X.K fc σ H Q->zX X.K ifs fc σ H Q:=by
 intro σ H Q h;cases ifs with
 | nil =>
  obtain⟨H0,F,ψ,b,r,e,q⟩:=h;rw[B.hn rfl] at e;cases e;exact q H (.refl _)
 | cons c r=>exact h
theorem QR {ω:List (Gj×Obj)}{σ:St}{H:Hp}{s:Gh}(I:iZ X ω σ H s)(S:sf X.N X.env.scope scope x fr ix):∃ cl,closureFor scope X.env=pure cl/\(∀ x c,cl.lookup x=Ga c->X.env.cells.lookup x=Ga c)/\∀ x,(x,j6)∈scope.names->∃ c,cl.lookup x=Ga c:=by
 obtain⟨cl,e,a,b,_⟩:=Hc (ψ:=X.env) scope.names [] (λy hy hf=>I.ok.has y.1 (S.outs y hy hf)) (λx c h=>by simp at h);refine⟨cl,?_,a,b⟩;rw[Uc,e];rfl
theorem rE (hc:X.calm=true)(S:sf X.N X.env.scope scope x fr ix)(hi:BB X (.Name x px) iter fi)(B:Cp X scope x px fr ifs elt fc fe)(hs:∀ v,foldedSetIterable iter X.env v=pure v:=by intro _;rfl) :
  PO X (.ListComp elt [⟨.Name x px,iter,ifs,0⟩] scope pos) (lY fi fc fe ix):=by
 intro ω s σ H Q I hw;obtain⟨cl,hclos,hl1,hl2⟩:=QR I S;obtain⟨H0,F,ψ,rs,r,e,q⟩:=hw;obtain⟨ds,e1,e⟩:=iO e;split at e;rotate_left
 .cases e
 rename_i hz;rw[eval_ListComp];refine wpAny_comprehension_free (use:=Gb) rfl hs hclos S.kind S.locs (wpAny_mono (hi ω s σ H (λJ H1=>∃ F1,iP H H1/\iP F F1/\iP F1 H1/\mz F F1 H/\∀ F2,iP F1 F2->sP X.K J F2 ds) I ⟨H0,F,ψ,ds,r,e1,λJ H1 F1 g1 f1 fh1 n1 Y=>⟨F1,g1,f1,fh1,n1,Y⟩⟩)
  (λxv s1 h1=>wpAny_mono h1 (λitv s2 h2=>?_) λ_ _ z=>z) λ_ _ z=>z)
 obtain⟨it,fp,tn,J,H2,eit,I2,T,st2,f2,F1,g1,f1,fh1,n1,Y⟩:=h2;subst eit;refine RH (g:=tG X.K (λd ψ=>Ga (ψ.set 0 (.val d)))) (te:=tV X.K fe) (tc:=zX X.K ifs fc) (RR:=λacc C=>compPost (model X.prog X.w) X.A X.xe Gb (EP X ω σ Q) acc C) (Qv:=λD0 H'=>Q (.ref D0) H') S hl1 hl2 I2 T st2 f2 hc (λC s' H'=>B.h cl C s' H' fp ω) (λD0 hD=>?_) λD0 C s' H' I' hC hn hf hq=>?_
 .exact Rk (λ_ _ _ _ h=>h) B.tc S.apart (r.grow g1 f1 fh1 n1) Y e hz hD λxs H' F' g2 f2' fh2 n2 fd hd rr=>q D0 xs H' F' (g1.trans g2) (f1.trans f2') fh2 (n1.trans n2 g1) (g1.free hD) fd hd rr
 .obtain⟨m,hm⟩:=hn;refine⟨m,hm,λh' sb=>?_⟩;have nC:∀ p o,s2.heap.get? p=Ga o->p≠C:=λp o e=>jJ (jz (jt e) hC);refine⟨.ref D0,H',?_,rfl,hq⟩;refine I'.turned (it:=C) (t':=s'.toks) (λb o hb e=>sb.extBut b o hb e) hf (vp (jz I2.lt hC)) (.inr (jk I2.sz hC)) (λy c ec z=>?_) λp hp z=>?_
  .obtain⟨v,qv⟩:=I2.cell y c ec;exact absurd (jz qv.lt (by rw[z];exact hC)) (jU _)
  .exact nC _ _ (I2.pin p hp).1 z
end
section
variable {X:Cx}{elt iter:Expr}{x y:Str}{px py pos spos:Pos}{ifs:List Expr}{scope:Scope}{fr:List Str}{ix:List Nat}{fi:FL}{fc:FB}{fe:FV}
theorem Ax (i:Nat)(hc:X.calm=true)(S:sf X.N X.env.scope scope x fr ix)(hit:BB X (.Name x px) iter fi)(B:Cp X scope x px fr ifs elt fc fe)(hN:X.N.Nodup)(hi:X.N[i]?=Ga y:=by rfl)(hy:X.env.scope.names.lookup y=Ga .local:=by rfl)
  (hsw:swapsWith (.ListComp elt [⟨.Name x px,iter,ifs,0⟩] scope pos) (Ga (.Name y py)) spos.line X.env=pure true:=by rfl) (hs:∀ v,foldedSetIterable iter X.env v=pure v:=by intro _;rfl) :
  rh X (.Assign [.Name y py] (.ListComp elt [⟨.Name x px,iter,ifs,0⟩] scope pos) spos) (λψ=>(lY fi fc fe ix ψ).bind λd=>Ga (.nx (ψ.set i (.own d)))):=by
 intro ω s σ H D I hw;obtain⟨cl,hclos,hl1,hl2⟩:=QR I S;obtain⟨H0,F,ψ,o,r,e,p⟩:=hw;obtain⟨rs,e0,e⟩:=iO e;cases e;obtain⟨ds,e1,e⟩:=iO e0;split at e;rotate_left
 .cases e
 rename_i hz;have hl:i<σ.length:=by rw[I.len];exact(jr.mp hi).1
 rw[exec_Assign_Name_used _ _ _ _ hsw];refine iK (wpAny_standAt (iK ?_));show wpAny _ X.A (do let _ <- comprehension (.ListComp elt [⟨.Name x px,iter,ifs,0⟩] scope pos) scope X.env _ (newList []) false (eval iter X.env) (Ga (assign (.Name y py) X.env))) _ _ s;refine iK (wpAny_mono (wpAny_comprehension_free (use:=Ga (assign (.Name y py) X.env)) (Q:=λ_ s'=>SP X ω D .next s') rfl hs hclos S.kind S.locs
  (wpAny_mono (hit ω s σ H (λJ H1=>∃ F1,iP H H1/\iP F F1/\iP F1 H1/\mz F F1 H/\∀ F2,iP F1 F2->sP X.K J F2 ds) I ⟨H0,F,ψ,ds,r,e1,λJ H1 F1 g1 f1 fh1 n1 Y=>⟨F1,g1,f1,fh1,n1,Y⟩⟩)
  (λxv s1 h1=>wpAny_mono h1 (λitv s2 h2=>?_) λ_ _ z=>z) λ_ _ z=>z)) (λ_ s' hq=>iL (iL hq)) λ_ _ z=>z)
 obtain⟨it,fp,tn,J,H2,eit,I2,T,st2,f2,F1,g1,f1,fh1,n1,Y⟩:=h2;subst eit;refine RH (g:=tG X.K (λd ψ=>Ga (ψ.set 0 (.val d)))) (te:=tV X.K fe) (tc:=zX X.K ifs fc) (RR:=λacc C=>compPost (model X.prog X.w) X.A X.xe (Ga (assign (.Name y py) X.env)) (λ_ s'=>SP X ω D .next s') acc C) (Qv:=λD0 H'=>D.nx (σ.set i (Ga (.ref D0))) H') S hl1 hl2 I2 T st2 f2 hc
  (λC s' H'=>B.h cl C s' H' fp ω) (λD0 hD=>?_) λD0 C s' H' I' hC hn hf hq=>?_
 .refine Rk (λ_ _ _ _ h=>h) B.tc S.apart (r.grow g1 f1 fh1 n1) Y e hz hD λxs H' F' g2 f2' fh2 n2 fd hd rr=>?_;have nn:mz F F' H:=n1.trans n2 g1;have r':=r.grow (g1.trans g2) (f1.trans f2') fh2 nn;refine p _ H' F' (f1.trans f2') (nn.dn r.h0) (r'.putO hl hd fd (r.h0.free (g1.free hD)) rr ?_);exact λj s o _ ej=>r.ne_free (g1.free hD) j s o ej
 .obtain⟨m,hm⟩:=hn;have nC:∀ p o,s2.heap.get? p=Ga o->p≠C:=λp o e=>jJ (jz (jt e) hC);have cC:∀ y c,X.env.cells.lookup y=Ga c->c≠C:=λy c ec z=>by
   obtain⟨v,qv⟩:=I2.cell y c ec;exact absurd (jz qv.lt (by rw[z];exact hC)) (jU _)
  have lC:C≠X.env.locals:=vp (jz I2.lt hC);show wpAny _ X.A (assign (.Name y py) X.env (.ref D0)) _ _ _;refine wpAny_assign_Name (zZ I' hN hi (.inl hy) (v:=.ref D0) rfl (λs'' I'' ⟨a,sb,ha⟩=>?_) (.inr hy));have aC:C≠a:=by
   rcases ha with z|z
   .rw[z];exact lC
   .exact(cC _ _ z).symm
  refine⟨m,hm.sameBut sb aC,λh' sb2=>⟨_,H',?_,hq⟩⟩;refine I''.turned (it:=C) (t':=s''.toks) (λb o hb e=>sb2.extBut b o hb e) hf lC (.inr (jk I2.sz hC)) cC λp hp z=>nC _ _ (I2.pin p hp).1 z
end
def Cd (i:Nat):tu->tu
 | .nx e=>.nx (frzAt i e)
 | o=>o
theorem Ay (i:Nat){X:Cx}{st:Stmt}{g:FS}(h:rh X st g):rh X st (λψ=>(g ψ).bind λo=>Ga (Cd i o)):=by
 refine wF h λE σ H=>?_;rintro⟨H0,F,ψ,o,r,e,p⟩;obtain⟨o1,e1,e2⟩:=iO e;cases e2;refine⟨H0,F,ψ,o1,r,e1,?_⟩;cases o1 with
 | nx e3 =>
  intro σ' H' F' f n r';obtain⟨F2,f2,n2,r2⟩:=r'.frzAt i;exact p σ' H' F2 (f.trans f2) (n.up n2) r2
 | rt d=>exact p
 | ro d=>exact p
 | rm a d=>exact p
 | rc a d=>exact p
 | bk d=>exact p
 | ct d=>exact p
section
variable {X:Cx}{tg:Expr}{pos:Pos}
theorem zDJ {l:Expr}{tl:TE}(hl:PE X l tl):PI X tg l (λσ H R=>tl σ H λx H1=>∃ a,x=.ref a/\(((∃ xs,nr X.K H1 a xs)/\R (Kd X.K a) H1)\/((∃ xs,oB X.K H1 a xs)/\R (Pw X.K a) H1))):=by
 intro ω s σ H R I h;refine lZ (hl ω s σ H _ I h) λv s1 ⟨x,H1,I1,r1,a,e,q1⟩=>?_;subst e;cases r1;rcases q1 with ⟨⟨xs,hq⟩,q⟩|⟨⟨xs,hq⟩,q⟩
 .obtain⟨its,rv,p,hz⟩:=I1.list hq;refine wpAny_pyIter_list p.isList ⟨s1.heap.objs.size,[s1.heap.objs.size],_,_,H1,rfl,I1.kept (t':=s1.toks) λb o e=>je _ e,Ee a _,⟨_,jB _ rfl,rfl,rfl⟩,λb hb=>?_,q⟩;cases jo.mp hb;exact I1.fpOk (jj _) I1.fresh
 .obtain⟨its,rv,p,hz⟩:=I1.tuple hq;refine wpAny_pyIter_tuple (show s1.heap.IsTuple a its.toArray from p) ⟨s1.heap.objs.size,[s1.heap.objs.size],_,_,H1,rfl,I1.kept (t':=s1.toks) λb o e=>je _ e,DT a _,⟨_,jB _ rfl,rfl,rfl⟩,λb hb=>?_,q⟩;cases jo.mp hb;exact I1.fpOk (jj _) I1.fresh
theorem oI {l:Expr}{f:FV}(h:PV X l f):BB X tg l (λψ=>(f ψ).bind toS):=by
 refine Lp (zDJ h) λσ H R=>?_;rintro⟨H0,F,ψ,ds,r,e,q⟩;obtain⟨d,e1,e2⟩:=iO e;refine⟨H0,F,ψ,d,r,e1,λv H1 F1 g1 f1 fh1 n1 rv=>?_⟩;cases rv<;>first|(cases e2;done)|skip
 .rename_i a xs ds' h1 rr;cases e2;exact⟨a,rfl,.inr ⟨⟨xs,oN fh1 h1⟩,q _ H1 F1 g1 f1 fh1 n1 λF2 f2=>zu2 (oN f2 h1) (rr.mono f2)⟩⟩
 .rename_i a xs ds' h1 rr;cases e2;exact⟨a,rfl,.inl ⟨⟨xs,fh1.seq h1⟩,q _ H1 F1 g1 f1 fh1 n1 λF2 f2=>zsR (f2.seq h1) (rr.mono f2)⟩⟩
def oi (lo:Int)(n:Nat):List D:=(jd n).map λk=>.int (lo+(k:Nat))
theorem RX {K:ja}{F:Hp}{lo:Int}{n:Nat}:sP K (Es lo n) F (oi lo n):=by
 intro H g i;refine⟨λhi=>(by simpa [oi] using hi:n<=i),λd hd=>?_⟩;have hi:i<n:=by have:=(jr.mp hd).1;simpa [oi] using this
 refine⟨hi,λx H' y=>?_⟩;obtain⟨rfl,rfl⟩:=y;have:d=.int (lo+(i:Nat)):=by
  have h2:(oi lo n)[i]?=Ga (.int (lo+(i:Nat))):=by simp[oi,hi]
  rw[h2] at hd;exact(jF hd).symm
 subst this;exact⟨.refl _,F,.refl _,g,.refl _ _,.int _⟩
def mr:D->Option (List D)
 | .int j=>if -(2^62)<=j/\j<2^62 then Ga (oi 0 j.toNat) else Gb
 | _=>Gb
def sq:D->D->Option (List D)
 | .int i,.int j=>if -(2^62)<=i/\i<2^62/\-(2^62)<=j/\j<2^62 then Ga (oi i (j-i).toNat) else Gb
 | _,_=>Gb
theorem rC {a:Expr}{f:FV}{p:Pos}(hg:Gl X "range")(hm:X.mg "range"=Gb)(ha:PV X a f)(hs:starEach [a] X.env=[(false,eval a X.env)]:=by rfl):BB X tg (.Call (.Name "range" p) [a] [] pos) (λψ=>(f ψ).bind mr):=by
 refine Lp (Eb hg hm (nL ha pM hs) hs) λσ H R=>?_;rintro⟨H0,F,ψ,ds,r,e,q⟩;obtain⟨d,e1,e2⟩:=iO e;refine⟨H0,F,ψ,d,r,e1,λv H1 F1 g1 f1 fh1 n1 rv=>?_⟩;cases rv<;>first|(cases e2;done)|skip
 rename_i j;unfold mr at e2;dsimp only at e2;split at e2
 .rename_i c;cases e2;exact⟨j,rfl,c.1,c.2,q _ H1 F1 g1 f1 fh1 n1 λF2 f2=>RX⟩
 .cases e2
theorem GE {a b:Expr}{f g:FV}{p:Pos}(hg:Gl X "range")(hm:X.mg "range"=Gb)(ha:PV X a f)(hb:PV X b g)(hs:starEach [a,b] X.env=[(false,eval a X.env),(false,eval b X.env)]:=by rfl)(hs2:starEach [b] X.env=[(false,eval b X.env)]:=by rfl) :
  BB X tg (.Call (.Name "range" p) [a,b] [] pos) (λψ=>(f ψ).bind λx=>(g ψ).bind λy=>sq x y):=by
 refine Lp (Fe hg hm (nL ha (nL hb pM hs2) (by rw[hs,hs2])) hs hs2) λσ H R=>?_;rintro⟨H0,F,ψ,ds,r,e,q⟩;obtain⟨d,e1,e2⟩:=iO e;obtain⟨d2,e3,e4⟩:=iO e2;refine⟨H0,F,ψ,d,r,e1,λv H1 F1 g1 f1 fh1 n1 rv=>⟨H0,F1,ψ,d2,r.grow g1 f1 fh1 n1,e3,λv2 H2 F2 g2 f2 fh2 n2 rv2=>?_⟩⟩;cases rv<;>first|(cases e4;done)|skip
 cases rv2<;>first|(cases e4;done)|skip
 rename_i i j;unfold sq at e4;dsimp only at e4;split at e4
 .rename_i c;cases e4;exact⟨i,j,rfl,c,q _ H2 F2 (g1.trans g2) (f1.trans f2) fh2 (n1.trans n2 g1) λF2 f2=>RX⟩
 .cases e4
end
def mE (K:ja)(fm:List D->Option D):Sp:=λvs H Q _=>∃ F ds d,iP F H/\ly K F ds vs/\fm ds=Ga d/\∀ v H' F',iP H H'->iP F F'->iP F' H'->mz F F' H->md K F' d v->Q v H'
def xf (K:ja)(fm:List D->Option (List D)):Sp:=λvs H Q _=>∃ F ds d,iP F H/\ly K F ds vs/\fm ds=Ga d/\∀ a xs H' F',iP H H'->iP F F'->iP F' H'->mz F F' H->H a=Gb->F' a=Gb->H' a=Ga (.lst xs)->ly K F' d xs->Q (.ref a) H'
def pU (n:Nat)(ds:List D):En:=ds.map Sl.val++jO (n-ds.length) Sl.no
theorem RS.start {K:ja}{F H:Hp}{N:List Str}{ds:List D}{vs:List V}(g:iP F H)(r:ly K F ds vs):RS K H F H (pU N.length ds) (start N vs):=by
 have hl:=r.length;refine⟨.refl _,g,λi s e=>?_,λi j a s t o1 o2 e1=>?_⟩
 .unfold pU at e;by_cases hi:i<ds.length
  .rw[uF (by simpa using hi),jA] at e;obtain⟨v,e1,e2⟩:=r.get (ji hi);rw[ji hi] at e;cases e;refine⟨Ga v,?_,v,rfl,e2⟩;unfold L2.start;rw[uF (by rw[jc];omega),jA,e1];rfl
  .rw[uD (by simpa using hi),uW] at e;split at e
   .rename_i hlt;cases e;refine⟨Gb,?_,trivial⟩;unfold L2.start;rw[uD (by rw[jc];omega),uW];rw[jc] at hlt ⊢;rw[Ge (by omega)]
   .cases e
 .exfalso;unfold pU at e1;by_cases hi:i<ds.length
  .rw[uF (by simpa using hi),jA,ji hi] at e1;cases e1;cases o1
  .rw[uD (by simpa using hi),uW] at e1;split at e1<;>cases e1;cases o1
section
variable {P:Program}{w:World}{K:ja}{mg:Str->Option Gg}{base:Heap}{x qual:Str}{st:Stmt}{f:Gj}{fd:Gi}{N ps:List Str}{k:Nat}
theorem fnV {fm:List D->Option D}(F:wI K x qual st f fd)(S:lg N ps (iT st))(hlen:∀ ds d,fm ds=Ga d->ds.length=ps.length)
  (hb:∀ (cdv:Gg) (A:Around) (outer:List Env) (s:Gh) (H:Hp) (E:XK),nv k (A.deeper (envOfC qual (iT st) s.heap.objs.size f cdv)) ->
   ∃ g,rQ (sL lK P w K mg base N qual (iT st) f cdv A outer s H E).nox (nQ st) g/\∀ ds d,fm ds=Ga d->g (pU N.length ds)=Ga (.rt d)\/(∃ xs,d=.list xs/\g (pU N.length ds)=Ga (.ro xs))) :
  lz P w K mg base lK (k+1) f fd ps (mE K fm):=by
 refine F.ok S (λvs H Q E h=>?_) (λcdv A outer s H vs Q E hr h=>?_)
 .obtain⟨F0,ds,d,_,r,e,_⟩:=h;rw[<- r.length];exact hlen ds d e
 .obtain⟨F0,ds,d,g0,r,e,q⟩:=h;obtain⟨g,hg,hm⟩:=hb cdv A outer s H E hr;rcases hm ds d e with z|⟨xs,rfl,z⟩
  .exact⟨_,hg,H,F0,_,_,RS.start g0 r,z,λv H' F' g1 f1 fh1 n1 rv=>q v H' F' g1 f1 fh1 n1 rv⟩
  .refine⟨_,hg,H,F0,_,_,RS.start g0 r,z,λa ys H' F' g1 f1 fh1 n1 ha fa ha' rr=>?_⟩;have sF:iP F' (upd F' a (.lst ys)):=iP.new fa;refine q (.ref a) H' (upd F' a (.lst ys)) g1 (f1.trans sF) (λb o h=>?_) (λb o h nb=>?_) (.lst (nr.of lB) (rr.mono sF))
   .exact iP.upL fh1 ha' trivial b o h
   .by_cases hb:b=a
    .subst hb;exact ha
    .rw[ls hb] at h;exact n1 b o h nb
theorem fnO {fm:List D->Option (List D)}(F:wI K x qual st f fd)(S:lg N ps (iT st))(hlen:∀ ds d,fm ds=Ga d->ds.length=ps.length)
  (hb:∀ (cdv:Gg) (A:Around) (outer:List Env) (s:Gh) (H:Hp) (E:XK),nv k (A.deeper (envOfC qual (iT st) s.heap.objs.size f cdv)) ->
   ∃ g,rQ (sL lK P w K mg base N qual (iT st) f cdv A outer s H E).nox (nQ st) g/\∀ ds d,fm ds=Ga d->g (pU N.length ds)=Ga (.ro d)) :
  lz P w K mg base lK (k+1) f fd ps (xf K fm):=by
 refine F.ok S (λvs H Q E h=>?_) (λcdv A outer s H vs Q E hr h=>?_)
 .obtain⟨F0,ds,d,_,r,e,_⟩:=h;rw[<- r.length];exact hlen ds d e
 .obtain⟨F0,ds,d,g0,r,e,q⟩:=h;obtain⟨g,hg,hm⟩:=hb cdv A outer s H E hr;exact⟨_,hg,H,F0,_,_,RS.start g0 r,hm ds d e,λa xs H' F' g1 f1 fh1 n1 ha fa ha' rr=>q a xs H' F' g1 f1 fh1 n1 ha fa ha' rr⟩
end
section
variable {X:Cx}{k:Nat}{f:Gj}{fd:Gi}{ps:List Str}{x:Str}{p pos:Pos}{e:Expr}{es:List Expr}{g:FL}
theorem AL {fm:List D->Option D}(F:lz X.prog X.w X.K X.mg X.base lK k f fd ps (mE X.K fm))(hr:nv k X.A)(hm:X.mg x=Ga (.ref f))(hk:ur X.K (.ref f)=true)(hb:sO X.K fd ps [])(ha:PL X (e::es) g)(hg:Gl X x:=by rfl)
  (hdb:(x==("__debug__":Str))=false:=by decide) (he:starEach (e::es) X.env=(false,eval e X.env)::starEach es X.env:=by rfl) (hpl:(backTo pos (starEach es X.env)).any (·.1)=false:=by rfl) :
  PV X (.Call (.Name x p) (e::es) [] pos) (λψ=>(g ψ).bind fm):=by
 refine oh (zM F hr hg hm hk hb .nil DK ha.pa hdb he hpl) λσ H Q=>?_;rintro⟨H0,F,ψ,d,r,e,q⟩;obtain⟨ds,e1,e2⟩:=iO e;refine⟨H0,F,ψ,ds,r,e1,λvs H1 F1 g1 f1 fh1 n1 rv=>⟨F1,ds,d,fh1,by rw[kz];exact rv,e2,λv H2 F2 g2 f2 fh2 n2 rv2=>?_⟩⟩;exact q v H2 F2 (g1.trans g2) (f1.trans f2) fh2 (n1.trans n2 g1) rv2
theorem wO {fm:List D->Option (List D)}(F:lz X.prog X.w X.K X.mg X.base lK k f fd ps (xf X.K fm))(hr:nv k X.A)(hm:X.mg x=Ga (.ref f))(hk:ur X.K (.ref f)=true)(hb:sO X.K fd ps [])(ha:PL X (e::es) g)(hg:Gl X x:=by rfl)
  (hdb:(x==("__debug__":Str))=false:=by decide) (he:starEach (e::es) X.env=(false,eval e X.env)::starEach es X.env:=by rfl) (hpl:(backTo pos (starEach es X.env)).any (·.1)=false:=by rfl) :
  PO X (.Call (.Name x p) (e::es) [] pos) (λψ=>(g ψ).bind fm):=by
 refine oh (zM F hr hg hm hk hb .nil DK ha.pa hdb he hpl) λσ H Q=>?_;rintro⟨H0,F,ψ,d,r,e,q⟩;obtain⟨ds,e1,e2⟩:=iO e;refine⟨H0,F,ψ,ds,r,e1,λvs H1 F1 g1 f1 fh1 n1 rv=>⟨F1,ds,d,fh1,by rw[kz];exact rv,e2,λa xs H2 F2 g2 f2 fh2 n2 ha fa ha' rr=>?_⟩⟩;exact q a xs H2 F2 (g1.trans g2) (f1.trans f2) fh2 (n1.trans n2 g1) (g1.free ha) fa ha' rr
end
def Ds:D->D->Option Bool
 | .none,.none=>Ga true
 | _,.none=>Ga false
 | .bool a,.bool b=>Ga (a==b)
 | _,.bool _=>Ga false
 | _,_=>Gb
def rZ (a b:D):Option D:=(Ds a b).bind λk=>Ga (.bool k)
def nA (a b:D):Option D:=(Ds a b).bind λk=>Ga (.bool (!k))
section
variable {X:Cx}{pos:Pos}{a b:Expr}{f g:FV}
theorem UN {K:ja}{F:Hp}{a b:D}{x y:V}{u v:Gg}{k:Bool}(ra:md K F a x)(rb:md K F b y)(rx:lO x u)(ry:lO y v)(e:Ds a b=Ga k):plainIs u v=true/\(u==v)=k:=by
 cases rb<;>first|(cases ra<;>cases e;done)|skip
 .cases ry;cases ra<;>cases e<;>first
   | (cases rx;exact⟨rfl,rfl⟩)
   | (obtain⟨t,rfl⟩:=rx;exact⟨rfl,rfl⟩)
 .rename_i c;cases ry;cases ra<;>cases e<;>first
   | (cases rx;exact⟨rfl,rfl⟩)
   | (cases rx;rename_i b;cases b<;>cases c<;>exact⟨rfl,rfl⟩)
   | (obtain⟨t,rfl⟩:=rx;exact⟨rfl,rfl⟩)
theorem Re:nS X (compareOp .Is) (xH X.K rZ):=by
 intro ω s σ H x y v u Q I rx ry h;obtain⟨F,a,b,d,g,ra,rb,e,q⟩:=h;obtain⟨k,e1,e2⟩:=iO e;obtain⟨z1,z2⟩:=UN ra rb rx ry e1;cases e2;exact wpAny_is_plain z1 (by rw[z2];exact⟨.bl k,H,I,rfl,q k rfl⟩)
theorem Vv:nS X (compareOp .IsNot) (xH X.K nA):=by
 intro ω s σ H x y v u Q I rx ry h;obtain⟨F,a,b,d,g,ra,rb,e,q⟩:=h;obtain⟨k,e1,e2⟩:=iO e;obtain⟨z1,z2⟩:=UN ra rb rx ry e1;cases e2;exact wpAny_isNot_plain z1 (by rw[z2];exact⟨.bl (!k),H,I,rfl,q _ rfl⟩)
theorem Sy:∀ a b d,rZ a b=Ga d->∃ k,d=.bool k:=λa b d h=>by obtain⟨k,_,e⟩:=iO h;cases e;exact⟨_,rfl⟩
theorem Rr:∀ a b d,nA a b=Ga d->∃ k,d=.bool k:=λa b d h=>by obtain⟨k,_,e⟩:=iO h;cases e;exact⟨_,rfl⟩
theorem Wl (ha:PV X a f)(hb:PV X b g):PV X (.Compare a [.Is] [b] pos) (λψ=>(f ψ).bind λx=>(g ψ).bind λy=>rZ x y):=Ce Re (xI Sy) ha hb
theorem zDK (ha:PV X a f)(hb:PV X b g):PV X (.Compare a [.IsNot] [b] pos) (λψ=>(f ψ).bind λx=>(g ψ).bind λy=>nA x y):=Ce Vv (xI Rr) ha hb
theorem Dv (ha:PV X a f)(hb:PV X b g):PB X (.Compare a [.Is] [b] pos) (λψ=>((f ψ).bind λx=>(g ψ).bind λy=>rZ x y).bind nN):=ya Re (xI Sy) ha hb
theorem BO (ha:PV X a f)(hb:PV X b g):PB X (.Compare a [.IsNot] [b] pos) (λψ=>((f ψ).bind λx=>(g ψ).bind λy=>nA x y).bind nN):=ya Vv (xI Rr) ha hb
def xV (a:D)(xs:List D):Bool:=a.canLay0&&kL xs&&decide (min (ue xs) a.depth<=90)
def Ak (a b:D):Option D:=(toS b).bind λxs=>if xV a xs then Ga (.bool (xs.any λy=>kN y a)) else Gb
def yR (a b:D):Option D:=(toS b).bind λxs=>if xV a xs then Ga (.bool (!xs.any λy=>kN y a)) else Gb
theorem Tx {a:D}{xs:List D}(h:xV a xs=true):a.canLay0=true/\kL xs=true/\min (ue xs) a.depth<=90:=by
 unfold xV at h;simp only[jG,decide_eq_true_eq] at h;exact⟨h.1.1,h.1.2,h.2⟩
theorem zDL (hu:X.A.units+100<cLine):nS X (compareOp .In) (xH X.K Ak):=by
 intro ω s σ H x y v u Q I rx ry h;obtain⟨F,a,b,d,g,ra,rb,e,q⟩:=h;obtain⟨xs,e1,e2⟩:=iO e;split at e2
 .rename_i ok;obtain⟨h1,h2,h3⟩:=Tx ok;obtain⟨as,ha⟩:=ra.reads I g (BZ h1) rx;obtain⟨bs,hb⟩:=rb.reads I g (by cases b<;>cases e1<;>(rw[tJ];exact EL h2)) ry;cases b<;>cases e1
  .exact SeqAt.in_list_reads hb ha h2 h1 (by omega) ⟨.bl _,H,I,rfl,q _ (jF e2).symm⟩
  .exact SeqAt.in_tuple_reads hb ha h2 h1 (by omega) ⟨.bl _,H,I,rfl,q _ (jF e2).symm⟩
 .cases e2
theorem YQ (hu:X.A.units+100<cLine):nS X (compareOp .NotIn) (xH X.K yR):=by
 intro ω s σ H x y v u Q I rx ry h;obtain⟨F,a,b,d,g,ra,rb,e,q⟩:=h;obtain⟨xs,e1,e2⟩:=iO e;split at e2
 .rename_i ok;obtain⟨h1,h2,h3⟩:=Tx ok;obtain⟨as,ha⟩:=ra.reads I g (BZ h1) rx;obtain⟨bs,hb⟩:=rb.reads I g (by cases b<;>cases e1<;>(rw[tJ];exact EL h2)) ry;cases b<;>cases e1
  .exact SeqAt.notIn_list_reads hb ha h2 h1 (by omega) ⟨.bl _,H,I,rfl,q _ (jF e2).symm⟩
  .exact SeqAt.notIn_tuple_reads hb ha h2 h1 (by omega) ⟨.bl _,H,I,rfl,q _ (jF e2).symm⟩
 .cases e2
theorem zDM:∀ a b d,Ak a b=Ga d->∃ k,d=.bool k:=λa b d h=>by obtain⟨k,_,e⟩:=iO h;split at e<;>cases e;exact⟨_,rfl⟩
theorem zBQ:∀ a b d,yR a b=Ga d->∃ k,d=.bool k:=λa b d h=>by obtain⟨k,_,e⟩:=iO h;split at e<;>cases e;exact⟨_,rfl⟩
theorem VL (hu:X.A.units+100<cLine)(ha:PV X a f)(hb:PV X b g)(hm:behindInMarks .In b=false:=by first|rfl|with_unfolding_all rfl):PB X (.Compare a [.In] [b] pos) (λψ=>((f ψ).bind λx=>(g ψ).bind λy=>Ak x y).bind nN):=ya (zDL hu) (xI zDM) ha hb hm
theorem zGc (hu:X.A.units+100<cLine)(ha:PV X a f)(hb:PV X b g)(hm:behindInMarks .NotIn b=false:=by first|rfl|with_unfolding_all rfl):PB X (.Compare a [.NotIn] [b] pos) (λψ=>((f ψ).bind λx=>(g ψ).bind λy=>yR x y).bind nN):=ya (YQ hu) (xI zBQ) ha hb hm
def yS:D->Option D
 | .int i=>Ga (.int (-i))
 | _=>Gb
theorem wm (ha:PV X a f):PV X (.UnaryOp .USub a pos) (λψ=>(f ψ).bind yS):=by
 refine oh (QK OS ha) λσ H Q=>?_;rintro⟨H0,F,ψ,d,r,e,q⟩;obtain⟨d',e1,e⟩:=iO e;refine⟨H0,F,ψ,d',r,e1,λv H1 F1 g1 f1 fh1 n1 rv=>?_⟩;cases rv<;>first|(cases e;done)|skip
 cases e;exact⟨_,rfl,q _ H1 F1 g1 f1 fh1 n1 (.int _)⟩
def Dt:D->Option D
 | .int i=>Ga (.int (kT i))
 | _=>Gb
theorem zBR:AK X "int.bit_length" (λx xs H Q=>∃ i,x=.int i/\xs=[]/\Q (.int (kT i)) H):=by
 intro ω s σ H x xs v us Q I rx rv h;obtain⟨i,rfl,rfl,q⟩:=h;obtain⟨t,rfl⟩:=rx;cases rv;exact call_int_bit_length ⟨.int _,H,I.tok _,⟨_,rfl⟩,q⟩
theorem zDN {p p2:Pos}(ha:PV X a f)(hbase:attributeBase a "bit_length" X.env (eval a X.env)=eval a X.env:=by rfl)(hline:(p.endLine==p2.line)=true:=by rfl):PV X (.Call (.Attribute a "bit_length" p) [] [] p2) (λψ=>(f ψ).bind Dt):=by
 refine oh (Qp PySem.F.plainAttrs_int PySem.F.slot_int_bit_length PySem.F.type_int_bit_length zBR ha hbase hline) λσ H Q=>?_;rintro⟨H0,F,ψ,d,r,e,q⟩;obtain⟨d',e1,e⟩:=iO e;refine⟨H0,F,ψ,d',r,e1,λv H1 F1 g1 f1 fh1 n1 rv=>?_⟩;cases rv<;>first|(cases e;done)|skip
 rename_i i;cases e;exact⟨rfl,i,rfl,rfl,q _ H1 F1 g1 f1 fh1 n1 (.int _)⟩
def pJ:List D->Option (List Int)
 | []=>Ga []
 | .int i::r=>(pJ r).bind λis=>Ga (i::is)
 | _=>Gb
theorem Bk:∀ {ds:List D} {is:List Int},pJ ds=Ga is->ds=is.map jb
 | [],_,h=>by cases h;rfl
 | .int i::r,is,h=>by
  obtain⟨js,e1,e2⟩:=iO (show(pJ r).bind (λis=>Ga (i::is))=Ga is from h);cases e2;rw[Bk e1];rfl
 | .none::_,_,h=>by cases h
 | .bool _::_,_,h=>by cases h
 | .str _::_,_,h=>by cases h
 | .list _::_,_,h=>by cases h
 | .tuple _::_,_,h=>by cases h
 | .dict _::_,_,h=>by cases h
theorem ly.ints_inv {K:ja}{F:Hp}:∀ {is:List Int} {vs:List V},ly K F (is.map jb) vs->vs=is.map V.int
 | [],_,h=>by cases h;rfl
 | i::is,_,h=>by
  cases h with
  | cons h t=>cases h;rw[ly.ints_inv t];rfl
theorem RD (is:List Int):∀ n,n<=is.length->preSum (λj=>is.getD j 0) n=(is.take n).sum
 | 0,_=>by simp[preSum]
 | n+1,h=>by
  have hn:n<is.length:=h;unfold preSum;rw[RD is n (uA hn),List.take_succ,jq,ji hn,List.sum_append];simp
theorem zwL (hc:X.calm=true):nZ X (.builtin "sum") (λxs H Q=>∃ (p:Gj) (is:List Int),xs=[.ref p]/\nr X.K H p (is.map V.int)/\Q (.int is.sum) H):=by
 intro ω s σ H xs us Q I r h;obtain⟨p,is,rfl,hl,q⟩:=h;obtain⟨u,rfl,ru⟩:=rg r;cases ru;obtain⟨its,rv,pl,hz⟩:=I.list hl;have hi:IntsAre its is:=se rv;have hp:p<s.heap.objs.size:=by obtain⟨o,n,e,_⟩:=pl;exact jt e
 refine call_sum_walkG (wpAny_pyIter_list pl.isList ⟨s.heap.objs.size,[s.heap.objs.size,p],[s.heap.objs.size],_,_,_,λj=>is.getD j 0,rfl,Walks.list (show X.A.in1.handled=Gb from I.ok.hd hc) _ p (jJ hp) its.toArray,⟨⟨_,jB _ rfl,rfl,rfl⟩,?_⟩,?_,?_,?_⟩)
 .obtain⟨o,n,e,c,_,d⟩:=pl;exact⟨o,je _ e,c,n,d⟩
 .intro b hb;simp only[ju,kH,or_false] at hb;rw[uC];rcases hb with rfl|rfl
  .exact kR _
  .exact vT hp
 .intro i v hv;have hv':its[i]?=Ga v:=by simpa using hv
  have hlen:=hi.length;have:i<its.length:=(jr.mp hv').1;have hk:i<is.length:=by omega
  obtain⟨w',e1,e2⟩:=rv.get (i:=i) (x:=.int is[i]) (by rw[jA,ji hk];rfl);rw[hv'] at e1;cases e1;obtain⟨t,rfl⟩:=e2;exact⟨t,by dsimp only;rw[jq,ji hk];rfl⟩
 .intro h' tk t' hk;have el:its.toArray.size=is.length:=by rw[jm];exact hi.length
  rw[el,RD is _ (jj _),List.take_length];refine⟨.int is.sum,H,I.kept λb o e=>hk b o ?_ (je _ e),⟨_,rfl⟩,q⟩;intro z;cases jo.mp z;exact absurd (jt e) (jU _)
theorem zGd {p:Pos}{e:Expr}{fl:FL}(hc:X.calm=true)(hg:Gl X "sum")(hm:X.mg "sum"=Gb)(ha:xQ X e fl)(hs:starEach [e] X.env=[(false,eval e X.env)]:=by rfl) :
  PV X (.Call (.Name "sum" p) [e] [] pos) (λψ=>(fl ψ).bind λds=>(pJ ds).bind λis=>Ga (.int is.sum)):=by
 refine oh (xU (zwL hc) hg hm boot_sum ha (hs:=hs)) λσ H Q=>?_;rintro⟨H0,F,ψ,d,r,e,q⟩;obtain⟨ds,e1,e⟩:=iO e;obtain⟨is,e2,e⟩:=iO e;cases e;refine⟨H0,F,ψ,ds,r,e1,λp xs H1 F1 g1 f1 fh1 n1 hl rr=>⟨p,is,rfl,?_,q _ H1 F1 g1 f1 fh1 n1 (.int _)⟩⟩;rw[Bk e2] at rr;rw[<- rr.ints_inv];exact hl
theorem zDO {x:Str}{v:V}{u:Gg}{d:D}(hm:X.mg x=Ga u)(r:lO v u)(rd:∀ K F,md K F d v)(hg:Gl X x:=by rfl)(hd:(x==("__debug__":Str))=false:=by decide):PV X (.Name x pos) (λ_=>Ga d):=Fa (IT hg hm r hd) rd
theorem Sm {op op':CmpOp}{r r':R2}{k k':D->D->Option D}{c:Expr}{h:FV}(ho:nS X (compareOp op) r)(ho':nS X (compareOp op') r')(hr:wE X.K r k)(hr':wE X.K r' k')(ha:PV X a f)(hb:PV X b g)(hc:PV X c h)
  (hm:lastMarks [op,op'] [b,c]=false:=by with_unfolding_all rfl) :
  PV X (.Compare a [op,op'] [b,c] pos) (λψ=>(f ψ).bind λx=>(g ψ).bind λy=>((k x y).bind nN).bind λt=>if t then(h ψ).bind λz=>k' y z else Ga (.bool false)):=by
 refine oh (FW ho ho' ha hb hc hm) λσ H Q=>?_;rintro⟨H0,F,ψ,d,rs,e,q⟩;obtain⟨x,e1,e⟩:=iO e;obtain⟨y,e2,e⟩:=iO e;obtain⟨t,e3,e⟩:=iO e;obtain⟨d1,e4,e5⟩:=iO e3;cases BA e5;refine⟨H0,F,ψ,x,rs,e1,λv H1 F1 g1 f1 fh1 n1 rv=>⟨H0,F1,ψ,y,rs.grow g1 f1 fh1 n1,e2,λu H2 F2 g2 f2 fh2 n2 ru=>?_⟩⟩;refine hr F2 H2 v u x y _ _ fh2 (rv.mono f2) ru e4 λw H3 F3 g3 f3 fh3 n3 rw3=>?_;cases rw3;refine⟨t,rfl,?_⟩;have gg:iP H H3:=(g1.trans g2).trans g3;have ff:iP F F3:=(f1.trans f2).trans f3;have nn:mz F F3 H:=(n1.trans n2 g1).trans n3 (g1.trans g2);cases t with
 | true =>
  obtain⟨z,e6,e7⟩:=iO (show(h ψ).bind (λz=>k' y z)=Ga d from e);refine wx ⟨H0,F3,ψ,z,rs.grow gg ff fh3 nn,e6,λw4 H4 F4 g4 f4 fh4 n4 rw4=>?_⟩;refine hr' F4 H4 u w4 y z d Q fh4 ((ru.mono f3).mono f4) rw4 e7 λw5 H5 F5 g5 f5 fh5 n5 rw5=>?_;exact q w5 H5 F5 ((gg.trans g4).trans g5) ((ff.trans f4).trans f5) fh5 ((nn.trans n4 gg).trans n5 (gg.trans g4)) rw5
 | false=>cases e;exact wz (q _ H3 F3 gg ff fh3 nn (.bl false))
end
section
variable {prog:Program}{w:World}{A:Around}{E:Gg->Gh->Prop}{s:Gh}
variable {z ti tp i1 i2:Gj}{I1 I2:Nat->Heap->Prop}{k1 k2:Heap->Prop}{xs ys:List Gg}{i:Nat}
end
def MZ (t:Bool)(K:ja)(H:Hp)(a:Gj)(xs:List V):Prop:=if t then oB K H a xs else nr K H a xs
def OI (t:Bool)(h:Heap)(a:Gj)(its:List Gg):Prop:=if t then h.IsTuple a its.toArray else h.IsList a its.toArray
theorem OI.at {t:Bool}{h h':Heap}{a:Gj}{its:List Gg}(x:OI t h a its)(k:∀ o,h.get? a=Ga o->h'.get? a=Ga o):OI t h' a its:=by
 cases t with
 | true=>obtain⟨o,e,r⟩:=(x:h.IsTuple a its.toArray);exact(⟨o,k o e,r⟩:h'.IsTuple a its.toArray)
 | false=>exact Heap.IsList.at (x:h.IsList a its.toArray) k
theorem MZ.same {t:Bool}{K:ja}{H H':Hp}{a:Gj}{xs:List V}(g:iP H H')(h:MZ t K H a xs):MZ t K H' a xs:=by
 cases t with
 | true=>exact oN g h
 | false=>exact g.seq h
section
variable {X:Cx}{ω:List (Gj×Obj)}{σ:St}{H:Hp}{s:Gh}
end
section
variable {X:Cx}{pos:Pos}
end
abbrev mI (d:D):FV:=λ_=>Ga d
abbrev lx (op:D->D->Option D)(f g:FV):FV:=λψ=>(f ψ).bind λx=>(g ψ).bind λy=>op x y
abbrev un (op:D->Option D)(f:FV):FV:=λψ=>(f ψ).bind op
abbrev yo (op:List D->Option D)(f:FL):FV:=λψ=>(f ψ).bind op
abbrev pq (f:FV):FB:=λψ=>(f ψ).bind BP
abbrev mL (op:D->D->Option D)(f g:FV):FB:=λψ=>((f ψ).bind λx=>(g ψ).bind λy=>op x y).bind nN
abbrev sZ (f:FB):FB:=λψ=>(f ψ).bind λc=>Ga (!c)
abbrev PF (f g:FB):FB:=λψ=>(f ψ).bind λc=>if c then g ψ else Ga false
abbrev yp (f g:FB):FB:=λψ=>(f ψ).bind λc=>if c then Ga true else g ψ
abbrev xu (f g:FV):FV:=λψ=>((f ψ).bind nN).bind λc=>if c then g ψ else Ga (.bool false)
abbrev HZ (f g:FV):FV:=λψ=>((f ψ).bind nN).bind λc=>if c then Ga (.bool true) else g ψ
abbrev Qe (f:FV):FV:=λψ=>((f ψ).bind nN).bind λc=>Ga (.bool (!c))
abbrev zy (c:FB)(f g:FV):FV:=λψ=>(c ψ).bind λk=>if k then f ψ else g ψ
abbrev Bg (k k':D->D->Option D)(f g h:FV):FV:=λψ=>(f ψ).bind λx=>(g ψ).bind λy=>((k x y).bind nN).bind λt=>if t then(h ψ).bind λz=>k' y z else Ga (.bool false)
abbrev mf:FL:=λ_=>Ga []
abbrev iV (f:FV)(g:FL):FL:=λψ=>(f ψ).bind λd=>(g ψ).bind λds=>Ga (d::ds)
abbrev tQ (g:FL):FV:=λψ=>(g ψ).bind λds=>Ga (.tuple ds)
abbrev pj (g:FL):FV:=λψ=>(g ψ).bind λds=>Ga (.list ds)
abbrev lA (fm:List D->Option D)(g:FL):FV:=λψ=>(g ψ).bind fm
abbrev rL (fm:List D->Option (List D))(g:FL):FL:=λψ=>(g ψ).bind fm
abbrev EF (f:FV):FL:=λψ=>(f ψ).bind yv
abbrev YE (f:FV):FL:=λψ=>(f ψ).bind xY
abbrev sY (f:FV):FL:=λψ=>(f ψ).bind toS
abbrev pv (op:D->Option (List D))(f:FV):FL:=λψ=>(f ψ).bind op
abbrev zT (op:D->D->Option (List D))(f g:FV):FL:=λψ=>(f ψ).bind λx=>(g ψ).bind λy=>op x y
def yP (ds:List D):Option D:=(pJ ds).bind λis=>Ga (.int is.sum)
def sk (T:String)(d:D):Option D:=Ga (.bool (Ho T d))
def rM (xs:List D):Option D:=Ga (.tuple xs)
abbrev oW:FS:=λψ=>Ga (.nx ψ)
abbrev lE (g k:FS):FS:=λψ=>mU (g ψ) k
abbrev mQ (f:FV):FS:=λψ=>(f ψ).bind λd=>Ga (.rt d)
abbrev zQ (f:FL):FS:=λψ=>(f ψ).bind λd=>Ga (.ro d)
abbrev oD (c:FB)(g k:FS):FS:=λψ=>(c (frz ψ)).bind λt=>if t then g ψ else k ψ
abbrev lT (i:Nat)(f:FV):FS:=λψ=>(f ψ).bind λd=>Ga (.nx (ψ.set i (.val d)))
abbrev yT (i:Nat)(f:FL):FS:=λψ=>(f ψ).bind λd=>Ga (.nx (ψ.set i (.own d)))
abbrev AX (i:Nat)(g:FS):FS:=λψ=>(g ψ).bind λo=>Ga (Cd i o)
abbrev NW (i:Nat)(g:FS):FS:=λψ=>g (frzAt i ψ)
abbrev Og (i:Nat)(f:FV):FS:=λψ=>(go i ψ).bind λds=>(f ψ).bind λd=>if ds.length<1000000 then Ga (.nx (ψ.set i (.own (ds++[d])))) else Gb
abbrev pT (f:FL)(t:FT)(g:FS):FS:=λψ=>(f ψ).bind λds=>lS t g ds ψ
abbrev aju (f:FV)(t:FT):FS:=λψ=>(f ψ).bind λd=>(t d ψ).bind λenv1=>Ga (.nx env1)
abbrev oZ (i:Nat):FT:=λd ψ=>Ga (ψ.set i (.val d))
abbrev wL:=List D->En->Option En
abbrev DV:wL:=λds ψ=>match ds with|[]=>Ga ψ|_=>Gb
abbrev xS (t:FT)(u:wL):wL:=λds ψ=>match ds with|d::r=>(t d ψ).bind λenv1=>u r env1|[]=>Gb
abbrev NE (u:wL):FT:=λd ψ=>(xY d).bind λds=>u ds ψ
section
variable {X:Cx}{pos:Pos}
structure Io (X:Cx)(es:List Expr)(t:wL):Prop where
 p:BU X es t
 len:∀ ds ψ env',t ds ψ=Ga env'->ds.length=es.length
theorem HC:Io X [] DV:=⟨Yp,λds ψ env' h=>by cases ds with|nil=>rfl|cons _ _=>cases h⟩
theorem yt {e:Expr}{es:List Expr}{t:FT}{u:wL}(h1:yz X e t)(h2:Io X es u)(hs:(assignEach (e::es) X.env).map (·.2)=assign e X.env::(assignEach es X.env).map (·.2):=by rfl):Io X (e::es) (xS t u) :=
 ⟨zBO h1 h2.p hs,λds ψ env' h=>by
  cases ds with
  | nil=>cases h
  | cons d r =>
   obtain⟨e1,_,x2⟩:=iO (show(t d ψ).bind (λenv1=>u r env1)=Ga env' from h);exact congrArg JR (h2.len r e1 env' x2)⟩
theorem Hy {es:List Expr}{k:Nat}{t:wL}(hc:X.calm=true)(h:Io X es t)(hn:(assignEach es X.env).length=es.length:=by rfl)(hst:(assignEach es X.env).findIdx? (·.1)=Gb:=by rfl):yz X (.Tuple es k pos) (NE t):=Zb hc h.p h.len hn hst
theorem on (i:Nat){x:Str}(hN:X.N.Nodup)(hi:X.N[i]?=Ga x:=by rfl)(hx:zd X.env.scope x:=by first|exact uu rfl|exact kS rfl)(hf:X.fn x=true\/X.env.scope.names.lookup x=Ga .local:=by first|exact .inl rfl|exact .inr rfl):yz X (.Name x pos) (oZ i):=My i hN hi hx hf
theorem zDP {p:Pos}{e:Expr}{fl:FL}(hc:X.calm=true)(hg:Gl X "sum")(hm:X.mg "sum"=Gb)(ha:xQ X e fl)(hs:starEach [e] X.env=[(false,eval e X.env)]:=by rfl):PV X (.Call (.Name "sum" p) [e] [] pos) (yo yP fl):=zGd hc hg hm ha hs
end
structure Fn (K:ja)(mg:Str->Option Gg)(x:Str)(st:Stmt)(ps:List Str)(a:Gj)(fd:Gi):Prop where
 F:wI K x x st a fd
 b:sO K fd ps []
 m:mg x=Ga (.ref a)
theorem zGe {K:ja}{mg:Str->Option Gg}{h:Heap}{x:Str}{st:Stmt}{ps:List Str}{f:Gj}{oc:Gg}{od an:Option Gj}{osl:Array (Option Gg)}{kV doc pm cdv ct:Gg}(X:K.In h)(G:h.Ns mainGlobals mg)
  (a:kj K mainGlobals x=Ga (Ga (.ref f))) (l:K.lookup f=Ga ⟨oc,od,.func (k7 x x (pA st) (nQ st) (iT st) .none kV doc pm an cdv ct),osl⟩) (c:vQ K cdv x=true) (k:ur K (.ref f)=true)
  (hb:∀ (kV doc pm:Gg) (an:Option Gj) (cdv ct:Gg) (us:List Gg),us.length=ps.length->bindArgs (k7 x x (pA st) (nQ st) (iT st) .none kV doc pm an cdv ct) ⟨us,[]⟩=pure (ps.zip us)) :
  Fn K mg x st ps f (k7 x x (pA st) (nQ st) (iT st) .none kV doc pm an cdv ct):=by
 have F:=PQ (st:=st) l c k;exact⟨F,F.binds hb,v5 X G a⟩
theorem nM {k:Nat}{A:Around}(r:nv k A):A.units+100<cLine:=by have:=r.un;omega
noncomputable def lq:Option tu->Option D
 | some (.rt d)=>Ga d
 | some (.ro xs)=>Ga (.list xs)
 | _=>Gb
noncomputable def sG:Option tu->Option (List D)
 | some (.ro xs)=>Ga xs
 | _=>Gb
def lX (np n:Nat)(g:FS)(ds:List D):Option D:=if ds.length=np then lq (g (pU n ds)) else Gb
def yV (np n:Nat)(g:FS)(ds:List D):Option (List D):=if ds.length=np then sG (g (pU n ds)) else Gb
section
variable {P:Program}{w:World}{K:ja}{mg:Str->Option Gg}{base:Heap}{x qual:Str}{st:Stmt}{f:Gj}{fd:Gi}{N ps:List Str}{k:Nat}{g:FS}
theorem mX (F:wI K x qual st f fd)(S:lg N ps (iT st))
  (hb:∀ (cdv:Gg) (A:Around) (outer:List Env) (s:Gh) (H:Hp) (E:XK),nv k (A.deeper (envOfC qual (iT st) s.heap.objs.size f cdv))->rQ (sL lK P w K mg base N qual (iT st) f cdv A outer s H E).nox (nQ st) g) :
  lz P w K mg base lK (k+1) f fd ps (mE K (lX ps.length N.length g)):=by
 refine fnV F S (λds d h=>?_) (λcdv A outer s H E hr=>⟨g,hb cdv A outer s H E hr,λds d h=>?_⟩)
 .unfold lX at h;split at h
  .assumption
  .cases h
 .unfold lX at h;split at h
  .unfold lq at h;split at h
   .rename_i e;cases h;exact .inl e
   .rename_i e;cases h;exact .inr ⟨_,rfl,e⟩
   .cases h
  .cases h
theorem HD (F:wI K x qual st f fd)(S:lg N ps (iT st))
  (hb:∀ (cdv:Gg) (A:Around) (outer:List Env) (s:Gh) (H:Hp) (E:XK),nv k (A.deeper (envOfC qual (iT st) s.heap.objs.size f cdv))->rQ (sL lK P w K mg base N qual (iT st) f cdv A outer s H E).nox (nQ st) g) :
  lz P w K mg base lK (k+1) f fd ps (xf K (yV ps.length N.length g)):=by
 refine fnO F S (λds d h=>?_) (λcdv A outer s H E hr=>⟨g,hb cdv A outer s H E hr,λds d h=>?_⟩)
 .unfold yV at h;split at h
  .assumption
  .cases h
 .unfold yV at h;split at h
  .unfold sG at h;split at h
   .rename_i e;cases h;exact e
   .cases h
  .cases h
theorem Md:lz P w K mg base lK k f fd ps (mE K λ_=>Gb):=by
 have no:∀ vs H Q E,¬mE K (λ_=>Gb) vs H Q E:=λvs H Q E h=>by obtain⟨_,_,_,_,_,e,_⟩:=h;cases e
 exact⟨λvs H Q E h=>absurd h (no vs H Q E),λA outer s H args us vs Q E _ _ _ _ h=>absurd h (no vs H Q E)⟩
end
theorem zGZ {K:ja}{fm:List D->Option D}{H:Hp}{a:Gj}{ns:List Int}(hS:nr K H a (ns.map V.int))(h:fm [.list (ns.map jb)]=Ga (.bool true)):mE K fm [.ref a] H (λv _=>v=.bl true) λ_ _ _=>False :=
 ⟨H,[.list (ns.map jb)],.bool true,.refl _,.cons (.lst hS (ly.ints ns)) .nil,h,λv H' F' _ _ _ _ r=>by cases r;rfl⟩
theorem Vi (d:List D):sG (Ga (.ro d))=Ga d:=rfl
theorem rT {g k:FS}{ψ e:En}(h:g ψ=Ga (.nx e)):lE g k ψ=k e:=by show mU (g ψ) k=_;rw[h];rfl
theorem Cs {g k:FS}{ψ:En}{d:D}(h:g ψ=Ga (.rt d)):lE g k ψ=Ga (.rt d):=by show mU (g ψ) k=_;rw[h];rfl
theorem zP {c:FB}{g k:FS}{ψ:En}(h:c (frz ψ)=Ga true):oD c g k ψ=g ψ:=by show(c (frz ψ)).bind _=_;rw[h];rfl
theorem zR {c:FB}{g k:FS}{ψ:En}(h:c (frz ψ)=Ga false):oD c g k ψ=k ψ:=by show(c (frz ψ)).bind _=_;rw[h];rfl
theorem tX {f:FV}{ψ:En}{d:D}(h:f ψ=Ga d):mQ f ψ=Ga (.rt d):=by show(f ψ).bind _=_;rw[h];rfl
theorem Vy {f:FL}{ψ:En}{d:List D}(h:f ψ=Ga d):zQ f ψ=Ga (.ro d):=by show(f ψ).bind _=_;rw[h];rfl
theorem AG {i:Nat}{f:FV}{ψ:En}{d:D}(h:f ψ=Ga d):lT i f ψ=Ga (.nx (ψ.set i (.val d))):=by show(f ψ).bind _=_;rw[h];rfl
theorem zGf {i:Nat}{f:FL}{ψ:En}{d:List D}(h:f ψ=Ga d):yT i f ψ=Ga (.nx (ψ.set i (.own d))):=by show(f ψ).bind _=_;rw[h];rfl
theorem zGg {i:Nat}{g:FS}{ψ e:En}(h:g ψ=Ga (.nx e)):AX i g ψ=Ga (.nx (frzAt i e)):=by show(g ψ).bind _=_;rw[h];rfl
theorem wc {op:D->D->Option D}{f g:FV}{ψ:En}{a b:D}(h1:f ψ=Ga a)(h2:g ψ=Ga b):lx op f g ψ=op a b:=by show(f ψ).bind _=_;rw[h1];show(g ψ).bind _=_;rw[h2];rfl
theorem zU {op:D->Option D}{f:FV}{ψ:En}{a:D}(h1:f ψ=Ga a):un op f ψ=op a:=by show(f ψ).bind _=_;rw[h1];rfl
theorem Sk {op:List D->Option D}{f:FL}{ψ:En}{a:List D}(h1:f ψ=Ga a):yo op f ψ=op a:=by show(f ψ).bind _=_;rw[h1];rfl
theorem pK {fm:List D->Option D}{g:FL}{ψ:En}{ds:List D}(h:g ψ=Ga ds):lA fm g ψ=fm ds:=by show(g ψ).bind _=_;rw[h];rfl
theorem LJ {fm:List D->Option (List D)}{g:FL}{ψ:En}{ds:List D}(h:g ψ=Ga ds):rL fm g ψ=fm ds:=by show(g ψ).bind _=_;rw[h];rfl
theorem HK {f:FV}{g:FL}{ψ:En}{d:D}{ds:List D}(h1:f ψ=Ga d)(h2:g ψ=Ga ds):iV f g ψ=Ga (d::ds):=by show(f ψ).bind _=_;rw[h1];show(g ψ).bind _=_;rw[h2];rfl
theorem Cy {g:FL}{ψ:En}{ds:List D}(h:g ψ=Ga ds):pj g ψ=Ga (.list ds):=by show(g ψ).bind _=_;rw[h];rfl
theorem zGh {g:FL}{ψ:En}{ds:List D}(h:g ψ=Ga ds):tQ g ψ=Ga (.tuple ds):=by show(g ψ).bind _=_;rw[h];rfl
theorem WM {f:FV}{ψ:En}{ds:List D}(h:f ψ=Ga (.list ds)):EF f ψ=Ga ds:=by show(f ψ).bind _=_;rw[h];rfl
theorem Co {op:D->Option (List D)}{f:FV}{ψ:En}{a:D}(h1:f ψ=Ga a):pv op f ψ=op a:=by show(f ψ).bind _=_;rw[h1];rfl
theorem Yj {op:D->D->Option (List D)}{f g:FV}{ψ:En}{a b:D}(h1:f ψ=Ga a)(h2:g ψ=Ga b):zT op f g ψ=op a b:=by show(f ψ).bind _=_;rw[h1];show(g ψ).bind _=_;rw[h2];rfl
theorem EK {f:FL}{t:FT}{g:FS}{ψ:En}{ds:List D}(h:f ψ=Ga ds):pT f t g ψ=lS t g ds ψ:=by show(f ψ).bind _=_;rw[h];rfl
theorem Ao {f:FV}{ψ:En}{d:D}{b:Bool}(h:f ψ=Ga d)(h2:BP d=Ga b):pq f ψ=Ga b:=by show(f ψ).bind _=_;rw[h];exact h2
theorem Av {op:D->D->Option D}{f g:FV}{ψ:En}{x y:D}{b:Bool}(h1:f ψ=Ga x)(h2:g ψ=Ga y)(h3:op x y=Ga (.bool b)):mL op f g ψ=Ga b:=by
 show((f ψ).bind _).bind _=_;rw[h1];show((g ψ).bind _).bind _=_;rw[h2];show(op x y).bind _=_;rw[h3];rfl
theorem NR {f:FB}{ψ:En}{b:Bool}(h:f ψ=Ga b):sZ f ψ=Ga (!b):=by show(f ψ).bind _=_;rw[h];rfl
theorem FQ {f g:FB}{ψ:En}(h:f ψ=Ga true):yp f g ψ=Ga true:=by show(f ψ).bind _=_;rw[h];rfl
theorem zL {f g:FB}{ψ:En}(h:f ψ=Ga false):yp f g ψ=g ψ:=by show(f ψ).bind _=_;rw[h];rfl
theorem AI {fi:FL}{fc:FB}{fe:FV}{ix:List Nat}{ψ:En}{ds:List D}(h:fi ψ=Ga ds)(hz:ds.length<=1000000):lY fi fc fe ix ψ=mv fc fe (pD ix ψ) ds:=by
 show(fi ψ).bind _=_;rw[h];exact Ge hz
theorem CA {fe:FV}{base:En}{F:D->D}:∀ {ds:List D},(∀ d∈ds,fe (.val d::base)=Ga (F d))->mv (λ_=>Ga true) fe base ds=Ga (ds.map F)
 | [],_=>rfl
 | x::r,h=>by
  unfold mv;rw[jp,Ge rfl,h x jf,jp,CA λd hd=>h d (jh _ hd)];rfl
theorem Gn {fc:FB}{fe:FV}{base:En}{p:D->Bool}{F:D->D}:∀ {ds:List D},(∀ d∈ds,fc (.val d::base)=Ga (p d))->(∀ d∈ds,p d=true->fe (.val d::base)=Ga (F d))->mv fc fe base ds=Ga ((ds.filter p).map F)
 | [],_,_=>rfl
 | x::r,h1,h2=>by
  have ih:=Gn (fc:=fc) (fe:=fe) (base:=base) (p:=p) (F:=F) (ds:=r) (λd hd=>h1 d (jh _ hd)) (λd hd=>h2 d (jh _ hd));unfold mv;rw[h1 x jf,jp];cases hp:p x with
  | true=>rw[Ge rfl,h2 x jf hp,jp,ih,jY hp];rfl
  | false=>rw[Gf jw,ih,kf (by rw[hp];exact jw)]
theorem Lo (a b:Int):kN (.int a) (.int b)=(a==b):=by simp only[kN]
theorem Lr (a b:Int):nG (.int a) (.int b)=Ga (.bool (!(a==b))):=by
 unfold nG;have:tq (.int a) (.int b)=true:=rfl;rw[Ge this,Lo]
theorem AC (a b:Int):mm (.int a) (.int b)=Ga (.bool (a==b)):=by
 unfold mm;have:tq (.int a) (.int b)=true:=rfl;rw[Ge this,Lo]
theorem Rv {d:D}(h:d.canLay0=true)(hd:d.depth<=100):mm d d=Ga (.bool true):=by
 unfold mm;have:tq d d=true:=by unfold tq;rw[h,Nat.min_self,Gc hd];rfl
 rw[Ge this,SeqAt.eqv_refl d h]
theorem KL {d:D}(h:d.canLay0=true)(hd:d.depth<=100):nG d d=Ga (.bool false):=by
 unfold nG;have:tq d d=true:=by unfold tq;rw[h,Nat.min_self,Gc hd];rfl
 rw[Ge this,SeqAt.eqv_refl d h];rfl
theorem MF:∀ {xs:List D},(∀ x∈xs,x.canLay0=true)->kL xs=true
 | [],_=>rfl
 | y::r,h=>by rw[kL,h y jf,MF λx hx=>h x (jh _ hx)];rfl
theorem SD {n:Nat}:∀ {xs:List D},(∀ x∈xs,x.depth<=n)->ue xs<=n
 | [],_=>j5 _
 | y::r,h=>by rw[ue];exact Nat.max_le.mpr ⟨h y jf,SD λx hx=>h x (jh _ hx)⟩
theorem zzF (ns:List Int):kL (ns.map jb)=true:=MF λx hx=>by obtain⟨n,_,rfl⟩:=jx.mp hx;rfl
theorem zu5 (ns:List Int):ue (ns.map jb)<=0:=SD λx hx=>by obtain⟨n,_,rfl⟩:=jx.mp hx;exact jj _
theorem Vj (a:Int)(ns:List Int):Ak (.int a) (.list (ns.map jb))=Ga (.bool (ns.contains a)):=by
 have h0:=zu5 ns;have ok:xV (.int a) (ns.map jb)=true:=by
  unfold xV;rw[zzF];have:min (ue (ns.map jb)) (PyData.depth (.int a))<=90:=by omega
  rw[Gc this];rfl
 show(if xV (.int a) (ns.map jb)=true then Ga (kh ((ns.map jb).any λy=>kN y (.int a))) else Gb)=_;rw[Ge ok,List.any_map]
 congr 2
 rw[List.contains_eq_any_beq]
 congr 1
 funext x
 show kN (.int x) (.int a)=(a==x);rw[Lo];rw[kq,beq_iff_eq,beq_iff_eq];exact eq_comm
def tZ {α:Type}(lt:Nat->Nat->Option Bool):qR α->Option α
 | .ret a=>Ga a
 | .ask i j k=>(lt i j).bind λb=>tZ lt (k b)
theorem UP {α:Type}{lt:Nat->Nat->Option Bool}{cmp:Nat->Nat->(Bool->Gh->Prop)->Gh->Prop}{s:Gh}(hc:∀ i j b C,lt i j=Ga b->C b s->cmp i j C s){G:α->Gh->Prop} :
  ∀ {t:qR α} {a:α},tZ lt t=Ga a->G a s->t.kasWp cmp G s
 | .ret x,a,e,g=>by cases e;exact g
 | .ask i j k,a,e,g=>by
  obtain⟨b,e1,e2⟩:=iO (show(lt i j).bind (λb=>tZ lt (k b))=Ga a from e);exact hc i j b _ e1 (UP hc e2 g)
section
variable {prog:Program}{w:World}{A:Around}{E:Gg->Gh->Prop}{s:Gh}{vs:List Gg}
theorem zBT {a:Gj}{n:Nat}{P:Ve->Gh->Prop}{lt:Nat->Nat->Option Bool}{p:Array Nat}(ho:s.heap.get? a=Ga (seqObj "list" vs.toArray n))(h2:2<=vs.length)(h64:vs.length<64)
  (hp:tZ lt (vt vs.length)=Ga p)
  (hk:∀ s1:Gh,(∀ b o,b≠a->s.heap.get? b=Ga o->s1.heap.get? b=Ga o)->∃ κ,(∀ Q:SortKind->Gh->Prop,Q κ s1->wpAny (model prog w) A (keyKind' vs.toArray) Q (λ_ _=>False) s1) /\
   ∀ i j b (C:Bool->Gh->Prop),lt i j=Ga b->C b s1->qd prog w A κ vs i j C s1)
  (h:∀ h' c,(∀ b o,b≠a->s.heap.get? b=Ga o->h'.get? b=Ga o)->h'.get? a=Ga (seqObj "list" (vU (p.toList.map λi=>vs.getD i kK)) c)->P (.done (.ret .none)) { s with heap:=h' }) :
  wpAny (model prog w) A (Builtin.«list.sort» ⟨[.ref a],[]⟩) P E s:=by
 have s1:=uz s.heap a (ki λ_=>(#[]:Array Gg));obtain⟨e1,ho1⟩:∃ e1,(s.heap.update a (ki λ_=>(#[]:Array Gg))).get? a=Ga (seqObj "list" #[] e1):=⟨_,get?_update_seq ho λ_=>#[]⟩;generalize hh1:s.heap.update a (ki λ_=>(#[]:Array Gg))=h1 at s1 ho1;have sl:vs.length<=sizeLine:=by rw[sizeLine_eq];omega
 rw[list_sort_plain];refine iK (listItems_at ho rfl (iK (listUpdate_at ho rfl ?_ (by rw[jm];exact sl) (j5 _))));rw[hh1];refine iK (seqEpoch_at ho1 rfl (iK (wpAny_newTuple (iK (wpAny_newList (wpAny_holding ?_) (j5 _))) sl)));generalize hh3:(h1.push { cls:=.type "tuple",data:=.seq vs.toArray }).push { cls:=.type "list",data:=.seq ([]:List Gg).toArray }=h3;have k3:∀ b o,h1.get? b=Ga o->h3.get? b=Ga o:=λb o e=>by rw[<- hh3];exact je _ (je _ e)
 have keep:∀ b o,b≠a->s.heap.get? b=Ga o->h3.get? b=Ga o:=λb o nb e=>k3 b o (s1.extBut b o nb e);dsimp only;have n2:¬vs.toArray.size<2:=by rw[jm];omega
 rw[Gf n2,Gf n2];obtain⟨κ,hkind,hask⟩:=hk { s with heap:=h3 } keep;refine iK (wpAny_mono (hkind (λκ' s'=>κ'=κ/\s'={ s with heap:=h3 }) ⟨rfl,rfl⟩) (λκ' s' ⟨x1,x2⟩=>?_) λ_ _ z=>z.elim);subst x1 x2;refine iK (wpAny_mono (PySem.W.kat_run (Q:=λst' s'=>arrOf st'=p.map (PySem.W.kas_item (vs.toArray.zip vs.toArray))/\failedOf st'=Gb/\p.size=vs.length/\s'={ s with heap:=h3 }) (G:=λp' s'=>p'=p/\s'={ s with heap:=h3 })
  rfl h2 h64 (λp' st' s' a1 a2 a3 a4=>⟨by rw[<- a4.1];exact a2,a3,by rw[<- a4.1];exact a1,a4.2⟩) (UP (λi j b C e c=>hask i j b C e c) hp ⟨rfl,rfl⟩)) ?_ λ_ _ e=>e)
 rintro⟨⟨⟩,st'⟩ s' ⟨har,hf,hsz,rfl⟩;dsimp only;rw[PySem.W.kat_snds rfl har];have ho3:h3.get? a=Ga (seqObj "list" #[] e1):=k3 _ _ ho1;have hz:(vU (p.toList.map λi=>vs.getD i kK)).size<=sizeLine:=by rw[jm,jc,kb,hsz];exact sl
 refine iK (seqEpoch_at (s:={ s with heap:=h3 }) ho3 rfl (iK (listUpdate_at (s:={ s with heap:=h3 }) ho3 rfl ?_ (j5 _) (JT hz))));rw[hf];simp only[bne_self_eq_false,uj,if_false];have s4:=uz h3 a (ki λ_=>vU (p.toList.map λi=>vs.getD i kK));obtain⟨c,hc⟩:∃ c,(h3.update a (ki λ_=>vU (p.toList.map λi=>vs.getD i kK))).get? a=Ga (seqObj "list" (vU (p.toList.map λi=>vs.getD i kK)) c):=⟨_,get?_update_seq ho3 λ_=>_⟩;exact iL (h _ c (λb o nb e=>s4.extBut b o nb (keep b o nb e)) hc)
theorem zu6 {a:Gj}{n:Nat}{P:Ve->Gh->Prop}(ho:s.heap.get? a=Ga (seqObj "list" vs.toArray n))(h2:vs.length<2)
  (h:∀ h' c,(∀ b o,b≠a->s.heap.get? b=Ga o->h'.get? b=Ga o)->h'.get? a=Ga (seqObj "list" vs.toArray c)->P (.done (.ret .none)) { s with heap:=h' }) :
  wpAny (model prog w) A (Builtin.«list.sort» ⟨[.ref a],[]⟩) P E s:=by
 have s1:=uz s.heap a (ki λ_=>(#[]:Array Gg));obtain⟨e1,ho1⟩:∃ e1,(s.heap.update a (ki λ_=>(#[]:Array Gg))).get? a=Ga (seqObj "list" #[] e1):=⟨_,get?_update_seq ho λ_=>#[]⟩;generalize hh1:s.heap.update a (ki λ_=>(#[]:Array Gg))=h1 at s1 ho1;have sl:vs.length<=sizeLine:=by rw[sizeLine_eq];omega
 rw[list_sort_plain];refine iK (listItems_at ho rfl (iK (listUpdate_at ho rfl ?_ (by rw[jm];exact sl) (j5 _))));rw[hh1];refine iK (seqEpoch_at ho1 rfl (iK (wpAny_newTuple (iK (wpAny_newList (wpAny_holding ?_) (j5 _))) sl)));generalize hh3:(h1.push { cls:=.type "tuple",data:=.seq vs.toArray }).push { cls:=.type "list",data:=.seq ([]:List Gg).toArray }=h3;have k3:∀ b o,h1.get? b=Ga o->h3.get? b=Ga o:=λb o e=>by rw[<- hh3];exact je _ (je _ e)
 have keep:∀ b o,b≠a->s.heap.get? b=Ga o->h3.get? b=Ga o:=λb o nb e=>k3 b o (s1.extBut b o nb e);dsimp only;have n2:vs.toArray.size<2:=by rw[jm];omega
 rw[Ge n2,Ge n2];refine iK (iL ?_);rw[StateT.run_pure];refine iK (iL ?_);dsimp only;have hout:(arrOf (SortSt.mk' general' (vs.toArray.zip vs.toArray) #[] 7 Gb)).map (·.2)=vs.toArray:=by
  show(vs.toArray.zip vs.toArray).map (·.2)=vs.toArray;apply Array.toList_inj.mp;rw[Array.toList_map,Array.toList_zip];exact List.map_snd_zip (jj _)
 rw[hout];have ho3:h3.get? a=Ga (seqObj "list" #[] e1):=k3 _ _ ho1;refine iK (seqEpoch_at (s:={ s with heap:=h3 }) ho3 rfl (iK (listUpdate_at (s:={ s with heap:=h3 }) ho3 rfl ?_ (j5 _) (JT (by rw[jm];exact sl)))));simp only[bne_self_eq_false,uj,if_false];have s4:=uz h3 a (ki λ_=>vs.toArray);obtain⟨c,hc⟩:∃ c,(h3.update a (ki λ_=>vs.toArray)).get? a=Ga (seqObj "list" vs.toArray c):=⟨_,get?_update_seq ho3 λ_=>_⟩;exact iL (h _ c (λb o nb e=>s4.extBut b o nb (keep b o nb e)) hc)
end
def wv:List Int->List Int->Bool
 | [],[]=>false
 | [],_::_=>true
 | _::_,[]=>false
 | x::xs,y::ys=>if x==y then wv xs ys else decide (x<y)
def CK:D->D->Option Bool
 | .int i,.int j=>Ga (decide (i<j))
 | .tuple xs,.tuple ys=>(pJ xs).bind λis=>(pJ ys).bind λjs=>Ga (wv is js)
 | _,_=>Gb
def RG:D->Bool
 | .int _=>true
 | _=>false
def Os:D->Bool
 | .tuple (x::xs)=>(pJ (x::xs)).isSome
 | _=>false
def tM (ds:List D):Bool:=ds.all RG||ds.all Os
def AY (ds:List D)(i j:Nat):Option Bool:=(ds[i]?).bind λa=>(ds[j]?).bind λb=>CK a b
def pr (ds:List D):Option (List D):=if ds.length<2 then Ga ds else if (decide (ds.length<64)&&tM ds)=true then(tZ (AY ds) (vt ds.length)).bind λp=>(if p.size<=64 then Ga (p.toList.map λi=>ds.getD i .none) else Gb) else Gb
section
variable {prog:Program}{w:World}{A:Around}{E:Gg->Gh->Prop}{s:Gh}
theorem Uk {b fin:Bool}{Q:Bool->Gh->Prop}:∀ {is js:List Int} {us ws:List Gg} {i:Nat},IntsAre us is->IntsAre ws js->(i=0->b=true)->fin=decide (is.length<js.length)->Q (wv is js) s->PySem.W.KatLex prog w A b fin Q (us.zip ws) i s
 | [],[],_,_,i,.nil,.nil,_,hf,q=>by
  rw[hf];exact q
 | [],y::ys,_,_,i,.nil,.cons _ _ _,_,hf,q=>by
  have e:decide (([]:List Int).length<(y::ys).length)=true:=Gc (Nat.succ_pos _);rw[hf,e];exact q
 | _::_,[],_,_,i,.cons _ _ _,.nil,_,hf,q=>by
  rw[hf];exact q
 | x::is,y::js,_,_,i,.cons _ t h1,.cons _ u h2,hb,hf,q=>by
  show wpAny _ _ (eqBool (.int x t) (.int y u)) _ _ s;refine wpAny_eqBool_int ?_;have q':Q (if (x==y)=true then wv is js else decide (x<y)) s:=q;cases hxy:(x==y) with
  | true =>
   rw[hxy,Ge rfl] at q';rw[Ge rfl];exact Uk (i:=i+1) h1 h2 (λz=>absurd z (J3 _)) (by rw[hf];simp only[jM,Nat.add_lt_add_iff_right]) q'
  | false =>
   rw[hxy,Gf jw] at q';rw[Gf jw];by_cases hi:i=0
   .subst hi;rw[hb rfl];exact oneLt_int q'
   .have e:(b&&i==0)=false:=by rw[beq_eq_false_iff_ne.mpr hi,vV]
    rw[e];exact PySem.W.kat_one _ _ (lt_int q')
end
section
variable {X:Cx}{ω:List (Gj×Obj)}{σ:St}{F H:Hp}{s:Gh}
theorem Rf:∀ {is:List Int} {xs:List V} {us:List Gg},ly X.K F (is.map jb) xs->lH xs us->IntsAre us is
 | [],_,_,.nil,r=>by cases r;exact .nil
 | i::is,_,_,.cons h t,r=>by
  cases r with
  | cons r1 r2 =>
   cases h;obtain⟨tk,rfl⟩:=r1;exact .cons _ _ (Rf t r2)
theorem WN {is:List Int}{v:V}{u:Gg}(I:iZ X ω σ H s)(g:iP F H)(r:md X.K F (.tuple (is.map jb)) v)(ru:lO v u):∃ a o its n,u=.ref a/\s.heap.get? a=Ga o/\o.cls=.type "tuple"/\o.data=.seq its.toArray n/\IntsAre its is:=by
 cases r with
 | tup h q =>
  cases ru;obtain⟨its,rv,⟨o,e,c,n,d⟩,_⟩:=I.tuple (oN g h);exact⟨_,o,its,n,rfl,e,c,d,Rf q rv⟩
theorem zwR {d:D}(h:Os d=true):∃ i is,d=.tuple ((i::is).map jb):=by
 cases d with
 | tuple xs =>
  cases xs with
  | nil=>cases h
  | cons x xs =>
   have h':(pJ (x::xs)).isSome=true:=h;obtain⟨is,e⟩:=vE.mp h';have e2:=Bk e;cases is with
   | nil=>cases e2
   | cons i is=>exact⟨i,is,by rw[e2]⟩
 | _=>cases h
theorem zzG {d:D}(h:RG d=true):∃ i,d=.int i:=by cases d<;>first|exact⟨_,rfl⟩|cases h
theorem zd9:∀ is:List Int,pJ (is.map jb)=Ga is
 | []=>rfl
 | i::is=>by
  show(pJ (is.map jb)).bind (λr=>Ga (i::r))=_;rw[zd9 is];rfl
theorem Sb (is js:List Int):CK (.tuple (is.map jb)) (.tuple (js.map jb))=Ga (wv is js):=by
 show(pJ _).bind _=_;rw[zd9];show(pJ _).bind _=_;rw[zd9];rfl
theorem DS {xs:List V}{its:List Gg}{ds:List D}(rv:lH xs its)(rr:ly X.K F ds xs){i:Nat}{d:D}(e:ds[i]?=Ga d):∃ v u,md X.K F d v/\lO v u/\its.getD i kK=u:=by
 obtain⟨v,e1,r1⟩:=rr.get e;obtain⟨u,e2,r2⟩:=rv.get e1;exact⟨v,u,r1,r2,by rw[jq,e2];rfl⟩
theorem zwT {A:Around}{xs:List V}{its:List Gg}{ds:List D}(I:iZ X ω σ H s)(g:iP F H)(rv:lH xs its)(rr:ly X.K F ds xs)(h2:2<=its.length)(ok:tM ds=true){s1:Gh}(k:∀ b o,s.heap.get? b=Ga o->s1.heap.get? b=Ga o) :
  ∃ κ,(∀ Q:SortKind->Gh->Prop,Q κ s1->wpAny (model X.prog X.w) A (keyKind' its.toArray) Q (λ_ _=>False) s1)/\∀ i j b (C:Bool->Gh->Prop),AY ds i j=Ga b->C b s1->qd X.prog X.w A κ its i j C s1:=by
 have hlen:ds.length=its.length:=rr.length.trans rv.length;have look:∀ (i j:Nat) (b:Bool),AY ds i j=Ga b->∃ d e,ds[i]?=Ga d/\ds[j]?=Ga e/\CK d e=Ga b:=λi j b h=>by
  obtain⟨d,e1,h⟩:=iO h;obtain⟨e,e2,h⟩:=iO h;exact⟨d,e,e1,e2,h⟩
 unfold tM at ok;rw[uI] at ok;rcases ok with ok|ok
 .have ai:∀ (i:Nat) (d:D),ds[i]?=Ga d->∃ n,d=jb n:=λi d e=>zzG (jH.mp ok d (kE e));have av:∀ v∈its,∃ n t,v=qG n t:=λv hv=>by
   obtain⟨i,hi⟩:=List.mem_iff_getElem?.mp hv;have hl:i<ds.length:=by rw[hlen];exact(jr.mp hi).1
   obtain⟨n,hn⟩:=ai i _ (ji hl);obtain⟨v',u,r1,r2,e⟩:=DS rv rr (ji hl);rw[hn] at r1;cases r1;obtain⟨t,rfl⟩:=r2;rw[jq,hi] at e;exact⟨n,t,e⟩
  refine⟨oneType',λQ q=>PySem.W.kas_kind (T:=.type "int") h2 (λv hv=>?_) (by decide) (by decide) q,λi j b C e c=>?_⟩
  .obtain⟨n,t,rfl⟩:=av v hv;exact Ji rfl
  .obtain⟨d,d2,e1,e2,e3⟩:=look i j b e;obtain⟨n,rfl⟩:=ai i d e1;obtain⟨m,rfl⟩:=ai j d2 e2;obtain⟨v1,u1,r1,r2,x1⟩:=DS rv rr e1;obtain⟨v2,u2,r3,r4,x2⟩:=DS rv rr e2;cases r1;cases r3;obtain⟨t,rfl⟩:=r2;obtain⟨t2,rfl⟩:=r4;unfold qd;rw[x1,x2];cases e3;exact PySem.W.kat_lt_int c
 .have ai:∀ (i:Nat) (d:D),ds[i]?=Ga d->∃ n is,d=jZ ((n::is).map jb):=λi d e=>zwR (jH.mp ok d (kE e));have tup:∀ (i:Nat) (d:D),ds[i]?=Ga d->∃ n is a o us k,d=jZ ((n::is).map jb)/\its.getD i kK=kY a/\s1.heap.get? a=Ga o/\o.cls=.type "tuple"/\o.data=.seq us k/\IntsAre us.toList (n::is):=λi d e=>by
   obtain⟨n,is,rfl⟩:=ai i d e;obtain⟨v,u,r1,r2,x1⟩:=DS rv rr e;obtain⟨a,o,us,kk,rfl,e1,c,dd,hi⟩:=WN I g r1 r2;exact⟨n,is,a,o,us.toArray,kk,rfl,x1,k a o e1,c,dd,by simpa using hi⟩
  have kt:∀ (ws:List Gg) (es:List D),(∀ (i:Nat) v,ws[i]?=Ga v->∃ n is a o us kk,v=kY a/\s1.heap.get? a=Ga o/\o.cls=.type "tuple"/\o.data=.seq us kk/\IntsAre us.toList (n::is))->∃ fs,PySem.W.KatTups s1.heap ws fs/\fs.length=ws.length/\∀ v∈fs,∃ n t,v=qG n t:=by
   intro ws es;induction ws with
   | nil=>intro _;exact⟨[],.nil,rfl,λv hv=>by simp at hv⟩
   | cons v r ih =>
    intro hall;obtain⟨n,is,a,o,us,kk,rfl,e1,c,dd,hi⟩:=hall 0 v rfl;obtain⟨fs,h1,h2,h3⟩:=ih λi v e=>hall (i+1) v (by simpa using e);cases hu:us.toList with
    | nil=>rw[hu] at hi;cases hi
    | cons f fr =>
     rw[hu] at hi;cases hi with
     | cons _ t hi' =>
      have hf:us[0]?=Ga (qG n t):=by rw[<- ui,hu];rfl
      refine⟨qG n t::fs,.cons e1 c dd hf h1,by rw[jM,jM,h2],λv hv=>?_⟩;rcases ju.mp hv with rfl|hv
      .exact⟨n,t,rfl⟩
      .exact h3 v hv
  obtain⟨fs,t1,t2,t3⟩:=kt its ds λi v e=>by
   have hl:i<ds.length:=by rw[hlen];exact(jr.mp e).1
   obtain⟨n,is,a,o,us,kk,_,x1,x2⟩:=tup i _ (ji hl);rw[jq,e] at x1;exact⟨n,is,a,o,us,kk,x1,x2⟩
  refine⟨tuples' true,λQ q=>PySem.W.kat_kind (T:=.type "int") t1 (by omega) (λv hv=>?_) (by decide) q,λi j b C e c=>?_⟩
  .obtain⟨n,t,rfl⟩:=t3 v hv;exact Ji rfl
  .obtain⟨d,d2,e1,e2,e3⟩:=look i j b e;obtain⟨n,is,a,o,us,kk,rfl,x1,y1,_,z1,w1⟩:=tup i d e1;obtain⟨n',is',a',o',us',kk',rfl,x2,y2,_,z2,w2⟩:=tup j d2 e2;unfold qd;rw[x1,x2];rw[Sb] at e3;cases e3;refine PySem.W.kat_lt y1 z1 y2 z2 (Uk w1 w2 (λ_=>rfl) ?_ c);have l1:=w1.length;have l2:=w2.length;rw[kb] at l1 l2;rw[l1,l2]
end
section
variable {X:Cx}{pos:Pos}
def yn:D->D->Option D:=xi λi j=>.int (if j<i then j else i)
def zq:D->D->Option D:=xi λi j=>.int (if j>i then j else i)
theorem Us {a b:Expr}{f g:FV}{p:Pos}{x:Str}{id:String}{op:Int->Int->Int}(hc:nZ X (.builtin id) (λxs H Q=>∃ i j,xs=[.int i,.int j]/\Q (.int (op i j)) H))(hg:Gl X x)(hm:X.mg x=Gb)(hv:bootBuiltins x=Ga (.builtin id))(ha:PV X a f)(hb:PV X b g)
  (hn:x≠"__name__":=by decide) (hdb:(x==("__debug__":Str))=false:=by decide) (hs:starEach [a,b] X.env=(false,eval a X.env)::starEach [b] X.env:=by rfl) (hs2:starEach [b] X.env=[(false,eval b X.env)]:=by rfl) :
  PV X (.Call (.Name x p) [a,b] [] pos) (λψ=>(f ψ).bind λx=>(g ψ).bind λy=>xi (λi j=>.int (op i j)) x y):=by
 refine oh (yK hc hg hm hv (nL ha (nL hb pM hs2) hs) hn hdb hs (by rw[hs2];rfl)) λσ H Q=>?_;rintro⟨H0,F,ψ,d,r,e,q⟩;obtain⟨d1,e1,e3⟩:=iO e;obtain⟨d2,e2,e4⟩:=iO e3;clear e e3;refine⟨H0,F,ψ,d1,r,e1,λv H1 F1 g1 f1 fh1 n1 rv=>⟨H0,F1,ψ,d2,r.grow g1 f1 fh1 n1,e2,λv2 H2 F2 g2 f2 fh2 n2 rv2=>?_⟩⟩;cases rv<;>first|(cases e4;done)|skip
 cases rv2<;>first|(cases e4;done)|skip
 cases e4;exact⟨_,_,rfl,q _ H2 F2 (g1.trans g2) (f1.trans f2) fh2 (n1.trans n2 g1) (.int _)⟩
theorem Uj {a b:Expr}{f g:FV}{p:Pos}(hc:X.calm=true)(hg:Gl X "min")(hm:X.mg "min"=Gb)(ha:PV X a f)(hb:PV X b g)(hs:starEach [a,b] X.env=(false,eval a X.env)::starEach [b] X.env:=by rfl)(hs2:starEach [b] X.env=[(false,eval b X.env)]:=by rfl) :
  PV X (.Call (.Name "min" p) [a,b] [] pos) (λψ=>(f ψ).bind λx=>(g ψ).bind λy=>yn x y):=Us (Fc hc) hg hm boot_min ha hb (hs:=hs) (hs2:=hs2)
theorem SR {a b:Expr}{f g:FV}{p:Pos}(hc:X.calm=true)(hg:Gl X "max")(hm:X.mg "max"=Gb)(ha:PV X a f)(hb:PV X b g)(hs:starEach [a,b] X.env=(false,eval a X.env)::starEach [b] X.env:=by rfl)(hs2:starEach [b] X.env=[(false,eval b X.env)]:=by rfl) :
  PV X (.Call (.Name "max" p) [a,b] [] pos) (λψ=>(f ψ).bind λx=>(g ψ).bind λy=>zq x y):=Us (Fg hc) hg hm boot_max ha hb (hs:=hs) (hs2:=hs2)
def ajv (xs:List D):D->Option (List D)
 | .int k=>if 0<=k/\k<1000000/\xs.length*k.toNat<=1000000 then Ga (jO k.toNat xs).flatten else Gb
 | _=>Gb
theorem ly.rep {K:ja}{F:Hp}{ds:List D}{xs:List V}(r:ly K F ds xs):∀ n,ly K F (jO n ds).flatten (jO n xs).flatten
 | 0=>.nil
 | n+1=>by rw[uc,uc,uK,uK];exact r.append (r.rep n)
def BI (ds:List D):D->D->Option (List D)
 | .int k,v=>(ixN ds.length k).bind λj=>Ga (ds.set j v)
 | _,_=>Gb
theorem XQ (i:Nat){x:Str}{ie e:Expr}{fi f:FV}{p p2:Pos}(hi:PV X ie fi)(h:PV X e f)(hN:X.N[i]?=Ga x:=by rfl)(hv:xR X.env.scope x:=by first|exact uu rfl|exact kS (uu rfl)|exact kS (kS rfl))
  (hd:(x==("__debug__":Str))=false:=by decide) (hcd:(x==("__classdict__":Str))=false:=by decide)
  (hs:swapsWithSole [.Subscript (.Name x p) ie p2] e pos.line X.env=pure false:=by rfl) (hw:swappedStores [.Subscript (.Name x p) ie p2] e X.env=pure Gb:=by rfl)
  (h1:(assignEach [.Subscript (.Name x p) ie p2] X.env).map (·.2)=[assign (.Subscript (.Name x p) ie p2) X.env]:=by rfl)
  (ha:∀ v,assign (.Subscript (.Name x p) ie p2) X.env v=(do
   let ov <- holding [v] (eval (.Name x p) X.env)
   let iv <- holding [v,ov] (eval ie X.env)
   standAt p2
   holding [v,ov,iv] (setItem ov iv v)
   release [v,ov,iv] []):=by intro _;rfl) :
  rh X (.Assign [.Subscript (.Name x p) ie p2] e pos) (λψ=>(f ψ).bind λv=>(go i ψ).bind λds=>(fi ψ).bind λk=>(BI ds k v).bind λes=>Ga (.nx (ψ.set i (.own es)))):=by
 refine wF (Ek h (Qo (su (pos:=p) hN hv hd hcd) hi FH ha) hs hw h1) λE σ H=>?_;rintro⟨H0,F,ψ,o,r,e,p⟩;obtain⟨dv,e1,e5⟩:=iO e;obtain⟨ds,e2,e6⟩:=iO e5;obtain⟨dk,e3,e7⟩:=iO e6;obtain⟨es,e4,e8⟩:=iO e7;cases e8;clear e e5 e6 e7;unfold go at e2;split at e2;rotate_left
 .cases e2
 rename_i ds' z;cases e2;refine⟨H0,F,ψ,dv,r,e1,λv H1 F1 g1 f1 fh1 n1 rv=>?_⟩;have r1:=r.grow g1 f1 fh1 n1;obtain⟨u,x3,a,xs,x4,ha1,fa,h0a,rr⟩:=r1.sl i _ z;subst x4;refine⟨.ref a,x3,H0,F1,ψ,dk,r1,e3,λvk H2 F2 g2 f2 fh2 n2 rk=>?_⟩;have r2:=r1.grow g2 f2 fh2 n2;cases rk<;>first|(cases e4;done)|skip
 rename_i k;obtain⟨j,y1,y2⟩:=iO (show(ixN ds.length k).bind (λj=>Ga (ds.set j dv))=Ga es from e4);cases y2;refine⟨a,xs,k,j,rfl,rfl,g2 _ _ ha1,by rw[<- rr.length];exact y1,?_⟩;exact p σ _ F2 (f1.trans f2) ((n1.trans n2 g1).dn r.h0) (r2.chg z x3 ((rr.mono f2).set (rv.mono f2) j))
def oy (c:FB)(g:FS):Nat->FS
 | 0,_=>Gb
 | n+1,ψ=>(c (frz ψ)).bind λb=>if b then(g ψ).bind λo=>match o with
   | .nx e=>oy c g n e
   | .ct e=>oy c g n e
   | .bk e=>Ga (.nx e)
   | .rt d=>Ga (.rt d)
   | .ro ds=>Ga (.ro ds)
   | .rm a kvs=>Ga (.rm a kvs)
   | .rc d e=>Ga (.rc d e)
  else Ga (.nx ψ)
theorem Tv (n:Nat){c:Expr}{body:List Stmt}{fc:FB}{g:FS}(hp:PassesOwn (model X.prog X.w) X.A X.env X.xe)(hc:PB X c fc)(hb:rQ X body g):rh X (.While c body [] pos) (oy fc g n):=by
 refine wF (FM hp hc hb) λE σ H=>?_;rintro⟨H0,F,ψ,o,r,e,p⟩;refine⟨λm σ H=>∃ F2 ψ,RS X.K H0 F2 H ψ σ/\iP F F2/\mz F F2 H0/\oy fc g m ψ=Ga o,⟨n,F,ψ,r,.refl _,.refl _ _,e⟩,?_⟩;rintro m σ' H' ⟨F2,env2,r2,f2,n2,e2⟩;cases m with
 | zero=>cases e2
 | succ m =>
  obtain⟨b,x1,x2⟩:=iO (show(fc (frz env2)).bind _=Ga o from e2);refine⟨H0,H',frz env2,b,r2.frz,x1,λH3 g3=>?_⟩;have r3:=r2.later g3;have p2:=p.mono f2 n2;cases b with
  | false =>
   cases x2;exact wz (p2 σ' H3 F2 (.refl _) (.refl _ _) r3)
  | true =>
   obtain⟨o1,x3,x4⟩:=iO (show(g env2).bind _=Ga o from x2);refine wx ⟨λσ4 H4=>∃ F4 ψ,RS X.K H0 F4 H4 ψ σ4/\iP F F4/\mz F F4 H0/\oy fc g m ψ=Ga o,λσ4 H4 h4=>⟨m,kR _,h4⟩,H0,F2,env2,o1,r3,x3,?_⟩;cases o1 with
   | nx e5=>exact λσ6 H6 F6 f6 n6 r6=>⟨F6,e5,r6,f2.trans f6,n2.up n6,x4⟩
   | ct e5=>exact λσ6 H6 F6 f6 n6 r6=>⟨F6,e5,r6,f2.trans f6,n2.up n6,x4⟩
   | bk e5=>cases x4;exact p2
   | rt d=>cases x4;exact p2
   | ro d=>cases x4;exact p2
   | rm a d=>cases x4;exact p2
   | rc a d=>cases x4;exact p2
theorem zBV {op op':CmpOp}{r r':R2}{k k':D->D->Option D}{a b c:Expr}{f g h:FV}(ho:nS X (compareOp op) r)(ho':nS X (compareOp op') r')(hr:wE X.K r k)(hr':wE X.K r' k')(ha:PV X a f)(hb:PV X b g)(hc:PV X c h)
  (hm:lastMarks [op,op'] [b,c]=false:=by with_unfolding_all rfl) :
  PB X (.Compare a [op,op'] [b,c] pos) (λψ=>((f ψ).bind λx=>(g ψ).bind λy=>((k x y).bind nN).bind λt=>if t then(h ψ).bind λz=>k' y z else Ga (.bool false)).bind nN):=by
 refine GH (FZ ho ho' ha hb hc hm) λσ H Q=>?_;rintro⟨H0,F,ψ,bb,rs,e0,q⟩;obtain⟨d,e,eb⟩:=iO e0;cases BA eb;obtain⟨x,e1,e⟩:=iO e;obtain⟨y,e2,e⟩:=iO e;obtain⟨t,e3,e⟩:=iO e;obtain⟨d1,e4,e5⟩:=iO e3;cases BA e5;refine⟨H0,F,ψ,x,rs,e1,λv H1 F1 g1 f1 fh1 n1 rv=>⟨H0,F1,ψ,y,rs.grow g1 f1 fh1 n1,e2,λu H2 F2 g2 f2 fh2 n2 ru=>?_⟩⟩;refine hr F2 H2 v u x y _ _ fh2 (rv.mono f2) ru e4 λw H3 F3 g3 f3 fh3 n3 rw3=>?_;cases rw3;refine⟨t,rfl,?_⟩;have gg:iP H H3:=(g1.trans g2).trans g3;have ff:iP F F3:=(f1.trans f2).trans f3;have nn:mz F F3 H:=(n1.trans n2 g1).trans n3 (g1.trans g2);cases t with
 | true =>
  obtain⟨z,e6,e7⟩:=iO (show(h ψ).bind (λz=>k' y z)=Ga (.bool bb) from e);refine wx ⟨H0,F3,ψ,z,rs.grow gg ff fh3 nn,e6,λw4 H4 F4 g4 f4 fh4 n4 rw4=>?_⟩;refine hr' F4 H4 u w4 y z _ _ fh4 ((ru.mono f3).mono f4) rw4 e7 λw5 H5 F5 g5 f5 fh5 n5 rw5=>?_;cases rw5;exact⟨bb,rfl,q H5 ((gg.trans g4).trans g5)⟩
 | false=>cases e;exact wz ⟨false,rfl,q H3 gg⟩
end
abbrev Xb (k k':D->D->Option D)(f g h:FV):FB:=λψ=>((f ψ).bind λx=>(g ψ).bind λy=>((k x y).bind nN).bind λt=>if t then(h ψ).bind λz=>k' y z else Ga (.bool false)).bind nN
abbrev ajt (i:Nat)(fi f:FV):FS:=λψ=>(f ψ).bind λv=>(go i ψ).bind λds=>(fi ψ).bind λk=>(BI ds k v).bind λes=>Ga (.nx (ψ.set i (.own es)))
abbrev HX (f:FL):FL:=λψ=>(f ψ).bind pr
abbrev ixS (f:FL)(g:FV):FV:=λψ=>(f ψ).bind λx=>(g ψ).bind λy=>zK x y
def FE (lo c:Int)(n:Nat):It:=⟨λi _=>i<n,λi H x H'=>H'=H/\x=.int (lo+i*c),λi _=>n<=i⟩
theorem Zv {P:Program}{w:World}{K:ja}{tg:Expr}(it:Gj)(lo c:Int)(n:Nat):zW P w K tg (FE lo c n) [it] it (λi h=>IsRangeIter h it (lo+(i:Nat)*c) ((n:Int)-(i:Nat)) c) where
 mem:=by simp
 obj:=λi h st b hb=>by
  cases jo.mp hb;exact⟨_,st,λv z=>by cases(show Data.fields _=Data.cell v from z)⟩
 keep:=λi h h' st k=>k it (by simp) _ st
 item:=by
  intro X hP hw hK hc i ω s σ H E I hf st hg;subst hP hw hK;obtain⟨f0,f1,f2,f3,f4,f5⟩:=hf it (by simp);refine(Walks.range (prog:=X.prog) (w:=X.w) (I.ok.hd hc) it lo c n).item i s _ _ hg st λv h' tk hv st' kk=>?_;obtain⟨t,rfl⟩:=hv;have I1:iZ X ω σ H { s with heap:=h',toks:=tk }:=I.turned (λb o hb e=>kk b o (λz=>hb (jo.mp z)) e) f0 f1 f3 f4 f5;exact⟨_,rfl,AS (s:={ s with heap:=h',toks:=tk }) (n:="range_iterator") st' rfl rfl (by decide) ⟨.int (lo+i*c),H,I1,⟨t,rfl⟩,⟨rfl,rfl⟩,st',λb hb=>(hf b hb).1⟩⟩
 done:=by
  intro X hP hw hK hc i ω s σ H E I hf st hg;subst hP hw hK;obtain⟨f0,f1,f2,f3,f4,f5⟩:=hf it (by simp);exact wpAny_pyNext_range_end (I.ok.hd hc) st (by have:n<=i:=hg;omega) λh' eb=>⟨rfl,I.turned (t':=s.toks) (λb o hb e=>eb b o hb e) f0 f1 f3 f4 f5⟩
 self:=λ_ _ _ _ _ st h=>wpAny_pyIter_rangeiter st h
def yj (lo c:Int)(n:Nat):List D:=(jd n).map λk=>.int (lo+(k:Nat)*c)
theorem zsW {K:ja}{F:Hp}{lo c:Int}{n:Nat}:sP K (FE lo c n) F (yj lo c n):=by
 intro H g i;refine⟨λhi=>(by rw[yj,jc,jE] at hi;exact hi:n<=i),λd hd=>?_⟩;have hi:i<n:=by have:=(jr.mp hd).1;rw[yj,jc,jE] at this;exact this
 refine⟨hi,λx H' y=>?_⟩;obtain⟨rfl,rfl⟩:=y;have:d=.int (lo+(i:Nat)*c):=by
  have h2:(yj lo c n)[i]?=Ga (.int (lo+(i:Nat)*c)):=by rw[yj,jA,ud hi];rfl
  rw[h2] at hd;exact(jF hd).symm
 subst this;exact⟨.refl _,F,.refl _,g,.refl _ _,.int _⟩
def xC:D->D->D->Option (List D)
 | .int a,.int b,.int c=>if (qh a b c&&decide (0<c)&&decide (c<1000000))=true then Ga (yj a c (jP a b c).toNat) else Gb
 | _,_,_=>Gb
abbrev MS (op:D->D->D->Option (List D))(f g h:FV):FL:=λψ=>(f ψ).bind λx=>(g ψ).bind λy=>(h ψ).bind λz=>op x y z
section
variable {X:Cx}{tg:Expr}{pos:Pos}
theorem Yd {a b c:Int}(hc:0<c):(((jP a b c).toNat:Nat):Int)=jP a b c:=by
 unfold jP;rw[Ge hc];split
 .rename_i h;have:0<=(b-a-1)/c:=Int.ediv_nonneg (by omega) (by omega);omega
 .rfl
theorem zDS {a b c:Expr}{f g h:FV}{p:Pos}(hg:Gl X "range")(hm:X.mg "range"=Gb)(ha:PV X a f)(hb:PV X b g)(hc:PV X c h)(hs:starEach [a,b,c] X.env=(false,eval a X.env)::starEach [b,c] X.env:=by rfl)(hs2:starEach [b,c] X.env=(false,eval b X.env)::starEach [c] X.env:=by rfl)
  (hs3:starEach [c] X.env=[(false,eval c X.env)]:=by rfl):BB X tg (.Call (.Name "range" p) [a,b,c] [] pos) (MS xC f g h):=by
 intro ω s σ H R I hw;obtain⟨H0,F,ψ,ds,r,e,q⟩:=hw;obtain⟨d1,e1,x2⟩:=iO e;obtain⟨d2,e2,x3⟩:=iO x2;obtain⟨d3,e3,x4⟩:=iO x3;clear e x2 x3;refine Call_ (sU I hg hm boot_range (PyProof.Rows.callWith_type1 (lZ (nL ha (nL hb (nL hc pM hs3) hs2) hs pos ω s σ H (λvs H2=>∃ lo hi st:Int,vs=[.int lo,.int hi,.int st]/\qh lo hi st=true/\0<st/\st<1000000/\R (FE lo st (jP lo hi st).toNat) H2) I
  ⟨H0,F,ψ,d1,r,e1,λv H1 F1 g1 f1 fh1 n1 rv=>⟨H0,F1,ψ,d2,r.grow g1 f1 fh1 n1,e2,λv2 H2 F2 g2 f2 fh2 n2 rv2=>⟨H0,F2,ψ,d3,(r.grow g1 f1 fh1 n1).grow g2 f2 fh2 n2,e3,λv3 H3 F3 g3 f3 fh3 n3 rv3=>?_⟩⟩⟩) λus s1 ⟨vs,H2,I2,rvs,lo,hi,st,ev,h1,h2,h3,hR⟩=>?_) hs (by rw[hs2,hs3];rfl)))
 .cases rv<;>first|(cases x4;done)|skip
  cases rv2<;>first|(cases x4;done)|skip
  cases rv3<;>first|(cases x4;done)|skip
  rename_i lo hi st;unfold xC at x4;dsimp only at x4;split at x4
  .rename_i cnd;cases x4;simp only[jG,decide_eq_true_eq] at cnd;exact⟨lo,hi,st,rfl,cnd.1.1,cnd.1.2,cnd.2,q _ H3 F3 ((g1.trans g2).trans g3) ((f1.trans f2).trans f3) fh3 ((n1.trans n2 g1).trans n3 (g1.trans g2)) λF2 f2=>zsW⟩
  .cases x4
 .subst ev;cases rvs with
  | cons ra rb =>
   cases rb with
   | cons rb rc =>
    cases rc with
    | cons rc rd =>
     cases rd;obtain⟨t1,rfl⟩:=ra;obtain⟨t2,rfl⟩:=rb;obtain⟨t3,rfl⟩:=rc;refine call_range_3 (by omega) ?_ (uu (PyProof.noPylong_small (by omega)));refine wpAny_pyIter_range (IsRange.new ..) h1 ?_;have I3:iZ X ω σ H2 { s1 with heap:=s1.heap.push { cls:=.type "range",data:=.fields #[.int lo t1,.int hi t2,.int st t3] },toks:=s1.toks }:=I2.kept λb o e=>je _ e;refine⟨(s1.heap.push { cls:=.type "range",data:=.fields #[.int lo t1,.int hi t2,.int st t3] }).objs.size,[(s1.heap.push { cls:=.type "range",data:=.fields #[.int lo t1,.int hi t2,.int st t3] }).objs.size],_,_,H2,rfl,I3.kept (t':=s1.toks) λb o e=>je _ e,Zv _ lo st (jP lo hi st).toNat,?_,λb hb=>?_,hR⟩
     .have z1:lo+((0:Nat):Int)*st=lo:=by rw[J4,Int.zero_mul,Int.add_zero]
      have z2:(((jP lo hi st).toNat:Nat):Int)-((0:Nat):Int)=jP lo hi st:=by rw[Yd h2];omega
      show IsRangeIter _ _ (lo+((0:Nat):Int)*st) ((((jP lo hi st).toNat:Nat):Int)-((0:Nat):Int)) st;rw[z1,z2];exact jB _ rfl
     .cases jo.mp hb;exact I3.fpOk (jj _) (I3.hok.fresh (jj _))
end
theorem TC {t:FT}{g:FS}(I:En->Prop):∀ {ds:List D} {ψ:En},I ψ->(∀ d∈ds,∀ ψ,I ψ->∃ e1 e2,t d ψ=Ga e1/\g e1=Ga (.nx e2)/\I e2)->∃ e,lS t g ds ψ=Ga (.nx e)/\I e
 | [],ψ,h,_=>⟨ψ,rfl,h⟩
 | x::r,ψ,h,st=>by
  obtain⟨e1,e2,q1,q2,q3⟩:=st x jf ψ h;obtain⟨e,z1,z2⟩:=TC I (ds:=r) q3 (λd hd=>st d (jh _ hd));refine⟨e,?_,z2⟩;unfold lS;rw[q1,jp,q2];exact z1
def BJ (n:Nat):qR (Array Nat)->Bool
 | .ret p=>p.toList.isPerm (jd n)
 | .ask i j k=>decide (i<n)&&decide (j<n)&&BJ n (k true)&&BJ n (k false)
theorem zzH:∀ n<7,BJ n (vt n)=true:=by nofun
theorem MK {xs:List D}{j:Nat}{v:D}(h:xs[j]?=Ga v):atI xs (j:Int)=Ga v:=atI_nat h
theorem zH {n:Nat}(h:n<1000000):mr (.int (n:Int))=Ga (oi 0 n):=by
 unfold mr;dsimp only;rw[Ge (by constructor<;>omega),j7]
theorem xN (n:Nat):oi 0 n=(jd n).map λ(k:Nat)=>jb (k:Int):=by
 unfold oi;apply jN;intro k _;rw[qj]
theorem Dd (lo:Int)(n:Nat):(oi lo n).length=n:=by unfold oi;rw[jc,jE]
theorem pB {i j:Int}(h:0<j):lM (.int i) (.int j)=Ga (.int (i%j)):=by
 show(if decide (0<j) then _ else _)=_;rw[Ge (Gc h)]
theorem sV {i j:Int}(h:0<j)(h2:j<1073741824):mS (.int i) (.int j)=Ga (.int (i/j)):=by
 show(if decide (0<j)&&decide (j<1073741824) then _ else _)=_;rw[Gc h,Gc h2];rfl
theorem HJ {i j:Int}(h:tP i j=true):mM (.int i) (.int j)=Ga (.int (i*j)):=by
 show(if tP i j then _ else _)=_;rw[Ge h]
abbrev FP:=En->Option (Option Int)
def tPt (K:ja)(f:FP):TO:=λσ H Q=>∃ H0 F ψ o,RS K H0 F H ψ σ/\f ψ=Ga o/\∀ H' F',iP H H'->iP F F'->iP F' H'->mz F F' H->Q o H'
abbrev Im (X:Cx)(e:Option Expr)(f:FP):Prop:=L2.PO X e (tPt X.K f)
abbrev Mp:FP:=λ_=>Ga Gb
def HW:D->Option (Option Int)
 | .int i=>Ga (Ga i)
 | _=>Gb
abbrev zw (f:FV):FP:=λψ=>(f ψ).bind HW
def tN (xs:List D)(lo hi:Option Int):List D:=(xs.drop (HT.sIx xs.length 0 lo)).take (HT.sIx xs.length xs.length hi-HT.sIx xs.length 0 lo)
def wk:D->Option Int->Option Int->Option D
 | .list xs,lo,hi=>Ga (.list (tN xs lo hi))
 | .tuple xs,lo,hi=>if HT.sIx xs.length 0 lo=0/\HT.sIx xs.length xs.length hi=xs.length then Gb else Ga (.tuple (tN xs lo hi))
 | _,_,_=>Gb
theorem ly.cut {K:ja}{F:Hp}{ds:List D}{xs:List V}(r:ly K F ds xs)(lo hi:Option Int):ly K F (tN ds lo hi) (wB xs lo hi):=by
 unfold tN wB;rw[r.length];exact(r.drop _).take _
section
variable {X:Cx}{pos p2:Pos}
theorem yi:Im X Gb Mp:=by
 intro ω s σ H Q I h;obtain⟨H0,F,ψ,o,r,e,q⟩:=h;cases e;exact Iz ω s σ H Q I (q H F (.refl _) (.refl _) r.fh (.refl _ _))
theorem wH {e:Expr}{f:FV}(h:PV X e f):Im X (Ga e) (zw f):=by
 intro ω s σ H Q I hw;obtain⟨H0,F,ψ,o,r,e1,q⟩:=hw;obtain⟨d,e2,e3⟩:=iO e1;refine IV h ω s σ H Q I ⟨H0,F,ψ,d,r,e2,λv H' F' g1 f1 fh1 n1 rv=>?_⟩;cases rv<;>first|(cases e3;done)|skip
 cases e3;exact⟨_,rfl,q H' F' g1 f1 fh1 n1⟩
theorem xg {a:Expr}{lo hi:Option Expr}{f:FV}{g h:FP}(ha:PV X a f)(hl:Im X lo g)(hh:Im X hi h):PV X (.Subscript a (.Slice lo hi Gb p2) pos) (λψ=>(f ψ).bind λx=>(g ψ).bind λl=>(h ψ).bind λu=>wk x l u):=by
 refine oh (FA (IW.or Mf) ha hl hh) λσ H Q=>?_;rintro⟨H0,F,ψ,d,r,e,q⟩;obtain⟨x,e1,e4⟩:=iO e;obtain⟨l,e2,e5⟩:=iO e4;obtain⟨u,e3,e6⟩:=iO e5;clear e e4 e5;refine⟨H0,F,ψ,x,r,e1,λv H1 F1 g1 f1 fh1 n1 rv=>⟨H0,F1,ψ,l,r.grow g1 f1 fh1 n1,e2,λH2 F2 g2 f2 fh2 n2=>⟨H0,F2,ψ,u,(r.grow g1 f1 fh1 n1).grow g2 f2 fh2 n2,e3,λH3 F3 g3 f3 fh3 n3=>?_⟩⟩⟩;have rv3:=rv.mono (f2.trans f3);cases rv3<;>first|(cases e6;done)|skip
 case lst a xs ds h1 h2 =>
  cases e6;refine uu ⟨a,xs,rfl,fh3.seq h1,λp hp=>?_⟩;obtain⟨s1,s2,s3,s4⟩:=zC (o:=.lst (wB xs l u)) fh3 hp;exact q _ _ _ (((g1.trans g2).trans g3).trans s1) (((f1.trans f2).trans f3).trans s2) s3 (((n1.trans n2 g1).trans n3 (g1.trans g2)).trans s4 ((g1.trans g2).trans g3)) (.lst (nr.of lB) ((h2.cut l u).mono s2))
 case tup a xs ds h1 h2 =>
  unfold wk at e6;dsimp only at e6;split at e6
  .cases e6
  .rename_i hw;cases e6;refine kS ⟨a,xs,rfl,oN fh3 h1,by rw[<- h2.length];exact hw,λp hp=>?_⟩;obtain⟨s1,s2,s3,s4⟩:=zC (o:=.tup (wB xs l u)) fh3 hp;exact q _ _ _ (((g1.trans g2).trans g3).trans s1) (((f1.trans f2).trans f3).trans s2) s3 (((n1.trans n2 g1).trans n3 (g1.trans g2)).trans s4 ((g1.trans g2).trans g3)) (.tup (oB.of lB) ((h2.cut l u).mono s2))
end
abbrev Kg (f:FV)(g h:FP):FV:=λψ=>(f ψ).bind λx=>(g ψ).bind λl=>(h ψ).bind λu=>wk x l u
section
variable {X:Cx}{pos:Pos}
end
def DQ:List Int->Option Int
 | []=>Gb
 | i::r=>Ga (r.foldl (λa b=>if b<a then b else a) i)
def DN:List Int->Option Int
 | []=>Gb
 | i::r=>Ga (r.foldl (λa b=>if a<b then b else a) i)
def wp (ds:List D):Option D:=(pJ ds).bind λis=>(DQ is).bind λm=>Ga (.int m)
def sN (ds:List D):Option D:=(pJ ds).bind λis=>(DN is).bind λm=>Ga (.int m)
theorem Db:∀ (r:List Int) (i:Int),(r.foldl (λa b=>if b<a then b else a) i=i\/r.foldl (λa b=>if b<a then b else a) i∈r)/\r.foldl (λa b=>if b<a then b else a) i<=i/\∀ a∈r,r.foldl (λa b=>if b<a then b else a) i<=a
 | [],i=>⟨.inl rfl,kZ _,λa h=>by cases h⟩
 | b::r,i=>by
  obtain⟨h1,h2,h3⟩:=Db r (if b<i then b else i);rw[kW];refine⟨?_,?_,λa ha=>?_⟩
  .rcases h1 with z|z
   .by_cases hb:b<i
    .rw[Ge hb] at z ⊢;exact .inr (by rw[z];exact jf)
    .rw[Gf hb] at z ⊢;exact .inl z
   .exact .inr (jh _ z)
  .refine va h2 ?_;split
   .rename_i hb;exact Int.le_of_lt hb
   .exact kZ _
  .rcases ju.mp ha with rfl|ha
   .refine va h2 ?_;split
    .exact kZ _
    .rename_i hb;exact Int.not_lt.mp hb
   .exact h3 a ha
theorem CM:∀ (r:List Int) (i:Int),(r.foldl (λa b=>if a<b then b else a) i=i\/r.foldl (λa b=>if a<b then b else a) i∈r)/\i<=r.foldl (λa b=>if a<b then b else a) i/\∀ a∈r,a<=r.foldl (λa b=>if a<b then b else a) i
 | [],i=>⟨.inl rfl,kZ _,λa h=>by cases h⟩
 | b::r,i=>by
  obtain⟨h1,h2,h3⟩:=CM r (if i<b then b else i);rw[kW];refine⟨?_,?_,λa ha=>?_⟩
  .rcases h1 with z|z
   .by_cases hb:i<b
    .rw[Ge hb] at z ⊢;exact .inr (by rw[z];exact jf)
    .rw[Gf hb] at z ⊢;exact .inl z
   .exact .inr (jh _ z)
  .refine va ?_ h2;split
   .rename_i hb;exact Int.le_of_lt hb
   .exact kZ _
  .rcases ju.mp ha with rfl|ha
   .refine va ?_ h2;split
    .exact kZ _
    .rename_i hb;exact Int.not_lt.mp hb
   .exact h3 a ha
theorem Tn {is:List Int}{m:Int}(h:DQ is=Ga m):m∈is/\∀ a∈is,m<=a:=by
 cases is with
 | nil=>cases h
 | cons i r =>
  cases h;obtain⟨h1,h2,h3⟩:=Db r i;refine⟨?_,λa ha=>?_⟩
  .rcases h1 with z|z
   .rw[z];exact jf
   .exact jh _ z
  .rcases ju.mp ha with rfl|ha
   .exact h2
   .exact h3 a ha
theorem VE {is:List Int}{m:Int}(h:DN is=Ga m):m∈is/\∀ a∈is,a<=m:=by
 cases is with
 | nil=>cases h
 | cons i r =>
  cases h;obtain⟨h1,h2,h3⟩:=CM r i;refine⟨?_,λa ha=>?_⟩
  .rcases h1 with z|z
   .rw[z];exact jf
   .exact jh _ z
  .rcases ju.mp ha with rfl|ha
   .exact h2
   .exact h3 a ha
section
variable {X:Cx}{pos:Pos}
theorem zwY (hc:X.calm=true):nZ X (.builtin "min") (λxs H Q=>∃ (p:Gj) (is:List Int) (m:Int),xs=[.ref p]/\nr X.K H p (is.map V.int)/\DQ is=Ga m/\Q (.int m) H):=by
 intro ω s σ H xs us Q I r h;obtain⟨p,is,m,rfl,hl,hm,q⟩:=h;obtain⟨hm,hle⟩:=Tn hm;obtain⟨u,rfl,ru⟩:=rg r;cases ru;obtain⟨its,rv,pl,hz⟩:=I.list hl;have hi:IntsAre its is:=se rv;obtain⟨ys,ey⟩:=hi.allInts.items;have en:is=ys.toList.map (·.1):=hi.numsOf.symm.trans (by rw[<- nums_intItems,<- ey]);have el:is.length=ys.size:=by rw[en,jc,kb]
 have hne:0<ys.size:=by rw[<- el];exact ua hm
 have hl':s.heap.IsList p (intItems ys):=by rw[<- ey];exact pl.isList
 refine min_intList (I.ok.hd hc) hl' hne λv h' tk hv hk=>?_;obtain⟨t,rfl⟩:=intItems_at hv;obtain⟨b1,b2⟩:=argBest_lt (numAt ys) (ys.size-1);have mem:numAt ys (argBest (λi j=>decide (numAt ys i<numAt ys j)) (ys.size-1))∈is:=by rw[numAt_eq,<- en];exact qo (by omega)
 have le:numAt ys (argBest (λi j=>decide (numAt ys i<numAt ys j)) (ys.size-1))<=m:=by
  obtain⟨j,hj,ej⟩:=qp hm;have:=b2 j (by omega);rw[numAt_eq ys j,<- en,ej] at this;exact this
 exact⟨.int m,H,I.kept hk,⟨t,by rw[qe le (hle _ mem)]⟩,q⟩
theorem zwZ (hc:X.calm=true):nZ X (.builtin "max") (λxs H Q=>∃ (p:Gj) (is:List Int) (m:Int),xs=[.ref p]/\nr X.K H p (is.map V.int)/\DN is=Ga m/\Q (.int m) H):=by
 intro ω s σ H xs us Q I r h;obtain⟨p,is,m,rfl,hl,hm,q⟩:=h;obtain⟨hm,hle⟩:=VE hm;obtain⟨u,rfl,ru⟩:=rg r;cases ru;obtain⟨its,rv,pl,hz⟩:=I.list hl;have hi:IntsAre its is:=se rv;obtain⟨ys,ey⟩:=hi.allInts.items;have en:is=ys.toList.map (·.1):=hi.numsOf.symm.trans (by rw[<- nums_intItems,<- ey]);have el:is.length=ys.size:=by rw[en,jc,kb]
 have hne:0<ys.size:=by rw[<- el];exact ua hm
 have hl':s.heap.IsList p (intItems ys):=by rw[<- ey];exact pl.isList
 refine max_intList (I.ok.hd hc) hl' hne λv h' tk hv hk=>?_;obtain⟨t,rfl⟩:=intItems_at hv;obtain⟨b1,b2⟩:=argBest_gt (numAt ys) (ys.size-1);have mem:numAt ys (argBest (λi j=>decide (numAt ys i>numAt ys j)) (ys.size-1))∈is:=by rw[numAt_eq,<- en];exact qo (by omega)
 have le:m<=numAt ys (argBest (λi j=>decide (numAt ys i>numAt ys j)) (ys.size-1)):=by
  obtain⟨j,hj,ej⟩:=qp hm;have:=b2 j (by omega);rw[numAt_eq ys j,<- en,ej] at this;exact this
 exact⟨.int m,H,I.kept hk,⟨t,by rw[qe (hle _ mem) le]⟩,q⟩
theorem zDT {p:Pos}{e:Expr}{fl:FL}(hc:X.calm=true)(hg:Gl X "min")(hm:X.mg "min"=Gb)(ha:xQ X e fl)(hs:starEach [e] X.env=[(false,eval e X.env)]:=by rfl) :
  PV X (.Call (.Name "min" p) [e] [] pos) (yo wp fl):=by
 refine oh (xU (zwY hc) hg hm boot_min ha (hs:=hs)) λσ H Q=>?_;rintro⟨H0,F,ψ,d,r,e,q⟩;obtain⟨ds,e1,e⟩:=iO e;obtain⟨is,e2,e⟩:=iO e;obtain⟨m,e3,e⟩:=iO e;cases e;refine⟨H0,F,ψ,ds,r,e1,λp xs H1 F1 g1 f1 fh1 n1 hl rr=>⟨p,is,m,rfl,?_,e3,q _ H1 F1 g1 f1 fh1 n1 (.int _)⟩⟩;rw[Bk e2] at rr;rw[<- rr.ints_inv];exact hl
theorem Vk {p:Pos}{e:Expr}{fl:FL}(hc:X.calm=true)(hg:Gl X "max")(hm:X.mg "max"=Gb)(ha:xQ X e fl)(hs:starEach [e] X.env=[(false,eval e X.env)]:=by rfl) :
  PV X (.Call (.Name "max" p) [e] [] pos) (yo sN fl):=by
 refine oh (xU (zwZ hc) hg hm boot_max ha (hs:=hs)) λσ H Q=>?_;rintro⟨H0,F,ψ,d,r,e,q⟩;obtain⟨ds,e1,e⟩:=iO e;obtain⟨is,e2,e⟩:=iO e;obtain⟨m,e3,e⟩:=iO e;cases e;refine⟨H0,F,ψ,ds,r,e1,λp xs H1 F1 g1 f1 fh1 n1 hl rr=>⟨p,is,m,rfl,?_,e3,q _ H1 F1 g1 f1 fh1 n1 (.int _)⟩⟩;rw[Bk e2] at rr;rw[<- rr.ints_inv];exact hl
def wD:List D->Option (List Bool)
 | []=>Ga []
 | .bool b::r=>(wD r).bind λbs=>Ga (b::bs)
 | _=>Gb
theorem SM:∀ {ds:List D} {bs:List Bool},wD ds=Ga bs->ds=bs.map kh
 | [],bs,h=>by cases h;rfl
 | .bool b::r,bs,h=>by
  obtain⟨cs,e1,e2⟩:=iO (show(wD r).bind (λbs=>Ga (b::bs))=Ga bs from h);cases e2;rw[SM e1];rfl
 | .none::_,_,h=>by cases h
 | .int _::_,_,h=>by cases h
 | .str _::_,_,h=>by cases h
 | .list _::_,_,h=>by cases h
 | .tuple _::_,_,h=>by cases h
 | .dict _::_,_,h=>by cases h
theorem GX:∀ bs:List Bool,wD (bs.map kh)=Ga bs
 | []=>rfl
 | b::r=>by show(wD (r.map kh)).bind _=_;rw[GX r];rfl
theorem ly.bools_inv {K:ja}{F:Hp}:∀ {bs:List Bool} {vs:List V},ly K F (bs.map kh) vs->vs=bs.map V.bl
 | [],_,h=>by cases h;rfl
 | b::r,_,h=>by
  cases h with
  | cons h t=>cases h;rw[ly.bools_inv t];rfl
def wy (ds:List D):Option D:=(wD ds).bind λbs=>Ga (.bool (bs.all id))
theorem zw0 (bs:List Bool):(jd bs.length).all (λi=>bs.getD i false)=bs.all id:=by
 rw[kq,jH,jH];constructor
 .intro h x hx;obtain⟨i,hi,rfl⟩:=qi hx;have:=h i (jn.mpr hi);rw[jq,ji hi] at this;exact this
 .intro h i hi;have hi:=jn.mp hi;rw[jq,ji hi];exact h _ (uB hi)
theorem zzJ {bs:List Bool}{its:List Gg}(rv:lH (bs.map V.bl) its):∀ (i:Nat) (v:Gg),its.toArray[i]?=Ga v->v=JB (bs.getD i false):=by
 intro i v hv;have hv':its[i]?=Ga v:=by simpa using hv
 have hlen:(bs.map V.bl).length=its.length:=rv.length;have:i<its.length:=(jr.mp hv').1;have hk:i<bs.length:=by rw[jc] at hlen;omega
 obtain⟨w',e1,e2⟩:=rv.get (i:=i) (x:=.bl bs[i]) (by rw[jA,ji hk];rfl);rw[hv'] at e1;cases e1;cases e2;rw[jq,ji hk];rfl
theorem zw1 (hc:X.calm=true):nZ X (.builtin "all") (λxs H Q=>∃ (p:Gj) (bs:List Bool),xs=[.ref p]/\nr X.K H p (bs.map V.bl)/\Q (.bl (bs.all id)) H):=by
 intro ω s σ H xs us Q I r h;obtain⟨p,bs,rfl,hl,q⟩:=h;obtain⟨u,rfl,ru⟩:=rg r;cases ru;obtain⟨its,rv,pl,hz⟩:=I.list hl;have hp:p<s.heap.objs.size:=by obtain⟨o,n,e,_⟩:=pl;exact jt e
 refine call_all_walk (wpAny_pyIter_list pl.isList ⟨s.heap.objs.size,[s.heap.objs.size,p],[s.heap.objs.size],_,_,_,λj=>bs.getD j false,rfl,Walks.list (show X.A.in1.handled=Gb from I.ok.hd hc) _ p (jJ hp) its.toArray,⟨⟨_,jB _ rfl,rfl,rfl⟩,?_⟩,?_,?_⟩)
 .obtain⟨o,n,e,c,_,d⟩:=pl;exact⟨o,je _ e,c,n,d⟩
 .intro i v s1 Q1 E1 hv hQ;rw[zzJ rv i v hv];exact wpAny_truthy_bool hQ
 .intro h' tk hk;have el:its.toArray.size=bs.length:=by rw[jm,<- rv.length,jc]
  rw[el,zw0];refine⟨.bl (bs.all id),H,I.kept λb o e=>hk b o ?_ (je _ e),rfl,q⟩;intro z;cases jo.mp z;exact absurd (jt e) (jU _)
theorem Nn {p:Pos}{e:Expr}{fl:FL}(hc:X.calm=true)(hg:Gl X "all")(hm:X.mg "all"=Gb)(ha:xQ X e fl)(hs:starEach [e] X.env=[(false,eval e X.env)]:=by rfl) :
  PV X (.Call (.Name "all" p) [e] [] pos) (yo wy fl):=by
 refine oh (xU (zw1 hc) hg hm boot_all ha (hs:=hs)) λσ H Q=>?_;rintro⟨H0,F,ψ,d,r,e,q⟩;obtain⟨ds,e1,e⟩:=iO e;obtain⟨bs,e2,e⟩:=iO e;cases e;refine⟨H0,F,ψ,ds,r,e1,λp xs H1 F1 g1 f1 fh1 n1 hl rr=>⟨p,bs,rfl,?_,q _ H1 F1 g1 f1 fh1 n1 (.bl _)⟩⟩;rw[SM e2] at rr;rw[<- rr.bools_inv];exact hl
abbrev FK:FS:=λ_=>Gb
theorem Hl {st:Stmt}:rh X st FK:=by
 intro ω s σ H D I hw;obtain⟨H0,F,ψ,o,r,e,p⟩:=hw;cases e
end
section
variable {X:Cx}{tg:Expr}{pos:Pos}
end
section
variable {prog:Program}{w:World}{A:Around}{E:Gg->Gh->Prop}{s:Gh}
theorem zu7:typeLookup (.type "list_reverseiterator") "__len__"=pure Gb:=by rw[typeLookup_type,builtinLookup_eq_fast];kernel_rfl
theorem zzK:typeLookup (.type "list_reverseiterator") "__length_hint__"=pure (Ga (.builtin "list_reverseiterator.__length_hint__")):=by rw[typeLookup_type,builtinLookup_eq_fast];kernel_rfl
theorem zzL {x:Gj}{Q:Bool->Gh->Prop}(hT:s.TypeIs (.ref x) "list_reverseiterator")(hQ:Q false s):wpAny (model prog w) A (k5 (.ref x)) Q E s:=by
 unfold k5;refine iK (wpAny_specialOf hT zu7 ?_);show wpAny _ _ (specialOf (kY x) (jv "__length_hint__") >>= _) _ _ _;refine iK (wpAny_specialOf hT zzK ?_);generalize hid:("list_reverseiterator.__length_hint__":String)=id0
 wp_delta
 rw[show splitId id0=Ga ("list_reverseiterator","__length_hint__") from by subst hid;decide +kernel];subst hid;refine iK (wpAny_isInstance (T:="list_reverseiterator") (b:=true) hT (by rw[isSubtype_type];kernel_rfl) ?_);refine wpAny_ite_split (λz=>absurd z (by decide)) λ_=>?_;refine wpAny_ite_split (λ_=>?_) λz=>absurd (by nofun) z;refine wpAny_ite_split (λz=>absurd z (by nofun)) λ_=>?_;exact iL hQ
theorem zBX {I:Gj}{fp wr:List Gj}{n:Nat}{P:Nat->Gg->Prop}{St:Nat->Heap->Prop}{Q:Gg->Gh->Prop}
  (W:Walks prog w A.in1.in1 I fp wr n P St) (hT:∀ i (s:Gh),St i s.heap->s.TypeIs (.ref I) "list_reverseiterator")
  (hint:∀ (s1:Gh) (Q1:Bool->Gh->Prop) (E1:Gg->Gh->Prop),s1.TypeIs (.ref I) "list_reverseiterator"->Q1 false s1->wpAny (model prog w) A.in1.in1 (k5 (.ref I)) Q1 E1 s1)
  (st0:St 0 s.heap) (hfp:s.heap.objs.size∉fp) (hI:I∈fp) (hn:n<=sizeLine)
  (hQ:∀ h' tk acc c,(∀ b o,b∉wr->s.heap.get? b=Ga o->h'.get? b=Ga o)->h'.get? s.heap.objs.size=Ga { cls:=.type "list",data:=.seq acc c }->ItemsOf P acc n->Q (.ref s.heap.objs.size) { s with heap:=h',toks:=tk }) :
  wpAny (model prog w) A (call (.type "list") [.ref I]) Q E s:=by
 have W':=W.toS;refine callType_codes (Q₁:=λob s1=>ob=kY s.heap.objs.size/\s1={ s with heap:=s.heap.push { cls:=.type "list",data:=.seq #[] } }) F.called_list (F.typeCall_list_1 _) F.entry_list_init (code_list_new _ ⟨rfl,rfl⟩) λob s1 z=>?_;obtain⟨rfl,rfl⟩:=z;have n0:(s.heap.push { cls:=.type "list",data:=.seq #[] }).get? s.heap.objs.size=Ga { cls:=.type "list",data:=.seq #[] }:=jB _ rfl;have nI:s.heap.objs.size≠I:=λz=>hfp (z▸hI);refine⟨⟨_,n0,rfl⟩,F.args_list_init_2 _ _,?_⟩;show wpAny _ _ (qS (.ref s.heap.objs.size) >>= λold=>Builtin.List.listUpdate (.ref s.heap.objs.size) (λ_=>#[]) >>= λ_=>letGo old.toList.reverse >>= λ_=>j8 (.ref s.heap.objs.size) (.ref I) .none) _ _ _;refine iK ?_;unfold qS;refine iK (wpAny_seqItems n0 rfl (iL ?_));show wpAny _ _ (updateSeq s.heap.objs.size (λ_=>#[]) >>= λ_=>letGo (#[]:Array Gg).toList.reverse >>= λ_=>j8 (.ref s.heap.objs.size) (.ref I) .none) _ _ _;refine iK (wpAny_updateSeq n0 rfl ?_);have n1:=uE (ki (λ_=>(#[]:Array Gg))) n0 rfl;have kp:∀ b o,s.heap.get? b=Ga o->((s.heap.push { cls:=.type "list",data:=.seq #[] }).update s.heap.objs.size (ki (λ_=>(#[]:Array Gg)))).get? b=Ga o:=λb o e =>
  (k8 _ _ (ug (jJ (jt e)))).trans (je _ e)
 have st1:=W.frame 0 _ _ st0 λb _ o e=>kp b o e;generalize (s.heap.push { cls:=.type "list",data:=.seq #[] }).update s.heap.objs.size (ki (λ_=>(#[]:Array Gg)))=h1 at n1 kp st1;refine iK (wpAny_letGo ?_);unfold j8;refine iK (wpAny_typeOf (hT 0 { s with heap:=h1 } st1) ?_);rw[show uT (.ref s.heap.objs.size) (.ref I)=false from by simp[uT,nI]];simp only[show(u5 "list_reverseiterator"==u5 "list")=false by decide,show(u5 "list_reverseiterator"==u5 "tuple")=false by decide,uS,uj,if_false];refine iK (W.self 0 _ _ _ st1 ?_);refine iK (wpAny_holding (hint _ _ _ (hT 0 { s with heap:=h1 } st1) ?_));refine wpAny_ite_split (λz=>absurd z (by decide)) λ_=>?_;refine iL ⟨plainId_quiet F.plain_extend_loop _,codeAny_extend_loopS W' hn s.heap.objs.size hfp .none n 0 { s with heap:=h1 } #[] _ rfl (j5 _) st1 n1 (ItemsOf.nil P) λs' acc c m nn it=>?_⟩;refine⟨rfl,?_⟩;rw[Moved.eq_with m];refine hQ s'.heap s'.toks acc c (λb o hb e=>m.heap b o (λz=>?_) (kp b o e)) nn it;rcases ju.mp z with z|z
 .exact absurd (jt e) (by rw[z];exact jU _)
 .exact hb z
end
abbrev MA (f:FL):FL:=λψ=>(f ψ).bind λxs=>Ga xs.reverse
section
variable {X:Cx}{pos:Pos}
theorem Ka:∀ (xs:List V) (us:List Gg),xs.length=us.length->(∀ (i:Nat) (x:V) (u:Gg),xs[i]?=Ga x->us[i]?=Ga u->lO x u)->lH xs us
 | [],[],_,_=>.nil
 | [],_::_,h,_=>by cases h
 | _::_,[],h,_=>by cases h
 | x::xs,u::us,h,r=>.cons (r 0 x u rfl rfl) (Ka xs us (Nat.succ.inj h) λi y z e1 e2=>r (i+1) y z e1 e2)
theorem RW {e:Expr}{f:FL}{p p2 pos2:Pos}(hc:X.calm=true)(hg:Gl X "list")(hm:X.mg "list"=Gb)(hg2:Gl X "reversed")(hm2:X.mg "reversed"=Gb)(ha:xQ X e f)(hs:starEach [e] X.env=[(false,eval e X.env)]:=by rfl)
  (hs2:starEach [.Call (.Name "reversed" p2) [e] [] pos2] X.env=[(false,eval (.Call (.Name "reversed" p2) [e] [] pos2) X.env)]:=by rfl) :
  PO X (.Call (.Name "list" p) [.Call (.Name "reversed" p2) [e] [] pos2] [] pos) (MA f):=by
 intro ω s σ H Q I h;obtain⟨H0,F,ψ,ds,r,e0,q⟩:=h;obtain⟨d1,e1,e2⟩:=iO e0;cases e2;clear e0;refine Call_ (sU I hg hm boot_list (PyProof.Rows.callWith_type1 ?_ hs2 (by rfl)));rw[hs2];refine u8 ?_;refine Call_ (sU I hg2 hm2 boot_reversed (PyProof.Rows.callWith_type1 (lZ (nL ha pM hs pos2 ω s σ H (λvs H2=>∃ l xs F2,vs=[.ref l]/\nr X.K H2 l xs/\iP H H2/\iP F F2/\iP F2 H2/\mz F F2 H/\ly X.K F2 d1 xs) I
  ⟨H0,F,ψ,d1,r,e1,λa xs H1 F1 g1 f1 fh1 n1 hl rr=>⟨a,xs,F1,rfl,hl,g1,f1,fh1,n1,rr⟩⟩) λus s1 ⟨vs,H2,I2,rvs,l,xs,F2,ev,hl,g2,f2,fh2,n2,rr⟩=>?_) hs (by rfl)))
 subst ev;obtain⟨u,rfl,ru⟩:=rg rvs;cases ru;obtain⟨its,rv,pl,hz⟩:=I2.list hl;have ll:l<s1.heap.objs.size:=by obtain⟨o,n,e,_⟩:=pl;exact jt e
 refine call_reversed_list pl.isList ?_;refine vP ?_;have I3:iZ X ω σ H2 { s1 with heap:=s1.heap.push (revObj l ((its.toArray.size:Int)-1)),toks:=s1.toks }:=I2.kept λb o e=>je _ e;have hit:(s1.heap.push (revObj l ((its.toArray.size:Int)-1))).IsRevIter s1.heap.objs.size l ((its.toArray.size:Int)-1):=⟨_,jB _ rfl,rfl,rfl⟩;have hl3:(s1.heap.push (revObj l ((its.toArray.size:Int)-1))).IsList l its.toArray:=by obtain⟨o,n,e,c,_,d⟩:=pl;exact⟨o,je _ e,c,n,d⟩
 have W:=Walks.listRev (prog:=X.prog) (w:=X.w) (A:=X.A.in1.in1) (show X.A.in1.in1.handled=Gb from I2.ok.hd hc) s1.heap.objs.size l (jJ ll) its.toArray;refine zBX W (λi s2 z=>z.2.1.typeIs) (λs2 Q2 E2 z1 z2=>zzL z1 z2) ⟨j5 _,(by rw[show(its.toArray.size:Int)-1-((0:Nat):Int)=(its.toArray.size:Int)-1 by omega];exact hit),hl3⟩ ?_ (by simp) ?_ λh' tk acc c k na it=>?_
 .rw[uC];simp only[ju,kH,or_false,not_or];exact⟨Nat.succ_ne_self _,vp (vT ll)⟩
 .rw[jm,<- rv.length];exact hz
 .have sz:acc.size=its.length:=by rw[it.1,jm]
  have vr:lH xs.reverse acc.toList:=by
   refine Ka _ _ (by have a:=rv.length;have b:=kb (xs:=acc);rw[kJ];omega) λi x u hx hu=>?_;have hu':=it.2 i u (by rw[<- ui];exact hu);have li:i<xs.length:=by have:=(jr.mp hx).1;rw[kJ] at this;exact this
   rw[List.getElem?_reverse li] at hx;obtain⟨u',e1,e2⟩:=rv.get hx;have e3:its[its.length-1-i]?=Ga u:=by rw[jm,List.getElem?_toArray] at hu';exact hu'
   rw[<- rv.length,e1] at e3;cases e3;exact e2
  have hS:s1.heap.objs.size<(s1.heap.push (revObj l ((its.toArray.size:Int)-1))).objs.size:=by rw[uC];exact kR _
  have f3:H2 (s1.heap.push (revObj l ((its.toArray.size:Int)-1))).objs.size=Gb:=I3.fresh;have I4:iZ X ω σ (upd H2 (s1.heap.push (revObj l ((its.toArray.size:Int)-1))).objs.size (.lst xs.reverse)) { s1 with heap:=h',toks:=tk }:=by
   refine iZ.laid (X:=X) (s:=s1) (t':=tk) I2 (λb o e=>k b o ?_ (je _ e)) (uA hS) ?_
   .intro z;cases jo.mp z;exact absurd (jt e) (jU _)
   .refine⟨by rw[kJ];exact hz,acc.toList,c,vr,?_⟩;rw[Jq];exact na
  have s2:iP H2 (upd H2 (s1.heap.push (revObj l ((its.toArray.size:Int)-1))).objs.size (.lst xs.reverse)):=iP.new f3;exact⟨.ref _,_,I4,rfl,q _ xs.reverse _ F2 (g2.trans s2) f2 (fh2.trans s2) n2 (g2.free f3) (fh2.free f3) lB rr.reverse⟩
end
theorem OQ {X:Cx}{pos:Pos}{x:Str}{n:Int}(hm:∃ t,X.mg x=Ga (.int n t))(hg:Gl X x:=by rfl)(hd:(x==("__debug__":Str))=false:=by decide):PV X (.Name x pos) (λ_=>Ga (.int n)):=by
 obtain⟨t,h⟩:=hm;exact zDO (v:=.int n) h ⟨_,rfl⟩ (λ_ _=>.int _) hg hd
section
variable {X:Cx}{ω:List (Gj×Obj)}{σ:St}{F H:Hp}{s:Gh}{a:Gj}{ks:List D}{as:List Gj}{ep:Nat}
end
section
variable {X:Cx}{pos:Pos}
end
section
variable {prog:Program}{w:World}{A:Around}{E:Gg->Gh->Prop}{s:Gh}
theorem YS:typeLookup (.type "dict") "__len__"=pure (Ga (.builtin "dict.__len__")):=by rw[typeLookup_type,builtinLookup_eq_fast];kernel_rfl
theorem zw2 {x:Gj}{Q:Bool->Gh->Prop}(hT:s.TypeIs (.ref x) "dict")(hQ:Q false s):wpAny (model prog w) A (k5 (.ref x)) Q E s:=by
 unfold k5;refine iK (wpAny_specialOf hT YS ?_);generalize hid:("dict.__len__":String)=id0
 wp_delta
 rw[show splitId id0=Ga ("dict","__len__") from by subst hid;decide +kernel];subst hid;refine iK (wpAny_isInstance (T:="dict") (b:=true) hT (by rw[isSubtype_type];kernel_rfl) ?_);refine wpAny_ite_split (λz=>absurd z (by decide)) λ_=>?_;refine wpAny_ite_split (λ_=>?_) λz=>absurd (by nofun) z;exact iK (wpAny_typeOf hT (iL hQ))
end
section
variable {X:Cx}{pos:Pos}
end
section
variable {X:Cx}{pos:Pos}
end
theorem zzM {a:Gj}{ws:List (Int×V)}{ep:Nat}:∀ h1 h2:Heap,rj a ws ep h1->(∀ o,h1.get? a=Ga o->h2.get? a=Ga o)->rj a ws ep h2:=by
 rintro h1 h2 ⟨o,es,ho,r⟩ k;exact⟨o,es,k _ ho,r⟩
theorem TZ {P:Program}{w:World}{H:Hp}{h:Heap}{a:Gj}{ws:List (Int×V)}{ep:Nat}(p:rj a ws ep h):oQ P w H h a (.ext (rj a ws ep)):=by
 obtain⟨o,es,ho,r⟩:=id p;exact⟨p,⟨o,ho⟩,zzM⟩
theorem Um {P:Program}{w:World}{H:Hp}{h:Heap}{a:Gj}{ws:List (Int×V)}{ep:Nat}(ok:HOk P w H h)(e:H a=Ga (.ext (rj a ws ep))):rj a ws ep h:=(show oQ P w H h a (.ext _) from ok a _ e).1
theorem pS.pairs {P:Program}{w:World}:∀ {ws:List (Int×V)} {es:List DictEntry},pS ws es->∃ vs:List (Int×Gg),KV ws vs/\Pairs (intKind P w) es vs
 | _,_,.nil=>⟨[],.nil,.nil⟩
 | _,_,.cons (k:=k) (e:=e) hk hh hv t=>by
  obtain⟨vs,h1,h2⟩:=t.pairs (P:=P) (w:=w);exact⟨(k,e.val)::vs,.cons ⟨rfl,hv⟩ h1,.cons hk rfl h2⟩
theorem pS.keys {P:Program}{w:World}:∀ {ws:List (Int×V)} {es:List DictEntry},pS ws es->∀ e∈es,∃ k,(intKind P w).is k e.key=true/\e.hash=(intKind P w).hash k
 | _,_,.nil,e,h=>by cases h
 | _,_,.cons (k:=k) hk hh hv t,e,h=>by
  rcases ju.mp h with rfl|h
  .exact⟨k,hk,hh⟩
  .exact t.keys e h
theorem RB {P:Program}{w:World}:∀ {ws:List (Int×V)} {vs:List (Int×Gg)} {es:List DictEntry},KV ws vs->Pairs (intKind P w) es vs->(∀ e∈es,∃ k,(intKind P w).is k e.key=true/\e.hash=(intKind P w).hash k)->pS ws es
 | _,_,_,.nil,.nil,_=>.nil
 | (k,v)::ws,kv::vs,e::es,.cons a t,.cons h1 h2 t2,hk=>by
  obtain⟨k',z1,z2⟩:=hk e jf;have ek:k'=kv.1:=(intKind P w).inj _ _ _ z1 h1;have e0:k=kv.1:=a.1;refine .cons ?_ ?_ ?_ (RB t t2 λe h=>hk e (jh _ h))
  .rw[e0];exact h1
  .rw[z2,ek,e0];rfl
  .rw[h2];exact a.2
theorem UH {κ:Type}:∀ {ws:List (κ×V)} {vs:List (κ×Gg)},KV ws vs->vs.map (·.1)=ws.map (·.1)
 | _,_,.nil=>rfl
 | _,_,.cons h t=>by
  rw[jK,jK,UH t];exact congrArg (·::_) h.1.symm
theorem mC.fst {K:ja}{F:Hp}:∀ {l:List (Int×D)} {m:List (Int×V)},mC K F l m->m.map (·.1)=l.map (·.1)
 | _,_,.nil=>rfl
 | _,_,.cons h t=>congrArg (_::·) t.fst
def rY (kvs:List (Int×D))(k:Int)(d:D):List (Int×D) :=
 if (kvs.any λkv=>decide (kv.1=k))=true then kvs.map (λkv=>if kv.1=k then(kv.1,d) else kv) else kvs++[(k,d)]
theorem mC.anyk {K:ja}{F:Hp}(k:Int):∀ {l:List (Int×D)} {m:List (Int×V)},mC K F l m->(m.any λkv=>decide (kv.1=k))=(l.any λkv=>decide (kv.1=k))
 | _,_,.nil=>rfl
 | _,_,.cons h t=>by rw[v4,v4,t.anyk k]
theorem mC.mapk {K:ja}{F:Hp}{k:Int}{d:D}{v:V}(q:md K F d v):∀ {l:List (Int×D)} {m:List (Int×V)},mC K F l m->mC K F (l.map λkv=>if kv.1=k then(kv.1,d) else kv) (m.map λkv=>if kv.1=k then(kv.1,v) else kv)
 | _,_,.nil=>.nil
 | (j,e)::_,(_,u)::_,.cons h t=>by
  rw[jK,jK];by_cases c:j=k
  .rw[Ge c,Ge c];exact .cons q (t.mapk q)
  .rw[Gf c,Gf c];exact .cons h (t.mapk q)
theorem mC.app {K:ja}{F:Hp}:∀ {l l2:List (Int×D)} {m m2:List (Int×V)},mC K F l m->mC K F l2 m2->mC K F (l++l2) (m++m2)
 | _,_,_,_,.nil,q=>q
 | _,_,_,_,.cons h t,q=>.cons h (t.app q)
theorem mC.put {K:ja}{F:Hp}{k:Int}{d:D}{v:V}{l:List (Int×D)}{m:List (Int×V)}(r:mC K F l m)(q:md K F d v):mC K F (rY l k d) (tj m k v):=by
 unfold rY tj;rw[r.anyk k];split
 .exact r.mapk q
 .exact r.app (.cons q .nil)
theorem zqB (kvs:List (Int×D))(k:Int)(d:D):(kvs.map λkv=>if kv.1=k then(kv.1,d) else kv).map (·.1)=kvs.map (·.1):=by
 rw[jL];refine jN λx _=>?_;show(if x.1=k then(x.1,d) else x).1=x.1;split<;>rfl
theorem Yy {kvs:List (Int×D)}{k:Int}{d:D}(ok:xq kvs)(hl:kvs.length<1000000):xq (rY kvs k d):=by
 unfold rY;split
 .exact⟨by rw[zqB];exact ok.nd,by rw[jc];exact ok.len⟩
 .rename_i c;refine⟨?_,by rw[jg];exact hl⟩;rw[jI,uO];refine⟨ok.nd,kg.mpr ⟨by simp,vW⟩,λx hx y hy=>?_⟩;rw[jo.mp hy];rintro rfl;obtain⟨p,h1,h2⟩:=jx.mp hx;exact c (vZ.mpr ⟨p,h1,Gc h2⟩)
section
variable {X:Cx}{ω:List (Gj×Obj)}{σ:St}{F H:Hp}{s:Gh}{a:Gj}{kvs:List (Int×D)}{ws:List (Int×V)}{ep:Nat}
theorem Ci (I:iZ X ω σ H s)(e:H a=Ga (.ext (rj a ws ep)))(nd:(ws.map (·.1)).Nodup):∃ vs:List (Int×Gg),KV ws vs/\s.heap.DictOf (intKind X.prog X.w) a vs:=by
 obtain⟨o,es,ho,hc,hd,he⟩:=Um I.hok e;obtain⟨vs,h1,h2⟩:=he.pairs (P:=X.prog) (w:=X.w);exact⟨vs,h1,o,es,ep,ho,hc,hd,λe h=>he.keys e (v7.mpr h),h2,by rw[UH h1];exact nd⟩
theorem zDU {k:Int}{v:V}{u r:Gg}{A:Around}{E:Gg->Gh->Prop}{Q:Unit->Gh->Prop}(I:iZ X ω σ H s)(e:H a=Ga (.ext (rj a ws ep)))(nd:(ws.map (·.1)).Nodup)(hz:ws.length<=1000000)(ru:lO (.int k) u)(rv:lO v r)
  (h:∀ s' ep',iZ X ω σ (upd H a (.ext (rj a (tj ws k v) ep'))) s'->Q () s'):wpAny (model X.prog X.w) A (setItem (.ref a) u r) Q E s:=by
 obtain⟨vs,rel,dd⟩:=Ci I e nd;obtain⟨t,rfl⟩:=ru;have hz':vs.length<=sizeLine:=by rw[<- rel.length,sizeLine_eq];exact jk hz (by decide)
 refine wpAny_setItem_pairs (knd:=intKind X.prog X.w) (hsz:=hz') (k:=k) (show v6 k (.int k t)=true by simp[v6]) dd λh' dd' hs=>?_;obtain⟨o',es',ep',ho,hc,hd,hk,hp,_⟩:=dd';refine h _ ep' (IA I (by rw[e];trivial) hs ⟨o',ho⟩ (TZ ⟨o',es',ho,hc,hd,?_⟩));exact RB (rel.put k rv) hp λe h=>hk e (v7.mp h)
end
theorem mC.length {K:ja}{F:Hp}:∀ {l:List (Int×D)} {m:List (Int×V)},mC K F l m->l.length=m.length
 | _,_,.nil=>rfl
 | _,_,.cons _ t=>congrArg JR t.length
theorem mC.nd {K:ja}{F:Hp}{l:List (Int×D)}{m:List (Int×V)}(r:mC K F l m)(ok:xq l):(m.map (·.1)).Nodup:=by rw[r.fst];exact ok.nd
theorem mC.le {K:ja}{F:Hp}{l:List (Int×D)}{m:List (Int×V)}(r:mC K F l m)(ok:xq l):m.length<=1000000:=by rw[<- r.length];exact ok.len
section
variable {X:Cx}{pos:Pos}
theorem zzN:PE X (.Dict [] [] pos) (λσ H Q=>∀ p,H p=Gb->(p==sysModules)=false->Q (.ref p) (upd H p (.ext (rj p [] 0)))):=λω s σ H Q I h =>
 wpAny_Dict_empty ⟨.ref s.heap.objs.size,_,I.laid (a:=s.heap.objs.size) (o:=.ext (rj s.heap.objs.size [] 0)) (t':=s.toks) (λ_ _ q=>je _ q) (jj _) (TZ ⟨_,#[],jB _ rfl,⟨rfl,rfl,rfl⟩,rfl,.nil⟩),rfl,
  h _ (I.hok.fresh (jj _)) (beq_eq_false_iff_ne.mpr (ug (jJ I.big)))⟩
abbrev Mx (i:Nat):FS:=λψ=>Ga (.nx (ψ.set i (.dki Gb [])))
theorem Ll (i:Nat){x:Str}{p pos':Pos}(hN:X.N.Nodup)(hi:X.N[i]?=Ga x:=by rfl)(hx:zd X.env.scope x:=by first|exact uu rfl|exact kS rfl)
  (hs:swapsWith (.Dict [] [] p) (Ga (.Name x pos')) pos.line X.env=pure false:=by rfl) (hf:X.fn x=true\/X.env.scope.names.lookup x=Ga .local:=by first|exact .inl rfl|exact .inr rfl) :
  rh X (.Assign [.Name x pos'] (.Dict [] [] p) pos) (Mx i):=by
 intro ω s σ H D I hw;refine Bl hN hi hx zzN hs hf ω s σ H D I ?_;obtain⟨H0,F,ψ,o,r,e,p⟩:=hw;cases e;have hl:i<σ.length:=by rw[I.len];exact(jr.mp hi).1
 intro a ha sm;have g:iP H (upd H a (.ext (rj a [] 0))):=iP.new ha;exact p _ _ F (.refl _) (.refl _ _) ((r.later g).putG hl ⟨a,[],0,rfl,lB,r.fh.free ha,r.h0.free ha,.nil,sm,⟨vW,j5 _⟩,λ_ z=>by cases z⟩ λj s o _ ej=>r.ne_free ha j s o ej)
def Qt (td ty tv:TE):TS:=λD σ H=>tv σ H λv H1=>td σ H1 λx H2=>ty σ H2 λy H3=>∃ (a:Gj) (ws:List (Int×V)) (ep:Nat) (k:Int),x=.ref a/\y=.int k/\H3 a=Ga (.ext (rj a ws ep))/\(ws.map (·.1)).Nodup/\ws.length<=1000000 /\
 ∀ ep',D.nx σ (upd H3 a (.ext (rj a (tj ws k v) ep')))
theorem zBZ {o i value:Expr}{pos':Pos}{td ty tv:TE}(ho:PE X o td)(hi:PE X i ty)(hv:PE X value tv)(hs:swapsWith value (Ga (.Subscript o i pos')) pos.line X.env=pure false) :
  PS X (.Assign [.Subscript o i pos'] value pos) (Qt td ty tv):=by
 intro ω s σ H D I h;refine wpAny_Assign_Subscript (lZ (hv ω s σ H _ I h) λr s1 ⟨v,H1,I1,rv,q1⟩=>lZ (ho ω s1 σ H1 _ I1 q1) λu s2 ⟨x,H2,I2,rx,q2⟩=>lZ (hi ω s2 σ H2 _ I2 q2) λiv s3 ⟨y,H3,I3,ry,a,ws,ep,k,ex,ey,g,nd,hz,q3⟩=>?_) hs;subst ex ey;obtain rfl:u=kY a:=rx;exact zDU I3 g nd hz ry rv λs4 ep' I4=>⟨σ,_,I4,q3 ep'⟩
def xF (i:Nat)(f g:FV):FS:=λψ=>(g ψ).bind λv=>(f ψ).bind λk=>match ψ[i]?,k with
 | some (.dki oa kvs),.int n=>if kvs.length<1000000 then Ga (.nx (ψ.set i (.dki oa (rY kvs n v)))) else Gb
 | _,_=>Gb
theorem Ng (i:Nat){x:Str}{ke value:Expr}{f g:FV}{p p2:Pos}(hk:PV X ke f)(hval:PV X value g)(hN:X.N[i]?=Ga x:=by rfl)(hv:xR X.env.scope x:=by first|exact uu rfl|exact kS (uu rfl)|exact kS (kS rfl))
  (hd:(x==("__debug__":Str))=false:=by decide) (hcd:(x==("__classdict__":Str))=false:=by decide)
  (hs:swapsWith value (Ga (.Subscript (.Name x p) ke p2)) pos.line X.env=pure false:=by rfl) :
  rh X (.Assign [.Subscript (.Name x p) ke p2] value pos) (xF i f g):=by
 refine wF (zBZ (su (pos:=p) hN hv hd hcd) hk hval hs) λE σ H=>?_;rintro⟨H0,F,ψ,o,r,e,p⟩;obtain⟨v,e0,e⟩:=iO e;obtain⟨k,e1,e2⟩:=iO e;clear e;split at e2;rotate_left
 .cases e2
 rename_i oa kvs n z;split at e2;rotate_left
 .cases e2
 rename_i c;cases e2;refine⟨H0,F,ψ,v,r,e0,λvv H1 F1 g1 f1 fh1 n1 rv=>?_⟩;have r1:=r.grow g1 f1 fh1 n1;obtain⟨u,x3,a,ws,ep,x4,ha1,fa,h0a,rr,sm,ok,ho⟩:=r1.sl i _ z;subst x4;refine⟨.ref a,x3,H0,F1,ψ,.int n,r1,e1,λkk H2 F2 g2 f2 fh2 n2 rk=>?_⟩;cases rk;have r2:=r1.grow g2 f2 fh2 n2;obtain⟨u,x5,a',ws',ep',x6,ha2,fa2,h0a2,rr2,sm2,ok2,ho2⟩:=r2.sl i _ z;subst x6;rw[x3] at x5;cases x5;refine⟨a,ws',ep',n,rfl,rfl,ha2,rr2.nd ok2,rr2.le ok2,λep2=>?_⟩;exact p σ _ F2 (f1.trans f2) (((n1.dn r.h0).up (n2.dn r1.h0))) (r2.chgG z rfl x3 ⟨a,_,ep2,rfl,lB,fa2,h0a2,rr2.put (rv.mono f2),sm2,Yy ok2 c,ho2⟩)
theorem pS.length:∀ {ws:List (Int×V)} {es:List DictEntry},pS ws es->es.length=ws.length
 | _,_,.nil=>rfl
 | _,_,.cons _ _ _ t=>congrArg JR t.length
theorem pS.get:∀ {ws:List (Int×V)} {es:List DictEntry} {i:Nat} {k:Int},pS ws es->(ws.map (·.1))[i]?=Ga k->∃ e t,es[i]?=Ga e/\e.key=.int k t
 | _,_,i,_,.nil,h=>by simp at h
 | _,_,0,_,.cons hk _ _ _,h=>by
  cases h;obtain⟨t,z⟩:=JN hk;exact⟨_,t,rfl,z⟩
 | _,_,i+1,k,.cons _ _ _ t,h=>t.get (i:=i) (k:=k) h
theorem ZR {h:Heap}{d:Gj}{ws:List (Int×V)}{ep:Nat}(p:rj d ws ep h):∃ es,sg h d es ep/\pS ws es.toList:=by
 obtain⟨o,es,ho,hc,hd,he⟩:=p;exact⟨es,⟨o,ho,hc,hd⟩,he⟩
def HY:List (D×D)->Option (List (Int×D))
 | []=>Ga []
 | (.int k,d)::r=>(HY r).bind λl=>Ga ((k,d)::l)
 | _=>Gb
def rq:D->Option (List (Int×D))
 | .dict ((.none,.none)::l)=>HY l
 | _=>Gb
theorem Vl:∀ kvs:List (Int×D),HY (kvs.map λp=>(jb p.1,p.2))=Ga kvs
 | []=>rfl
 | (k,d)::r=>by
  show(HY (r.map λp=>(jb p.1,p.2))).bind _=_;rw[Vl r];rfl
theorem ss (kvs:List (Int×D)):rq (sw kvs)=Ga kvs:=Vl kvs
theorem md.int_dict {K:ja}{F:Hp}{d:D}{v:V}{kvs:List (Int×D)}(r:md K F d v)(e:rq d=Ga kvs):∃ a ws ep,v=.ref a/\(a==sysModules)=false/\F a=Ga (.ext (rj a ws ep))/\xq kvs/\mC K F kvs ws:=by
 cases r with
 | @dci a kvs' ws ep hs h ok r =>
  have e':rq (sw kvs')=Ga kvs:=e;rw[ss] at e';cases e';exact⟨a,ws,ep,rfl,hs,h,ok,r⟩
 | @dic a ks as ep hs h ok r =>
  cases ks with
  | nil=>cases e
  | cons k r=>cases k<;>cases e
 | _=>cases e
def Dz (d:D):Option (List D):=(rq d).bind λkvs=>Ga (kvs.map λp=>.int p.1)
def oM (kvs:List (Int×D))(k:Int):Option D:=(kvs.find? λp=>decide (p.1=k)).map (·.2)
theorem mC.at {K:ja}{F:Hp}(k:Int):∀ {l:List (Int×D)} {m:List (Int×V)},mC K F l m->(oM l k=Gb/\rR m k=Gb)\/∃ d v,oM l k=Ga d/\rR m k=Ga v/\md K F d v
 | _,_,.nil=>.inl ⟨rfl,rfl⟩
 | (j,d)::l,(_,v)::m,.cons h t=>by
  unfold oM rR;by_cases c:j=k
  .exact .inr ⟨d,v,by rw[kF (p:=λ(p:Int×D)=>decide (p.1=k)) (Gc c)];rfl,by rw[kF (p:=λ(kv:Int×V)=>decide (kv.1=k)) (Gc c)];rfl,h⟩
  .rw[kA (p:=λ(p:Int×D)=>decide (p.1=k)) (by simpa using c),kA (p:=λ(kv:Int×V)=>decide (kv.1=k)) (by simpa using c)];exact t.at k
def yM (d:D):D->Option D
 | .int k=>(rq d).bind λkvs=>oM kvs k
 | _=>Gb
def QJ (d:D):D->Option D
 | .int k=>(rq d).bind λkvs=>Ga ((oM kvs k).getD .none)
 | _=>Gb
def AO (d k x:D):Option D:=match k with
 | .int k=>(rq d).bind λkvs=>Ga ((oM kvs k).getD x)
 | _=>Gb
def wT (k d:D):Option D:=match k with
 | .int k=>(rq d).bind λkvs=>Ga (.bool (!(oM kvs k).isSome))
 | _=>Gb
def DI (d:D):Option D:=(rq d).bind λkvs=>Ga (.int kvs.length)
theorem GL {k:Int}{u:Gg}(r:lO (.int k) u):(intKind X.prog X.w).is k u=true:=by
 obtain⟨t,rfl⟩:=r;show v6 k (.int k t)=true;simp[v6]
theorem Er {a b:Expr}{f g:FV}(ha:PV X a f)(hb:PV X b g)(hs:OT b:=by exact λ_ _=>rfl):PV X (.Subscript a b pos) (lx yM f g):=by
 intro ω s σ H Q I hw;obtain⟨H0,F,ψ,d,r,e,q⟩:=hw;obtain⟨x,e1,e⟩:=iO e;obtain⟨y,e2,e⟩:=iO e;obtain⟨k,rfl⟩:∃ k:Int,y=.int k:=by cases y<;>first|(cases e;done)|exact⟨_,rfl⟩
 refine Iw PySem.F.slot_dict_getitem.lookup hs (lZ (ha ω s σ H (λv H1=>∃ F1,iP H H1/\iP F F1/\iP F1 H1/\mz F F1 H/\md X.K F1 x v) I ⟨H0,F,ψ,x,r,e1,λv H1 F1 g1 f1 fh1 n1 rv=>⟨F1,g1,f1,fh1,n1,rv⟩⟩) λu s1 ⟨v,H1,I1,rx,F1,g1,f1,fh1,n1,rv⟩=>?_);refine lZ (hb ω s1 σ H1 (λv2 H2=>∃ F2,iP H1 H2/\iP F1 F2/\iP F2 H2/\mz F1 F2 H1/\md X.K F2 (.int k) v2) I1 ⟨H0,F1,ψ,.int k,r.grow g1 f1 fh1 n1,e2,λv2 H2 F2 g2 f2 fh2 n2 rv2=>⟨F2,g2,f2,fh2,n2,rv2⟩⟩) λu2 s2 ⟨v2,H2,I2,rx2,F2,g2,f2,fh2,n2,rv2⟩=>?_;cases rv2;obtain⟨kvs,e3,e4⟩:=iO (show(rq x).bind (λkvs=>oM kvs k)=Ga d from e);obtain⟨a,ws,ep,rfl,sm,fa,ok,rr⟩:=(rv.mono f2).int_dict e3;cases rx;obtain⟨vs,rel,dd⟩:=Ci I2 (fh2 _ _ fa) (rr.nd ok);rcases rr.at k with ⟨z1,z2⟩|⟨d',v',z1,z2,z3⟩
 .rw[z1] at e4;cases e4
 .rw[z1] at e4;cases e4;obtain⟨w',hw,rw'⟩:=tH.some_of (v:=v') (o:=valueAt vs k) (by rw[<- z2];exact rel.val k);exact⟨dd.typeIs,wpAny_getItem_of (GL rx2) dd.mapOf hw ⟨v',H2,I2.tok _,rw',q v' H2 F2 (g1.trans g2) (f1.trans f2) fh2 (n1.trans n2 g1) z3⟩⟩
theorem zzP:∀ a b d,wT a b=Ga d->∃ k,d=.bool k:=λa b d h=>by
 unfold wT at h;split at h
 .obtain⟨kvs,_,h⟩:=iO h;cases h;exact⟨_,rfl⟩
 .cases h
theorem zw5 {K:ja}{F:Hp}{k:Int}{l:List (Int×D)}{m:List (Int×V)}{vs:List (Int×Gg)}(rr:mC K F l m)(rel:KV m vs):(valueAt vs k).isSome=(oM l k).isSome:=by
 rw[<- (rel.val k).isSome_eq];rcases rr.at k with ⟨z1,z2⟩|⟨d',v',z1,z2,z3⟩<;>rw[z1,z2]<;>rfl
theorem zB0:nS X (compareOp .NotIn) (xH X.K wT):=by
 intro ω s σ H x y v u Q I rx ry h;obtain⟨F,k,b,d,g,ra,rb,e,q⟩:=h;cases ra<;>first|(cases e;done)|skip
 rename_i k;obtain⟨kvs,e3,e4⟩:=iO (show(rq b).bind (λkvs=>Ga (kh (!(oM kvs k).isSome)))=Ga d from e);cases e4;obtain⟨a,ws,ep,rfl,sm,fa,ok,rr⟩:=rb.int_dict e3;cases ry;obtain⟨vs,rel,dd⟩:=Ci I (g _ _ fa) (rr.nd ok);refine wpAny_notIn_of (GL rx) sm dd.mapOf ?_;rw[zw5 rr rel];exact⟨.bl _,H,I.tok _,rfl,q _ rfl⟩
theorem zDV {a b:Expr}{f g:FV}(ha:PV X a f)(hb:PV X b g)(hm:behindInMarks .NotIn b=false:=by first|rfl|with_unfolding_all rfl):PB X (.Compare a [.NotIn] [b] pos) (mL wT f g):=ya zB0 (xI zzP) ha hb hm
theorem zw6:nZ X (.builtin "len") (λxs H Q=>∃ a ws ep,xs=[V.ref a]/\(a==sysModules)=false/\H a=Ga (.ext (rj a ws ep))/\(ws.map (·.1)).Nodup/\ws.length<=1000000/\Q (.int ws.length) H):=by
 intro ω s σ H xs us Q I r h;obtain⟨a,ws,ep,rfl,sm,ha,nd,hz,q⟩:=h;obtain⟨u,rfl,ru⟩:=rg r;cases ru;obtain⟨vs,rel,dd⟩:=Ci I ha nd;refine call_len_dict sm dd (by rw[<- rel.length];omega) ?_;rw[<- rel.length];exact⟨.int ws.length,H,I.tok _,⟨_,rfl⟩,q⟩
theorem zDW {e:Expr}{f:FV}{p:Pos}(hg:Gl X "len")(hm:X.mg "len"=Gb)(ha:PV X e f)(hs:starEach [e] X.env=[(false,eval e X.env)]:=by rfl):PV X (.Call (.Name "len" p) [e] [] pos) (un DI f):=by
 refine oh (xU zw6 hg hm Vb ha (hs:=hs)) λσ H Q=>?_;rintro⟨H0,F,ψ,d,r,e,q⟩;obtain⟨d',e1,e⟩:=iO e;obtain⟨kvs,e3,e4⟩:=iO e;cases e4;refine⟨H0,F,ψ,d',r,e1,λv H1 F1 g1 f1 fh1 n1 rv=>?_⟩;obtain⟨a,ws,ep,rfl,sm,fa,ok,rr⟩:=rv.int_dict e3;exact⟨a,ws,ep,rfl,sm,fh1 _ _ fa,rr.nd ok,rr.le ok,q _ H1 F1 g1 f1 fh1 n1 (by rw[rr.length];exact .int _)⟩
end
section
variable {P:Program}{w:World}{K:ja}{mg:Str->Option Gg}{base:Heap}{x qual:Str}{st:Stmt}{f:Gj}{fd:Gi}{N ps:List Str}{k:Nat}{g:FS}
end
section
variable {X:Cx}{pos:Pos}
variable {k:Nat}{f:Gj}{fd:Gi}{ps:List Str}{x:Str}{p pc:Pos}{e:Expr}{es:List Expr}{g:FL}
end
section
variable {prog:Program}{w:World}{A:Around}{E:Gg->Gh->Prop}{s:Gh}
end
section
variable {X:Cx}{pos:Pos}
end
section
variable {prog:Program}{w:World}{A:Around}{R:Result->Gh->Prop}{s:Gh}
end
section
variable {X:Cx}{ω:List (Gj×Obj)}{σ:St}{H2:Hp}{s2:Gh}{elt iter tg:Expr}{x xb:Str}{px pos:Pos}{ifs:List Expr}{scope:Scope}{cl:List (Str×Gj)}{fr:List Str}{ix:List Nat}
end
abbrev tg2:FT:=NE (xS (oZ 0) (xS (oZ 1) DV))
section
variable {X:Cx}{elt iter tg:Expr}{x xb:Str}{px pxb pt pos:Pos}{tk:Nat}{ifs:List Expr}{scope:Scope}{fr:List Str}{ix:List Nat}{fi:FL}{fc:FB}{fe:FV}
structure Km (X:Cx)(scope:Scope)(tg:Expr)(x xb:Str)(fr:List Str)(ifs:List Expr)(elt:Expr)(fc:FB)(fe:FV):Prop where
 h:∀ cl C s H fp ω,yz (oj X scope cl C (x::xb::fr) s H fp ω) tg tg2 /\
  Om (oj X scope cl C (x::xb::fr) s H fp ω) ifs (zX X.K ifs fc)/\PV (oj X scope cl C (x::xb::fr) s H fp ω) elt fe
 hn:ifs=[]->fc=λ_=>Ga true
theorem Km.tc (B:Km X scope tg x xb fr ifs elt fc fe):∀ σ H Q,tT X.K fc σ H Q->zX X.K ifs fc σ H Q:=by
 intro σ H Q h;cases ifs with
 | nil =>
  obtain⟨H0,F,ψ,b,r,e,q⟩:=h;rw[B.hn rfl] at e;cases e;exact q H (.refl _)
 | cons c r=>exact h
end
abbrev WI (op:D->D->D->Option D)(f g h:FV):FV:=λψ=>(f ψ).bind λx=>(g ψ).bind λy=>(h ψ).bind λz=>op x y z
def FF:D->D->Option D:=xi λi j=>.int (vO i j)
def DL:D->Option D
 | .int i=>Ga (.int (if i<0 then -i else i))
 | _=>Gb
section
variable {X:Cx}{pos:Pos}
theorem YX {a b:Expr}{f g:FV}(ha:PV X a f)(hb:PV X b g):PV X (.BinOp a .BitXor b pos) (λψ=>(f ψ).bind λx=>(g ψ).bind λy=>FF x y):=wU MI (sS λ_ _ _=>.int _) ha hb
theorem Zt:nZ X (.builtin "abs") (λxs H Q=>∃ i:Int,xs=[.int i]/\Q (.int (if i<0 then -i else i)) H):=by
 intro ω s σ H xs us Q I r h;obtain⟨i,rfl,q⟩:=h;obtain⟨u,rfl,ru⟩:=rg r;obtain⟨t,rfl⟩:=ru;exact call_abs_int λu tk=>⟨.int _,H,I.tok _,⟨_,rfl⟩,q⟩
theorem Zz {e:Expr}{f:FV}{p:Pos}(hg:Gl X "abs")(hm:X.mg "abs"=Gb)(ha:PV X e f)(hs:starEach [e] X.env=[(false,eval e X.env)]:=by rfl):PV X (.Call (.Name "abs" p) [e] [] pos) (un DL f):=by
 refine oh (xU Zt hg hm boot_abs ha (hs:=hs)) λσ H Q=>?_;rintro⟨H0,F,ψ,d,r,e,q⟩;obtain⟨d',e1,e⟩:=iO e;refine⟨H0,F,ψ,d',r,e1,λv H1 F1 g1 f1 fh1 n1 rv=>?_⟩;cases rv<;>first|(cases e;done)|skip
 cases e;exact⟨_,rfl,q _ H1 F1 g1 f1 fh1 n1 (.int _)⟩
theorem Uw {ω:List (Gj×Obj)}{σ:St}{H:Hp}{s:Gh}{a:Gj}{ws:List (Int×V)}{ep:Nat}(I:iZ X ω σ H s)(e:H a=Ga (.ext (rj a ws ep)))(nd:(ws.map (·.1)).Nodup) :
  s.TypeIs (.ref a) "dict"/\∀ b,kY a=.ref b->∃ ob,s.heap.get? b=Ga ob/\ob.dict=Gb:=by
 obtain⟨vs,rel,dd⟩:=Ci I e nd;refine⟨dd.typeIs,λb q=>?_⟩;cases q;obtain⟨ob,_,_,h1,h2,_⟩:=dd;exact⟨ob,h1,h2.2.1⟩
theorem zG0 {o e:Expr}{fo fe:FV}{apos cpos:Pos}(ho:PV X o fo)(he:PV X e fe)(m:M1 X o "get" apos e cpos:=by exact⟨rfl,rfl,rfl,rfl⟩):PV X (.Call (.Attribute o "get" apos) [e] [] cpos) (lx QJ fo fe):=by
 intro ω s σ H Q I hw;obtain⟨H0,F,ψ,d,r,e0,q⟩:=hw;obtain⟨x,e1,e0⟩:=iO e0;obtain⟨y,e2,e0⟩:=iO e0;obtain⟨k,rfl⟩:∃ k:Int,y=.int k:=by cases y<;>first|(cases e0;done)|exact⟨_,rfl⟩
 obtain⟨kvs,e3,e4⟩:=iO (show(rq x).bind (λkvs=>Ga ((oM kvs k).getD .none))=Ga d from e0);cases e4;refine wpAny_Call_method m.base m.few m.line qI vh Jj (lZ (ho ω s σ H (λv H1=>∃ F1,iP H H1/\iP F F1/\iP F1 H1/\mz F F1 H/\md X.K F1 x v) I ⟨H0,F,ψ,x,r,e1,λv H1 F1 g1 f1 fh1 n1 rv=>⟨F1,g1,f1,fh1,n1,rv⟩⟩) λu s1 ⟨v,H1,I1,rx,F1,g1,f1,fh1,n1,rv⟩=>?_);obtain⟨a,ws,ep,rfl,sm,fa,ok,rr⟩:=rv.int_dict e3;cases rx;obtain⟨t1,t2⟩:=Uw I1 (fh1 _ _ fa) (rr.nd ok);refine⟨t1,t2,?_⟩;rw[m.trees];refine u9 rfl (vd (u8 (lZ (he ω s1 σ H1 (λv2 H2=>∃ F2,iP H1 H2/\iP F1 F2/\iP F2 H2/\mz F1 F2 H1/\md X.K F2 (.int k) v2) I1 ⟨H0,F1,ψ,.int k,r.grow g1 f1 fh1 n1,e2,λv2 H2 F2 g2 f2 fh2 n2 rv2=>⟨F2,g2,f2,fh2,n2,rv2⟩⟩) λu2 s2 ⟨v2,H2,I2,rx2,F2,g2,f2,fh2,n2,rv2⟩=>vP ?_)));cases rv2;obtain⟨vs,rel,dd⟩:=Ci I2 (fh2 _ _ (f2 _ _ fa)) (rr.nd ok);refine call_meetsIn vh dd.typeIs qT (PySem.F.args_dict_get_2 _ _) (meets_dict_get (intKind X.prog X.w) a (GL rx2) sm) ⟨_,dd.mapOf,?_⟩;have rr2:=rr.mono f2;rcases rr2.at k with ⟨z1,z2⟩|⟨d',v',z1,z2,z3⟩
 .rw[z1] at q;have:=rel.val k;rw[z2] at this;exact⟨_,H2,I2.tok _,this.getD (d:=.non) (d':=.none) rfl,q .non H2 F2 (g1.trans g2) (f1.trans f2) fh2 (n1.trans n2 g1) .non⟩
 .rw[z1] at q;have:=rel.val k;rw[z2] at this;exact⟨_,H2,I2.tok _,this.getD (d:=.non) (d':=.none) rfl,q v' H2 F2 (g1.trans g2) (f1.trans f2) fh2 (n1.trans n2 g1) z3⟩
theorem SQ {o e f:Expr}{fo fe ff:FV}{apos cpos:Pos}(ho:PV X o fo)(he:PV X e fe)(hf:PV X f ff)(m:M2 X o "get" apos e f cpos:=by exact⟨rfl,rfl,rfl,rfl⟩):PV X (.Call (.Attribute o "get" apos) [e,f] [] cpos) (WI AO fo fe ff):=by
 intro ω s σ H Q I hw;obtain⟨H0,F,ψ,d,r,e0,q⟩:=hw;obtain⟨x,e1,e0⟩:=iO e0;obtain⟨y,e2,e0⟩:=iO e0;obtain⟨z,ez,e0⟩:=iO e0;obtain⟨k,rfl⟩:∃ k:Int,y=.int k:=by cases y<;>first|(cases e0;done)|exact⟨_,rfl⟩
 obtain⟨kvs,e3,e4⟩:=iO (show(rq x).bind (λkvs=>Ga ((oM kvs k).getD z))=Ga d from e0);cases e4;refine wpAny_Call_method m.base m.few m.line qI vh Jj (lZ (ho ω s σ H (λv H1=>∃ F1,iP H H1/\iP F F1/\iP F1 H1/\mz F F1 H/\md X.K F1 x v) I ⟨H0,F,ψ,x,r,e1,λv H1 F1 g1 f1 fh1 n1 rv=>⟨F1,g1,f1,fh1,n1,rv⟩⟩) λu s1 ⟨v,H1,I1,rx,F1,g1,f1,fh1,n1,rv⟩=>?_);obtain⟨a,ws,ep,rfl,sm,fa,ok,rr⟩:=rv.int_dict e3;cases rx;obtain⟨t1,t2⟩:=Uw I1 (fh1 _ _ fa) (rr.nd ok);refine⟨t1,t2,?_⟩;rw[m.trees];have r1:=r.grow g1 f1 fh1 n1;refine u9 rfl (vd (u8 (lZ (he ω s1 σ H1 (λv2 H2=>∃ F2,iP H1 H2/\iP F1 F2/\iP F2 H2/\mz F1 F2 H1/\md X.K F2 (.int k) v2) I1 ⟨H0,F1,ψ,.int k,r1,e2,λv2 H2 F2 g2 f2 fh2 n2 rv2=>⟨F2,g2,f2,fh2,n2,rv2⟩⟩) λu2 s2 ⟨v2,H2,I2,rx2,F2,g2,f2,fh2,n2,rv2⟩ =>
  u8 (lZ (hf ω s2 σ H2 (λv3 H3=>∃ F3,iP H2 H3/\iP F2 F3/\iP F3 H3/\mz F2 F3 H2/\md X.K F3 z v3) I2 ⟨H0,F2,ψ,z,r1.grow g2 f2 fh2 n2,ez,λv3 H3 F3 g3 f3 fh3 n3 rv3=>⟨F3,g3,f3,fh3,n3,rv3⟩⟩) λu3 s3 ⟨v3,H3,I3,rx3,F3,g3,f3,fh3,n3,rv3⟩=>vP ?_))))
 cases rv2;obtain⟨vs,rel,dd⟩:=Ci I3 (fh3 _ _ (f3 _ _ (f2 _ _ fa))) (rr.nd ok);refine call_meetsIn vh dd.typeIs qT (PySem.F.args_dict_get_3 _ _ _) (meets_dict_get_default (intKind X.prog X.w) a (GL rx2) sm u3) ⟨_,dd.mapOf,?_⟩;have rr2:=(rr.mono f2).mono f3;have gg:=(g1.trans g2).trans g3;have ff:=(f1.trans f2).trans f3;have nn:=(n1.trans n2 g1).trans n3 (g1.trans g2);rcases rr2.at k with ⟨z1,z2⟩|⟨d',v',z1,z2,z3⟩
 .rw[z1] at q;have:=rel.val k;rw[z2] at this;exact⟨_,H3,I3.tok _,this.getD (d:=v3) (d':=u3) rx3,q v3 H3 F3 gg ff fh3 nn rv3⟩
 .rw[z1] at q;have:=rel.val k;rw[z2] at this;exact⟨_,H3,I3.tok _,this.getD (d:=v3) (d':=u3) rx3,q v' H3 F3 gg ff fh3 nn z3⟩
theorem zu8:AK X "list.extend" (λx vs H Q=>∃ l b xs zs,x=.ref l/\vs=[.ref b]/\H l=Ga (.lst xs)/\nr X.K H b zs/\xs.length+zs.length<=1000000/\Q .non (upd H l (.lst (xs++zs)))):=by
 intro ω s σ H x vs v us Q I rx rv h;obtain⟨l,b,xs,zs,rfl,rfl,hH,hB,hz,q⟩:=h;cases rx;obtain⟨u,rfl,ru⟩:=rv.one;cases ru;obtain⟨z,its,n,r,hl,e⟩:=I.lstM hH;obtain⟨its2,r2,⟨o2,n2,e2,c2,k2,d2⟩,z2⟩:=I.list hB;have hl2:=r2.length;have hsz:its.length+its2.length<=sizeLine:=by rw[sizeLine_eq];omega
 refine wpAny_call_entry qE ⟨_,e,rfl⟩ PySem.F.entry_list_extend ?_ (PySem.F.args_list_extend_2 _ _);show wpAny _ _ (j8 (.ref l) (.ref b) .none) _ _ s;unfold j8;refine iK (wpAny_typeOf (T:="list") ⟨o2,e2,c2⟩ ?_);rw[Ge (by simp)];refine iK (listItems_at e2 d2 ?_);refine iK (listItems_at e rfl ?_);rw[Gf (by
  rw[show vG (its.toArray.size+its2.toArray.size)=false from FU (by rw[jm,jm];exact hsz),vV];exact jw)]
 refine iK (listUpdate_at e rfl ?_ (by rw[jm];omega) (by rw[JU,jm,jm];omega));refine iL ?_;exact⟨_,rfl,.non,_,I.lset (t':=s.toks) (its':=its++its2) hH e (by simp) (r.append r2) (by rw[jg];omega),rfl,q⟩
def tS (ds es:List D):Option (List D):=if ds.length+es.length<=1000000 then Ga (ds++es) else Gb
abbrev Qf (i:Nat)(f:FV):FS:=λψ=>(go i ψ).bind λds=>(f ψ).bind λd=>(yv d).bind λes=>(tS ds es).bind λrs=>Ga (.nx (ψ.set i (.own rs)))
theorem Bj (i:Nat){x:Str}{e:Expr}{f:FV}{p p2 p3:Pos}(h:PV X e f)(hN:X.N[i]?=Ga x:=by rfl)(hv:xR X.env.scope x:=by first|exact uu rfl|exact kS (uu rfl)|exact kS (kS rfl))
  (hst:starEach [e] X.env=[(false,eval e X.env)]:=by rfl) (hline:(p2.endLine==p3.line)=true:=by rfl)
  (hd:(x==("__debug__":Str))=false:=by decide) (hcd:(x==("__classdict__":Str))=false:=by decide)
  (hs:swapsWith (.Call (.Attribute (.Name x p) "extend" p2) [e] [] p3) Gb pos.line X.env=pure false:=by rfl) :
  rh X (.Expr (.Call (.Attribute (.Name x p) "extend" p2) [e] [] p3) pos) (Qf i f):=by
 refine wF (CJ (Hi qH qE PySem.F.type_list_extend zu8 (su (pos:=p) hN hv hd hcd) (nL h pM hst) rfl (by rw[hst];rfl) hline hst rfl) hs) λE σ H=>?_;rintro⟨H0,F,ψ,o,r,e,p⟩;obtain⟨ds,e1,e⟩:=iO e;obtain⟨d,e2,e⟩:=iO e;obtain⟨es,e3,e⟩:=iO e;obtain⟨rs,e4,e⟩:=iO e;cases e;cases Vw e3;unfold tS at e4;split at e4;rotate_left
 .cases e4
 rename_i hz;cases e4;unfold go at e1;split at e1;rotate_left
 .cases e1
 rename_i ds' z;cases e1;obtain⟨u,e3,a,xs,e4,ha,fa,h0a,rr⟩:=r.sl i _ z;subst e4;refine⟨.ref a,e3,.inl ⟨rfl,xs,nr.of ha⟩,H0,F,ψ,.list es,r,e2,λv H' F' g f1 fh n rv=>?_⟩;have r2:=r.grow g f1 fh n;obtain⟨u2,e5,a2,xs2,e6,ha2,fa2,h0a2,rr2⟩:=r2.sl i _ z;rw[e3] at e5;cases e5;cases e6;cases rv with
 | lst hb rb =>
  refine⟨a,_,xs2,_,rfl,rfl,ha2,fh.seq hb,?_,?_⟩
  .rw[<- rr2.length,<- rb.length];exact hz
  .exact p σ _ F' f1 (n.dn r.h0) (r2.chg z e3 (rr2.append rb))
end
section
variable {prog:Program}{w:World}{A:Around}{E:Gg->Gh->Prop}{s:Gh}{vs:List Gg}
theorem Xd {l:Gj}{Q:List Gg->Gh->Prop}(hl:IsTup s.heap l vs.toArray)
  (h:∀ h',(∀ b o,s.heap.get? b=Ga o->h'.get? b=Ga o)->(∃ o,h'.get? s.heap.objs.size=Ga o)->Q vs { s with heap:=h' }) (hsz:vs.length<=sizeLine) :
  wpAny (model prog w) A (collect (.ref l)) Q E s:=by
 obtain⟨o,ho,hc,n,hd⟩:=id hl;unfold collect;refine iK (wpAny_runValue (codeAny_builtin entry_proto_collect' ?_));show wpAny _ _ (do again (.builtin "list.__iadd__" ⟨[<- newList [],.ref l],[]⟩)) _ _ s;refine iK (wpAny_newList (iL ⟨Code.quiet_builtin _ (by nofun),codeAny_builtin entry_list_iadd' ?_⟩));show wpAny _ _ (j8 (.ref s.heap.objs.size) (.ref l) (.ref s.heap.objs.size)) _ _ { s with heap:=s.heap.push (seqObj "list" #[] 0) };unfold j8;have ho':(s.heap.push (seqObj "list" #[] 0)).get? l=Ga o:=je _ ho;refine iK (wpAny_typeOf (T:="tuple") ⟨o,ho',hc⟩ ?_);rw[Ge (by simp)];refine iK (listItems_at ho' hd ?_);refine iK (listItems_at (xs:=#[]) (n:=0) (jB _ rfl) rfl ?_);rw[Gf (by simp)];refine iK (listUpdate_at (xs:=#[]) (n:=0) (jB _ rfl) rfl ?_ (j5 _) (by show(#[]++vs.toArray).size<=sizeLine+1;simp only[JU,jm,qf];omega));refine iL ?_;show wpAny (model prog w) A (do
   let o <- load s.heap.objs.size
   match o.data with
   | .seq xs _=>pure xs.toList
   | _=>unsupported "internal:collect") Q E { s with heap:=(s.heap.push (seqObj "list" #[] 0)).update s.heap.objs.size (ki (·++vs.toArray)) }
 refine iK (wpAny_load (get?_update_seq (jB _ rfl) _) ?_);show wpAny _ _ (pure ((#[]:Array Gg)++vs.toArray).toList) Q E _;rw[show((#[]:Array Gg)++vs.toArray).toList=vs by simp];refine iL (h _ (λb o hb=>?_) ⟨_,get?_update_seq (jB _ rfl) _⟩);exact(k8 _ _ (vp (jt hb))).trans (je _ hb)
theorem XT {d:Gj}{es:Array DictEntry}{ep:Nat}{Q:List Gg->Gh->Prop}(hh:A.handled=Gb)(sm:(d==sysModules)=false)(hd:sg s.heap d es ep)(hn:es.size<=sizeLine)
  (hQ:∀ h' tk acc,(∀ b o,s.heap.get? b=Ga o->h'.get? b=Ga o)->(∃ o,h'.get? s.heap.objs.size=Ga o)->ItemsOf (λi v=>∃ e,es[i]?=Ga e/\v=e.key) acc es.size->Q acc.toList { s with heap:=h',toks:=tk }) :
  wpAny (model prog w) A (collect (.ref d)) Q E s:=by
 have hlt:d<s.heap.objs.size:=by obtain⟨o,e,_⟩:=hd;exact jt e
 unfold collect;refine iK (wpAny_runValue (codeAny_builtin entry_proto_collect' ?_));show wpAny _ _ (do again (.builtin "list.__iadd__" ⟨[<- newList [],.ref d],[]⟩)) _ _ s;refine iK (wpAny_newList (iL ⟨Code.quiet_builtin _ (by nofun),codeAny_builtin entry_list_iadd' ?_⟩));show wpAny _ _ (j8 (.ref s.heap.objs.size) (.ref d) (.ref s.heap.objs.size)) _ _ { s with heap:=s.heap.push (seqObj "list" #[] 0) };have n1:(s.heap.push (seqObj "list" #[] 0)).get? s.heap.objs.size=Ga { cls:=.type "list",data:=.seq #[] 0 }:=jB _ rfl;have kp:∀ b o,s.heap.get? b=Ga o->(s.heap.push (seqObj "list" #[] 0)).get? b=Ga o:=λb o e=>je _ e;generalize s.heap.push (seqObj "list" #[] 0)=h1 at n1 kp;have hd1:sg h1 d es ep:=hd.kept λo e=>kp d o e;unfold j8;refine iK (wpAny_typeOf (T:="dict") (sg.ty (s:={ s with heap:=h1 }) hd1) ?_);rw[show uT (.ref s.heap.objs.size) (.ref d)=false from by simp[uT,vp hlt]];simp only[show(u5 "dict"==u5 "list")=false by decide,show(u5 "dict"==u5 "tuple")=false by decide,uS,uj,if_false];refine iK (Xp (s:={ s with heap:=h1 }) sm hd1 ?_);have kp2:∀ b o,h1.get? b=Ga o->(h1.push { cls:=.type "dict_keyiterator",data:=.fields #[.ref d,.int 0 0,.int es.size 0,.int ep 0] }).get? b=Ga o:=λb o e=>je _ e;have it0:(h1.push { cls:=.type "dict_keyiterator",data:=.fields #[.ref d,.int 0 0,.int es.size 0,.int ep 0] }).IsKeyIter h1.objs.size d 0 es.size ep:=⟨_,jB _ rfl,rfl,rfl⟩;have dI:d≠h1.objs.size:=by obtain⟨o,e,_⟩:=hd1;exact jJ (jt e)
 have sI:s.heap.objs.size≠h1.objs.size:=jJ (jt n1);have hd2:=hd1.kept λo e=>kp2 d o e;have n2:=kp2 _ _ n1;generalize h1.push { cls:=.type "dict_keyiterator",data:=.fields #[.ref d,.int 0 0,.int es.size 0,.int ep 0] }=h2 at kp2 it0 hd2 n2;refine iK (wpAny_holding (zw2 (sg.ty (s:={ s with heap:=h2 }) hd2) ?_));refine wpAny_ite_split (λ_=>?_) λz=>absurd (by decide) z;refine iK (wpAny_rule (iK ?_));show wpAny _ _ (updateSeq s.heap.objs.size (·.push .none) >>= λ_=>updateSeq s.heap.objs.size (·.pop)) _ _ _;refine iK (wpAny_updateSeq n2 rfl ?_);have n3:=uE (ki (·.push kK)) n2 rfl;refine wpAny_updateSeq (hz:=by seq_fits) n3 rfl ?_;have n4:=uE (ki (·.pop)) n3 rfl;have kp3:∀ b o,b≠s.heap.objs.size->h2.get? b=Ga o->((h2.update s.heap.objs.size (ki (·.push kK))).update s.heap.objs.size (ki (·.pop))).get? b=Ga o :=
  λb o hb e=>(k8 _ _ (ug hb)).trans ((k8 _ _ (ug hb)).trans e)
 have it4:=it0.at λo e=>kp3 _ o (ug sI) e;have hd4:=hd2.kept λo e=>kp3 _ o (jJ hlt) e;generalize (h2.update s.heap.objs.size (ki (·.push kK))).update s.heap.objs.size (ki (·.pop))=h4 at n4 kp3 it4 hd4;refine iL ⟨plainId_quiet F.plain_extend_loop _,?_⟩;have W:=(zwC (prog:=prog) (w:=w) (A:=A.in1) (show A.in1.handled=Gb from hh) h1.objs.size d dI es ep).toS;refine codeAny_extend_loopS W hn s.heap.objs.size ?_ _ es.size 0 { s with heap:=h4 } #[] _ rfl (j5 _) ⟨it4,hd4⟩ n4 (ItemsOf.nil _) λs' acc c m nn it=>?_
 .simp only[ju,kH,or_false,not_or];exact⟨sI,vp hlt⟩
 .show wpAny _ A (load s.heap.objs.size >>= _) _ _ s';refine iK (wpAny_load nn (iL ?_));rw[Moved.eq_with m] at nn ⊢;refine hQ s'.heap s'.toks acc (λb o e=>m.heap b o (λz=>?_) (kp3 _ _ (jJ (jt e)) (kp2 _ _ (kp b o e)))) ⟨_,nn⟩ it;simp only[ju,kH,or_false] at z;rcases z with z|z
  .exact absurd (jt e) (by rw[z];exact jU _)
  .exact absurd (jt (kp b o e)) (by rw[z];exact jU _)
theorem Ra {v:Gg}{out:List Gg}{Q:Gg->Gh->Prop}(hz:vs.length<64)
  (hcol:∀ (A':Around) (Q':List Gg->Gh->Prop) (E':Gg->Gh->Prop),A'.handled=A.handled->(∀ h' tk,(∀ b o,s.heap.get? b=Ga o->h'.get? b=Ga o)->(∃ o,h'.get? s.heap.objs.size=Ga o)->Q' vs { s with heap:=h',toks:=tk })->wpAny (model prog w) A' (collect v) Q' E' s)
  (hs:∀ (s1:Gh) (a n:Nat) (P:Ve->Gh->Prop) (E':Gg->Gh->Prop),(∀ b o,s.heap.get? b=Ga o->s1.heap.get? b=Ga o)->s.heap.objs.size<=a->s1.heap.get? a=Ga (seqObj "list" vs.toArray n) ->
   (∀ h' c,(∀ b o,b≠a->s1.heap.get? b=Ga o->h'.get? b=Ga o)->h'.get? a=Ga (seqObj "list" out.toArray c)->P (.done (.ret .none)) { s1 with heap:=h' }) ->
   wpAny (model prog w) A.in1.in1 (Builtin.«list.sort» ⟨[.ref a],[]⟩) P E' s1)
  (h:∀ h' tk a c,(∀ b o,s.heap.get? b=Ga o->h'.get? b=Ga o)->s.heap.objs.size<=a->h'.get? a=Ga (seqObj "list" out.toArray c)->Q (.ref a) { s with heap:=h',toks:=tk }) :
  wpAny (model prog w) A (call (.builtin "sorted") [v]) Q E s:=by
 have sl:vs.length<=sizeLine:=by rw[sizeLine_eq];omega
 refine Calls.call_function_entry kind_sorted plain_sorted entry_sorted (args_sorted1 _) ?_;unfold Builtin.«sorted»;refine iK (m:=checkCount "sorted" 1 1 _) (iL (iK (hcol _ _ _ rfl λh1 tk k1 t1=>iK (wpAny_newList ?_ sl))));obtain⟨o1,ho1⟩:=t1;have hsz:s.heap.objs.size<=h1.objs.size:=uA (jt ho1);have hoL:(h1.push (seqObj "list" vs.toArray 0)).get? h1.objs.size=Ga (seqObj "list" vs.toArray 0):=jB _ rfl;have keep:∀ b o,s.heap.get? b=Ga o->(h1.push (seqObj "list" vs.toArray 0)).get? b=Ga o:=λb o q=>je _ (k1 b o q);refine iK (wpAny_holding (wpAny_call_entry slot_list_sort ⟨_,hoL,rfl⟩ entry_list_sort ?_ (args_list_sort _)));refine hs { s with heap:=h1.push (seqObj "list" vs.toArray 0),toks:=tk } h1.objs.size 0 _ _ keep hsz hoL λh' c kk hc=>⟨_,rfl,iL ⟨_,rfl,h h' tk h1.objs.size c (λb o e=>kk b o (jJ (jz (jt e) hsz)) (keep b o e)) hsz hc⟩⟩
end
section
variable {P:Program}{w:World}{K:ja}{mg:Str->Option Gg}{base:Heap}{f:Gj}{fd:Gi}{ps:List Str}{k:Nat}
theorem Wj:lz P w K mg base lK k f fd ps (xf K λ_=>Gb):=by
 have no:∀ vs H Q E,¬xf K (λ_=>Gb) vs H Q E:=λvs H Q E h=>by obtain⟨_,_,_,_,_,e,_⟩:=h;cases e
 exact⟨λvs H Q E h=>absurd h (no vs H Q E),λA outer s H args us vs Q E _ _ _ _ h=>absurd h (no vs H Q E)⟩
end
section
variable {X:Cx}{pos:Pos}
theorem UR {ω:List (Gj×Obj)}{σ:St}{H:Hp}{s:Gh}{v:Gg}{F:Hp}{ds rs:List D}{xs:List V}{its:List Gg}{Q:VK}(I:iZ X ω σ H s)(g:iP F H)(rv:lH xs its)(rr:ly X.K F ds xs)(e:pr ds=Ga rs)
  (hcol:∀ (A':Around) (Q':List Gg->Gh->Prop) (E':Gg->Gh->Prop),A'.handled=X.A.handled->(∀ h' tk,(∀ b o,s.heap.get? b=Ga o->h'.get? b=Ga o)->(∃ o,h'.get? s.heap.objs.size=Ga o)->Q' its { s with heap:=h',toks:=tk })->wpAny (model X.prog X.w) A' (collect v) Q' E' s)
  (q:∀ a ys,H a=Gb->ly X.K F rs ys->Q (.ref a) (upd H a (.lst ys))):wpAny (model X.prog X.w) X.A (call (.builtin "sorted") [v]) (EP X ω σ Q) X.xe s:=by
 have hlen:ds.length=its.length:=rr.length.trans rv.length;have fin:∀ (out:List Gg) (ys:List V) (h':Heap) (tk:Nat) (a c:Nat),lH ys out->out.length<=sizeLine->ly X.K F rs ys->(∀ b o,s.heap.get? b=Ga o->h'.get? b=Ga o)->s.heap.objs.size<=a->h'.get? a=Ga (seqObj "list" out.toArray c) ->
   EP X ω σ Q (.ref a) { s with heap:=h',toks:=tk }:=λout ys h' tk a c rvo hz2 rro k ha hc =>
  ⟨.ref _,_,I.laid (t':=tk) (o:=.lst ys) k ha ⟨by rw[rvo.length];exact hz2,out,c,rvo,hc⟩,rfl,q _ ys (I.hok.fresh ha) rro⟩
 unfold pr at e;split at e
 .rename_i hs;cases e;refine Ra (out:=its) (by omega) hcol (λs1 a n P E' k ha ho hP=>zu6 ho (by omega) λh' c kk hc=>hP h' c kk hc) λh' tk a c k ha hc=>fin its xs h' tk a c rv (by rw[sizeLine_eq];omega) rr k ha hc
 .rename_i hs;split at e
  .rename_i ok;rw[jG,decide_eq_true_eq] at ok;obtain⟨pm,e1,e2⟩:=iO e;split at e2;rotate_left
   .cases e2
   rename_i hpm;cases e2;have h2:2<=its.length:=by omega
   rw[hlen] at e1;refine Ra (out:=pm.toList.map λi=>its.getD i kK) (by omega) hcol (λs1 a n P E' k ha ho hP=>zBT ho h2 (by omega) e1 (λs2 k2=>zwT I g rv rr h2 ok.2 λb o eb=>k2 b o (jJ (jz (jt eb) ha)) (k b o eb)) λh' c kk hc=>hP h' c kk hc) λh' tk a c k ha hc=>?_;refine fin _ (pm.toList.map λi=>xs.getD i .non) h' tk a c ?_ ?_ ?_ k ha hc
   .have:∀ l:List Nat,lH (l.map λi=>xs.getD i V.non) (l.map λi=>its.getD i kK):=λl=>by
     induction l with
     | nil=>exact .nil
     | cons i l ih =>
      refine .cons ?_ ih;dsimp only;rw[jq,jq];cases hx:xs[i]? with
      | none=>rw[rv.none_of hx];rfl
      | some v=>obtain⟨u,e,r⟩:=rv.get hx;rw[e];exact r
    exact this _
   .rw[jc,kb,sizeLine_eq];omega
   .have:∀ l:List Nat,ly X.K F (l.map λi=>ds.getD i .none) (l.map λi=>xs.getD i V.non):=λl=>by
     induction l with
     | nil=>exact .nil
     | cons i l ih =>
      refine .cons ?_ ih;dsimp only;rw[jq,jq];cases hx:ds[i]? with
      | none =>
       have:xs[i]?=Gb:=kx (by rw[<- rr.length];exact vz.mp hx);rw[this];exact .non
      | some d=>obtain⟨v,e,r⟩:=rr.get hx;rw[e];exact r
    exact this _
  .cases e
theorem zu9:nZ X (.builtin "sorted") (λvs H Q=>∃ F ds rs p xs,vs=[.ref p]/\iP F H/\oB X.K H p xs/\ly X.K F ds xs/\pr ds=Ga rs/\∀ a ys,H a=Gb->ly X.K F rs ys->Q (.ref a) (upd H a (.lst ys))):=by
 intro ω s σ H vs us Q I r h;obtain⟨F,ds,rs,p,xs,rfl,g,hl,rr,e,q⟩:=h;obtain⟨u,rfl,ru⟩:=rg r;cases ru;obtain⟨its,rv,pl,hz⟩:=I.tuple hl;exact UR I g rv rr e (λA' Q' E' _ k=>Xd pl (λh' k1 k2=>k h' s.toks k1 k2) (by rw[<- rv.length];exact hz)) q
theorem Zd {e:Expr}{f:FV}{p pos:Pos}(hg:Gl X "sorted")(hm:X.mg "sorted"=Gb)(ha:PV X e f)(hs:starEach [e] X.env=[(false,eval e X.env)]:=by rfl):PO X (.Call (.Name "sorted" p) [e] [] pos) (HX (YE f)):=by
 refine oh (xU zu9 hg hm boot_sorted ha (hs:=hs)) λσ H Q=>?_;rintro⟨H0,F,ψ,rs,r,e,q⟩;obtain⟨ds,e1,e⟩:=iO e;obtain⟨d,e2,e3⟩:=iO e1;cases Vh e3;refine⟨H0,F,ψ,.tuple ds,r,e2,λv H1 F1 g1 f1 fh1 n1 rv=>?_⟩;cases rv with
 | tup hl rr =>
  refine⟨F1,ds,rs,_,_,rfl,fh1,oN fh1 hl,rr,e,λa ys ha ry=>?_⟩;have s2:iP H1 (upd H1 a (.lst ys)):=iP.new ha;exact q a ys _ F1 (g1.trans s2) f1 (fh1.trans s2) n1 (g1.free ha) (fh1.free ha) lB ry
theorem Ig {K:ja}{F:Hp}:∀ (ks:List Int),ly K F (ks.map jb) (ks.map V.int)
 | []=>.nil
 | k::ks=>.cons (.int k) (Ig ks)
theorem zvA (hc:X.calm=true):nZ X (.builtin "sorted") (λvs H Q=>∃ F rs p ws ep,vs=[.ref p]/\iP F H/\(p==sysModules)=false/\H p=Ga (.ext (rj p ws ep))/\ws.length<=1000000/\pr ((ws.map (·.1)).map jb)=Ga rs/\∀ a ys,H a=Gb->ly X.K F rs ys->Q (.ref a) (upd H a (.lst ys))):=by
 intro ω s σ H vs us Q I r h;obtain⟨F,rs,p,ws,ep,rfl,g,sm,hp,hz,e,q⟩:=h;obtain⟨u,rfl,ru⟩:=rg r;cases ru;obtain⟨es,dr,ie⟩:=ZR (Um I.hok hp);have sz:es.size=ws.length:=by rw[<- kb,ie.length]
 have rv:lH ((ws.map (·.1)).map V.int) (es.toList.map (·.key)):=by
  refine Ka _ _ (by rw[jc,jc,jc,ie.length]) λi x u hx hu=>?_;rw[jA] at hx;obtain⟨k,hk,rfl⟩:=qU.mp hx;obtain⟨en,t,e1,e2⟩:=ie.get hk;rw[jA,e1] at hu;cases hu;exact⟨t,e2⟩
 refine UR I g rv (Ig _) e (λA' Q' E' ha k=>XT (by rw[ha];exact I.ok.hd hc) sm dr (by rw[sz,sizeLine_eq];exact jk hz (by decide)) λh' tk acc k1 k2 it=>?_) q;have:acc.toList=es.toList.map (·.key):=by
  refine qA λi=>?_;rw[jA];by_cases hi:i<es.size
  .have ha:i<acc.size:=by rw[it.1];exact hi
   obtain⟨en,e1,e2⟩:=it.2 i acc[i] (vB ha);rw[ui,ui,vB ha,e1,e2];rfl
  .rw[ui,ui,vS (by rw[it.1];omega),vS (by omega)];rfl
 rw[this];exact k h' tk k1 k2
theorem zxA {e:Expr}{f:FV}{p pos:Pos}(hc:X.calm=true)(hg:Gl X "sorted")(hm:X.mg "sorted"=Gb)(ha:PV X e f)(hs:starEach [e] X.env=[(false,eval e X.env)]:=by rfl):PO X (.Call (.Name "sorted" p) [e] [] pos) (HX (pv Dz f)):=by
 refine oh (xU (zvA hc) hg hm boot_sorted ha (hs:=hs)) λσ H Q=>?_;rintro⟨H0,F,ψ,rs,r,e,q⟩;obtain⟨ds,e1,e⟩:=iO e;obtain⟨d,e2,e3⟩:=iO e1;obtain⟨kvs,e4,e5⟩:=iO e3;cases e5;refine⟨H0,F,ψ,d,r,e2,λv H1 F1 g1 f1 fh1 n1 rv=>?_⟩;obtain⟨a,ws,ep,rfl,sm,fa,ok,rr⟩:=rv.int_dict e4;refine⟨F1,rs,a,ws,ep,rfl,fh1,sm,fh1 _ _ fa,rr.le ok,?_,λb ys hb ry=>?_⟩
 .rw[rr.fst,jL];exact e
 .have s2:iP H1 (upd H1 b (.lst ys)):=iP.new hb;exact q b ys _ F1 (g1.trans s2) f1 (fh1.trans s2) n1 (g1.free hb) (fh1.free hb) lB ry
end
theorem So {y:Str}{k:NameKind}:∀ {l:List (Str×NameKind)},l.lookup y=Ga k->(y,k)∈l
 | [],h=>by cases h
 | (n,k')::r,h=>by
  rw[kn] at h;cases hx:y==n with
  | true=>rw[hx] at h;cases h;rw[beq_iff_eq.mp hx];exact jf
  | false=>rw[hx] at h;exact jh _ (So h)
theorem sf.nest {N:List Str}{osc scope:Scope}{x:Str}{fr:List Str}{ix:List Nat}{ψ:Env}(S:sf N osc scope x fr ix)(nc:∀ y∈osc.names,y.2≠.cell):sf N (relabel osc ψ) scope x fr ix :=
 ⟨S.kind,S.nocell,S.locs,S.tgt,λy hy hf=>by
  rcases S.outs y hy hf with h|h
  .exact absurd rfl (nc (y.1,.cell) (So h))
  .exact NY h,S.free,S.len,S.at_,S.apart⟩
section
variable {X:Cx}{pos:Pos}
variable {k:Nat}{f:Gj}{fd:Gi}{ps:List Str}{x y:Str}{p p' pc:Pos}{e:Expr}{es:List Expr}{g:FL}
end
section
variable {X:Cx}{pos:Pos}{a b:Expr}{f g:FV}
end
section
variable {X:Cx}
end
def butC (H:Hp)(cs:List Gj):Hp:=λb=>if b∈cs then Gb else H b
theorem Bz {H:Hp}{cs:List Gj}{b:Gj}(h:b∈cs):butC H cs b=Gb:=Ge h
theorem pH {H:Hp}{cs:List Gj}{b:Gj}(h:b∉cs):butC H cs b=H b:=Gf h
theorem Gm {H:Hp}{cs:List Gj}{b:Gj}{o:HO}(h:butC H cs b=Ga o):b∉cs/\H b=Ga o:=by
 by_cases hb:b∈cs
 .rw[Bz hb] at h;cases h
 .rw[pH hb] at h;exact⟨hb,h⟩
def putC (G H:Hp)(cs:List Gj):Hp:=λb=>if b∈cs then G b else H b
theorem Em {G H:Hp}{cs:List Gj}{b:Gj}(h:b∈cs):putC G H cs b=G b:=Ge h
theorem yG {G H:Hp}{cs:List Gj}{b:Gj}(h:b∉cs):putC G H cs b=H b:=Gf h
def QB (H:Hp)(c:Gj):Prop:=∃ o v,H c=Ga (.frz o (.own c))/\o.data=.cell v
def nK (H:Hp)(cs:List Gj):Prop:=∀ c∈cs,QB H c
theorem OK {H:Hp}{cs:List Gj}(m:nK H cs){l:List Gg}(g:mJ H l):mJ (butC H cs) l :=
 ⟨g.1,λpos cv e=>by
  obtain⟨c,o,vs,v,e1,e2,e3,e4⟩:=g.2 pos cv e;refine⟨c,o,vs,v,e1,?_,e3,e4⟩;rw[pH λz=>?_]
  .exact e2
  .obtain⟨o',v',h1,h2⟩:=m c z;rw[e2] at h1;cases h1;rw[e3] at h2;cases h2⟩
theorem EZ {G H:Hp}{cs:List Gj}(n:∀ c∈cs,H c=Gb):∀ c o,H c=Ga o->putC G H cs c=Ga o:=λc o h=>by
 rw[yG λz=>by rw[n c z] at h;cases h];exact h
theorem iP.withC {H H':Hp}{cs:List Gj}(m:nK H cs)(s:iP (butC H cs) H')(n:∀ c∈cs,H' c=Gb):iP H (putC H H' cs):=λb o h=>by
 by_cases hb:b∈cs
 .rw[Em hb];obtain⟨o',v',h1,_⟩:=m b hb;rw[h1] at h;cases h;exact h1
 .rw[yG hb];exact((s b o (by rw[pH hb];exact h)).from λ_ z=>OK m z).to λ_ z=>z.sub (EZ n)
theorem iP.withC2 {F' H' F H:Hp}{cs:List Gj}(mF:nK F cs)(e:∀ c∈cs,F c=H c)(s:iP F' H')(nF:∀ c∈cs,F' c=Gb)(n:∀ c∈cs,H' c=Gb):iP (putC F F' cs) (putC H H' cs):=λb o h=>by
 by_cases hb:b∈cs
 .rw[Em hb] at h ⊢;obtain⟨o',v',h1,_⟩:=mF b hb;rw[h1] at h;cases h;rw[<- e b hb];exact h1
 .rw[yG hb] at h ⊢;refine((s b o h).from λl z=>?_).to λ_ z=>z.sub (EZ n);refine⟨z.1,λpos cv e=>?_⟩;obtain⟨c,x,vs,v,e1,e2,e3,e4⟩:=z.2 pos cv e;refine⟨c,x,vs,v,e1,?_,e3,e4⟩;rw[yG λq=>?_] at e2
  .exact e2
  .rw[Em q] at e2;obtain⟨o',v',h1,h2⟩:=mF c q;rw[e2] at h1;cases h1;rw[e3] at h2;cases h2
mutual
theorem md.butC {K:ja}{F:Hp}{cs:List Gj}(m:nK F cs):∀ {d:D} {v:V},md K F d v->md K (T3.butC F cs) d v
 | _,_,.non=>.non
 | _,_,.bl b=>.bl b
 | _,_,.int i=>.int i
 | _,_,.str x=>.str x
 | _,_,.tup h r=>.tup (by
   rcases h with (h|⟨o,h⟩)|h
   .exact .inl (.inl (by rw[pH λz=>by obtain⟨o',v',h1,_⟩:=m _ z;rw[h] at h1;cases h1];exact h))
   .exact .inl (.inr ⟨o,by rw[pH λz=>by obtain⟨o',v',h1,_⟩:=m _ z;rw[h] at h1;cases h1];exact h⟩)
   .exact .inr h) (ly.butC m r)
 | _,_,.lst h r=>.lst (by
   rcases h with (h|⟨o,h⟩)|h
   .exact .inl (.inl (by rw[pH λz=>by obtain⟨o',v',h1,_⟩:=m _ z;rw[h] at h1;cases h1];exact h))
   .exact .inl (.inr ⟨o,by rw[pH λz=>by obtain⟨o',v',h1,_⟩:=m _ z;rw[h] at h1;cases h1];exact h⟩)
   .exact .inr h) (ly.butC m r)
 | _,_,.dic hs h ok r=>.dic hs (by rw[pH λz=>by obtain⟨o',v',h1,_⟩:=m _ z;rw[h] at h1;cases h1];exact h) ok (ly.butC m r)
 | _,_,.dci hs h ok r=>.dci hs (by rw[pH λz=>by obtain⟨o',v',h1,_⟩:=m _ z;rw[h] at h1;cases h1];exact h) ok (mC.butC m r)
theorem ly.butC {K:ja}{F:Hp}{cs:List Gj}(m:nK F cs):∀ {ds:List D} {vs:List V},ly K F ds vs->ly K (T3.butC F cs) ds vs
 | _,_,.nil=>.nil
 | _,_,.cons h t=>.cons (md.butC m h) (ly.butC m t)
theorem mC.butC {K:ja}{F:Hp}{cs:List Gj}(m:nK F cs):∀ {l:List (Int×D)} {w:List (Int×V)},mC K F l w->mC K (T3.butC F cs) l w
 | _,_,.nil=>.nil
 | _,_,.cons h t=>.cons (md.butC m h) (mC.butC m t)
end
theorem HOk.butC {P:Program}{w:World}{H:Hp}{h:Heap}{cs:List Gj}(m:nK H cs)(x:HOk P w H h):HOk P w (T3.butC H cs) h:=λa o e=>by
 obtain⟨hb,e⟩:=Gm e;refine(x a o e).stay (λ_ _ _ q=>q) (λb q=>?_) λb xs q=>?_
 .rw[pH λz=>by obtain⟨o',v',h1,_⟩:=m _ z;rw[q] at h1;cases h1];exact q
 .rw[pH λz=>by obtain⟨o',v',h1,_⟩:=m _ z;rw[q] at h1;cases h1];exact q
theorem Un.putC {fs:List Gj}{H H':Hp}{h h':Heap}{cs:List Gj}(m:nK H cs)(u:Un fs [] (T3.butC H cs) H' h h')(n:∀ c∈cs,H' c=Gb):Un fs [] H (T3.putC H H' cs) h h':=by
 have out:∀ {b:Gj},H b=Gb->b∉cs:=λ{b} e z=>by obtain⟨o',v',h1,_⟩:=m _ z;rw[e] at h1;cases h1
 have bn:∀ {b:Gj},H b=Gb->T3.butC H cs b=Gb:=λ{b} e=>by rw[pH (out e)];exact e
 refine⟨λb o q nb hb hx=>u.keep b o q (bn nb) hb hx,λb o q nb hb hx=>u.slot b o q (bn nb) hb hx,λb o q nb hx=>by rw[yG (out nb)];exact u.free b o q (bn nb) hx,u.there,λb xs q=>?_,λb o x q=>?_,λb ps q=>?_⟩
 .have nb:b∉cs:=λz=>by obtain⟨o',v',h1,_⟩:=m _ z;rw[q] at h1;cases h1
  rw[yG nb];exact u.tups b xs (by rw[pH nb];exact q)
 .by_cases nb:b∈cs
  .rw[Em nb];exact q
  .rw[yG nb];exact u.frzs b o x (by rw[pH nb];exact q)
 .have nb:b∉cs:=λz=>by obtain⟨o',v',h1,_⟩:=m _ z;rw[q] at h1;cases h1
  rw[yG nb];exact u.tbls b ps (by rw[pH nb];exact q)
theorem HOk.putC {P:Program}{w:World}{H H':Hp}{h h':Heap}{cs:List Gj}(m:nK H cs)(x:HOk P w H' h')(n:∀ c∈cs,H' c=Gb)(k:∀ c∈cs,∀ o v,H c=Ga (.frz o (.own c))->o.data=.cell v->h'.get? c=Ga o):HOk P w (T3.putC H H' cs) h':=λa o e=>by
 by_cases ha:a∈cs
 .rw[Em ha] at e;obtain⟨o',v',h1,h2⟩:=m a ha;rw[h1] at e;cases e;have g:=k a ha o' v' h1 h2;exact⟨g,o',g⟩
 .rw[yG ha] at e;exact(x a o e).stay (λ_ _ _ q=>q) (λb q=>EZ n b _ q) λb xs q=>EZ n b _ q
structure wV (x:Str)(fr:List Str)(scope:Scope):Prop where
 kind:scope.kind=.function
 co:scope.isCoroutine=false
 gen:scope.isGenerator=false
 nocell:∀ y∈scope.names,y.2≠.cell
 par:scope.names.lookup x=Ga .local
 free:∀ y∈scope.names,y.2=.free->y.1∈fr
 frf:∀ y∈fr,scope.names.lookup y=Ga .free
 nd:(x::fr).Nodup
structure yk (K:ja)(F:Hp)(fr:List Str)(ds:List D)(cl:List (Str×Gj))(cs:List Gj):Prop where
 look:∀ (j:Nat) (y:Str) (d:D),fr[j]?=Ga y->ds[j]?=Ga d->∃ c o u v,cl.lookup y=Ga c/\c∈cs/\F c=Ga (.frz o (.own c))/\o.data=.cell (Ga u)/\lO v u/\md K F d v
 all:∀ y c,cl.lookup y=Ga c->c∈cs
 has:∀ y∈fr,∃ c,cl.lookup y=Ga c
 cells:nK F cs
 inj:∀ x y c,cl.lookup x=Ga c->cl.lookup y=Ga c->x=y
 len:ds.length=fr.length
 only:∀ c∈cs,∃ y,cl.lookup y=Ga c
theorem nK.mono {F F':Hp}{cs:List Gj}(s:iP F F')(m:nK F cs):nK F' cs:=λc h=>by
 obtain⟨o,v,h1,h2⟩:=m c h;exact⟨o,v,s _ _ h1,h2⟩
theorem yk.mono {K:ja}{F F':Hp}{fr:List Str}{ds:List D}{cl:List (Str×Gj)}{cs:List Gj}(s:iP F F')(x:yk K F fr ds cl cs):yk K F' fr ds cl cs :=
 ⟨λj y d h1 h2=>by
  obtain⟨c,o,u,v,e1,e2,e3,e4,e5,e6⟩:=x.look j y d h1 h2;exact⟨c,o,u,v,e1,e2,s _ _ e3,e4,e5,e6.mono s⟩,x.all,x.has,x.cells.mono s,x.inj,x.len,x.only⟩
def pX (f:Gj)(o:Obj):Heap->Prop:=λh=>h.get? f=Ga o
def Fy (K:ja)(params:Arguments)(body:Expr)(scope:Scope)(fr:List Str)(ds:List D):lN where
 C:=λf F H=>∃ name qual cl pm c ctv cs o vs,∃ v:Str×Tok,F f=Ga (.ext (pX f (uf name qual params body scope cl pm c ctv)))/\H c=Ga (.frz o (.own c))/\o.data=.fields vs/\vs[1]?=Ga (.str v.1 v.2)/\yk K F fr ds cl cs
 mono:=λf F F' H H' s z ⟨name,qual,cl,pm,c,ctv,cs,o,vs,v,h1,h2,h3,h4,h5⟩=>⟨name,qual,cl,pm,c,ctv,cs,o,vs,v,s _ _ h1,z _ _ h2,h3,h4,h5.mono s⟩
def zB (P:Program)(w:World)(K:ja)(mg:Str->Option Gg)(base:Heap)(N:List Str)(qual:Str)(scope:Scope)(f:Gj)(cd:Gg)(cl:List (Str×Gj))(A:Around)(outer:List Env)(s:Gh)(H:Hp):Cx where
 prog:=P
 w:=w
 K:=K
 mg:=mg
 base:=base
 A:=A.deeper (vx qual scope s.heap.objs.size f cd cl)
 N:=N
 s₀:=s
 H₀:=H
 env:=vx qual scope s.heap.objs.size f cd cl
 outer:=outer
 stack:=vx qual scope s.heap.objs.size f cd cl::outer
 ex:=[]
 fn:=λ_=>false
 calm:=true
 pn:=[]
 xe:=λ_ _=>False
section
variable {P:Program}{w:World}{K:ja}{mg:Str->Option Gg}{base:Heap}{A:Around}{outer:List Env}{s:Gh}{H F:Hp}{x:Str}{fr:List Str}{scope:Scope}{cl:List (Str×Gj)}{cs:List Gj}{ds:List D}{q:Str}{f:Gj}{cd:Gg}
theorem zB1 (S:wV x fr scope)(hd:A.handled=Gb)(e0:wC P w K mg base A outer s H)(g:iP F H)(cP:yk K F fr ds cl cs){u:Gg}{v:V}(ru:lO v u){vs:List V}(hvs:vs.length=ds.length)
  (hv:∀ (j:Nat) (y:Str) (v:V),fr[j]?=Ga y->vs[j]?=Ga v->∃ c o u,cl.lookup y=Ga c/\F c=Ga (.frz o (.own c))/\o.data=.cell (Ga u)/\lO v u)
  {h1:Heap} {tk:Nat} (hns:h1.Ns s.heap.objs.size (λy=>[(x,u)].reverse.lookup y)) (hk:∀ b o,s.heap.get? b=Ga o->h1.get? b=Ga o) :
  iZ (zB P w K mg base (x::fr) q scope f cd cl A outer s (T3.butC H cs)) [] (Ga v::vs.map Ga) (T3.butC H cs) { s with heap:=h1,toks:=tk }:=by
 have mH:nK H cs:=cP.cells.mono g;have noA:∀ b:Gj,b∉(zB P w K mg base (x::fr) q scope f cd cl A outer s (T3.butC H cs)).ex:=λb z=>absurd (show b∈([]:List Gj) from z) (by simp);have cell:∀ y c,cl.lookup y=Ga c->∃ v,h1.IsCell c v:=λy c e=>by
  obtain⟨o,v,h2,h3⟩:=mH c (cP.all y c e);exact⟨v,o,hk _ _ (e0.hok c _ h2).1,h3⟩
 refine⟨⟨e0.mod,S.kind,rfl,rfl,jj _,λy z c h1 h2=>cP.inj y z c h1 h2,λy hy=>?_,λy c hf _=>(by cases hf),λ_=>hd,Jn e0.frames,.inr ⟨rfl,rfl⟩,λb z=>absurd z (noA b),λb o e=>?_,e0.bsz,λb _ _=>noA b,λb z=>absurd z (noA b),e0.funs,λb hb=>?_⟩,
  rfl,e0.bare,Un.kept hk,⟨_,hns,λi y v' e1 e2 e3=>?_⟩,λy c h=>cell y c h,?_,λy c h=>?_,λp hp=>absurd (show p∈([]:List (Gj×Obj)) from hp) (by simp),L2.HOk.kept (T3.HOk.butC mH e0.hok) hk,?_⟩
 .have hy:scope.names.lookup y=Ga .cell\/scope.names.lookup y=Ga .free:=hy;rcases hy with hy|hy
  .exact absurd rfl (S.nocell _ (kI hy))
  .exact cP.has y (S.free _ (kI hy) rfl)
 .obtain⟨h2,h3⟩:=e0.bs b o e;exact⟨h2,by
   show T3.butC H cs b=Gb;by_cases hb:b∈cs
   .exact Bz hb
   .rw[pH hb];exact h3⟩
 .show T3.butC H cs b=Gb;by_cases hc:b∈cs
  .exact Bz hc
  .rw[pH hc];exact e0.frf b hb
 .cases i with
  | zero =>
   have e1:Ga x=Ga y:=e1;cases e1;have e2:Ga (Ga v)=Ga (Ga v'):=e2;cases e2;refine⟨u,ru,.inl ⟨S.par,?_⟩⟩;simp
  | succ j =>
   have e1:(x::fr)[j+1]?=Ga y:=e1;have e1:fr[j]?=Ga y:=by rw[vM] at e1;exact e1
   have e2:(Ga v::vs.map Ga)[j+1]?=Ga (Ga v'):=e2;rw[vM] at e2;rw[jA] at e2;cases z:vs[j]? with
   | none=>rw[z] at e2;cases e2
   | some v2 =>
    rw[z] at e2;cases e2;obtain⟨c,o,u2,h2,h3,h4,h5⟩:=hv j y _ e1 z;refine⟨u2,h5,.inr ⟨.inr (S.frf y (kE e1)),c,h2,o,hk _ _ (e0.hok c _ (g _ _ h3)).1,h4⟩⟩
 .have n:=e0.hok.fresh (jj s.heap.objs.size);show T3.butC H cs s.heap.objs.size=Gb;by_cases hc:s.heap.objs.size∈cs
  .exact Bz hc
  .rw[pH hc];exact n
 .exact Bz (cP.all y c h)
 .show(Ga v::vs.map Ga).length=(x::fr).length;rw[jM,jc,jM,hvs,cP.len]
end
theorem SS {K:ja}{F:Hp}{cl:List (Str×Gj)}{cs:List Gj}:∀ {fr:List Str} {ds:List D},ds.length=fr.length->(∀ (j:Nat) (y:Str) (d:D),fr[j]?=Ga y->ds[j]?=Ga d->∃ c o u v,cl.lookup y=Ga c/\c∈cs/\F c=Ga (.frz o (.own c))/\o.data=.cell (Ga u)/\lO v u/\md K F d v) ->
  ∃ vs:List V,vs.length=ds.length/\ly K F ds vs/\∀ (j:Nat) (y:Str) (v:V),fr[j]?=Ga y->vs[j]?=Ga v->∃ c o u,cl.lookup y=Ga c/\F c=Ga (.frz o (.own c))/\o.data=.cell (Ga u)/\lO v u
 | [],[],_,_=>⟨[],rfl,.nil,λj y v h _=>by simp at h⟩
 | [],_::_,h,_=>by simp at h
 | _::_,[],h,_=>by simp at h
 | y::fr,d::ds,h,hl=>by
  obtain⟨vs,h1,h2,h3⟩:=SS (fr:=fr) (ds:=ds) (by simpa using h) λj y d e1 e2=>hl (j+1) y d (by simpa using e1) (by simpa using e2);obtain⟨c,o,u,v,e1,e2,e3,e4,e5,e6⟩:=hl 0 y d rfl rfl;refine⟨v::vs,by simpa using h1,.cons e6 h2,λj z v' q1 q2=>?_⟩;cases j with
  | zero =>
   have q1:Ga y=Ga z:=q1;have q2:Ga v=Ga v':=q2;cases q1;cases q2;exact⟨c,o,u,e1,e3,e4,e5⟩
  | succ j=>exact h3 j z v' (by simpa using q1) (by simpa using q2)
theorem RS.vals {K:ja}{F H:Hp}(g:iP F H):∀ {ds:List D} {vs:List V},ly K F ds vs->RS K H F H (ds.map Sl.val) (vs.map Ga):=λ{ds vs} r=>by
 refine⟨.refl _,g,λi s e=>?_,λi j a s t o1 o2 e1=>?_⟩
 .rw[jA] at e;cases z:ds[i]? with
  | none=>rw[z] at e;cases e
  | some d =>
   rw[z] at e;cases e;obtain⟨v,h1,h2⟩:=r.get z;exact⟨Ga v,by rw[jA,h1];rfl,v,rfl,h2⟩
 .rw[jA] at e1;cases z:ds[i]? with
  | none=>rw[z] at e1;cases e1
  | some d=>rw[z] at e1;cases e1;cases o1
theorem zB2 {F:Hp}{cs:List Gj}{l:List Gg}(g:mJ (butC F cs) l):mJ F l:=g.sub λc o h=>(Gm h).2
theorem iP.butC2 {F H:Hp}{cs:List Gj}(m:nK H cs)(s:iP F H):iP (T3.butC F cs) (T3.butC H cs):=λb o h=>by
 obtain⟨hb,h⟩:=Gm h;rw[pH hb];exact((s b o h).from λ_ z=>zB2 z).to λ_ z=>OK m z
section
variable {P:Program}{w:World}{K:ja}{mg:Str->Option Gg}{base:Heap}{A:Around}{outer:List Env}{s:Gh}{H F:Hp}{x:Str}{fr:List Str}{scope:Scope}{ds:List D}{f:Gj}
theorem WW {k:Nat}{params:Arguments}{body:Expr}{fb:FV}(S:wV x fr scope)
  (hbind:∀ (name qual:Str) (cl:List (Str×Gj)) (pm:Gg) (c:Gj) (ctv u:Gg),bindArgs (qq name qual params body scope cl pm (.ref c) ctv) ⟨[u],[]⟩=pure [(x,u)])
  (hb:∀ (qual:Str) (f:Gj) (cd:Gg) (cl:List (Str×Gj)) (A:Around) (outer:List Env) (s:Gh) (H:Hp),nv k (A.deeper (vx qual scope s.heap.objs.size f cd cl))->PV (zB P w K mg base (x::fr) qual scope f cd cl A outer s H) body fb)
  (hC:(Fy K params body scope fr ds).C f F H) {u:Gg} {v:V} {d r:D} {Q:VK} (hr:nv (k+1) A) (e0:wC P w K mg base A outer s H) (g:iP F H) (ru:lO v u) (rv:md K F d v) (e:fb (.val d::ds.map .val)=Ga r)
  (hq:∀ v' H' F',iP H H'->iP F F'->iP F' H'->mz F F' H->md K F' r v'->Q v' H') :
  codeAny (model P w) A (.call (.ref f) ⟨[u],[]⟩) (CR lK outer P w H s Q E0) s:=by
 obtain⟨name,qual,cl,pm,c,ctv,cs,o,vs0,qt,hf,hc,hod,hv1,cP⟩:=hC;have of_:s.heap.get? f=Ga (uf name qual params body scope cl pm c ctv):=(e0.hok f _ (g _ _ hf)).1;have oc:s.heap.get? c=Ga o:=(e0.hok c _ hc).1;have lim:s.heap.NoLimit:=e0.mod.nolimit.keeps λb o e=>(e0.bs b o e).1;have mF:=cP.cells;have mH:nK H cs:=cP.cells.mono g;have nfr:∀ c∈cs,c∉tw outer:=λc hc hz=>by
  obtain⟨o',v',h1,_⟩:=mH c hc;rw[e0.frf c hz] at h1;cases h1
 refine codeAny_of_tree ?_;show wpAny _ A.in1 (callAny (.ref f) _) _ _ s;simp only[callAny];refine iK (wpAny_load of_ ?_);simp only[callFunction,S.co,S.gen];refine iK (m:=field (.ref c) 1) (wpAny_field oc hod hv1 (iK (iL ?_)));rw[hbind];refine iK (iL ?_);refine iK (wpAny_newFunctionEnv S.nocell (by intro y hy;rw[jo.mp hy];exact S.par) (λh1 hns hsb=>?_) S.kind);have hk:∀ b o,s.heap.get? b=Ga o->h1.get? b=Ga o:=λb o e=>hsb.extBut b o (jJ (jt e)) (je _ e);refine iK (wpAny_enterFrame (lim.keeps hk) hr.depth (iL (And.intro rfl ?_)));show codeAny _ _ (.expr body (vx qt.1 scope s.heap.objs.size f (.ref c) cl)) _ _;obtain⟨vs,hvs,rvs,hv⟩:=SS cP.len cP.look;have I:=zB1 (q:=qt.1) (f:=f) (cd:=.ref c) S hr.hd e0 g cP ru hvs hv (tk:=s.toks+1) hns hk;refine PySem.W.kla_codeExpr (wpAny_mono (hb qt.1 f (.ref c) cl A outer s (T3.butC H cs) (hr.deeper _) [] _ _ _ (λv' H'=>(∀ c∈cs,H' c=Gb)->Q v' (T3.putC H H' cs)) I ?_) (λu' s' h=>?_) λe' s' h=>h.elim)
 .refine⟨T3.butC H cs,T3.butC F cs,.val d::ds.map .val,r,RS.vals (g.butC2 mH) (ds:=d::ds) (vs:=v::vs) (.cons (rv.butC mF) (rvs.butC mF)),e,λv' H' F' g1 f1 fh1 n1 rv' n=>?_⟩;have nF:∀ c∈cs,F' c=Gb:=λc hc=>fh1.free (n c hc);refine hq v' _ (T3.putC F F' cs) (g1.withC mH n) (f1.withC mF nF) (fh1.withC2 mF (λc hc=>?_) nF n) (λb o h nb=>?_) (rv'.mono (iP.of (EZ nF)))
  .obtain⟨o',v2,h2,_⟩:=mF c hc;rw[h2];exact(g _ _ h2).symm
  .have hb:b∉cs:=λz=>by obtain⟨o',v2,h2,_⟩:=mF b z;rw[nb] at h2;cases h2
   rw[yG hb] at h;have:=n1 b o h (by rw[pH hb];exact nb);rw[pH hb] at this;exact this
 .obtain⟨v',H',J,rel,qb⟩:=h;have n:∀ c∈cs,H' c=Gb:=λc hc=>by
   obtain⟨y,hy⟩:=cP.only c hc;exact J.freeC y c hy
  have J':Un (tw outer) [] (T3.butC H cs) H' s.heap s'.heap:=J.base;exact⟨v',T3.putC H H' cs,J.os,J.bare,T3.Un.putC mH J' n,T3.HOk.putC (h:=s.heap) mH J.hok n (λc hc o v h1 h2=>J'.keep c o (e0.hok c _ h1).1 (Bz hc) (nfr c hc) (by simp)),rel,qb n⟩
end
structure oP (P:Program)(w:World)(K:ja)(mg:Str->Option Gg)(base:Heap)(k:Nat)(c:lN)(φ:D->Option D):Prop where
 obj:∀ f F H h,c.C f F H->iP F H->HOk P w H h->∃ o fd,h.get? f=Ga o/\o.data=.func fd
 run:∀ (f:Gj) (F H:Hp) (A:Around) (outer:List Env) (s:Gh) (u:Gg) (v:V) (d r:D) (Q:VK),c.C f F H->nv k A->wC P w K mg base A outer s H->iP F H->lO v u->md K F d v->φ d=Ga r ->
  (∀ v' H' F',iP H H'->iP F F'->iP F' H'->mz F F' H->md K F' r v'->Q v' H')->codeAny (model P w) A (.call (.ref f) ⟨[u],[]⟩) (CR lK outer P w H s Q E0) s
theorem oP.mono {P:Program}{w:World}{K:ja}{mg:Str->Option Gg}{base:Heap}{j k:Nat}{c:lN}{φ:D->Option D}(x:oP P w K mg base j c φ)(h:j<=k):oP P w K mg base k c φ :=
 ⟨x.obj,λf F H A outer s u v d r Q hC hr=>x.run f F H A outer s u v d r Q hC (hr.mono h)⟩
theorem zvB {P:Program}{w:World}{K:ja}{mg:Str->Option Gg}{base:Heap}{x:Str}{fr:List Str}{scope:Scope}{ds:List D}{k:Nat}{params:Arguments}{body:Expr}{fb:FV}(S:wV x fr scope)
  (hbind:∀ (name qual:Str) (cl:List (Str×Gj)) (pm:Gg) (c:Gj) (ctv u:Gg),bindArgs (qq name qual params body scope cl pm (.ref c) ctv) ⟨[u],[]⟩=pure [(x,u)])
  (hb:∀ (qual:Str) (f:Gj) (cd:Gg) (cl:List (Str×Gj)) (A:Around) (outer:List Env) (s:Gh) (H:Hp),nv k (A.deeper (vx qual scope s.heap.objs.size f cd cl))->PV (zB P w K mg base (x::fr) qual scope f cd cl A outer s H) body fb) :
  oP P w K mg base (k+1) (Fy K params body scope fr ds) λd=>fb (.val d::ds.map .val) where
 obj:=λf F H h ⟨name,qual,cl,pm,c,ctv,cs,o,vs,qt,hf,_⟩ g hok=>⟨_,_,(hok f _ (g _ _ hf)).1,rfl⟩
 run:=λf F H A outer s u v d r Q hC hr e0 g ru rv e hq=>WW S hbind hb hC hr e0 g ru rv e hq
open Classical in
noncomputable def rK (i:Nat)(c:lN)(φ:D->Option D)(f:FV):FV:=λψ=>if ψ[i]?=Ga (.fn c) then(f ψ).bind φ else Gb
section
variable {X:Cx}{pos p:Pos}{k:Nat}{c:lN}{φ:D->Option D}
theorem TY (i:Nat){y:Str}{ex:Expr}{f:FV}(hC:oP X.prog X.w X.K X.mg X.base k c φ)(hr:nv k X.A)(ha:PV X ex f)(hN:X.N[i]?=Ga y:=by rfl)(hv:xR X.env.scope y:=by first|exact uu rfl|exact kS (uu rfl)|exact kS (kS rfl))
  (hd:(y==("__debug__":Str))=false:=by decide) (hcd:(y==("__classdict__":Str))=false:=by decide) (hs:starEach [ex] X.env=[(false,eval ex X.env)]:=by rfl):PV X (.Call (.Name y p) [ex] [] pos) (rK i c φ f):=by
 intro ω s σ H Q I h;obtain⟨H0,F,ψ,d,r,e,q⟩:=h;unfold rK at e;split at e;rotate_left
 .cases e
 rename_i hi;obtain⟨d1,e1,e2⟩:=iO e;obtain⟨u,e3,g,e4,hg⟩:=r.sl i _ hi;subst e4;refine wpAny_Call_Name_kw (lZ (su (pos:=p) hN hv hd hcd ω s σ H (λv H1=>v=.ref g/\H1=H) I ⟨.ref g,e3,rfl,rfl⟩) λu1 s1 ⟨v1,H1,I1,rel,z1,z2⟩=>?_);subst z1;subst z2;obtain rfl:u1=kY g:=rel;refine PySem.W.callWith_of (P:=λh=>∃ o fd,h.get? g=Ga o/\o.data=.func fd) (by rw[hs];rfl) (λh ⟨o,fd,h1,h2⟩=>⟨.frame,.inl rfl,?_⟩) ?_
 .obtain⟨cl0,dc0,dt0,sl0⟩:=o;have h2:dt0=.func fd:=h2;subst h2;exact(PySem.W.Looks.ld (part:=Gb) h1).andThen .now
 .have hp:PA X [ex] (GY (tV X.K f) Nr):=nL ha pM hs;rw[hs];refine vd ?_;have hw:=hp pos ω s1 σ H1 (λvs H2=>∃ v F2,vs=[v]/\iP H1 H2/\iP F F2/\iP F2 H2/\mz F F2 H1/\md X.K F2 d1 v) I1 ⟨H0,F,ψ,d1,r,e1,λv H2 F2 g2 f2 fh2 n2 rv=>⟨v,F2,rfl,g2,f2,fh2,n2,rv⟩⟩;rw[hs] at hw;refine lZ hw λus s2 ⟨vs,H2,I2,rvs,v,F2,z,g2,f2,fh2,n2,rv⟩=>?_;subst z;cases rvs with
  | cons ru rn =>
   cases rn;have hg2:=c.mono g F F2 H1 H2 f2 g2.fz hg;refine⟨hC.obj g F2 H2 _ hg2 fh2 I2.hok,?_⟩;refine wpAny_call (codeAny_mono (hC.run g F2 H2 X.A X.stack s2 _ v d1 d Q hg2 hr I2.env0 fh2 ru rv e2 λv' H' F' g3 f3 fh3 n3 rv3=>q v' H' F' (g2.trans g3) (f2.trans f3) fh3 (n2.trans n3 g2) rv3) λr s' hq=>?_);cases r with
   | error e=>exact hq.elim
   | ok fl =>
    cases fl with
    | ret u=>exact I2.after hq
    | next=>exact False.elim hq
    | brk=>exact False.elim hq
    | cont=>exact False.elim hq
end
def xJ (K:ja)(p:Nat)(c:lN)(fm:List D->Option D):Sp:=λvs H Q _=>∃ (F:Hp) (g:Gj) (us:List V) (ds:List D) (d:D),vs=us.take p++.ref g::us.drop p/\c.C g F H/\iP F H/\ly K F ds us/\fm ds=Ga d /\
 ∀ v H' F',iP H H'->iP F F'->iP F' H'->mz F F' H->md K F' d v->Q v H'
def startP (c:lN):Nat->Nat->List D->En
 | 0,n,ds=>.fn c::pU (n-1) ds
 | p+1,n,d::ds=>.val d::startP c p (n-1) ds
 | _+1,_,[]=>[]
def vk (p np n:Nat)(c:lN)(g:FS)(ds:List D):Option D:=if ds.length+1=np then lq (g (startP c p n ds)) else Gb
theorem RS.cons {K:ja}{H0 F H:Hp}{ψ:En}{σ:St}(r:RS K H0 F H ψ σ){s:Sl}{u:Option V}(q:sv K H0 F H s u)(o:pI s=false):RS K H0 F H (s::ψ) (u::σ):=by
 refine⟨r.h0,r.fh,λi t e=>?_,λi j a t1 t2 o1 o2 e1 e2 e3 e4=>?_⟩
 .cases i with
  | zero=>cases e;exact⟨u,rfl,q⟩
  | succ i=>exact r.sl i t e
 .cases i with
  | zero=>cases e1;rw[o] at o1;cases o1
  | succ i =>
   cases j with
   | zero=>cases e2;rw[o] at o2;cases o2
   | succ j=>rw[r.ap i j a t1 t2 o1 o2 e1 e2 e3 e4]
theorem Ub {N:List Str}{v:V}{us:List V}:L2.start N (v::us)=Ga v::L2.start N.tail us:=by
 unfold L2.start;rw[jK,J5,jM,ko]
 congr 3
 omega
theorem RS.startP {K:ja}{F H:Hp}{c:lN}{g:Gj}(h:iP F H)(q:c.C g F H):∀ (p:Nat) {N:List Str} {ds:List D} {us:List V},ly K F ds us->p<=ds.length->RS K H F H (T3.startP c p N.length ds) (L2.start N (us.take p++.ref g::us.drop p))
 | 0,N,ds,us,r,_=>by
  show RS K H F H (.fn c::pU (N.length-1) ds) (L2.start N (.ref g::us));rw[Ub,show N.length-1=N.tail.length by rw[ko]];exact(RS.start (N:=N.tail) h r).cons ⟨g,rfl,q⟩ rfl
 | p+1,N,_,_,.cons (d:=d) (v:=v) hd t,hp=>by
  show RS K H F H (.val d::T3.startP c p (N.length-1) _) (L2.start N (v::_));rw[Ub,show N.length-1=N.tail.length by rw[ko]];exact(RS.startP h q p (N:=N.tail) t (Nat.le_of_succ_le_succ hp)).cons ⟨v,rfl,hd⟩ rfl
theorem zB4 {α:Type}(p:Nat)(x:α)(us:List α):(us.take p++x::us.drop p).length=us.length+1:=by
 rw[jg,jM,<- Nat.add_assoc,<- jg,List.take_append_drop]
section
variable {P:Program}{w:World}{K:ja}{mg:Str->Option Gg}{base:Heap}{x qual:Str}{st:Stmt}{f:Gj}{fd:Gi}{N ps:List Str}{k p:Nat}{g:FS}{c:lN}
theorem yE (F:wI K x qual st f fd)(S:lg N ps (iT st))(hp:p<ps.length)
  (hb:∀ (cdv:Gg) (A:Around) (outer:List Env) (s:Gh) (H:Hp) (E:XK),nv k (A.deeper (envOfC qual (iT st) s.heap.objs.size f cdv))->rQ (sL lK P w K mg base N qual (iT st) f cdv A outer s H E).nox (nQ st) g) :
  lz P w K mg base lK (k+1) f fd ps (xJ K p c (vk p ps.length N.length c g)):=by
 have hr0:∀ {ds:List D} {d:D},vk p ps.length N.length c g ds=Ga d->ds.length+1=ps.length/\(g (startP c p N.length ds)=Ga (.rt d)\/∃ xs,d=.list xs/\g (startP c p N.length ds)=Ga (.ro xs)):=λ{ds d} h=>by
  unfold vk at h;split at h
  .rename_i z;refine⟨z,?_⟩;unfold lq at h;split at h
   .rename_i e;cases h;exact .inl e
   .rename_i e;cases h;exact .inr ⟨_,rfl,e⟩
   .cases h
  .cases h
 refine F.ok S (λvs H Q E h=>?_) (λcdv A outer s H vs Q E hr h=>?_)
 .obtain⟨F0,g0,us,ds,d,rfl,_,_,r,e,_⟩:=h;rw[zB4,<- r.length];exact(hr0 e).1
 .obtain⟨F0,g0,us,ds,d,rfl,hC,hs,r,e,q⟩:=h;have hp2:p<=ds.length:=by have:=(hr0 e).1;omega
  rcases(hr0 e).2 with z|⟨xs,rfl,z⟩
  .exact⟨_,hb cdv A outer s H E hr,H,F0,_,_,RS.startP hs hC p r hp2,z,λv H' F' g1 f1 fh1 n1 rv=>q v H' F' g1 f1 fh1 n1 rv⟩
  .refine⟨_,hb cdv A outer s H E hr,H,F0,_,_,RS.startP hs hC p r hp2,z,λa ys H' F' g1 f1 fh1 n1 ha fa ha' rr=>?_⟩;have sF:iP F' (upd F' a (.lst ys)):=iP.new fa;refine q (.ref a) H' (upd F' a (.lst ys)) g1 (f1.trans sF) (iP.upL fh1 ha' trivial) (λb o h nb=>?_) (.lst (nr.of lB) (rr.mono sF));by_cases hb:b=a
   .subst hb;exact ha
   .rw[ls hb] at h;exact n1 b o h nb
end
open Classical in
noncomputable def mY (i:Nat)(c:lN)(fm:List D->Option D)(g:FL):FV:=λψ=>if ψ[i]?=Ga (.fn c) then(g ψ).bind fm else Gb
section
variable {X:Cx}{k:Nat}{f:Gj}{fd:Gi}{ps:List Str}{x:Str}{p pos:Pos}{es:List Expr}{g:FL}{c:lN}
theorem zv (i:Nat){y:Str}{py:Pos}{fm:List D->Option D}(F:lz X.prog X.w X.K X.mg X.base lK k f fd ps (xJ X.K 0 c fm))(hr:nv k X.A)(hm:X.mg x=Ga (.ref f))(hk:ur X.K (.ref f)=true)(hb:sO X.K fd ps [])(ha:PL X es g)(hg:Gl X x:=by rfl)
  (hN:X.N[i]?=Ga y:=by rfl) (hv:xR X.env.scope y:=by first|exact uu rfl|exact kS (uu rfl)|exact kS (kS rfl)) (hd:(y==("__debug__":Str))=false:=by decide) (hcd:(y==("__classdict__":Str))=false:=by decide)
  (hdb:(x==("__debug__":Str))=false:=by decide) (he:starEach (.Name y py::es) X.env=(false,eval (.Name y py) X.env)::starEach es X.env:=by rfl) (hpl:(backTo pos (starEach es X.env)).any (·.1)=false:=by rfl) :
  PV X (.Call (.Name x p) (.Name y py::es) [] pos) (mY i c fm g):=by
 refine oh (zM F hr hg hm hk hb .nil DK (nL (su (pos:=py) hN hv hd hcd) ha.pa he) hdb he hpl) λσ H Q=>?_;rintro⟨H0,F,ψ,d,r,e,q⟩;unfold mY at e;split at e;rotate_left
 .cases e
 rename_i hi;obtain⟨ds,e1,e2⟩:=iO e;obtain⟨u,e3,h,e4,hh⟩:=r.sl i _ hi;subst e4;refine⟨.ref h,e3,H0,F,ψ,ds,r,e1,λvs H1 F1 g1 f1 fh1 n1 rv=>⟨F1,h,vs,ds,d,by rw[kz];rfl,c.mono _ _ _ _ _ f1 g1.fz hh,fh1,rv,e2,λv H2 F2 g2 f2 fh2 n2 rv2=>?_⟩⟩;exact q v H2 F2 (g1.trans g2) (f1.trans f2) fh2 (n1.trans n2 g1) rv2
end
def zS (P:Program)(w:World)(K:ja)(mg:Str->Option Gg)(base:Heap)(k:Nat)(φ:D->Option D):lN where
 C:=λf F H=>∀ F' H',iP F F'->Fz H H'->iP F' H'->(∀ h,HOk P w H' h->∃ o fd,h.get? f=Ga o/\o.data=.func fd) /\
  ∀ (A:Around) (outer:List Env) (s:Gh) (u:Gg) (v:V) (d r:D) (Q:VK),nv k A->wC P w K mg base A outer s H'->lO v u->md K F' d v->φ d=Ga r ->
   (∀ v' H2 F2,iP H' H2->iP F' F2->iP F2 H2->mz F' F2 H'->md K F2 r v'->Q v' H2)->codeAny (model P w) A (.call (.ref f) ⟨[u],[]⟩) (CR lK outer P w H' s Q E0) s
 mono:=λf F F' H H' s z h F2 H2 s2 z2=>h F2 H2 (s.trans s2) λb x q=>z2 b x (z b x q)
theorem LP (P:Program)(w:World)(K:ja)(mg:Str->Option Gg)(base:Heap)(k:Nat)(φ:D->Option D):oP P w K mg base k (zS P w K mg base k φ) φ where
 obj:=λf F H h hC g hok=>(hC F H (.refl _) (λ_ _ q=>q) g).1 h hok
 run:=λf F H A outer s u v d r Q hC hr e0 g ru rv e hq=>(hC F H (.refl _) (λ_ _ q=>q) g).2 A outer s u v d r Q hr e0 ru rv e hq
theorem zzQ {P:Program}{w:World}{K:ja}{mg:Str->Option Gg}{base:Heap}{k:Nat}{φ:D->Option D}{c:lN}(x:oP P w K mg base k c φ){f:Gj}{F H:Hp}(h:c.C f F H):(zS P w K mg base k φ).C f F H:=λF' H' s z g =>
 have h':=c.mono f F F' H H' s z h
 ⟨λhp hok=>x.obj f F' H' hp h' g hok,λA outer st u v d r Q hr e0 ru rv e hq=>x.run f F' H' A outer st u v d r Q h' hr e0 g ru rv e hq⟩
structure Ez (X:Cx)(c0 P:Gj):Prop where
 code:X.env.code=.ref c0
 hd:∀ h,X.K.In h->PySem.W.CodeHd h c0 P
 bm:∃ bm o,X.mg "__builtins__"=Ga (.ref bm)/\bm≠builtinsNs/\bm≠mainGlobals/\X.K.lookup bm=Ga o/\o.cls=.type "module"/\o.dict=Ga builtinsNs/\o.data=.plain
structure IR (params:Arguments)(body:Expr)(scope:Scope)(cl:List (Str×Gj))(H:Hp)(f:Gj)(H':Hp):Prop where
 same:iP H H'
 new:H f=Gb
 ex:∃ name qual pm c ctv o vs,∃ v:Str×Tok,H' f=Ga (.ext (pX f (uf name qual params body scope cl pm c ctv)))/\H' c=Ga (.frz o (.own c))/\o.data=.fields vs/\vs[1]?=Ga (.str v.1 v.2)
def Wq (ψ:Env)(fr:List Str)(params:Arguments)(body:Expr)(scope:Scope)(P:Gj):TE:=λ_ H Q=>∃ ps,H P=Ga (.tbl ps)/\mJ H ps.toList /\
 ∀ f cl H',IR params body scope cl H f H'->(∀ y a,cl.lookup y=Ga a->ψ.cells.lookup y=Ga a)->(∀ y∈fr,∃ a,cl.lookup y=Ga a)->Q (.ref f) H'
theorem zqC {pos:Pos}{l m:List Gg}(t:TriplesOk l):codeAmong pos (l++m)=(codeAmong pos l).or (codeAmong pos m):=by
 fun_induction TriplesOk l with
 | case1=>simp[codeAmong]
 | case2 a b c d e rest ih =>
  simp only[J5,codeAmong];split
  .rfl
  .exact ih t
 | case3=>cases t
theorem zs5 {l m:List Gg}(t:TriplesOk l)(u:TriplesOk m):TriplesOk (l++m):=by
 fun_induction TriplesOk l with
 | case1=>exact u
 | case2 a b c d e rest ih=>exact ih t
 | case3=>cases t
theorem iP.tbl {H:Hp}{P:Gj}{ps qs:Array Gg}(hP:H P=Ga (.tbl ps))(g:mJ H ps.toList->mJ (upd H P (.tbl qs)) qs.toList):iP H (upd H P (.tbl qs)):=λb o h=>by
 by_cases hb:b=P
 .subst hb;rw[hP] at h;cases h;rw[lB];exact⟨qs,rfl,g⟩
 .rw[ls hb];exact .of h λl z=>z.updG λx u q=>by rw[hP] at q;cases q
theorem zxC {H:Hp}{P c:Gj}{ps:Array Gg}{pos:Pos}{o:Obj}{vs:Array Gg}{v:Str×Tok}(hP:H P=Ga (.tbl ps))(hc:H c=Ga (.frz o (.own c)))(h1:o.data=.fields vs)(h2:vs[1]?=Ga (.str v.1 v.2))(g:mJ H ps.toList) :
  mJ (upd H P (.tbl (ps++#[rawInt pos.line,rawInt pos.col,.ref c]))) (ps++#[rawInt pos.line,rawInt pos.col,.ref c]).toList:=by
 have ne:c≠P:=λz=>by subst z;rw[hP] at hc;cases hc
 have e:(ps++#[rawInt pos.line,rawInt pos.col,kY c]).toList=ps.toList++[rawInt pos.line,rawInt pos.col,kY c]:=by simp
 rw[e];refine⟨zs5 g.1 trivial,λp cv hcv=>?_⟩;rw[zqC g.1] at hcv;cases z:codeAmong p ps.toList with
 | some cv' =>
  rw[z] at hcv;cases hcv;obtain⟨c2,o2,vs2,v2,e1,e2,e3⟩:=g.2 p _ z;exact⟨c2,o2,vs2,v2,e1,by rw[ls (λq=>by subst q;rw[hP] at e2;cases e2)];exact e2,e3⟩
 | none =>
  rw[z] at hcv;have hcv:codeAmong p [rawInt pos.line,rawInt pos.col,kY c]=Ga cv:=hcv;unfold rawInt codeAmong at hcv;split at hcv
  .cases hcv;exact⟨c,o,vs,v,rfl,by rw[ls ne];exact hc,h1,h2⟩
  .unfold codeAmong at hcv;cases hcv
section
variable {X:Cx}{c0 P:Gj}{fr:List Str}{params:Arguments}{body:Expr}{scope:Scope}{lpos:Pos}
theorem zDY (L:Ez X c0 P)(outs:∀ y∈scope.names,y.2=.free->X.env.scope.names.lookup y.1=Ga .cell\/X.env.scope.names.lookup y.1=Ga .free)(hfr:∀ y∈fr,(y,j6)∈scope.names)
  (hdef:defaultsOf params X.env=([],[]):=by rfl):PE X (.Lambda params body scope lpos) (Wq X.env fr params body scope P):=by
 intro ω s σ H Q I h;obtain⟨ps,hP,gt,q⟩:=h;refine PySem.W.kla_eval hdef ?_;obtain⟨cl,ecl,c1,c2,_⟩:=Hc (ψ:=X.env) scope.names [] (λy hy hf=>I.ok.has y.1 (outs y hy hf)) (λx c h=>by simp at h);have hcl:closureFor scope X.env=pure cl:=by rw[Uc,ecl];rfl
 have hPo:s.heap.get? P=Ga (Jr ps):=I.hok P _ hP;have C:=L.hd _ I.kIn;have hg:=I.mod.glob.keeps I.bk;have nb:∀ b o,X.base.get? b=Ga o->b≠P:=λb o e z=>by subst z;rw[(I.bs b o e).2] at hP;cases hP
 have hgP:mainGlobals≠P:=by obtain⟨o,es,ep,e,_⟩:=I.mod.glob;exact nb _ o e
 have hbm:s.heap.BuiltinsAt X.mg P:=by
  obtain⟨bm,o,b1,b2,b3,b4,b5⟩:=L.bm;have b6:=I.mod.kin bm o b4;exact⟨bm,o,b1,b2,b3,nb bm o b6,I.bk bm o b6,b5⟩
 have lt:∀ b o,H b=Ga o->b<s.heap.objs.size:=λb o e=>I.hok.lt e;cases hc:codeAmong lpos ps.toList with
 | none =>
  refine PySem.W.kla_makeFunction hcl I.ok.glob hg L.code C hPo gt.1 hc hgP hbm (λc' ctv h' tk hx hge hlt hrec htb=>?_);obtain⟨c2',oc,vs,t,e2,hoc,hd,hv⟩:=hrec;cases e2;generalize hob:uf ("<lambda>":Str) (X.env.qual++"<lambda>") params body scope cl ((X.mg "__name__").getD .none) c' ctv=ob;have nP:∀ b,H b=Gb->b≠P:=λb e z=>by subst z;rw[hP] at e;cases e
  have ltc:∀ b,b<s.heap.objs.size->b≠c':=λb h=>jJ (jz h hge);have ltf:∀ b,b<s.heap.objs.size->b≠h'.objs.size:=λb h=>jJ (jz h (jk hge (uA hlt)));have Pc:P≠c':=ltc P (lt P _ hP);have Pf:P≠h'.objs.size:=ltf P (lt P _ hP);have cf:c'≠h'.objs.size:=jJ hlt;have nc:H c'=Gb:=I.hok.fresh hge;have nf:H h'.objs.size=Gb:=I.hok.fresh (jk hge (uA hlt));have keep:∀ b o,b≠P->s.heap.get? b=Ga o->(h'.push ob).get? b=Ga o:=λb o ne e=>je _ (hx b o ne e);have H1e:∀ b o,b≠P->H b=Ga o->(upd (upd (upd H c' (.frz oc (.own c'))) P (.tbl (ps++#[rawInt lpos.line,rawInt lpos.col,.ref c']))) h'.objs.size (.ext (pX h'.objs.size ob))) b=Ga o:=λb o ne e=>by
   have:=lt b o e;rw[ls (ltf b this),ls ne,ls (ltc b this)];exact e
  have sa:iP H (upd H c' (.frz oc (.own c'))):=iP.new nc;have hPa:(upd H c' (.frz oc (.own c'))) P=Ga (.tbl ps):=by rw[ls Pc];exact hP
  have sb:iP (upd H c' (.frz oc (.own c'))) (upd (upd H c' (.frz oc (.own c'))) P (.tbl (ps++#[rawInt lpos.line,rawInt lpos.col,.ref c']))):=iP.tbl hPa λg=>zxC hPa lB hd (v:=(_,_)) hv g;have nfb:(upd (upd H c' (.frz oc (.own c'))) P (.tbl (ps++#[rawInt lpos.line,rawInt lpos.col,.ref c']))) h'.objs.size=Gb:=by rw[ls (ug Pf),ls (ug cf)];exact nf
  have sc:iP _ (upd (upd (upd H c' (.frz oc (.own c'))) P (.tbl (ps++#[rawInt lpos.line,rawInt lpos.col,.ref c']))) h'.objs.size (.ext (pX h'.objs.size ob))):=iP.new nfb;have same:=sa.trans (sb.trans sc);have H1P:(upd (upd (upd H c' (.frz oc (.own c'))) P (.tbl (ps++#[rawInt lpos.line,rawInt lpos.col,.ref c']))) h'.objs.size (.ext (pX h'.objs.size ob))) P=Ga (.tbl (ps++#[rawInt lpos.line,rawInt lpos.col,.ref c'])):=by rw[ls Pf,lB]
  have H1c:(upd (upd (upd H c' (.frz oc (.own c'))) P (.tbl (ps++#[rawInt lpos.line,rawInt lpos.col,.ref c']))) h'.objs.size (.ext (pX h'.objs.size ob))) c'=Ga (.frz oc (.own c')):=by rw[ls cf,ls (ug Pc),lB]
  have H1f:(upd (upd (upd H c' (.frz oc (.own c'))) P (.tbl (ps++#[rawInt lpos.line,rawInt lpos.col,.ref c']))) h'.objs.size (.ext (pX h'.objs.size ob))) h'.objs.size=Ga (.ext (pX h'.objs.size ob)):=lB;have H1n:∀ b,b<s.heap.objs.size->H b=Gb->(upd (upd (upd H c' (.frz oc (.own c'))) P (.tbl (ps++#[rawInt lpos.line,rawInt lpos.col,.ref c']))) h'.objs.size (.ext (pX h'.objs.size ob))) b=Gb:=λb hb e=>by
   rw[ls (ltf b hb),ls (nP b e),ls (ltc b hb)];exact e
  have H1i:∀ b o,(upd (upd (upd H c' (.frz oc (.own c'))) P (.tbl (ps++#[rawInt lpos.line,rawInt lpos.col,.ref c']))) h'.objs.size (.ext (pX h'.objs.size ob))) b=Ga o->b=h'.objs.size\/b=P\/b=c'\/(b≠P/\H b=Ga o):=λb o e=>by
   by_cases z1:b=h'.objs.size
   .exact .inl z1
   .by_cases z2:b=P
    .exact .inr (.inl z2)
    .by_cases z3:b=c'
     .exact .inr (.inr (.inl z3))
     .rw[ls z1,ls z2,ls z3] at e;exact .inr (.inr (.inr ⟨z2,e⟩))
  generalize (upd (upd (upd H c' (.frz oc (.own c'))) P (.tbl (ps++#[rawInt lpos.line,rawInt lpos.col,.ref c']))) h'.objs.size (.ext (pX h'.objs.size ob)))=H1 at H1e same H1P H1c H1f H1n H1i;clear sb sc nfb hPa sa;have U:Un X.fs [] H H1 s.heap (h'.push ob):=by
   refine⟨λb o e n _ _=>keep b o (nP b n) e,λb o e n _ _=>⟨o.slots,keep b o (nP b n) e⟩,λb o e n _=>H1n b (jt e) n,λb o e _=>?_,λb xs e=>H1e b _ (λz=>by subst z;rw[hP] at e;cases e) e,λb o u e=>H1e b _ (λz=>by subst z;rw[hP] at e;cases e) e,λb qs e=>?_⟩
   .by_cases z:b=P
    .subst z;exact⟨_,je _ htb⟩
    .exact⟨o,keep b o z e⟩
   .by_cases z:b=P
    .subst z;rw[hP] at e;cases e;exact⟨_,H1P⟩
    .exact⟨#[],by rw[H1e b _ z e];simp⟩
  have K1:HOk X.prog X.w H1 (h'.push ob):=λb o e=>by
   rcases H1i b o e with rfl|rfl|rfl|⟨z,e'⟩
   .rw[H1f] at e;cases e;have g:(h'.push ob).get? h'.objs.size=Ga ob:=by rw[<- hob];exact jB _ rfl
    exact⟨g,⟨_,g⟩,λh1 h2 p k=>k _ p⟩
   .rw[H1P] at e;cases e;exact je _ htb
   .rw[H1c] at e;cases e;have g:=je ob hoc;exact⟨g,_,g⟩
   .refine(I.hok b o e').stay (λc u hcu r=>keep c u ?_ r) (λc r=>H1e c _ (λw=>by subst w;rw[hP] at r;cases r) r) λc xs r=>H1e c _ (λw=>by subst w;rw[hP] at r;cases r) r;rcases hcu with rfl|w
    .exact z
    .intro w2;subst w2;rw[hP] at w;cases w
  refine⟨.ref h'.objs.size,H1,I.un (t':=tk) U K1,rfl,q h'.objs.size cl H1 ⟨same,nf,("<lambda>":Str),X.env.qual++"<lambda>",(X.mg "__name__").getD .none,c',ctv,oc,vs,(_,t),?_,H1c,hd,hv⟩ c1 λy hy=>c2 y (hfr y hy)⟩;rw[H1f,<- hob]
 | some cv =>
  obtain⟨c,o,vs,v,rfl,hcH,hod,hv⟩:=gt.2 lpos cv hc;refine PySem.W.kla_makeFunctionHit hcl I.ok.glob hg L.code C hPo gt.1 hc hbm (λctv h' tk hk hsz=>?_);generalize hob:({ cls:=.type "function",data:=.func (qq ("<lambda>":Str) (X.env.qual++"<lambda>") params body scope cl ((X.mg "__name__").getD .none) (.ref c) ctv) }:Obj)=ob;have nf:H h'.objs.size=Gb:=I.hok.fresh hsz;have keep:∀ b o,s.heap.get? b=Ga o->(h'.push ob).get? b=Ga o:=λb o e=>je _ (hk b o e);have g:(h'.push ob).get? h'.objs.size=Ga ob:=by rw[<- hob];exact jB _ rfl
  have I':iZ X ω σ (upd H h'.objs.size (.ext (pX h'.objs.size ob))) { s with heap:=h'.push ob,toks:=tk }:=I.laid keep hsz ⟨g,⟨_,g⟩,λh1 h2 p k=>k _ p⟩;refine⟨.ref h'.objs.size,_,I',rfl,q h'.objs.size cl _ ⟨iP.new nf,nf,("<lambda>":Str),X.env.qual++"<lambda>",(X.mg "__name__").getD .none,c,ctv,o,vs,v,?_,?_,hod,hv⟩ c1 λy hy=>c2 y (hfr y hy)⟩
  .rw[lB,<- hob]
  .rw[ls (λz=>by rw[z] at hcH;rw[nf] at hcH;cases hcH)];exact hcH
end
def oT (h:Heap)(H:Hp)(cs:List Gj):Hp:=λb=>if b∈cs then(h.get? b).map (λo=>HO.frz o (.own b)) else H b
theorem Cq {h:Heap}{H:Hp}{cs:List Gj}{b:Gj}(hb:b∈cs):oT h H cs b=(h.get? b).map (λo=>HO.frz o (.own b)):=Ge hb
theorem xZ {h:Heap}{H:Hp}{cs:List Gj}{b:Gj}(hb:b∉cs):oT h H cs b=H b:=Gf hb
section
variable {h:Heap}{F H H':Hp}{cs:List Gj}{P:Program}{w:World}
theorem xT (n:∀ c∈cs,H c=Gb):∀ c o,H c=Ga o->oT h H cs c=Ga o:=λc o e=>by
 rw[xZ λz=>by rw[n c z] at e;cases e];exact e
theorem LD (hc:∀ c∈cs,∃ o v,h.get? c=Ga o/\o.data=.cell v):nK (oT h H cs) cs:=λc z=>by
 obtain⟨o,v,e1,e2⟩:=hc c z;exact⟨o,v,by rw[Cq z,e1];rfl,e2⟩
theorem zzR (hc:∀ c∈cs,∃ o v,h.get? c=Ga o/\o.data=.cell v)(n:∀ c∈cs,H c=Gb)(x:HOk P w H h):HOk P w (oT h H cs) h:=λa o e=>by
 by_cases ha:a∈cs
 .obtain⟨o1,v,e1,e2⟩:=hc a ha;rw[Cq ha,e1] at e;cases e;exact⟨e1,_,e1⟩
 .rw[xZ ha] at e;exact(x a o e).stay (λ_ _ _ q=>q) (λb q=>xT n b _ q) λb xs q=>xT n b _ q
theorem zB5 (hc:∀ c∈cs,∃ o v,h.get? c=Ga o/\o.data=.cell v){l:List Gg}(g:mJ (oT h H cs) l):mJ H l :=
 ⟨g.1,λpos cv e=>by
  obtain⟨c,x,vs,v,e1,e2,e3,e4⟩:=g.2 pos cv e;refine⟨c,x,vs,v,e1,?_,e3,e4⟩;by_cases z:c∈cs
  .obtain⟨o1,v1,h1,h2⟩:=hc c z;rw[Cq z,h1] at e2;cases e2;rw[e3] at h2;cases h2
  .rw[xZ z] at e2;exact e2⟩
theorem Uf (hc:∀ c∈cs,∃ o v,h.get? c=Ga o/\o.data=.cell v)(n:∀ c∈cs,H c=Gb)(s:iP F H):iP (oT h F cs) (oT h H cs):=λb o e=>by
 by_cases hb:b∈cs
 .obtain⟨o1,v,e1,e2⟩:=hc b hb;rw[Cq hb,e1] at e ⊢;cases e;exact rfl
 .rw[xZ hb] at e ⊢;exact((s b o e).from λ_ z=>zB5 hc z).to λ_ z=>z.sub (xT n)
theorem RT (n:∀ c∈cs,H c=Gb)(m:nK H' cs)(s:iP (oT h H cs) H'):iP H (butC H' cs):=λb o e=>by
 have hb:b∉cs:=λz=>by rw[n b z] at e;cases e
 rw[pH hb];exact((s b o (xT n b o e)).from λ_ z=>z.sub (xT n)).to λ_ z=>OK m z
end
def yX (ψ:En):List Nat->Option (List D)
 | []=>Ga []
 | i::r=>match ψ[i]? with
  | some (.val d)=>(yX ψ r).bind λds=>Ga (d::ds)
  | _=>Gb
theorem Rz {ψ:En}:∀ {ix:List Nat} {ds:List D},yX ψ ix=Ga ds->ds.length=ix.length/\∀ (j i:Nat) (d:D),ix[j]?=Ga i->ds[j]?=Ga d->ψ[i]?=Ga (.val d)
 | [],ds,h=>by cases h;exact⟨rfl,λj i d e=>by simp at e⟩
 | i::r,ds,h=>by
  unfold yX at h;split at h
  .rename_i d hd;obtain⟨es,e1,e2⟩:=iO h;cases e2;obtain⟨l,k⟩:=Rz e1;refine⟨by simpa using l,λj i' d' q1 q2=>?_⟩;cases j with
   | zero=>cases q1;cases q2;exact hd
   | succ j=>exact k j i' d' q1 q2
  .cases h
open Classical in
noncomputable def re (it:Nat)(P:Gj)(mk:(D->Option D)->lN)(fb:FV)(fm:lN->(D->Option D)->List D->Option D)(ix:List Nat)(g:FL):FV:=λψ =>
 if ψ[it]?=Ga (.tab P) then(yX ψ ix).bind λcs=>(g ψ).bind (fm (mk λd=>fb (.val d::cs.map .val)) λd=>fb (.val d::cs.map .val)) else Gb
def Iq (K:ja)(ψ:Env)(fr:List Str)(params:Arguments)(body:Expr)(scope:Scope)(P:Gj)(p:Nat)(g:FL):TA:=λσ H Q=>∃ (H0 F0:Hp) (en:En) (as:List D) (qs:Array Gg),RS K H0 F0 H en σ/\g en=Ga as/\H P=Ga (.tbl qs)/\mJ H qs.toList /\
 ∀ (a:Gj) (cl:List (Str×Gj)) (us:List V) (H2 F2:Hp),iP H H2->iP F0 F2->iP F2 H2->mz F0 F2 H->ly K F2 as us->RS K H0 F2 H2 en σ ->
  (∃ name qual pm c ctv o vs,∃ v:Str×Tok,F2 a=Ga (.ext (pX a (uf name qual params body scope cl pm c ctv)))/\H2 c=Ga (.frz o (.own c))/\o.data=.fields vs/\vs[1]?=Ga (.str v.1 v.2)) ->
  (∀ y a,cl.lookup y=Ga a->ψ.cells.lookup y=Ga a)->(∀ y∈fr,∃ a,cl.lookup y=Ga a)->Q (us.take p++.ref a::us.drop p) H2
section
variable {X:Cx}{c0 P:Gj}{fr:List Str}{params:Arguments}{body:Expr}{scope:Scope}{lpos:Pos}{es:List Expr}{g:FL}
theorem Lh (L:Ez X c0 P)(outs:∀ y∈scope.names,y.2=.free->X.env.scope.names.lookup y.1=Ga .cell\/X.env.scope.names.lookup y.1=Ga .free)(hfr:∀ y∈fr,(y,j6)∈scope.names)(ha:PL X es g)(hdef:defaultsOf params X.env=([],[]):=by rfl)
  (he:starEach (.Lambda params body scope lpos::es) X.env=(false,eval (.Lambda params body scope lpos) X.env)::starEach es X.env:=by rfl):PA X (.Lambda params body scope lpos::es) (Iq X.K X.env fr params body scope P 0 g):=by
 refine Hm (nL (zDY L outs hfr hdef) ha.pa he) λσ H Q=>?_;rintro⟨H0,F0,ψ,as,qs,r,e2,hP,gd,q⟩;refine⟨qs,hP,gd,λa cl H1 M m1 m2=>?_⟩;obtain⟨name,qual,pm,c,ctv,o,vs,v,x1,x2,x3⟩:=M.ex;have fa:F0 a=Gb:=r.fh.free M.new;have s1:iP F0 (upd F0 a (.ext (pX a (uf name qual params body scope cl pm c ctv)))):=iP.new fa;have s2:iP (upd F0 a (.ext (pX a (uf name qual params body scope cl pm c ctv)))) H1:=(r.fh.trans M.same).upL x1 trivial;have n1:mz F0 (upd F0 a (.ext (pX a (uf name qual params body scope cl pm c ctv)))) H:=λb o' h n=>by
  by_cases hb:b=a
  .subst hb;exact M.new
  .rw[ls hb,n] at h;cases h
 have r1:=r.grow M.same s1 s2 n1;exact⟨H0,_,ψ,as,r1,e2,λus H2 F2 g2 f2 fh2 n2 rv=>q a cl us H2 F2 (M.same.trans g2) (s1.trans f2) fh2 (n1.trans n2 M.same) rv (r1.grow g2 f2 fh2 n2) ⟨name,qual,pm,c,ctv,o,vs,v,f2 _ _ lB,g2 _ _ x2,x3⟩ m1 m2⟩
theorem zzS {p:Nat}{e:Expr}{f:FV}(h:PV X e f)(ha:PA X es (Iq X.K X.env fr params body scope P p g))(hs:starEach (e::es) X.env=(false,eval e X.env)::starEach es X.env:=by rfl):PA X (e::es) (Iq X.K X.env fr params body scope P (p+1) (λψ=>(f ψ).bind λd=>(g ψ).bind λds=>Ga (d::ds))):=by
 refine Hm (nL h ha hs) λσ H Q=>?_;rintro⟨H0,F0,ψ,as,qs,r,e2,hP,gd,q⟩;obtain⟨d,e3,e4⟩:=iO e2;obtain⟨ds,e5,e6⟩:=iO e4;cases e6;refine⟨H0,F0,ψ,d,r,e3,λv H1 F1 g1 f1 fh1 n1 rv=>?_⟩;obtain⟨qs1,hP1,gd1⟩:=g1 P _ hP;refine⟨H0,F1,ψ,ds,qs1,r.grow g1 f1 fh1 n1,e5,hP1,gd1 gd,λa cl us H2 F2 g2 f2 fh2 n2 rvs r2 ex m1 m2=>?_⟩;exact q a cl (v::us) H2 F2 (g1.trans g2) (f1.trans f2) fh2 (n1.trans n2 g1) (.cons (rv.mono f2) rvs) r2 ex m1 m2
end
section
variable {X:Cx}{c0 P:Gj}{fr:List Str}{params:Arguments}{body:Expr}{scope:Scope}{lpos:Pos}{e0:Expr}{k kl lp:Nat}{f:Gj}{fd:Gi}{ps:List Str}{x xl:Str}{p pos:Pos}{es:List Expr}{g:FL}{fb:FV}{fm:lN->(D->Option D)->List D->Option D}{ix:List Nat}
theorem Kf (it:Nat)(S:wV xl fr scope)(outs:∀ y∈scope.names,y.2=.free->X.env.scope.names.lookup y.1=Ga .cell\/X.env.scope.names.lookup y.1=Ga .free)(hfr:∀ y∈fr,(y,j6)∈scope.names)(hfn:∀ y,X.fn y=true)
  (hlen:ix.length=fr.length) (hat:∀ (j i:Nat) (y:Str),ix[j]?=Ga i->fr[j]?=Ga y->X.N[i]?=Ga y)
  (hbind:∀ (name qual:Str) (cl:List (Str×Gj)) (pm:Gg) (c:Gj) (ctv u:Gg),bindArgs (qq name qual params body scope cl pm (.ref c) ctv) ⟨[u],[]⟩=pure [(xl,u)])
  (hbody:∀ (qual:Str) (f:Gj) (cd:Gg) (cl:List (Str×Gj)) (A:Around) (outer:List Env) (s:Gh) (H:Hp),nv kl (A.deeper (vx qual scope s.heap.objs.size f cd cl))->PV (zB X.prog X.w X.K X.mg X.base (xl::fr) qual scope f cd cl A outer s H) body fb)
  (F:∀ φ,lz X.prog X.w X.K X.mg X.base lK k f fd ps (xJ X.K lp (zS X.prog X.w X.K X.mg X.base (kl+1) φ) (fm (zS X.prog X.w X.K X.mg X.base (kl+1) φ) φ))) (hr:nv k X.A) (hm:X.mg x=Ga (.ref f)) (hk:ur X.K (.ref f)=true) (hb:sO X.K fd ps []) (hPA:PA X (e0::es) (Iq X.K X.env fr params body scope P lp g)) (hg:Gl X x:=by rfl)
  (hdb:(x==("__debug__":Str))=false:=by decide) (he:starEach (e0::es) X.env=(false,eval e0 X.env)::starEach es X.env:=by rfl) (hpl:(backTo pos (starEach es X.env)).any (·.1)=false:=by rfl) :
  PV X (.Call (.Name x p) (e0::es) [] pos) (re it P (zS X.prog X.w X.K X.mg X.base (kl+1)) fb fm ix g):=by
 intro ω s σ H Q I h;obtain⟨H0,F0,ψ,d,r,e,q⟩:=h;unfold re at e;split at e;rotate_left
 .cases e
 rename_i hi;obtain⟨ds,e1,e⟩:=iO e;obtain⟨as,e2,e3⟩:=iO e;obtain⟨dl,dat⟩:=Rz e1;generalize hφ:(λd=>fb (.val d::ds.map .val))=φ at e3;obtain⟨_,_,ht⟩:=r.sl it _ hi;obtain⟨ps0,ht,g0⟩:∃ ps,H0 P=Ga (.tbl ps)/\mJ H0 ps.toList:=ht;obtain⟨qs,hP,hgd⟩:=r.h0 P _ ht;have gd:mJ H qs.toList:=hgd g0;refine wpAny_Call_Name_kw (zV I hg hm ?_ hdb);refine JD (h₀:=X.base) I.ok.mod.kin hk (lZ (hPA pos ω s σ H (λvs H2=>∃ (a:Gj) (cl:List (Str×Gj)) (F2:Hp) (us:List V),vs=us.take lp++.ref a::us.drop lp/\iP H H2/\iP F0 F2/\iP F2 H2/\mz F0 F2 H/\ly X.K F2 as us/\RS X.K H0 F2 H2 ψ σ /\
   (∃ name qual pm c ctv o vs,∃ v:Str×Tok,F2 a=Ga (.ext (pX a (uf name qual params body scope cl pm c ctv)))/\H2 c=Ga (.frz o (.own c))/\o.data=.fields vs/\vs[1]?=Ga (.str v.1 v.2)) /\
   (∀ y a,cl.lookup y=Ga a->X.env.cells.lookup y=Ga a)/\(∀ y∈fr,∃ a,cl.lookup y=Ga a)) I ⟨H0,F0,ψ,as,qs,r,e2,hP,gd,λa cl us H2 F2 g2 f2 fh2 n2 rv r2 ex m1 m2=>⟨a,cl,F2,us,rfl,g2,f2,fh2,n2,rv,r2,ex,m1,m2⟩⟩) λus s1 ⟨vs,H2,I1,rvs,q1⟩=>⟨I1.kIn,?_⟩) he hpl
 .obtain⟨a,cl,F2,us',rfl,g2,f2,fh2,n2,rv,r2,⟨name,qual,pm,c,ctv,o,vs',v,x1,x2,x3,x4⟩,m1,m2⟩:=q1;have hcs:∀ c',c'∈(cl.filterMap λq=>cl.lookup q.1)->∃ y,cl.lookup y=Ga c':=λc' hc=>by
   obtain⟨q,_,hq⟩:=u6.mp hc;exact⟨q.1,hq⟩
  have hsc:∀ y c',cl.lookup y=Ga c'->c'∈(cl.filterMap λq=>cl.lookup q.1):=λy c' hy=>u6.mpr ⟨(y,c'),kI hy,hy⟩;generalize (cl.filterMap λq=>cl.lookup q.1)=cs at hcs hsc;have hc:∀ c'∈cs,∃ o v,s1.heap.get? c'=Ga o/\o.data=.cell v:=λc' hc=>by
   obtain⟨y,hy⟩:=hcs c' hc;obtain⟨v,o,h1,h2⟩:=I1.cell y c' (m1 y c' hy);exact⟨o,v,h1,h2⟩
  have nH:∀ c'∈cs,H2 c'=Gb:=λc' hc=>by
   obtain⟨y,hy⟩:=hcs c' hc;exact I1.freeC y c' (m1 y c' hy)
  have nF:∀ c'∈cs,F2 c'=Gb:=λc' hc=>fh2.free (nH c' hc);have above:∀ c'∈cs,X.s₀.heap.objs.size<=c':=λc' hc=>by
   obtain⟨y,hy⟩:=hcs c' hc;exact I1.ok.cab y c' (hfn y) (m1 y c' hy)
  have nfr:∀ c'∈cs,c'∉tw X.stack:=λc' hc hz=>by
   obtain⟨y,hy⟩:=hcs c' hc;rcases ju.mp (I1.stkSub c' hz) with z|z
   .exact I1.cne y c' (m1 y c' hy) z
   .obtain⟨_,o,ho,_⟩:=I1.ok.funs.mem z;exact absurd (jz (jt ho) (above c' hc)) (jU _)
  have sH:iP F2 (oT s1.heap F2 cs):=iP.of (xT nF);have cP:yk X.K (oT s1.heap F2 cs) fr ds cl cs:=by
   refine⟨λj y dj h1 h2=>?_,hsc,m2,LD hc,λx y c' h1 h2=>I1.ok.inj x y c' (m1 x c' h1) (m1 y c' h2),by rw[dl,hlen],hcs⟩;obtain⟨c',hc'⟩:=m2 y (kE h1);obtain⟨i,hi'⟩:∃ i,ix[j]?=Ga i:=⟨_,ji (by rw[hlen];exact(jr.mp h1).1)⟩;have hv:=dat j i dj hi' h2;obtain⟨u,e5,v2,e6,rv2⟩:=r2.sl i _ hv;subst e6;obtain⟨m,hm1,hm2⟩:=I1.loc;have kd:=outs _ (hfr y (kE h1)) rfl;obtain⟨u2,ru2,lk⟩:=hm2 i y v2 (hat j i y hi' h1) e5 (.inr kd);rcases lk with ⟨k1,_⟩|⟨_,c2,k2,o2,k3,k4⟩
   .have k1:X.env.scope.names.lookup y=Ga .local:=k1;rcases kd with kd|kd<;>(rw[kd] at k1;cases k1)
   .have:c2=c':=by have:=m1 y c' hc';rw[k2] at this;cases this;rfl
    subst this;exact⟨c2,o2,u2,v2,hc',hsc y c2 hc',by rw[Cq (hsc y c2 hc'),k3];rfl,k4,ru2,rv2.mono sH⟩
  have hC:(Fy X.K params body scope fr ds).C a (oT s1.heap F2 cs) (oT s1.heap H2 cs):=⟨name,qual,cl,pm,c,ctv,cs,o,vs',v,xT nF _ _ x1,xT nH _ _ x2,x3,x4,cP⟩;have hC2:=zzQ (zvB (P:=X.prog) (w:=X.w) (mg:=X.mg) (base:=X.base) (k:=kl) S hbind hbody) hC;rw[hφ] at hC2;have e0:wC X.prog X.w X.K X.mg X.base X.A X.stack s1 (oT s1.heap H2 cs):=by
   have e:=I1.env0;refine⟨e.frames,e.mod,λb o hb=>⟨(e.bs b o hb).1,?_⟩,e.bsz,e.funs,λb hb=>?_,zzR hc nH e.hok,e.bare⟩
   .rw[xZ λz=>absurd (jz (jt hb) (jk I1.ok.bsz (above b z))) (jU _)];exact(e.bs b o hb).2
   .rw[xZ λz=>nfr b z hb];exact e.frf b hb
  have hl:us.length=ps.length:=by
   rw[<- rvs.length];exact(F φ).len (us'.take lp++.ref a::us'.drop lp) (oT s1.heap H2 cs) (λ_ _=>True) E0 ⟨oT s1.heap F2 cs,a,us',as,d,rfl,hC2,Uf hc nH fh2,rv.mono sH,e3,λ_ _ _ _ _ _ _ _=>trivial⟩
  have hbs:=hb s1 us I1.kIn (by rw[kz];exact hl);rw[kz] at hbs;refine wpAny_call (codeAny_mono ((F φ).run X.A X.stack s1 (oT s1.heap H2 cs) ⟨us,[]⟩ us (us'.take lp++.ref a::us'.drop lp) (λv' H'=>nK H' cs/\Q v' (butC H' cs)) E0 hr e0 hbs rvs
   ⟨oT s1.heap F2 cs,a,us',as,d,rfl,hC2,Uf hc nH fh2,rv.mono sH,e3,λv' H' F' g3 f3 fh3 n3 rv3=>?_⟩) λrr s' hq=>?_)
  .have mH:nK H' cs:=(LD hc).mono g3;have mF:nK F' cs:=(LD hc).mono f3;refine⟨mH,q v' (butC H' cs) (butC F' cs) (g2.trans (RT nH mH g3)) (f2.trans (RT nF mF f3)) (fh3.butC2 mH) (λb o h n=>?_) (rv3.butC mF)⟩;obtain⟨hb,h⟩:=Gm h;cases z:F2 b with
   | none =>
    have:=n3 b o h (by rw[xZ hb];exact z);rw[xZ hb] at this;exact g2.free this
   | some u=>exact n2 b u z n
  .cases rr with
   | error e=>exact hq.elim
   | ok fl =>
    cases fl with
    | ret u =>
     obtain⟨v',H',os,bare,un,hok,rel,mH,qv⟩:=hq;refine⟨v',butC H' cs,I1.call' (ch:=[]) os ⟨λb o hb n hf hx=>?_,λb o hb n hf hx=>?_,λb o hb n hx=>?_,λb o hb hx=>un.there b o hb hx,λb xs hb=>?_,λb o x hb=>?_,λb ps hb=>?_⟩ (T3.HOk.butC mH hok) bare (λb z=>absurd z (by simp)),rel,qv⟩
     .by_cases z:b∈cs
      .have:=un.frzs b o (.own b) (by rw[Cq z,hb];rfl);exact(hok b _ this).1
      .exact un.keep b o hb (by rw[xZ z];exact n) hf hx
     .have z:b∉cs:=λz=>nfr b z hf;exact un.slot b o hb (by rw[xZ z];exact n) hf hx
     .by_cases z:b∈cs
      .exact Bz z
      .rw[pH z];exact un.free b o hb (by rw[xZ z];exact n) hx
     .have z:b∉cs:=λz=>by rw[nH b z] at hb;cases hb
      rw[pH z];exact un.tups b xs (xT nH b _ hb)
     .have z:b∉cs:=λz=>by rw[nH b z] at hb;cases hb
      rw[pH z];exact un.frzs b o x (xT nH b _ hb)
     .have z:b∉cs:=λz=>by rw[nH b z] at hb;cases hb
      rw[pH z];exact un.tbls b ps (xT nH b _ hb)
    | next=>exact False.elim hq
    | brk=>exact False.elim hq
    | cont=>exact False.elim hq
end
def zI (n:Nat)(Pt:Gj)(ds:List D):En:=(pU n ds).set (n-1) (.tab Pt)
def BM (np n:Nat)(Pt:Gj)(g:FS)(ds:List D):Option D:=if ds.length=np then lq (g (zI n Pt ds)) else Gb
def spT (K:ja)(Pt:Gj)(fm:List D->Option D):Sp:=λvs H Q _=>∃ (F:Hp) (ds:List D) (d:D),(∃ ps,H Pt=Ga (.tbl ps)/\mJ H ps.toList)/\iP F H/\ly K F ds vs/\fm ds=Ga d/\∀ v H' F',iP H H'->iP F F'->iP F' H'->mz F F' H->md K F' d v->Q v H'
theorem RS.putN {K:ja}{H0 F H:Hp}{ψ:En}{σ:St}(r:RS K H0 F H ψ σ){i:Nat}{s:Sl}{u:Option V}(hu:σ[i]?=Ga u)(q:sv K H0 F H s u)(o:pI s=false):RS K H0 F H (ψ.set i s) σ:=by
 refine⟨r.h0,r.fh,λj t e=>?_,λj k a t1 t2 o1 o2 e1 e2 e3 e4=>?_⟩
 .by_cases h:i=j
  .subst h;by_cases hl:i<ψ.length
   .rw[jS hl] at e;cases e;exact⟨u,hu,q⟩
   .rw[kx (by simpa using hl)] at e;cases e
  .rw[jQ h] at e;exact r.sl j t e
 .have f1:∀ (j:Nat) (t:Sl),pI t=true->(ψ.set i s)[j]?=Ga t->ψ[j]?=Ga t:=λj t ow e=>by
   by_cases h:i=j
   .subst h;by_cases hl:i<ψ.length
    .rw[jS hl] at e;cases e;rw[o] at ow;cases ow
    .rw[kx (by simpa using hl)] at e;cases e
   .rw[jQ h] at e;exact e
  exact r.ap j k a t1 t2 o1 o2 (f1 j t1 o1 e1) (f1 k t2 o2 e2) e3 e4
section
variable {P:Program}{w:World}{K:ja}{mg:Str->Option Gg}{base:Heap}{x qual:Str}{st:Stmt}{f:Gj}{fd:Gi}{N ps:List Str}{k:Nat}{g:FS}{Pt c0:Gj}
theorem VQ (F:wI K x qual st f fd)(S:lg N ps (iT st))(hN:0<N.length)(hpn:ps.length<=N.length)
  (hb:∀ cdv,fd.code=cdv->∀ (A:Around) (outer:List Env) (s:Gh) (H:Hp) (E:XK),nv k (A.deeper (envOfC qual (iT st) s.heap.objs.size f cdv))->rQ (sL lK P w K mg base N qual (iT st) f cdv A outer s H E).nox (nQ st) g) :
  lz P w K mg base lK (k+1) f fd ps (spT K Pt (BM ps.length N.length Pt g)):=by
 have hr0:∀ {ds:List D} {d:D},BM ps.length N.length Pt g ds=Ga d->ds.length=ps.length/\(g (zI N.length Pt ds)=Ga (.rt d)\/∃ xs,d=.list xs/\g (zI N.length Pt ds)=Ga (.ro xs)):=λ{ds d} h=>by
  unfold BM at h;split at h
  .rename_i z;refine⟨z,?_⟩;unfold lq at h;split at h
   .rename_i e;cases h;exact .inl e
   .rename_i e;cases h;exact .inr ⟨_,rfl,e⟩
   .cases h
  .cases h
 obtain⟨oc,od,kV,doc,pm,an,cdv,ct,osl,rfl,lk,hcd'⟩:=F.ex;have hb:=hb cdv rfl;refine Hr lk hcd' S (λvs H Q E h=>?_) λA outer s H vs Q E hr h=>?_
 .obtain⟨F0,ds,d,_,_,r,e,_⟩:=h;rw[<- r.length];exact(hr0 e).1
 .obtain⟨F0,ds,d,ht,hs,r,e,q⟩:=h;have rs:RS K H F0 H (zI N.length Pt ds) (L2.start N vs):=by
   refine(RS.start (N:=N) hs r).putN (u:=((L2.start N vs)[N.length-1]?).getD Gb) ?_ ht rfl;have hl:N.length-1<(L2.start N vs).length:=by
    unfold L2.start;rw[jg,jc,Jg];have:=r.length;have:=(hr0 e).1;omega
   rw[ji hl];rfl
  rcases(hr0 e).2 with z|⟨xs,rfl,z⟩
  .exact⟨_,(hb A outer s H E hr).nox,H,F0,_,_,rs,z,λv H' F' g1 f1 fh1 n1 rv=>q v H' F' g1 f1 fh1 n1 rv⟩
  .refine⟨_,(hb A outer s H E hr).nox,H,F0,_,_,rs,z,λa ys H' F' g1 f1 fh1 n1 ha fa ha' rr=>?_⟩;have sF:iP F' (upd F' a (.lst ys)):=iP.new fa;refine q (.ref a) H' (upd F' a (.lst ys)) g1 (f1.trans sF) (iP.upL fh1 ha' trivial) (λb o h nb=>?_) (.lst (nr.of lB) (rr.mono sF));by_cases hb:b=a
   .subst hb;exact ha
   .rw[ls hb] at h;exact n1 b o h nb
theorem okT (F:wI K x qual st f fd)(hcd:fd.code=.ref c0)(S:lg N ps (iT st))(hN:0<N.length)(hpn:ps.length<=N.length)
  (hb:∀ (A:Around) (outer:List Env) (s:Gh) (H:Hp) (E:XK),nv k (A.deeper (envOfC qual (iT st) s.heap.objs.size f (.ref c0)))->rQ (sL lK P w K mg base N qual (iT st) f (.ref c0) A outer s H E).nox (nQ st) g) :
  lz P w K mg base lK (k+1) f fd ps (spT K Pt (BM ps.length N.length Pt g)) :=
 VQ F S hN hpn λcdv e=>by
  rw[hcd] at e;subst e;exact hb
theorem zxE {mb:Str->Option Gg}{fa a:Gj}{sp:Sp}{s₁:Gh}{vs:List Gg}{ns:List Int}
  (KX:K.In s₁.heap) (hns:s₁.heap.Ns mainGlobals mg) (hb:s₁.heap.Ns builtinsNs mb) (hbb:∀ x:Str,x≠"__name__"->mb x=bootBuiltins x) (hlim:s₁.heap.NoLimit) (hg:s₁.gens=#[])
  (ha:s₁.heap.get? a=Ga { cls:=.type "list",data:=.seq vs.toArray }) (hi:IntsAre vs ns) (hl:ns.length<=sizeLine) (hr:nv k callerA)
  (hT:s₁.heap.get? Pt=Ga (Jr #[])) (hKT:K.lookup Pt=Gb) (hTc:isCodeTable s₁.heap Pt)
  (F:∀ base:Heap,K.In base->base.Ns mainGlobals mg->lz P w K mg base lK k fa fd [x] sp) (hbind:∀ (s:Gh) (u:Gg),BindsTo s fd ⟨[u],[]⟩ [(x,u)])
  (hsp:∀ H:Hp,H Pt=Ga (.tbl #[])->nr K H a (ns.map V.int)->sp [.ref a] H (λv _=>v=.bl true) λ_ _ _=>False) :
  codeAny (model P w) callerA (.call (.ref fa) ⟨[.ref a],[]⟩) (λr s'=>r=.ok (.ret (.bool true))/\OldK s₁.heap s'.heap/\s'.os=s₁.os/\AllBare s'.gens) s₁:=by
 have rv:=yc hi;have lenV:=hi.length;have aT:a≠Pt:=λz=>by rw[z,hT] at ha;cases ha
 have core:∀ H:Hp,H Pt=Ga (.tbl #[])->(∀ b,b≠Pt->H b=Gb\/∃ o xs,H b=Ga (.frz o (.lst xs)))->nr K H a (ns.map V.int)->HOk P w H s₁.heap->(∀ b,H b≠Gb->b=a\/b=Pt)->(H a≠Gb->K.lookup a=Gb) ->
   codeAny (model P w) callerA (.call (.ref fa) ⟨[.ref a],[]⟩) (λr s'=>r=.ok (.ret (.bool true))/\OldK s₁.heap s'.heap/\s'.os=s₁.os/\AllBare s'.gens) s₁:=by
  intro H hPt hO hS hok hA hK;have base_of:∀ {b:Gj} {o:Obj},s₁.heap.get? b=Ga o->H b=Gb->(rX s₁.heap H).get? b=Ga o:=λe n=>BG e n;have noA:∀ {b:Gj} {o:Obj} {es:Array DictEntry} {ep:Nat},s₁.heap.get? b=Ga o->o.data=.dict es ep->H b=Gb:=λ{b o es ep} e d=>by
   cases q:H b with
   | none=>rfl
   | some u =>
    rcases hA b (by rw[q];simp) with e'|e'
    .subst e';rw[ha] at e;cases e;have d':Data.seq vs.toArray _=Data.dict es ep:=d;cases d'
    .subst e';rw[hT] at e;cases e;cases d
  have nsK:∀ {b:Gj} {m:Str->Option Gg},s₁.heap.Ns b m->(rX s₁.heap H).Ns b m:=λ{b m} ⟨o,es,ep,e,d,r⟩=>⟨o,es,ep,base_of e (noA e d),d,r⟩;have hKb:K.In (rX s₁.heap H):=λb o e=>base_of (KX b o e) (by
   cases q:H b with
   | none=>rfl
   | some u =>
    rcases hA b (by rw[q];simp) with e'|e'
    .subst e';rw[hK (by rw[q];simp)] at e;cases e
    .subst e';rw[hKT] at e;cases e)
  have hM:Mod K mg (rX s₁.heap H):=⟨hKb,nsK hns,⟨mb,nsK hb,hbb⟩,let ⟨mc,h1,h2⟩:=hlim;⟨mc,nsK h1,h2⟩⟩;have e0:wC P w K mg (rX s₁.heap H) callerA [] s₁ H:=⟨rfl,hM,λb o e=>CU e,JO (AA _ _),trivial,λb hb=>absurd (show b∈([]:List Gj) from hb) (by simp),hok,.of_eq hg⟩;refine codeAny_mono ((F _ hKb (nsK hns)).run callerA [] s₁ H ⟨[.ref a],[]⟩ [.ref a] [.ref a] _ _ hr e0 (hbind s₁ (.ref a)) (.cons rfl .nil) (hsp H hPt hS)) λr s' h=>?_;cases r with
  | error e=>exact h.elim
  | ok fl =>
   cases fl with
   | next=>exact False.elim h
   | brk=>exact False.elim h
   | cont=>exact False.elim h
   | ret u =>
    obtain⟨v,H',os,bare,un,hok',r',q⟩:=h;have q':v=.bl true:=q;subst q';obtain rfl:u=JB true:=r';have keep:∀ b o,b≠Pt->s₁.heap.get? b=Ga o->s'.heap.get? b=Ga o:=λb o hb e=>by
     cases q:H b with
     | none=>exact un.keep b o e q (by intro z;exact absurd (show b∈([]:List Gj) from z) (by simp)) (by simp)
     | some u =>
      rcases hO b hb with z|⟨ob,xs,z⟩
      .rw[q] at z;cases z
      .have z2:=un.frzs b ob _ z;obtain⟨e1,_⟩:=hok b _ z;obtain⟨e2,_⟩:=hok' b _ z2;rw[e] at e1;cases e1;exact e2
    obtain⟨more,hmore⟩:=un.tbls Pt _ hPt;have hT':s'.heap.get? Pt=Ga { cls:=.none,data:=.fields (#[]++more) }:=hok' Pt _ hmore;refine⟨rfl,⟨λb o e=>?_,λb o e=>?_⟩,os,bare⟩
    .by_cases hb:b=Pt
     .subst hb;rw[hT] at e;cases e;exact .inr (.inl ⟨hTc,rfl,#[],more,rfl,hT'⟩)
     .exact .inl (keep b o hb e)
    .by_cases hb:b=Pt
     .subst hb;exact⟨_,hT'⟩
     .exact⟨o,keep b o hb e⟩
 cases hk:K.lookup a with
 | some o =>
  have e:=KX a o hk;rw[ha] at e;cases e;refine core (λb=>if b=Pt then Ga (.tbl #[]) else Gb) (Ge rfl) (λb hb=>.inl (Gf hb)) (.inr ⟨_,vs.toArray,_,hk,rfl,rfl,rfl,by rw[jm,lenV];exact hl,by simpa using rv⟩) (λb u z=>?_) (λb z=>?_) λz=>absurd (Gf aT) z
  .by_cases hb:b=Pt
   .have z':=(Ge hb).symm.trans z;cases z';subst hb;exact hT
   .have z':=(Gf hb).symm.trans z;cases z'
  .by_cases hb:b=Pt
   .exact .inr hb
   .exact absurd (Gf hb) z
 | none =>
  refine core (λb=>if b=Pt then Ga (.tbl #[]) else if b=a then Ga (.frz { cls:=.type "list",data:=.seq vs.toArray } (.lst (ns.map V.int))) else Gb) (Ge rfl) (λb hb=>?_) (.inl (.inr ⟨{ cls:=.type "list",data:=.seq vs.toArray },(Gf aT).trans (Ge rfl)⟩)) (λb u z=>?_) (λb z=>?_) λ_=>hk
  .by_cases hba:b=a
   .exact .inr ⟨_,_,(Gf hb).trans (Ge hba)⟩
   .exact .inl ((Gf hb).trans (Gf hba))
  .by_cases hb:b=Pt
   .have z':=(Ge hb).symm.trans z;cases z';subst hb;exact hT
   .replace z:=(Gf hb).symm.trans z;by_cases hba:b=a
    .have z':=(Ge hba).symm.trans z;cases z';subst hba;exact⟨ha,by rw[jc];exact hl,vs,_,rv,ha⟩
    .have z':=(Gf hba).symm.trans z;cases z'
  .by_cases hb:b=Pt
   .exact .inr hb
   .by_cases hba:b=a
    .exact .inl hba
    .exact absurd ((Gf hb).trans (Gf hba)) z
end
theorem zzT {l:Jc}{n k:Nat}{q:Program}{loose:List Str}{XP:(Str->Option Gg)->Heap->Prop}{YP:World->Heap->Prop}{d:DefRec}{K:Params->ja}{sp:ja->Sp}{x:Str}{Pt:Gj}
  (hn:l.most=Ga n) (hn2:n<=sizeLine) (hdf:d.params.defaults=[]) (hr:nv k callerA)
  (hY:∀ (w:World) (h:Heap),YP w h->(K w.params).In h/\h.get? Pt=Ga (Jr #[]))
  (hKT:∀ P,(K P).lookup Pt=Gb) (hTc:∀ (w:World) (h:Heap),(K w.params).In h->isCodeTable h Pt)
  (F:∀ (w:World) (mg:Str->Option Gg) (fa:Gj) (h:Heap),(K w.params).In h->h.Ns mainGlobals mg->mg d.name=Ga (.ref fa) ->
   ∃ fd:Gi,(∀ (s:Gh) (u:Gg),BindsTo s fd ⟨[u],[]⟩ [(x,u)]) /\
    ∀ base:Heap,(K w.params).In base->base.Ns mainGlobals mg->lz l.prog w (K w.params) mg base lK k fa fd [x] (sp (K w.params)))
  (hsp:∀ (K:ja) (H:Hp) (a:Gj) (ns:List Int),ns.length<=n->H Pt=Ga (.tbl #[])->nr K H a (ns.map V.int)->sp K [.ref a] H (λv _=>v=.bl true) λ_ _ _=>False) :
  Jy q loose XP YP l.row.toRowW d [] (λf vs=>JF f vs):=by
 refine Att.attach_call hn hdf λw s₀ s₁ mg mb fa o pm cd doc a vs ns G Y ho hd hcd hmg hobj hints hlen hg=>?_;obtain⟨KX,hT⟩:=hY w _ Y;obtain⟨fd,hb,hF⟩:=F w mg fa _ KX G.T.g hmg;exact zxE KX G.T.g G.T.b G.T.builtins G.T.nolimit hg hobj hints (jk hlen hn2) hr hT (hKT _) (hTc w _ KX) hF hb (λH hT hS=>hsp (K w.params) H a ns hlen hT hS)
theorem zB6 {K:ja}{Pt:Gj}{fm:List D->Option D}{H:Hp}{a:Gj}{ns:List Int}(hT:H Pt=Ga (.tbl #[]))(hS:nr K H a (ns.map V.int))(h:fm [.list (ns.map jb)]=Ga (.bool true)):spT K Pt fm [.ref a] H (λv _=>v=.bl true) λ_ _ _=>False :=
 ⟨H,[.list (ns.map jb)],.bool true,⟨#[],hT,trivial,λpos cv h=>by cases h⟩,.refl _,.cons (.lst hS (ly.ints ns)) .nil,h,λv H' F' _ _ _ _ r=>by cases r;rfl⟩
theorem zrP {K:ja}{h:Heap}{c P:Gj}(X:K.In h)(e:qJ K c P=true):isCodeTable h P:=by
 obtain⟨o,vs,file,tf,flags,tg,inF,text,tt,e1,e2,e3,e4,_⟩:=vC X e;exact⟨c,o,vs,e1,e2,e3,e4⟩
section
variable {X:Cx}{k:Nat}{f:Gj}{fd:Gi}{ps:List Str}{x:Str}{p pos:Pos}{e:Expr}{es:List Expr}{g:FL}
end
structure mh (K:ja)(x:Str)(st:Stmt)(cd:Gg)(a:Gj)(fd:Gi):Prop where
 e:∃ (od an:Option Gj) (sl:Array (Option Gg)) (oc kV dc pm ct:Gg),kj K mainGlobals x=Ga (Ga (.ref a))/\K.lookup a=Ga ⟨oc,od,.func fd,sl⟩/\fd=k7 x x (pA st) (nQ st) (iT st) .none kV dc pm an cd ct/\vQ K cd x=true/\ur K (.ref a)=true
theorem my {K:ja}{mg:Str->Option Gg}{h:Heap}{x:Str}{st:Stmt}{ps:List Str}{f:Gj}{cd:Gg}{fd:Gi}(X:K.In h)(G:h.Ns mainGlobals mg)(w:mh K x st cd f fd)
  (hb:∀ (kV doc pm:Gg) (an:Option Gj) (cdv ct:Gg) (us:List Gg),us.length=ps.length->bindArgs (k7 x x (pA st) (nQ st) (iT st) .none kV doc pm an cdv ct) ⟨us,[]⟩=pure (ps.zip us):=by first|(exact λ_ _ _ _ _ _ us hl=>(match us,hl with|[_],_=>rfl))|(exact λ_ _ _ _ _ _ us hl=>(match us,hl with|[_,_],_=>rfl))|(exact λ_ _ _ _ _ _ us hl=>(match us,hl with|[_,_,_],_=>rfl))|(exact λ_ _ _ _ _ _ us hl=>(match us,hl with|[_,_,_,_],_=>rfl))|(exact λ_ _ _ _ _ _ us hl=>(match us,hl with|[_,_,_,_,_],_=>rfl))|(exact λ_ _ _ _ _ _ us hl=>(match us,hl with|[_,_,_,_,_,_],_=>rfl))|(exact λ_ _ _ _ _ _ us hl=>(match us,hl with|[_,_,_,_,_,_,_],_=>rfl))):Fn K mg x st ps f fd:=by
 obtain⟨od,an,sl,oc,kV,dc,pm,ct,e1,e2,rfl,e3,e4⟩:=w.e;exact zGe X G e1 e2 e3 e4 hb
theorem mh.code {K:ja}{x:Str}{st:Stmt}{f:Gj}{cd:Gg}{fd:Gi}(w:mh K x st cd f fd):fd.code=cd:=by
 obtain⟨od,an,sl,oc,kV,dc,pm,ct,e1,e2,rfl,e3,e4⟩:=w.e;rfl
theorem mh.bt {K:ja}{x:Str}{st:Stmt}{f:Gj}{cd:Gg}{fd:Gi}(w:mh K x st cd f fd){Q:Gi->Prop}(q:∀ (kV doc pm:Gg) (an:Option Gj) (cdv ct:Gg),Q (k7 x x (pA st) (nQ st) (iT st) .none kV doc pm an cdv ct)):Q fd:=by
 obtain⟨od,an,sl,oc,kV,dc,pm,ct,e1,e2,rfl,e3,e4⟩:=w.e;exact q _ _ _ _ _ _
noncomputable section
def ng (d:D):FV:=λψ=>Ga d
theorem zDZ (d:D)(ψ:En):ng d ψ=Ga d:=(rfl)
def iU (op:D->D->Option D)(f g:FV):FV:=λψ=>(f ψ).bind λx=>(g ψ).bind λy=>op x y
theorem YT (op:D->D->Option D)(f g:FV)(ψ:En):iU op f g ψ=(f ψ).bind λx=>(g ψ).bind λy=>op x y:=(rfl)
def pz (op:D->Option D)(f:FV):FV:=λψ=>(f ψ).bind op
theorem zGk (op:D->Option D)(f:FV)(ψ:En):pz op f ψ=(f ψ).bind op:=(rfl)
def pN (op:List D->Option D)(f:FL):FV:=λψ=>(f ψ).bind op
theorem ZB (op:List D->Option D)(f:FL)(ψ:En):pN op f ψ=(f ψ).bind op:=(rfl)
def mK (f:FV):FB:=λψ=>(f ψ).bind BP
theorem XJ (f:FV)(ψ:En):mK f ψ=(f ψ).bind BP:=(rfl)
def mw (op:D->D->Option D)(f g:FV):FB:=λψ=>((f ψ).bind λx=>(g ψ).bind λy=>op x y).bind nN
theorem zB7 (op:D->D->Option D)(f g:FV)(ψ:En):mw op f g ψ=((f ψ).bind λx=>(g ψ).bind λy=>op x y).bind nN:=(rfl)
def ol (f:FB):FB:=λψ=>(f ψ).bind λc=>Ga (!c)
theorem zB8 (f:FB)(ψ:En):ol f ψ=(f ψ).bind λc=>Ga (!c):=(rfl)
def xo (f g:FB):FB:=λψ=>(f ψ).bind λc=>if c then g ψ else Ga false
theorem zB9 (f g:FB)(ψ:En):xo f g ψ=(f ψ).bind λc=>if c then g ψ else Ga false:=(rfl)
def nU (f g:FB):FB:=λψ=>(f ψ).bind λc=>if c then Ga true else g ψ
theorem zD3 (f g:FB)(ψ:En):nU f g ψ=(f ψ).bind λc=>if c then Ga true else g ψ:=(rfl)
def Aq (f g:FV):FV:=λψ=>((f ψ).bind nN).bind λc=>if c then g ψ else Ga (.bool false)
theorem zCa (f g:FV)(ψ:En):Aq f g ψ=((f ψ).bind nN).bind λc=>if c then g ψ else Ga (.bool false):=(rfl)
def UO (f:FV):FV:=λψ=>((f ψ).bind nN).bind λc=>Ga (.bool (!c))
theorem zCc (f:FV)(ψ:En):UO f ψ=((f ψ).bind nN).bind λc=>Ga (.bool (!c)):=(rfl)
def DJ (c:FB)(f g:FV):FV:=λψ=>(c ψ).bind λk=>if k then f ψ else g ψ
theorem Yx (c:FB)(f g:FV)(ψ:En):DJ c f g ψ=(c ψ).bind λk=>if k then f ψ else g ψ:=(rfl)
def Nd (k k':D->D->Option D)(f g h:FV):FV:=λψ=>(f ψ).bind λx=>(g ψ).bind λy=>((k x y).bind nN).bind λt=>if t then(h ψ).bind λz=>k' y z else Ga (.bool false)
theorem zxF (k k':D->D->Option D)(f g h:FV)(ψ:En):Nd k k' f g h ψ=(f ψ).bind λx=>(g ψ).bind λy=>((k x y).bind nN).bind λt=>if t then(h ψ).bind λz=>k' y z else Ga (.bool false):=(rfl)
def Uy (k k':D->D->Option D)(f g h:FV):FB:=λψ=>((f ψ).bind λx=>(g ψ).bind λy=>((k x y).bind nN).bind λt=>if t then(h ψ).bind λz=>k' y z else Ga (.bool false)).bind nN
theorem Xe (k k':D->D->Option D)(f g h:FV)(ψ:En):Uy k k' f g h ψ=((f ψ).bind λx=>(g ψ).bind λy=>((k x y).bind nN).bind λt=>if t then(h ψ).bind λz=>k' y z else Ga (.bool false)).bind nN:=(rfl)
def nD :FL:=λψ=>Ga []
theorem zCd  (ψ:En):nD ψ=Ga []:=(rfl)
def lh (f:FV)(g:FL):FL:=λψ=>(f ψ).bind λd=>(g ψ).bind λds=>Ga (d::ds)
theorem zzU (f:FV)(g:FL)(ψ:En):lh f g ψ=(f ψ).bind λd=>(g ψ).bind λds=>Ga (d::ds):=(rfl)
def pC (g:FL):FV:=λψ=>(g ψ).bind λds=>Ga (.tuple ds)
theorem Xs (g:FL)(ψ:En):pC g ψ=(g ψ).bind λds=>Ga (.tuple ds):=(rfl)
def pf (g:FL):FV:=λψ=>(g ψ).bind λds=>Ga (.list ds)
theorem zCf (g:FL)(ψ:En):pf g ψ=(g ψ).bind λds=>Ga (.list ds):=(rfl)
def lw (fm:List D->Option D)(g:FL):FV:=λψ=>(g ψ).bind fm
theorem zzV (fm:List D->Option D)(g:FL)(ψ:En):lw fm g ψ=(g ψ).bind fm:=(rfl)
def tW (fm:List D->Option (List D))(g:FL):FL:=λψ=>(g ψ).bind fm
theorem zzW (fm:List D->Option (List D))(g:FL)(ψ:En):tW fm g ψ=(g ψ).bind fm:=(rfl)
def Cc (f:FV):FL:=λψ=>(f ψ).bind yv
theorem zD5 (f:FV)(ψ:En):Cc f ψ=(f ψ).bind yv:=(rfl)
def NN (f:FV):FL:=λψ=>(f ψ).bind xY
theorem zD6 (f:FV)(ψ:En):NN f ψ=(f ψ).bind xY:=(rfl)
def Oj (f:FL):FL:=λψ=>(f ψ).bind λxs=>Ga xs.reverse
theorem zCh (f:FL)(ψ:En):Oj f ψ=(f ψ).bind λxs=>Ga xs.reverse:=(rfl)
def pG (f:FV):FL:=λψ=>(f ψ).bind toS
theorem zCi (f:FV)(ψ:En):pG f ψ=(f ψ).bind toS:=(rfl)
def wP (op:D->Option (List D))(f:FV):FL:=λψ=>(f ψ).bind op
theorem zCj (op:D->Option (List D))(f:FV)(ψ:En):wP op f ψ=(f ψ).bind op:=(rfl)
def Nm (op:D->D->Option (List D))(f g:FV):FL:=λψ=>(f ψ).bind λx=>(g ψ).bind λy=>op x y
theorem zCl (op:D->D->Option (List D))(f g:FV)(ψ:En):Nm op f g ψ=(f ψ).bind λx=>(g ψ).bind λy=>op x y:=(rfl)
def Lf (op:D->D->D->Option (List D))(f g h:FV):FL:=λψ=>(f ψ).bind λx=>(g ψ).bind λy=>(h ψ).bind λz=>op x y z
theorem zCn (op:D->D->D->Option (List D))(f g h:FV)(ψ:En):Lf op f g h ψ=(f ψ).bind λx=>(g ψ).bind λy=>(h ψ).bind λz=>op x y z:=(rfl)
def Pg (op:D->D->D->Option D)(f g h:FV):FV:=λψ=>(f ψ).bind λx=>(g ψ).bind λy=>(h ψ).bind λz=>op x y z
theorem zCo (op:D->D->D->Option D)(f g h:FV)(ψ:En):Pg op f g h ψ=(f ψ).bind λx=>(g ψ).bind λy=>(h ψ).bind λz=>op x y z:=(rfl)
def pW (i:Nat)(f:FV):FS:=λψ=>(go i ψ).bind λds=>(f ψ).bind λd=>(yv d).bind λes=>(tS ds es).bind λrs=>Ga (.nx (ψ.set i (.own rs)))
theorem zCp (i:Nat)(f:FV)(ψ:En):pW i f ψ=(go i ψ).bind λds=>(f ψ).bind λd=>(yv d).bind λes=>(tS ds es).bind λrs=>Ga (.nx (ψ.set i (.own rs))):=(rfl)
def Mc (f:FL):FL:=λψ=>(f ψ).bind pr
theorem zzY (f:FL)(ψ:En):Mc f ψ=(f ψ).bind pr:=(rfl)
def BE (f:FL)(g:FV):FV:=λψ=>(f ψ).bind λx=>(g ψ).bind λy=>zK x y
theorem Zf (f:FL)(g:FV)(ψ:En):BE f g ψ=(f ψ).bind λx=>(g ψ).bind λy=>zK x y:=(rfl)
def om (f:FV)(g h:FP):FV:=λψ=>(f ψ).bind λx=>(g ψ).bind λl=>(h ψ).bind λu=>wk x l u
theorem WU (f:FV)(g h:FP)(ψ:En):om f g h ψ=(f ψ).bind λx=>(g ψ).bind λl=>(h ψ).bind λu=>wk x l u:=(rfl)
def ot :FP:=λψ=>Ga Gb
theorem Yl  (ψ:En):ot ψ=Ga Gb:=(rfl)
def BQ (f:FV):FP:=λψ=>(f ψ).bind HW
theorem XU (f:FV)(ψ:En):BQ f ψ=(f ψ).bind HW:=(rfl)
def lI :FS:=λψ=>Ga (.nx ψ)
theorem ZV  (ψ:En):lI ψ=Ga (.nx ψ):=(rfl)
def Gw :FS:=λψ=>Gb
theorem XI  (ψ:En):Gw ψ=Gb:=(rfl)
noncomputable def iX (g k:FS):FS:=λψ=>mU (g ψ) k
theorem zCr (g k:FS)(ψ:En):iX g k ψ=mU (g ψ) k:=(rfl)
noncomputable def mR (f:FV):FS:=λψ=>(f ψ).bind λd=>Ga (.rt d)
theorem zCs (f:FV)(ψ:En):mR f ψ=(f ψ).bind λd=>Ga (.rt d):=(rfl)
def yZ (f:FL):FS:=λψ=>(f ψ).bind λd=>Ga (.ro d)
theorem zCt (f:FL)(ψ:En):yZ f ψ=(f ψ).bind λd=>Ga (.ro d):=(rfl)
def lD (c:FB)(g k:FS):FS:=λψ=>(c (frz ψ)).bind λt=>if t then g ψ else k ψ
theorem Zj (c:FB)(g k:FS)(ψ:En):lD c g k ψ=(c (frz ψ)).bind λt=>if t then g ψ else k ψ:=(rfl)
def lF (i:Nat)(f:FV):FS:=λψ=>(f ψ).bind λd=>Ga (.nx (ψ.set i (.val d)))
theorem zCu (i:Nat)(f:FV)(ψ:En):lF i f ψ=(f ψ).bind λd=>Ga (.nx (ψ.set i (.val d))):=(rfl)
def sD (i:Nat)(f:FL):FS:=λψ=>(f ψ).bind λd=>Ga (.nx (ψ.set i (.own d)))
theorem zCv (i:Nat)(f:FL)(ψ:En):sD i f ψ=(f ψ).bind λd=>Ga (.nx (ψ.set i (.own d))):=(rfl)
def Bu (i:Nat)(g:FS):FS:=λψ=>(g ψ).bind λo=>Ga (Cd i o)
theorem zCw (i:Nat)(g:FS)(ψ:En):Bu i g ψ=(g ψ).bind λo=>Ga (Cd i o):=(rfl)
def Az (i:Nat)(g:FS):FS:=λψ=>g (frzAt i ψ)
theorem zCx (i:Nat)(g:FS)(ψ:En):Az i g ψ=g (frzAt i ψ):=(rfl)
def zh (i:Nat)(f:FV):FS:=λψ=>(go i ψ).bind λds=>(f ψ).bind λd=>if ds.length<1000000 then Ga (.nx (ψ.set i (.own (ds++[d])))) else Gb
theorem zCy (i:Nat)(f:FV)(ψ:En):zh i f ψ=(go i ψ).bind λds=>(f ψ).bind λd=>if ds.length<1000000 then Ga (.nx (ψ.set i (.own (ds++[d])))) else Gb:=(rfl)
def oK (f:FL)(t:FT)(g:FS):FS:=λψ=>(f ψ).bind λds=>lS t g ds ψ
theorem zCz (f:FL)(t:FT)(g:FS)(ψ:En):oK f t g ψ=(f ψ).bind λds=>lS t g ds ψ:=(rfl)
def KU (f:FV)(t:FT):FS:=λψ=>(f ψ).bind λd=>(t d ψ).bind λenv1=>Ga (.nx env1)
theorem ZI (f:FV)(t:FT)(ψ:En):KU f t ψ=(f ψ).bind λd=>(t d ψ).bind λenv1=>Ga (.nx env1):=(rfl)
def Tg (i:Nat)(fi f:FV):FS:=λψ=>(f ψ).bind λv=>(go i ψ).bind λds=>(fi ψ).bind λk=>(BI ds k v).bind λes=>Ga (.nx (ψ.set i (.own es)))
theorem Ym (i:Nat)(fi f:FV)(ψ:En):Tg i fi f ψ=(f ψ).bind λv=>(go i ψ).bind λds=>(fi ψ).bind λk=>(BI ds k v).bind λes=>Ga (.nx (ψ.set i (.own es))):=(rfl)
def Hw (i:Nat):FS:=λψ=>Ga (.nx (ψ.set i (.dki Gb [])))
theorem ZK (i:Nat)(ψ:En):Hw i ψ=Ga (.nx (ψ.set i (.dki Gb []))):=(rfl)
def nO (i:Nat):FT:=λd ψ=>Ga (ψ.set i (.val d))
def Ht:wL:=λds ψ=>match ds with|[]=>Ga ψ|_=>Gb
def zE (t:FT)(u:wL):wL:=λds ψ=>match ds with|d::r=>(t d ψ).bind λenv1=>u r env1|[]=>Gb
def Cb (u:wL):FT:=λd ψ=>(xY d).bind λds=>u ds ψ
theorem zEc (i:Nat)(d:D)(ψ:En):nO i d ψ=Ga (ψ.set i (.val d)):=(rfl)
theorem zz3 (ψ:En):Ht [] ψ=Ga ψ:=(rfl)
theorem YA (t:FT)(u:wL)(d:D)(r:List D)(ψ:En):zE t u (d::r) ψ=(t d ψ).bind λenv1=>u r env1:=(rfl)
theorem Zi (u:wL)(d:D)(ψ:En):Cb u d ψ=(xY d).bind λds=>u ds ψ:=(rfl)
theorem zvD (d:D)(k:FS):mU (Ga (.rt d)) k=Ga (.rt d):=(rfl)
theorem ZU (d:List D)(k:FS):mU (Ga (.ro d)) k=Ga (.ro d):=(rfl)
theorem zvF (e:En)(k:FS):mU (Ga (.nx e)) k=k e:=(rfl)
theorem zvG:frz []=[]:=(rfl)
theorem zs9 (s:Sl)(e:En):frz (s::e)=sM s::frz e:=(rfl)
theorem ZN:sM .no=.no:=(rfl)
theorem zxJ (d:D):sM (.val d)=.val d:=(rfl)
theorem zxK (d:List D):sM (.own d)=.val (.list d):=(rfl)
theorem zxL (a:Option Gj)(d:List (Int×D)):sM (.dki a d)=.val (sw d):=(rfl)
theorem zEe (d:D)(e:En):gv 0 (.val d::e)=Ga d:=(rfl)
theorem XA (x:Sl)(e:En):rW (x::e)[0]?=rW (Ga x):=(rfl)
theorem zEg (a0:Sl)(d:D)(e:En):gv 1 (a0::.val d::e)=Ga d:=(rfl)
theorem zEh (a0:Sl)(d:List D)(e:En):go 1 (a0::.own d::e)=Ga d:=(rfl)
theorem zEi (a0:Sl)(d:List D)(e:En):gl 1 (a0::.own d::e)=Ga d:=(rfl)
theorem zCD (a0:Sl)(x s:Sl)(e:En):List.set (a0::x::e) 1 s=a0::s::e:=(rfl)
theorem zCE (a0:Sl)(d:D)(e:En):frzAt 1 (a0::.val d::e)=a0::.val d::e:=(rfl)
theorem zEj (a0:Sl)(x:Sl)(e:En):rW (a0::x::e)[1]?=rW (Ga x):=(rfl)
theorem zEk (a0 a1:Sl)(d:D)(e:En):gv 2 (a0::a1::.val d::e)=Ga d:=(rfl)
theorem Yi (a0 a1:Sl)(x s:Sl)(e:En):List.set (a0::a1::x::e) 2 s=a0::a1::s::e:=(rfl)
theorem zEl (a0 a1:Sl)(d:List D)(e:En):frzAt 2 (a0::a1::.own d::e)=a0::a1::.val (.list d)::e:=(rfl)
theorem zCG (a0 a1:Sl)(d:D)(e:En):frzAt 2 (a0::a1::.val d::e)=a0::a1::.val d::e:=(rfl)
theorem zCH (a0 a1:Sl)(q:Option Gj)(d:List (Int×D))(e:En):frzAt 2 (a0::a1::.dki q d::e)=a0::a1::.val (sw d)::e:=(rfl)
theorem zEm (a0 a1:Sl)(x:Sl)(e:En):rW (a0::a1::x::e)[2]?=rW (Ga x):=(rfl)
theorem zEn (a0 a1 a2:Sl)(d:D)(e:En):gv 3 (a0::a1::a2::.val d::e)=Ga d:=(rfl)
theorem YB (a0 a1 a2:Sl)(d:List D)(e:En):go 3 (a0::a1::a2::.own d::e)=Ga d:=(rfl)
theorem zEp (a0 a1 a2:Sl)(d:List D)(e:En):gl 3 (a0::a1::a2::.own d::e)=Ga d:=(rfl)
theorem zCI (a0 a1 a2:Sl)(x s:Sl)(e:En):List.set (a0::a1::a2::x::e) 3 s=a0::a1::a2::s::e:=(rfl)
theorem Zm (a0 a1 a2:Sl)(d:List D)(e:En):frzAt 3 (a0::a1::a2::.own d::e)=a0::a1::a2::.val (.list d)::e:=(rfl)
theorem zEr (a0 a1 a2:Sl)(x:Sl)(e:En):rW (a0::a1::a2::x::e)[3]?=rW (Ga x):=(rfl)
theorem zEs (a0 a1 a2 a3:Sl)(d:D)(e:En):gv 4 (a0::a1::a2::a3::.val d::e)=Ga d:=(rfl)
theorem zEt (a0 a1 a2 a3:Sl)(d:List D)(e:En):go 4 (a0::a1::a2::a3::.own d::e)=Ga d:=(rfl)
theorem Xz (a0 a1 a2 a3:Sl)(d:List D)(e:En):gl 4 (a0::a1::a2::a3::.own d::e)=Ga d:=(rfl)
theorem zCJ (a0 a1 a2 a3:Sl)(x s:Sl)(e:En):List.set (a0::a1::a2::a3::x::e) 4 s=a0::a1::a2::a3::s::e:=(rfl)
theorem WT (a0 a1 a2 a3:Sl)(d:List D)(e:En):frzAt 4 (a0::a1::a2::a3::.own d::e)=a0::a1::a2::a3::.val (.list d)::e:=(rfl)
theorem zEw (a0 a1 a2 a3:Sl)(x:Sl)(e:En):rW (a0::a1::a2::a3::x::e)[4]?=rW (Ga x):=(rfl)
theorem XB (a0 a1 a2 a3 a4:Sl)(d:D)(e:En):gv 5 (a0::a1::a2::a3::a4::.val d::e)=Ga d:=(rfl)
theorem Zp (a0 a1 a2 a3 a4:Sl)(x s:Sl)(e:En):List.set (a0::a1::a2::a3::a4::x::e) 5 s=a0::a1::a2::a3::a4::s::e:=(rfl)
theorem XY (a0 a1 a2 a3 a4:Sl)(d:List D)(e:En):frzAt 5 (a0::a1::a2::a3::a4::.own d::e)=a0::a1::a2::a3::a4::.val (.list d)::e:=(rfl)
theorem ZQ (a0 a1 a2 a3 a4:Sl)(q:Option Gj)(d:List (Int×D))(e:En):frzAt 5 (a0::a1::a2::a3::a4::.dki q d::e)=a0::a1::a2::a3::a4::.val (sw d)::e:=(rfl)
theorem zEz (a0 a1 a2 a3 a4:Sl)(x:Sl)(e:En):rW (a0::a1::a2::a3::a4::x::e)[5]?=rW (Ga x):=(rfl)
theorem zEA (a0 a1 a2 a3 a4 a5:Sl)(d:D)(e:En):gv 6 (a0::a1::a2::a3::a4::a5::.val d::e)=Ga d:=(rfl)
theorem zEB (a0 a1 a2 a3 a4 a5:Sl)(d:List D)(e:En):go 6 (a0::a1::a2::a3::a4::a5::.own d::e)=Ga d:=(rfl)
theorem zEC (a0 a1 a2 a3 a4 a5:Sl)(d:List D)(e:En):gl 6 (a0::a1::a2::a3::a4::a5::.own d::e)=Ga d:=(rfl)
theorem zCM (a0 a1 a2 a3 a4 a5:Sl)(x s:Sl)(e:En):List.set (a0::a1::a2::a3::a4::a5::x::e) 6 s=a0::a1::a2::a3::a4::a5::s::e:=(rfl)
theorem zED (a0 a1 a2 a3 a4 a5:Sl)(x:Sl)(e:En):rW (a0::a1::a2::a3::a4::a5::x::e)[6]?=rW (Ga x):=(rfl)
theorem Xl (a0 a1 a2 a3 a4 a5 a6:Sl)(d:D)(e:En):gv 7 (a0::a1::a2::a3::a4::a5::a6::.val d::e)=Ga d:=(rfl)
theorem zCN (a0 a1 a2 a3 a4 a5 a6:Sl)(x s:Sl)(e:En):List.set (a0::a1::a2::a3::a4::a5::a6::x::e) 7 s=a0::a1::a2::a3::a4::a5::a6::s::e:=(rfl)
theorem zEF (a0 a1 a2 a3 a4 a5 a6:Sl)(d:List D)(e:En):frzAt 7 (a0::a1::a2::a3::a4::a5::a6::.own d::e)=a0::a1::a2::a3::a4::a5::a6::.val (.list d)::e:=(rfl)
theorem zEG (a0 a1 a2 a3 a4 a5 a6 a7:Sl)(d:D)(e:En):gv 8 (a0::a1::a2::a3::a4::a5::a6::a7::.val d::e)=Ga d:=(rfl)
theorem zCO (a0 a1 a2 a3 a4 a5 a6 a7:Sl)(x s:Sl)(e:En):List.set (a0::a1::a2::a3::a4::a5::a6::a7::x::e) 8 s=a0::a1::a2::a3::a4::a5::a6::a7::s::e:=(rfl)
theorem zEH (a0 a1 a2 a3 a4 a5 a6 a7 a8:Sl)(d:D)(e:En):gv 9 (a0::a1::a2::a3::a4::a5::a6::a7::a8::.val d::e)=Ga d:=(rfl)
theorem zCP (a0 a1 a2 a3 a4 a5 a6 a7 a8:Sl)(x s:Sl)(e:En):List.set (a0::a1::a2::a3::a4::a5::a6::a7::a8::x::e) 9 s=a0::a1::a2::a3::a4::a5::a6::a7::a8::s::e:=(rfl)
theorem zz5 (a0 a1 a2 a3 a4 a5 a6 a7 a8 a9:Sl)(x s:Sl)(e:En):List.set (a0::a1::a2::a3::a4::a5::a6::a7::a8::a9::x::e) 10 s=a0::a1::a2::a3::a4::a5::a6::a7::a8::a9::s::e:=(rfl)
theorem zz6 (a0 a1 a2 a3 a4 a5 a6 a7 a8 a9 a10:Sl)(x s:Sl)(e:En):List.set (a0::a1::a2::a3::a4::a5::a6::a7::a8::a9::a10::x::e) 11 s=a0::a1::a2::a3::a4::a5::a6::a7::a8::a9::a10::s::e:=(rfl)
def AR (kvs:List (Int×D))(v:D):D->Option (List (Int×D))
 | .int n=>if kvs.length<1000000 then Ga (rY kvs n v) else Gb
 | _=>Gb
theorem Zs (kvs:List (Int×D))(v:D)(n:Int):AR kvs v (.int n)=if kvs.length<1000000 then Ga (rY kvs n v) else Gb:=(rfl)
theorem TM (i:Nat)(f g:FV)(ψ:En)(oa:Option Gj)(kvs:List (Int×D))(h:ψ[i]?=Ga (.dki oa kvs)):xF i f g ψ=(g ψ).bind λv=>(f ψ).bind λd=>(AR kvs v d).bind λr=>Ga (.nx (ψ.set i (.dki oa r))):=by
 unfold xF
 congr 1;funext v;congr 1;funext d
 rw[h];cases d<;>try rfl
 show(if _ then _ else _)=(if _ then _ else _:Option _).bind _;split<;>rfl
theorem Yh (a0 a1:Sl)(oa:Option Gj)(kvs:List (Int×D))(e:En)(f g:FV):xF 2 f g (a0::a1::.dki oa kvs::e)=(g (a0::a1::.dki oa kvs::e)).bind λv=>(f (a0::a1::.dki oa kvs::e)).bind λd=>(AR kvs v d).bind λr=>Ga (.nx (a0::a1::.dki oa r::e)):=TM _ _ _ _ _ _ rfl
theorem zz9 (a0 a1 a2 a3 a4:Sl)(oa:Option Gj)(kvs:List (Int×D))(e:En)(f g:FV):xF 5 f g (a0::a1::a2::a3::a4::.dki oa kvs::e)=(g (a0::a1::a2::a3::a4::.dki oa kvs::e)).bind λv=>(f (a0::a1::a2::a3::a4::.dki oa kvs::e)).bind λd=>(AR kvs v d).bind λr=>Ga (.nx (a0::a1::a2::a3::a4::.dki oa r::e)):=TM _ _ _ _ _ _ rfl
theorem zvH (e:En):pD [] e=[]:=(rfl)
theorem YV (i:Nat)(ix:List Nat)(e:En):pD (i::ix) e=rW e[i]?::pD ix e:=(rfl)
theorem zvI (d:D):rW (Ga (.val d))=.val d:=(rfl)
theorem zvJ (d:List D):rW (Ga (.own d))=.own d:=(rfl)
theorem zEI (i:Nat)(e:En):Cd i (.nx e)=.nx (frzAt i e):=(rfl)
theorem VC (d:D):lq (Ga (.rt d))=Ga d:=(rfl)
theorem YK (d:List D):sG (Ga (.ro d))=Ga d:=(rfl)
theorem zEJ (b:Bool):nN (.bool b)=Ga b:=(rfl)
theorem zAa (b:Bool):BP (.bool b)=Ga b:=(rfl)
theorem Yu (d:List D):yv (.list d)=Ga d:=(rfl)
theorem zEL (d:List D):xY (.tuple d)=Ga d:=(rfl)
theorem OF (d:List D):toS (.list d)=Ga d:=(rfl)
theorem QU (d:List D):toS (.tuple d)=Ga d:=(rfl)
theorem zEM (i:Int):HW (.int i)=Ga (Ga i):=(rfl)
theorem zEN (i j:Int):lJ (.int i) (.int j)=Ga (.int (i+j)):=(rfl)
theorem zEO (i j:Int):nV (.int i) (.int j)=Ga (.int (i-j)):=(rfl)
theorem Za (i:Int):yS (.int i)=Ga (.int (-i)):=(rfl)
theorem zGl (i j:Int):rJ (.int i) (.int j)=Ga (.bool (decide (i<j))):=(rfl)
theorem Zw (i j:Int):sT (.int i) (.int j)=Ga (.bool (decide (i<=j))):=(rfl)
theorem Yo (i j:Int):sd (.int i) (.int j)=Ga (.bool (decide (j<i))):=(rfl)
theorem WQ (i j:Int):ET (.int i) (.int j)=Ga (.bool (decide (j<=i))):=(rfl)
theorem Zn (i j:Int):zq (.int i) (.int j)=Ga (.int (if j>i then j else i)):=(rfl)
theorem WZ (kvs:List (Int×D)):rq (sw kvs)=Ga kvs:=ss kvs
theorem zAb (d:D):Dz d=(rq d).bind λkvs=>Ga (kvs.map λp=>.int p.1):=(rfl)
theorem zER (d:D)(k:Int):yM d (.int k)=(rq d).bind λkvs=>oM kvs k:=(rfl)
theorem Xx (d:D)(k:Int)(x:D):AO d (.int k) x=(rq d).bind λkvs=>Ga ((oM kvs k).getD x):=(rfl)
theorem zCT (d:D)(k:Int):wT (.int k) d=(rq d).bind λkvs=>Ga (.bool (!(oM kvs k).isSome)):=(rfl)
theorem zCU (d:D):DI d=(rq d).bind λkvs=>Ga (.int kvs.length):=(rfl)
theorem zES (i j:Int):FF (.int i) (.int j)=Ga (.int (vO i j)):=(rfl)
theorem HL (i j:Int):mm (.int i) (.int j)=Ga (.bool (decide (i=j))):=by rw[AC];rfl
theorem LZ (i j:Int):nG (.int i) (.int j)=Ga (.bool (decide (¬i=j))):=by rw[Lr];by_cases h:i=j<;>simp[h]
theorem zET (d:List D)(i:Int):iY (.tuple d) (.int i)=atI d i:=(rfl)
theorem zEU (d:List D)(i:Int):iY (.list d) (.int i)=atI d i:=(rfl)
theorem zEV (d:List D)(i:Int):zK d (.int i)=atI d i:=(rfl)
theorem zAc (x0 x1:D):atI [x0,x1] 0=Ga x0:=(rfl)
theorem zAd (x0 x1:D):atI [x0,x1] 1=Ga x1:=(rfl)
theorem zAe (x0 x1 x2:D):atI [x0,x1,x2] 1=Ga x1:=(rfl)
theorem zAf (x0 x1 x2:D):atI [x0,x1,x2] 2=Ga x2:=(rfl)
theorem Yn (d:List D):ma (.list d)=Ga (.int d.length):=(rfl)
theorem zCW (d:List D):ma (.tuple d)=Ga (.int d.length):=(rfl)
theorem zCX (d:List D):rM d=Ga (.tuple d):=(rfl)
theorem zxP (c:lN)(φ:D->Option D)(f:FV)(e:En):rK 0 c φ f (.fn c::e)=(f (.fn c::e)).bind φ:=Ge rfl
theorem zxQ (c:lN)(fm:List D->Option D)(g:FL)(e:En):mY 0 c fm g (.fn c::e)=(g (.fn c::e)).bind fm:=Ge rfl
theorem zxR (a0:Sl)(c:lN)(fm:List D->Option D)(g:FL)(e:En):mY 1 c fm g (a0::.fn c::e)=(g (a0::.fn c::e)).bind fm:=Ge rfl
theorem zAg (c:lN):sM (.fn c)=.fn c:=(rfl)
theorem Yr:rZ .none .none=Ga (.bool true):=(rfl)
theorem zvK:nA .none .none=Ga (.bool false):=(rfl)
theorem zAi (x:List D):rZ (.tuple x) .none=Ga (.bool false):=(rfl)
theorem zo1 (x:List D):sk "tuple" (.tuple x)=Ga (.bool true):=(rfl)
theorem zvL (x:Int):nA (.int x) .none=Ga (.bool true):=(rfl)
theorem Ye (x:Int):sk "int" (.int x)=Ga (.bool true):=(rfl)
theorem zqD (x:Int):sk "bool" (.int x)=Ga (.bool false):=(rfl)
theorem zo2 (x:Int):sk "tuple" (.int x)=Ga (.bool false):=(rfl)
theorem YM {α:Type}(a b:α):(if false=true then a else b)=b:=Gf jw
def mP (I:En->Prop)(o:Option tu):Prop:=∃ e,o=Ga (.nx e)/\I e
theorem nJ {I:En->Prop}{e:En}(h:I e):mP I (Ga (.nx e)):=⟨e,rfl,h⟩
theorem Hv {I J:En->Prop}{o:Option tu}(h:mP I o)(q:∀ e,I e->J e):mP J o:=by
 obtain⟨e,rfl,hI⟩:=h;exact⟨e,rfl,q e hI⟩
theorem zAj {t:FT}{g:FS}{ds:List D}{ψ:En}(I:En->Prop)(h0:I ψ)(st:∀ d∈ds,∀ ψ,I ψ->mP I ((t d ψ).bind g)):mP I (lS t g ds ψ):=by
 refine TC I h0 λd hd e he=>?_;obtain⟨e2,h1,h2⟩:=st d hd e he;obtain⟨e1,x1,x2⟩:=uX.mp h1;exact⟨e1,e2,x1,x2,h2⟩
theorem YU {t:FT}{g k:FS}{ds:List D}{ψ:En}{R:Option tu}(I:En->Prop)(h0:I ψ)(st:∀ d∈ds,∀ ψ,I ψ->mP I ((t d ψ).bind g))(q:∀ e,I e->k e=R):mU (lS t g ds ψ) k=R:=by
 obtain⟨e,h1,h2⟩:=zAj I h0 st;rw[h1];exact q e h2
theorem Bo {t:FT}{g:FS}{f:Nat->D}(I:Nat->En->Prop)(n:Nat)(st:∀ k,k<n->∀ ψ,I k ψ->mP (I (k+1)) ((t (f k) ψ).bind g)):∀ (m a:Nat) (ψ:En),a+m=n->I a ψ->mP (I n) (lS t g ((qB a m).map f) ψ)
 | 0,a,ψ,e,h=>by
  obtain rfl:a=n:=by omega
  exact⟨ψ,rfl,h⟩
 | m+1,a,ψ,e,h=>by
  obtain⟨e2,h1,h2⟩:=st a (by omega) ψ h;obtain⟨e1,x1,x2⟩:=uX.mp h1;obtain⟨z,y1,y2⟩:=Bo I n st m (a+1) e2 (by omega) h2;refine⟨z,?_,y2⟩;rw[qK,jK];unfold lS;rw[x1,jp,x2];exact y1
theorem Cu {t:FT}{g k:FS}{f:Nat->D}{ψ:En}{R:Option tu}(n:Nat)(I:Nat->En->Prop)(h0:I 0 ψ)(st:∀ k,k<n->∀ ψ,I k ψ->mP (I (k+1)) ((t (f k) ψ).bind g))(q:∀ e,I n e->k e=R):mU (lS t g ((jd n).map f) ψ) k=R:=by
 obtain⟨e,h1,h2⟩:=Bo I n st n 0 ψ (vy _) h0;rw[kP,h1];exact q e h2
theorem KH {α:Type}{t:FT}{g:FS}(f:α->D)(I:List α->En->Prop)(as:List α)(st:∀ pre a suf,as=pre++a::suf->∀ ψ,I pre ψ->mP (I (pre++[a])) ((t (f a) ψ).bind g)):∀ (suf pre:List α) (ψ:En),as=pre++suf->I pre ψ->mP (I as) (lS t g (suf.map f) ψ)
 | [],pre,ψ,e,h=>⟨ψ,rfl,by rw[e,kz];exact h⟩
 | a::r,pre,ψ,e,h=>by
  obtain⟨e2,h1,h2⟩:=st pre a r e ψ h;obtain⟨e1,x1,x2⟩:=uX.mp h1;obtain⟨z,y1,y2⟩:=KH f I as st r (pre++[a]) e2 (by rw[e,uM];rfl) h2;refine⟨z,?_,y2⟩;rw[jK];unfold lS;rw[x1,jp,x2];exact y1
theorem CN {α:Type}{t:FT}{g k:FS}{ψ:En}{R:Option tu}(f:α->D)(I:List α->En->Prop)(as:List α)(h0:I [] ψ)(st:∀ pre a suf,as=pre++a::suf->∀ ψ,I pre ψ->mP (I (pre++[a])) ((t (f a) ψ).bind g))(q:∀ e,I as e->k e=R):mU (lS t g (as.map f) ψ) k=R:=by
 obtain⟨e,h1,h2⟩:=KH f I as st as [] ψ rfl h0;rw[h1];exact q e h2
theorem ZY {α:Type}{t:FT}{g:FS}{ψ:En}(f:α->D)(I:List α->En->Prop)(as:List α)(h0:I [] ψ)(st:∀ pre a suf,as=pre++a::suf->∀ ψ,I pre ψ->mP (I (pre++[a])) ((t (f a) ψ).bind g)):mP (I as) (lS t g (as.map f) ψ):=KH f I as st as [] ψ rfl h0
theorem oV (fi:FL)(fc:FB)(fe:FV)(ix:List Nat)(ψ:En):lY fi fc fe ix ψ=(fi ψ).bind λds=>if ds.length<=1000000 then mv fc fe (pD ix ψ) ds else Gb:=(rfl)
end
theorem WY:fillsNumberSlot (.type "tuple") "mul"=pure false :=
 PySem.fillsNumberSlot_seq (id:="tuple.__mul__") (r:=Ga (.builtin "tuple.__rmul__")) F.slot_tuple_mul.lookup (by nofun) F.slot_tuple_rmul.lookup (by nofun)
theorem zrR:seqRepeat? (.type "tuple")=pure (Ga (.builtin "tuple.__mul__")):=by
 unfold seqRepeat?;rw[J6 (T:="tuple") (name:="__mul__") (id:="tuple.__mul__") F.slot_tuple_mul.lookup (by nofun),J6 (T:="tuple") (name:="__rmul__") (id:="tuple.__rmul__") F.slot_tuple_rmul.lookup (by nofun)];rfl
theorem zvN (a:Int)(t:Tok)(l:Gj)(o:Obj)(items:Array Gg)(n:Nat)(hc:o.cls=.type "tuple")(hd:o.data=.seq items n) :
  Meets (Builtin.«int.__rmul__» ⟨[.int a t,.ref l],[]⟩) (λ_ R s=>s.heap.get? l=Ga o/\R (.ok (.ret Value.notImplemented)) s) :=
 .of_wp λprog w A R s h=>by
  obtain⟨hp,g,d,tk,os⟩:=s;obtain⟨hl,h⟩:=h;obtain⟨oc,od,oda,osl⟩:=o;simp only at hc hd;subst hc;subst hd
  wp_walk;exact⟨_,rfl,h⟩
theorem VI (items:Array Gg)(k:Nat):JE (λx1 x2=>x1++x2) #[] (jO k items)=(jO k items.toList).flatten.toArray:=by
 have:=As items.toList k [];rw[J9,Jq] at this;exact this
theorem zxT (l:Gj)(o:Obj)(items:Array Gg)(n:Nat)(x:Int)(u:Tok)(hc:o.cls=.type "tuple")(hd:o.data=.seq items n)(h0:¬items.isEmpty=true)(h2:2<=x)(hz:items.size*x.toNat<=1000000) :
  Meets (Builtin.«tuple.__mul__» ⟨[.ref l,.int x u],[]⟩) (λ_ R s=>s.heap.get? l=Ga o/\R (.ok (.ret (kY s.heap.objs.size))) { s with heap:=s.heap.push { cls:=u5 "tuple",data:=Data.seq (JE (λx1 x2=>x1++x2) #[] (jO x.toNat items)) } }) :=
 .of_wp λprog w A R s h=>by
  obtain⟨hl,h⟩:=h;have hne:1<=items.size:=by
   rcases JH items.size with z|z
   .exact absurd (Array.isEmpty_iff_size_eq_zero.mpr z) h0
   .exact z
  have hx:x.toNat<=1000000:=jk (Nat.le_mul_of_pos_left _ hne) hz;have e1:(decide (x < -(2^63))||decide (x≥2^63))=false:=by rw[Gd (by omega),Gd (by omega)];rfl
  have e2:(items.isEmpty||x==1)=false:=by
   rw[Bool.or_eq_false_iff];exact⟨jT _▸h0,beq_eq_false_iff_ne.mpr (by omega)⟩
  have e3:(decide (x<=0)||items.isEmpty)=false:=by rw[Gd (by omega),vg];exact jT _▸h0
  have ex:((items.size:Int)*x)=((items.size*x.toNat:Nat):Int):=by rw[Int.natCast_mul];congr 1;omega
  show wpAny _ _ (asIndex (.int x u) >>= _) _ _ s;refine iK (wpAny_of_eq (a:=x) rfl ?_);show wpAny _ _ (if (decide (x < -(2^63))||decide (x≥2^63))=true then _ else _) _ _ s;rw[Gf (by rw[e1];decide)];refine iK (wpAny_tupleItemsOf hl hd ?_);show wpAny _ _ (if (items.isEmpty||x==1)=true then _ else _) _ _ s;rw[Gf (by rw[e2];decide)];show wpAny _ _ (if (decide (x<=0)||items.isEmpty)=true then _ else _) _ _ s;rw[Gf (by rw[e3];decide)];show wpAny _ _ (if ((items.size:Int)*x)>(2^63-1)/8 then _ else _) _ _ s;rw[Gf (by rw[ex];omega)];show wpAny _ _ (if qr ((items.size:Int)*x)=true then _ else _) _ _ s;rw[Gf (by unfold qr;rw[ex,Gd (by rw[sizeLine_eq];omega)];decide)];refine iK (wpAny_newObj_type (iL ⟨_,rfl,h⟩) ?_);show(JE (λx1 x2=>x1++x2) #[] (jO x.toNat items)).size<=sizeLine;rw[VI,jm,CH,kb,JV,sizeLine_eq];omega
section
variable {X:Cx}{pos:Pos}
theorem XS:nS X (binaryOp .Mult) (λx y H Q=>∃ l k xs,x=.ref l/\y=.int k/\oB X.K H l xs/\xs≠[]/\2<=k/\xs.length*k.toNat<=1000000/\∀ p,H p=Gb->Q (.ref p) (upd H p (.tup (jO k.toNat xs).flatten))):=by
 intro ω s σ H x y v u Q I rx ry h;obtain⟨l,k,xs,rfl,rfl,hH,h0,h2,hz,q⟩:=h;cases rx;obtain⟨t,rfl⟩:=ry;obtain⟨its,r,⟨o,ho,hc,n,hd⟩,_⟩:=I.tuple hH;have hl:=r.length;have hne:¬its.toArray.isEmpty=true:=λz=>h0 (vN.mp (by rw[hl];simpa using z));refine wpAny_binaryOp_repeat_ref (T:="tuple") (U:="int") (by decide) ⟨_,ho,hc⟩ (λs'=>typeIs_int s' k t) WY F.fills_int_mul F.slot_int_rmul zrR F.slot_int_index.lookup
  (call_meets F.slot_int_rmul (typeIs_int s k t) F.entry_int_rmul (F.args_int_rmul_2 _ _) (zvN k t l o its.toArray n hc hd)
   ⟨ho,rfl,⟨_,ho,hc⟩,call_meets F.slot_tuple_mul ⟨_,ho,hc⟩ F.entry_tuple_mul (F.args_tuple_mul_2 _ _) (zxT l o its.toArray n k t hc hd hne h2 (by rw[jm,<- hl];exact hz)) ⟨ho,?_⟩⟩)
 rw[VI,List.toList_toArray];have hz2:(jO k.toNat xs).flatten.length<=sizeLine:=by rw[CH,JV,sizeLine_eq];omega
 exact⟨.ref _,_,I.laid (t':=s.toks) (o:=.tup (jO k.toNat xs).flatten) (λ_ _ q=>je _ q) (jj _) ⟨hz2,_,r.rep k.toNat,⟨_,jB _ rfl,rfl,0,rfl⟩⟩,rfl,q _ I.fresh⟩
def wS:D->D->Option D
 | .tuple xs,.int k=>if xs≠[]/\2<=k/\xs.length*k.toNat<=1000000 then Ga (.tuple (jO k.toNat xs).flatten) else Gb
 | _,_=>Gb
theorem zEW {a b:Expr}{f g:FV}(ha:PV X a f)(hb:PV X b g):PV X (.BinOp a .Mult b pos) (λψ=>(f ψ).bind λx=>(g ψ).bind λy=>wS x y):=by
 refine oh (GD XS ha hb) λσ H Q=>?_;rintro⟨H0,F,ψ,d,r,e,q⟩;obtain⟨x,e1,e3⟩:=iO e;obtain⟨y,e2,e4⟩:=iO e3;refine⟨H0,F,ψ,x,r,e1,λv H1 F1 g1 f1 fh1 n1 rv=>⟨H0,F1,ψ,y,r.grow g1 f1 fh1 n1,e2,λv2 H2 F2 g2 f2 fh2 n2 rv2=>?_⟩⟩;obtain⟨ds,rfl⟩:∃ ds,x=.tuple ds:=by cases x<;>first|exact⟨_,rfl⟩|(cases e4;done)
 obtain⟨k,rfl⟩:∃ k:Int,y=.int k:=by cases y<;>first|exact⟨_,rfl⟩|(cases e4;done)
 cases rv2;unfold wS at e4;dsimp only at e4;split at e4;rotate_left
 .cases e4
 rename_i c;cases e4;cases rv with
 | @tup a xs _ hq rr =>
  have hl:=rr.length;refine⟨a,k,xs,rfl,rfl,oN (f2.trans fh2) hq,λz=>c.1 (vN.mp (by rw[hl,z];rfl)),c.2.1,by rw[<- hl];exact c.2.2,λp hp=>?_⟩;have fp:F2 p=Gb:=fh2.free hp;have s1:iP F2 (upd F2 p (.tup (jO k.toNat xs).flatten)):=iP.new fp;have s2:iP H2 (upd H2 p (.tup (jO k.toNat xs).flatten)):=iP.new hp;refine q (.ref p) _ (upd F2 p (.tup (jO k.toNat xs).flatten)) ((g1.trans g2).trans s2) ((f1.trans f2).trans s1) (iP.up2 (ob:=.tup (jO k.toNat xs).flatten) fh2 fp hp trivial) (λb o h nb=>?_) (.tup (oB.of lB) (((rr.mono f2).mono s1).rep _));by_cases hb:b=p
  .rw[hb];exact(g1.trans g2).free hp
  .rw[ls hb] at h;exact(n1.trans n2 g1) b o h nb
theorem zxU (hc:X.calm=true):nZ X (.builtin "min") (λxs H Q=>∃ (p:Gj) (is:List Int) (m:Int),xs=[.ref p]/\oB X.K H p (is.map V.int)/\DQ is=Ga m/\Q (.int m) H):=by
 intro ω s σ H xs us Q I r h;obtain⟨p,is,m,rfl,hl,hm,q⟩:=h;obtain⟨hm,hle⟩:=Tn hm;obtain⟨u,rfl,ru⟩:=rg r;cases ru;obtain⟨its,rv,pl,hz⟩:=I.tuple hl;have hi:IntsAre its is:=se rv;obtain⟨ys,ey⟩:=hi.allInts.items;have en:is=ys.toList.map (·.1):=hi.numsOf.symm.trans (by rw[<- nums_intItems,<- ey]);have el:is.length=ys.size:=by rw[en,jc,kb]
 have hne:0<ys.size:=by rw[<- el];exact ua hm
 have hl':s.heap.IsTuple p (intItems ys):=by rw[<- ey];exact pl
 refine call_min_walk (wpAny_pyIter_tuple hl' ?_);have hlt:p<s.heap.objs.size:=by obtain⟨_,e,_⟩:=hl';exact jt e
 refine⟨_,[s.heap.objs.size,p],[s.heap.objs.size],_,_,_,_,rfl,Walks.tuple (A:=X.A.in1) (I.ok.hd hc) _ p (jJ hlt) (intItems ys),⟨⟨_,jB _ rfl,rfl,rfl⟩,hl'.push _⟩,λb hb=>?_,by simpa [intItems] using hne,CmpOf.ints_lt (numAt ys) (λ_ _=>intItems_at),λv h' tk hv hk=>?_⟩
 .show b<(s.heap.push _).objs.size;rw[uC];rcases ju.mp hb with z|z
  .rw[z];exact kR _
  .rw[jo.mp z];exact vT hlt
 have hv:(intItems ys)[argBest (λi j=>decide (numAt ys i<numAt ys j)) (ys.size-1)]?=Ga v:=by simpa [intItems] using hv
 obtain⟨t,rfl⟩:=intItems_at hv;obtain⟨b1,b2⟩:=argBest_lt (numAt ys) (ys.size-1);have mem:numAt ys (argBest (λi j=>decide (numAt ys i<numAt ys j)) (ys.size-1))∈is:=by rw[numAt_eq,<- en];exact qo (by omega)
 have le:numAt ys (argBest (λi j=>decide (numAt ys i<numAt ys j)) (ys.size-1))<=m:=by
  obtain⟨j,hj,ej⟩:=qp hm;have:=b2 j (by omega);rw[numAt_eq ys j,<- en,ej] at this;exact this
 refine⟨.int m,H,I.kept (λb o e=>hk b o (λz=>?_) (je _ e)),⟨t,by rw[qe le (hle _ mem)]⟩,q⟩;exact absurd (jt e) (by rw[jo.mp z];exact jU _)
theorem zxV (hc:X.calm=true):nZ X (.builtin "max") (λxs H Q=>∃ (p:Gj) (is:List Int) (m:Int),xs=[.ref p]/\oB X.K H p (is.map V.int)/\DN is=Ga m/\Q (.int m) H):=by
 intro ω s σ H xs us Q I r h;obtain⟨p,is,m,rfl,hl,hm,q⟩:=h;obtain⟨hm,hle⟩:=VE hm;obtain⟨u,rfl,ru⟩:=rg r;cases ru;obtain⟨its,rv,pl,hz⟩:=I.tuple hl;have hi:IntsAre its is:=se rv;obtain⟨ys,ey⟩:=hi.allInts.items;have en:is=ys.toList.map (·.1):=hi.numsOf.symm.trans (by rw[<- nums_intItems,<- ey]);have el:is.length=ys.size:=by rw[en,jc,kb]
 have hne:0<ys.size:=by rw[<- el];exact ua hm
 have hl':s.heap.IsTuple p (intItems ys):=by rw[<- ey];exact pl
 refine call_max_walk (wpAny_pyIter_tuple hl' ?_);have hlt:p<s.heap.objs.size:=by obtain⟨_,e,_⟩:=hl';exact jt e
 refine⟨_,[s.heap.objs.size,p],[s.heap.objs.size],_,_,_,_,rfl,Walks.tuple (A:=X.A.in1) (I.ok.hd hc) _ p (jJ hlt) (intItems ys),⟨⟨_,jB _ rfl,rfl,rfl⟩,hl'.push _⟩,λb hb=>?_,by simpa [intItems] using hne,CmpOf.ints_gt (numAt ys) (λ_ _=>intItems_at),λv h' tk hv hk=>?_⟩
 .show b<(s.heap.push _).objs.size;rw[uC];rcases ju.mp hb with z|z
  .rw[z];exact kR _
  .rw[jo.mp z];exact vT hlt
 have hv:(intItems ys)[argBest (λi j=>decide (numAt ys i>numAt ys j)) (ys.size-1)]?=Ga v:=by simpa [intItems] using hv
 obtain⟨t,rfl⟩:=intItems_at hv;obtain⟨b1,b2⟩:=argBest_gt (numAt ys) (ys.size-1);have mem:numAt ys (argBest (λi j=>decide (numAt ys i>numAt ys j)) (ys.size-1))∈is:=by rw[numAt_eq,<- en];exact qo (by omega)
 have le:m<=numAt ys (argBest (λi j=>decide (numAt ys i>numAt ys j)) (ys.size-1)):=by
  obtain⟨j,hj,ej⟩:=qp hm;have:=b2 j (by omega);rw[numAt_eq ys j,<- en,ej] at this;exact this
 refine⟨.int m,H,I.kept (λb o e=>hk b o (λz=>?_) (je _ e)),⟨t,by rw[qe (hle _ mem) le]⟩,q⟩;exact absurd (jt e) (by rw[jo.mp z];exact jU _)
def Dm (d:D):Option D:=(xY d).bind wp
def DR (d:D):Option D:=(xY d).bind sN
theorem zEX {p:Pos}{e:Expr}{f:FV}(hc:X.calm=true)(hg:Gl X "min")(hm:X.mg "min"=Gb)(ha:PV X e f)(hs:starEach [e] X.env=[(false,eval e X.env)]:=by rfl) :
  PV X (.Call (.Name "min" p) [e] [] pos) (λψ=>(f ψ).bind Dm):=by
 refine oh (xU (zxU hc) hg hm boot_min ha (hs:=hs)) λσ H Q=>?_;rintro⟨H0,F,ψ,d,r,e,q⟩;obtain⟨x,e1,e⟩:=iO e;obtain⟨ds,e4,e⟩:=iO e;obtain⟨is,e2,e⟩:=iO e;obtain⟨m,e3,e⟩:=iO e;cases e;refine⟨H0,F,ψ,x,r,e1,λv H1 F1 g1 f1 fh1 n1 rv=>?_⟩;cases rv<;>first|(cases e4;done)|skip
 rename_i a xs ds' h1 rr;cases e4;rw[Bk e2] at rr;rw[rr.ints_inv] at h1;exact⟨a,is,m,rfl,oN fh1 h1,e3,q _ H1 F1 g1 f1 fh1 n1 (.int _)⟩
theorem WR {p:Pos}{e:Expr}{f:FV}(hc:X.calm=true)(hg:Gl X "max")(hm:X.mg "max"=Gb)(ha:PV X e f)(hs:starEach [e] X.env=[(false,eval e X.env)]:=by rfl) :
  PV X (.Call (.Name "max" p) [e] [] pos) (λψ=>(f ψ).bind DR):=by
 refine oh (xU (zxV hc) hg hm boot_max ha (hs:=hs)) λσ H Q=>?_;rintro⟨H0,F,ψ,d,r,e,q⟩;obtain⟨x,e1,e⟩:=iO e;obtain⟨ds,e4,e⟩:=iO e;obtain⟨is,e2,e⟩:=iO e;obtain⟨m,e3,e⟩:=iO e;cases e;refine⟨H0,F,ψ,x,r,e1,λv H1 F1 g1 f1 fh1 n1 rv=>?_⟩;cases rv<;>first|(cases e4;done)|skip
 rename_i a xs ds' h1 rr;cases e4;rw[Bk e2] at rr;rw[rr.ints_inv] at h1;exact⟨a,is,m,rfl,oN fh1 h1,e3,q _ H1 F1 g1 f1 fh1 n1 (.int _)⟩
end
end T3
set_option maxHeartbeats 4000000
namespace T3
open PySem PySem.Spec PyProof.Rows L2
theorem fO {N P:List Str}{sc:Scope}(h:sc.kind=.function/\sc.isCoroutine=false/\sc.isGenerator=false/\N.Nodup/\N.take P.length=P/\(∀ x∈P,sc.names.lookup x=Ga .local\/sc.names.lookup x=Ga .cell)/\∀ y∈sc.names,y.2≠.free):lg N P sc:=⟨h.1,h.2.1,h.2.2.1,h.2.2.2.1,h.2.2.2.2.1,h.2.2.2.2.2.1,h.2.2.2.2.2.2⟩
theorem cO {N P N':List Str}{osc osc' scope:Scope}{x:Str}{fr:List Str}{ix:List Nat}(_:lg N P osc)(h:scope.kind=.function/\(∀ y∈scope.names,y.2≠.cell)/\(∀ y∈scope.names,y.2=.local->scope.names.lookup y.1=Ga .local)/\scope.names.lookup x=Ga .local/\(∀ y∈scope.names,y.2=.free->osc.names.lookup y.1=Ga .cell\/osc.names.lookup y.1=Ga .free)/\(∀ y∈fr,scope.names.lookup y=Ga .free)/\fr.length=ix.length/\(∀ p∈ix.zip fr,N[p.1]?=Ga p.2)/\ix.Nodup)(e1:N=N':=by rfl)(e2:osc=osc':=by rfl):sf N' osc' scope x fr ix:=by
 subst e1 e2;obtain⟨h1,h2,h3,h4,h5,h6,h7,h8,h9⟩:=h;exact⟨h1,h2,h3,h4,h5,h6,h7,λj i y a b=>h8 (i,y) (kE (List.getElem?_zip_eq_some.mpr ⟨a,b⟩)),h9⟩
theorem cV {P:Program}{w:World}{K:ja}{mg:Str->Option Gg}{base:Heap}{k:Nat}{f:Gj}{fd:Gi}{ps:List Str}{fm fm':List D->Option D}(h:lz P w K mg base lK k f fd ps (mE K fm'))(e:fm'=fm):lz P w K mg base lK k f fd ps (mE K fm):=e▸h
theorem cW {P:Program}{w:World}{K:ja}{mg:Str->Option Gg}{base:Heap}{k:Nat}{f:Gj}{fd:Gi}{ps:List Str}{fm fm':List D->Option (List D)}(h:lz P w K mg base lK k f fd ps (xf K fm'))(e:fm'=fm):lz P w K mg base lK k f fd ps (xf K fm):=e▸h
section
variable {X:Cx}{k j:Nat}{f:Gj}{fd:Gi}{ps:List Str}{x:Str}{st:Stmt}{p pos:Pos}{e:Expr}{es:List Expr}{g:FL}
theorem vc {fm:List D->Option D}(F:lz X.prog X.w X.K X.mg X.base lK k f fd ps (mE X.K fm))(W:Fn X.K X.mg x st ps f fd)(hr:nv j X.A)(ha:PL X (e::es) g)(hk:k<=j:=by decide)(hg:Gl X x:=by rfl)
  (hdb:(x==("__debug__":Str))=false:=by decide) (he:starEach (e::es) X.env=(false,eval e X.env)::starEach es X.env:=by rfl) (hpl:(backTo pos (starEach es X.env)).any (·.1)=false:=by rfl) :
  PV X (.Call (.Name x p) (e::es) [] pos) (λψ=>(g ψ).bind fm):=AL F (hr.mono hk) W.m W.F.kp W.b ha hg hdb he hpl
end
end T3
noncomputable section
namespace Law
noncomputable section
open PySem PySem.Spec PyProof.Rows L2 T3
def mq (i:Nat):Stmt:=PySem.Challenge.pw_roundfall_k53_whole_every_rule_breaks.main.body.getD i (.Pass ⟨0,0,0,0⟩)
noncomputable section
open PySem PySem.W PySem.Spec PyProof.Rows L2
def lP (i:Nat)(x:Str)(d:Gg)(m:Str)(t:Nat)(c:Gj):Obj:=⟨.type "function",Gb,.func (fnOf x x (pA (mq i)) (nQ (mq i)) (iT (mq i)) .none .none d (.str m t) Gb (.ref c) .none),#[]⟩
def rV:Nat->Gg
 | 0=>.none
 | n+1=>.ref (n+1)
def lQ (x:Str)(t1 t2 t3:Nat)(i1 i2 i3 i4 i5:Int)(r1:Gj)(i6:Int)(r2 r3 r4 r5:Gj)(i7 i8:Int)(t4:Nat):Obj:=⟨.type "code",Gb,.fields #[.str x t1,.str x t2,.str "/claim/cut.py" t3,.int i1 0,.int i2 0,.int i3 0,.int i4 0,.int i5 0,rV r1,.bool true,.int i6 0,rV r2,.none,rV r3,rV r4,rV r5,.int i7 0,.int i8 0,.str "/claim/cut.py" t4],#[]⟩
def eV (P:Params)(x:Str)(t:Nat)(v:Gg):DictEntry:=⟨Vc P x,.str x t,v⟩
def eR (P:Params)(x:Str)(t:Nat)(a:Gj):DictEntry:=⟨Vc P x,.str x t,.ref a⟩
def bO:Obj:=⟨.type "module",Ga 0,.plain,#[]⟩
def eL0 (P:Params):List DictEntry:=[eV P "__name__" 165 (.str ("law_roundfall_k53_whole_every_rule_breaks") 710),eV P "__doc__" 166 (.none),eV P "__package__" 167 (.none),eV P "__loader__" 168 (.builtin "__main__.__loader__#opaque"),eV P "__spec__" 169 (.none),eR P "__annotations__" 170 6,eR P "__builtins__" 171 4,eV P "__file__" 173 (.str ("/claim/cut.py") 172),eV P "__cached__" 174 (.none),eR P "RoundError" 206 24,eR P "NoBound" 222 37,eR P "NoNumbers" 238 49]
def YF (P:Params):List DictEntry:=[eR P "Closed" 254 61,eR P "is_whole" 263 70,eR P "bit_of" 272 77,eR P "has_hand" 280 84,eR P "mask_of" 289 91,eR P "hands_in" 295 96,eV P "LEAST_HANDS" 299 (.int 2 298),eV P "MOST_HANDS" 301 (.int 5 300),eV P "LAST_ROUND" 303 (.int 5 302),eR P "is_number" 310 103,eR P "are_numbers" 316 108,eR P "many_hands" 323 115]
def eL2 (P:Params):List DictEntry:=[eR P "fall_of" 332 122,eR P "without_fall" 338 127,eR P "with_fall" 349 134,eR P "with_number" 359 141,eR P "is_up" 369 148,eR P "who_is_up" 375 153,eR P "comes" 386 160,eR P "keeps" 394 167,eR P "with_reach_turned" 406 174,eR P "changed_while_hushed" 417 181,eR P "hushed" 423 186,eR P "all_heard" 431 191]
def eL3 (P:Params):List DictEntry:=[eR P "is_found_out" 440 198,eR P "found_out" 446 203,eR P "waste_of" 452 208,eR P "closing_round" 460 215,eR P "is_open" 469 222,eR P "without_late_falls" 477 227,eR P "heard_falls" 483 232,eR P "fallen_next" 493 239,eR P "with_heard_next" 504 246,eR P "risen" 514 253,eR P "heard_healed" 520 258,eR P "made_heard" 534 265]
def eL4 (P:Params):List DictEntry:=[eR P "round_healed" 540 270,eR P "healed" 552 277,eR P "renumbered" 567 284,eR P "are_numbers_for" 575 291,eR P "chain_of" 587 298,eR P "view_behind" 595 303,eR P "views_behind" 601 308,eR P "views_of" 607 313,eR P "own_part" 614 320,eR P "rounds_of" 622 327,eR P "own_past" 631 334,eR P "choice_by" 643 341]
def eL5 (P:Params):List DictEntry:=[eR P "number_by" 654 348,eR P "told_by" 660 353,eR P "all_told" 666 358,eR P "torn_in" 672 363,eR P "strangers" 678 368,eR P "torn_on" 691 375,eR P "broken_from" 697 380,eR P "broken" 709 387,eR P "_law_cell_at" 719 394,eR P "_law_whole" 726 401,eR P "_law_mixed" 735 408,eR P "_law_numbers" 741 413]
def eL6 (P:Params):List DictEntry:=[eR P "_law_falls" 747 418,eR P "_law_view" 761 425,eR P "_law_views" 767 430,eR P "_law_good" 782 437,eR P "_law_closing" 788 442,eR P "_law_folded" 797 449,eR P "_law_score" 807 456,eR P "_law_heard" 816 463,eR P "_law_deep" 823 470,eR P "_law_one" 832 477,eR P "_law_rule" 845 484,eR P "_law_told" 859 491]
def eL7 (P:Params):List DictEntry:=[eR P "_law_breaks" 874 498,eR P "law" 880 503]
def mO (P:Params):Obj:=⟨.type "dict",Gb,.dict (vU (eL0 P++YF P++eL2 P++eL3 P++eL4 P++eL5 P++eL6 P++eL7 P)) 86,#[]⟩
def oL0:List Obj:=[bO,lQ "is_whole" 257 258 259 11 1 0 0 3 64 181 65 66 67 68 261 11 262,lP 6 "is_whole" (.none) "roundfall.masks" 255 69,lQ "bit_of" 264 265 266 13 1 0 0 3 71 181 72 73 74 75 270 13 271,lP 7 "bit_of" (.none) "roundfall.masks" 255 76,lQ "has_hand" 273 274 275 18 2 0 0 3 78 181 79 80 81 82 278 18 279,lP 8 "has_hand" (.none) "roundfall.masks" 255 83,lQ "mask_of" 281 282 283 20 1 0 0 3 85 181 86 87 88 89 287 20 288,lP 9 "mask_of" (.none) "roundfall.masks" 255 90,lQ "hands_in" 290 291 292 25 1 0 0 3 92 181 93 0 0 94 293 25 294,lP 10 "hands_in" (.none) "roundfall.masks" 255 95,lQ "is_number" 304 305 306 31 1 0 0 3 97 181 98 99 100 101 308 31 309]
def oL1:List Obj:=[lP 15 "is_number" (.none) "roundfall.runs" 296 102,lQ "are_numbers" 311 312 313 33 1 0 0 3 104 181 105 0 0 106 314 33 315,lP 16 "are_numbers" (.none) "roundfall.runs" 296 107,lQ "many_hands" 317 318 319 37 1 0 0 3 109 181 110 111 112 113 321 37 322,lP 17 "many_hands" (.none) "roundfall.runs" 296 114,lQ "fall_of" 324 325 326 39 2 0 0 3 116 181 117 118 119 120 330 39 331,lP 18 "fall_of" (.none) "roundfall.runs" 296 121,lQ "without_fall" 333 334 335 44 2 0 0 3 123 181 124 0 0 125 336 44 337,lP 19 "without_fall" (.none) "roundfall.runs" 296 126,lQ "with_fall" 339 340 341 46 4 0 0 3 128 181 129 130 131 132 347 46 348,lP 20 "with_fall" (.none) "roundfall.runs" 296 133,lQ "with_number" 350 351 352 49 3 0 0 3 135 181 136 137 138 139 357 49 358]
def oL2:List Obj:=[lP 21 "with_number" (.none) "roundfall.runs" 296 140,lQ "is_up" 360 361 362 52 3 0 0 3 142 181 143 144 145 146 367 52 368,lP 22 "is_up" (.none) "roundfall.runs" 296 147,lQ "who_is_up" 370 371 372 55 2 0 0 3 149 181 150 0 0 151 373 55 374,lP 23 "who_is_up" (.none) "roundfall.runs" 296 152,lQ "comes" 376 377 378 57 4 0 0 3 154 181 155 156 157 158 384 57 385,lP 24 "comes" (.none) "roundfall.runs" 296 159,lQ "keeps" 387 388 389 64 2 0 0 3 161 181 162 163 164 165 392 64 393,lP 25 "keeps" (.none) "roundfall.runs" 296 166,lQ "with_reach_turned" 397 398 399 69 3 0 0 3 168 181 169 170 171 172 404 69 405,lP 27 "with_reach_turned" (.none) "roundfall.hushing" 395 173,lQ "changed_while_hushed" 407 408 409 72 5 0 0 3 175 181 176 177 178 179 415 72 416]
def Xv:List Obj:=[lP 28 "changed_while_hushed" (.none) "roundfall.hushing" 395 180,lQ "hushed" 418 419 420 74 4 0 0 3 182 181 183 0 0 184 421 74 422,lP 29 "hushed" (.none) "roundfall.hushing" 395 185,lQ "all_heard" 426 427 428 86 2 0 0 3 187 181 188 0 0 189 429 86 430,lP 31 "all_heard" (.none) "roundfall.waste" 424 190,lQ "is_found_out" 432 433 434 88 3 0 0 3 192 181 193 194 195 196 438 88 439,lP 32 "is_found_out" (.none) "roundfall.waste" 424 197,lQ "found_out" 441 442 443 90 2 0 0 3 199 181 200 0 0 201 444 90 445,lP 33 "found_out" (.none) "roundfall.waste" 424 202,lQ "waste_of" 447 448 449 95 1 0 0 3 204 181 205 0 0 206 450 95 451,lP 34 "waste_of" (.none) "roundfall.waste" 424 207,lQ "closing_round" 453 454 455 97 2 0 0 3 209 181 210 211 212 213 458 97 459]
def oL4:List Obj:=[lP 35 "closing_round" (.none) "roundfall.waste" 424 214,lQ "is_open" 461 462 463 101 3 0 0 3 216 181 217 218 219 220 467 101 468,lP 36 "is_open" (.none) "roundfall.waste" 424 221,lQ "without_late_falls" 472 473 474 104 2 0 0 3 223 181 224 0 0 225 475 104 476,lP 38 "without_late_falls" (.none) "roundfall.healing" 470 226,lQ "heard_falls" 478 479 480 106 2 0 0 3 228 181 229 0 0 230 481 106 482,lP 39 "heard_falls" (.none) "roundfall.healing" 470 231,lQ "fallen_next" 484 485 486 109 4 0 0 3 233 181 234 235 236 237 491 109 492,lP 40 "fallen_next" (.none) "roundfall.healing" 470 238,lQ "with_heard_next" 494 495 496 111 3 0 0 3 240 181 241 242 243 244 502 111 503,lP 41 "with_heard_next" (.none) "roundfall.healing" 470 245,lQ "risen" 505 506 507 116 4 0 0 3 247 181 248 249 250 251 512 116 513]
def oL5:List Obj:=[lP 42 "risen" (.none) "roundfall.healing" 470 252,lQ "heard_healed" 515 516 517 118 3 0 0 3 254 181 255 0 0 256 518 118 519,lP 43 "heard_healed" (.none) "roundfall.healing" 470 257,lQ "made_heard" 521 522 523 126 4 0 0 3 259 181 260 261 262 263 532 126 533,lP 44 "made_heard" (.none) "roundfall.healing" 470 264,lQ "round_healed" 535 536 537 134 3 0 0 3 266 181 267 0 0 268 538 134 539,lP 45 "round_healed" (.none) "roundfall.healing" 470 269,lQ "healed" 541 542 543 141 3 0 0 3 271 181 272 273 274 275 550 141 551,lP 46 "healed" (.none) "roundfall.healing" 470 276,lQ "renumbered" 555 556 557 150 3 0 0 3 278 181 279 280 281 282 565 150 566,lP 48 "renumbered" (.none) "roundfall.chains" 553 283,lQ "are_numbers_for" 568 569 570 158 2 0 0 3 285 181 286 287 288 289 573 158 574]
def Xa:List Obj:=[lP 49 "are_numbers_for" (.none) "roundfall.chains" 553 290,lQ "chain_of" 576 577 578 160 4 0 0 3 292 181 293 294 295 296 585 160 586,lP 50 "chain_of" (.none) "roundfall.chains" 553 297,lQ "view_behind" 590 591 592 169 4 0 0 3 299 181 300 0 0 301 593 169 594,lP 52 "view_behind" (.none) "roundfall.views" 588 302,lQ "views_behind" 596 597 598 172 3 0 0 3 304 181 305 0 0 306 599 172 600,lP 53 "views_behind" (.none) "roundfall.views" 588 307,lQ "views_of" 602 603 604 175 2 0 0 3 309 181 310 0 0 311 605 175 606,lP 54 "views_of" (.none) "roundfall.views" 588 312,lQ "own_part" 608 609 610 180 1 0 0 3 314 181 315 316 317 318 612 180 613,lP 55 "own_part" (.none) "roundfall.views" 588 319,lQ "rounds_of" 615 616 617 182 1 0 0 3 321 181 322 323 324 325 620 182 621]
def oL7:List Obj:=[lP 56 "rounds_of" (.none) "roundfall.views" 588 326,lQ "own_past" 623 624 625 188 2 0 0 3 328 181 329 330 331 332 629 188 630,lP 57 "own_past" (.none) "roundfall.views" 588 333,lQ "choice_by" 634 635 636 193 2 0 0 3 335 181 336 337 338 339 641 193 642,lP 59 "choice_by" (.none) "roundfall.plays" 632 340,lQ "number_by" 646 647 648 200 2 0 0 3 342 181 343 344 345 346 652 200 653,lP 61 "number_by" (.none) "roundfall.breaking" 644 347,lQ "told_by" 655 656 657 203 3 0 0 3 349 181 350 0 0 351 658 203 659,lP 62 "told_by" (.none) "roundfall.breaking" 644 352,lQ "all_told" 661 662 663 206 2 0 0 3 354 181 355 0 0 356 664 206 665,lP 63 "all_told" (.none) "roundfall.breaking" 644 357,lQ "torn_in" 667 668 669 208 2 0 0 3 359 181 360 0 0 361 670 208 671]
def Xj:List Obj:=[lP 64 "torn_in" (.none) "roundfall.breaking" 644 362,lQ "strangers" 673 674 675 211 2 0 0 3 364 181 365 0 0 366 676 211 677,lP 65 "strangers" (.none) "roundfall.breaking" 644 367,lQ "torn_on" 679 680 681 213 4 0 0 3 369 181 370 371 372 373 689 213 690,lP 66 "torn_on" (.none) "roundfall.breaking" 644 374,lQ "broken_from" 692 693 694 223 5 0 0 3 376 181 377 0 0 378 695 223 696,lP 67 "broken_from" (.none) "roundfall.breaking" 644 379,lQ "broken" 698 699 700 230 4 0 0 3 381 181 382 383 384 385 707 230 708,lP 68 "broken" (.none) "roundfall.breaking" 644 386,lQ "_law_whole" 720 721 722 245 1 0 0 3 395 181 396 397 398 399 724 245 725,lP 71 "_law_whole" (.none) "law_roundfall_k53_whole_every_rule_breaks" 710 400,lQ "_law_mixed" 727 728 729 247 2 0 0 3 402 181 403 404 405 406 733 247 734]
def oL9:List Obj:=[lP 72 "_law_mixed" (.none) "law_roundfall_k53_whole_every_rule_breaks" 710 407,lQ "_law_numbers" 736 737 738 250 2 0 0 3 409 181 410 0 0 411 739 250 740,lP 73 "_law_numbers" (.none) "law_roundfall_k53_whole_every_rule_breaks" 710 412,lQ "_law_falls" 742 743 744 255 4 0 0 3 414 181 415 0 0 416 745 255 746,lP 74 "_law_falls" (.none) "law_roundfall_k53_whole_every_rule_breaks" 710 417,lQ "_law_view" 748 749 750 270 4 0 0 3 419 181 420 421 422 423 759 270 760,lP 75 "_law_view" (.none) "law_roundfall_k53_whole_every_rule_breaks" 710 424,lQ "_law_views" 762 763 764 281 2 0 0 3 426 181 427 0 0 428 765 281 766,lP 76 "_law_views" (.none) "law_roundfall_k53_whole_every_rule_breaks" 710 429,lQ "_law_good" 768 769 770 289 3 0 0 3 431 181 432 433 434 435 780 289 781,lP 77 "_law_good" (.none) "law_roundfall_k53_whole_every_rule_breaks" 710 436,lQ "_law_closing" 783 784 785 310 2 0 0 3 438 181 439 0 0 440 786 310 787]
def Wu:List Obj:=[lP 78 "_law_closing" (.none) "law_roundfall_k53_whole_every_rule_breaks" 710 441,lQ "_law_folded" 789 790 791 321 1 0 0 3 443 181 444 445 446 447 795 321 796,lP 79 "_law_folded" (.none) "law_roundfall_k53_whole_every_rule_breaks" 710 448,lQ "_law_score" 798 799 800 326 2 0 0 3 450 181 451 452 453 454 805 326 806,lP 80 "_law_score" (.none) "law_roundfall_k53_whole_every_rule_breaks" 710 455,lQ "_law_heard" 808 809 810 337 1 0 0 3 457 181 458 459 460 461 814 337 815,lP 81 "_law_heard" (.none) "law_roundfall_k53_whole_every_rule_breaks" 710 462,lQ "_law_deep" 817 818 819 345 1 0 0 3 464 181 465 466 467 468 821 345 822,lP 82 "_law_deep" (.none) "law_roundfall_k53_whole_every_rule_breaks" 710 469,lQ "_law_one" 824 825 826 349 2 0 0 3 471 181 472 473 474 475 830 349 831,lP 83 "_law_one" (.none) "law_roundfall_k53_whole_every_rule_breaks" 710 476,lQ "_law_rule" 833 834 835 352 4 0 0 3 478 181 479 480 481 482 843 352 844]
def Wp:List Obj:=[lP 84 "_law_rule" (.none) "law_roundfall_k53_whole_every_rule_breaks" 710 483,lQ "_law_told" 846 847 848 369 3 0 0 3 485 181 486 487 488 489 857 369 858,lP 85 "_law_told" (.none) "law_roundfall_k53_whole_every_rule_breaks" 710 490,lQ "_law_breaks" 860 861 862 380 5 0 0 3 492 181 493 494 495 496 872 380 873,lP 86 "_law_breaks" (.none) "law_roundfall_k53_whole_every_rule_breaks" 710 497,lQ "law" 875 876 877 395 1 0 0 3 499 181 500 0 0 501 878 395 879,lP 87 "law" (.none) "law_roundfall_k53_whole_every_rule_breaks" 710 502]
def oA:List (List Obj):=[oL0,oL1,oL2,Xv,oL4,oL5,Xa,oL7,Xj,oL9,Wu,Wp]
def kO (i j:Nat):Obj:=(oA.getD i []).getD j ⟨.none,Gb,.plain,#[]⟩
def KK:Params->Frag:=λP=>(nat_lit 3,mO P)::(nat_lit 4,kO 0 0)::(nat_lit 69,kO 0 1)::(nat_lit 70,kO 0 2)::(nat_lit 76,kO 0 3)::(nat_lit 77,kO 0 4)::(nat_lit 83,kO 0 5)::(nat_lit 84,kO 0 6)::(nat_lit 90,kO 0 7)::(nat_lit 91,kO 0 8)::(nat_lit 95,kO 0 9)::(nat_lit 96,kO 0 10)::(nat_lit 102,kO 0 11)::(nat_lit 103,kO 1 0)::(nat_lit 107,kO 1 1)::(nat_lit 108,kO 1 2)::(nat_lit 114,kO 1 3)::(nat_lit 115,kO 1 4)::(nat_lit 121,kO 1 5)::(nat_lit 122,kO 1 6)::(nat_lit 126,kO 1 7)::(nat_lit 127,kO 1 8)::(nat_lit 133,kO 1 9)::(nat_lit 134,kO 1 10)::(nat_lit 140,kO 1 11)::(nat_lit 141,kO 2 0)::(nat_lit 147,kO 2 1)::(nat_lit 148,kO 2 2)::(nat_lit 152,kO 2 3)::(nat_lit 153,kO 2 4)::(nat_lit 159,kO 2 5)::(nat_lit 160,kO 2 6)::(nat_lit 166,kO 2 7)::(nat_lit 167,kO 2 8)::(nat_lit 173,kO 2 9)::(nat_lit 174,kO 2 10)::(nat_lit 180,kO 2 11)::(nat_lit 181,kO 3 0)::(nat_lit 185,kO 3 1)::(nat_lit 186,kO 3 2)::(nat_lit 190,kO 3 3)::(nat_lit 191,kO 3 4)::(nat_lit 197,kO 3 5)::(nat_lit 198,kO 3 6)::(nat_lit 202,kO 3 7)::(nat_lit 203,kO 3 8)::(nat_lit 207,kO 3 9)::(nat_lit 208,kO 3 10)::(nat_lit 214,kO 3 11)::(nat_lit 215,kO 4 0)::(nat_lit 221,kO 4 1)::(nat_lit 222,kO 4 2)::(nat_lit 226,kO 4 3)::(nat_lit 227,kO 4 4)::(nat_lit 231,kO 4 5)::(nat_lit 232,kO 4 6)::(nat_lit 238,kO 4 7)::(nat_lit 239,kO 4 8)::(nat_lit 245,kO 4 9)::(nat_lit 246,kO 4 10)::(nat_lit 252,kO 4 11)::(nat_lit 253,kO 5 0)::(nat_lit 257,kO 5 1)::(nat_lit 258,kO 5 2)::(nat_lit 264,kO 5 3)::(nat_lit 265,kO 5 4)::(nat_lit 269,kO 5 5)::(nat_lit 270,kO 5 6)::(nat_lit 276,kO 5 7)::(nat_lit 277,kO 5 8)::(nat_lit 283,kO 5 9)::(nat_lit 284,kO 5 10)::(nat_lit 290,kO 5 11)::(nat_lit 291,kO 6 0)::(nat_lit 297,kO 6 1)::(nat_lit 298,kO 6 2)::(nat_lit 302,kO 6 3)::(nat_lit 303,kO 6 4)::(nat_lit 307,kO 6 5)::(nat_lit 308,kO 6 6)::(nat_lit 312,kO 6 7)::(nat_lit 313,kO 6 8)::(nat_lit 319,kO 6 9)::(nat_lit 320,kO 6 10)::(nat_lit 326,kO 6 11)::(nat_lit 327,kO 7 0)::(nat_lit 333,kO 7 1)::(nat_lit 334,kO 7 2)::(nat_lit 340,kO 7 3)::(nat_lit 341,kO 7 4)::(nat_lit 347,kO 7 5)::(nat_lit 348,kO 7 6)::(nat_lit 352,kO 7 7)::(nat_lit 353,kO 7 8)::(nat_lit 357,kO 7 9)::(nat_lit 358,kO 7 10)::(nat_lit 362,kO 7 11)::(nat_lit 363,kO 8 0)::(nat_lit 367,kO 8 1)::(nat_lit 368,kO 8 2)::(nat_lit 374,kO 8 3)::(nat_lit 375,kO 8 4)::(nat_lit 379,kO 8 5)::(nat_lit 380,kO 8 6)::(nat_lit 386,kO 8 7)::(nat_lit 387,kO 8 8)::(nat_lit 400,kO 8 9)::(nat_lit 401,kO 8 10)::(nat_lit 407,kO 8 11)::(nat_lit 408,kO 9 0)::(nat_lit 412,kO 9 1)::(nat_lit 413,kO 9 2)::(nat_lit 417,kO 9 3)::(nat_lit 418,kO 9 4)::(nat_lit 424,kO 9 5)::(nat_lit 425,kO 9 6)::(nat_lit 429,kO 9 7)::(nat_lit 430,kO 9 8)::(nat_lit 436,kO 9 9)::(nat_lit 437,kO 9 10)::(nat_lit 441,kO 9 11)::(nat_lit 442,kO 10 0)::(nat_lit 448,kO 10 1)::(nat_lit 449,kO 10 2)::(nat_lit 455,kO 10 3)::(nat_lit 456,kO 10 4)::(nat_lit 462,kO 10 5)::(nat_lit 463,kO 10 6)::(nat_lit 469,kO 10 7)::(nat_lit 470,kO 10 8)::(nat_lit 476,kO 10 9)::(nat_lit 477,kO 10 10)::(nat_lit 483,kO 10 11)::(nat_lit 484,kO 11 0)::(nat_lit 490,kO 11 1)::(nat_lit 491,kO 11 2)::(nat_lit 497,kO 11 3)::(nat_lit 498,kO 11 4)::(nat_lit 502,kO 11 5)::(nat_lit 503,kO 11 6)::[]
def KA:List Gj:=nat_lit 3::nat_lit 4::nat_lit 69::nat_lit 70::nat_lit 76::nat_lit 77::nat_lit 83::nat_lit 84::nat_lit 90::nat_lit 91::nat_lit 95::nat_lit 96::nat_lit 102::nat_lit 103::nat_lit 107::nat_lit 108::nat_lit 114::nat_lit 115::nat_lit 121::nat_lit 122::nat_lit 126::nat_lit 127::nat_lit 133::nat_lit 134::nat_lit 140::nat_lit 141::nat_lit 147::nat_lit 148::nat_lit 152::nat_lit 153::nat_lit 159::nat_lit 160::nat_lit 166::nat_lit 167::nat_lit 173::nat_lit 174::nat_lit 180::nat_lit 181::nat_lit 185::nat_lit 186::nat_lit 190::nat_lit 191::nat_lit 197::nat_lit 198::nat_lit 202::nat_lit 203::nat_lit 207::nat_lit 208::nat_lit 214::nat_lit 215::nat_lit 221::nat_lit 222::nat_lit 226::nat_lit 227::nat_lit 231::nat_lit 232::nat_lit 238::nat_lit 239::nat_lit 245::nat_lit 246::nat_lit 252::nat_lit 253::nat_lit 257::nat_lit 258::nat_lit 264::nat_lit 265::nat_lit 269::nat_lit 270::nat_lit 276::nat_lit 277::nat_lit 283::nat_lit 284::nat_lit 290::nat_lit 291::nat_lit 297::nat_lit 298::nat_lit 302::nat_lit 303::nat_lit 307::nat_lit 308::nat_lit 312::nat_lit 313::nat_lit 319::nat_lit 320::nat_lit 326::nat_lit 327::nat_lit 333::nat_lit 334::nat_lit 340::nat_lit 341::nat_lit 347::nat_lit 348::nat_lit 352::nat_lit 353::nat_lit 357::nat_lit 358::nat_lit 362::nat_lit 363::nat_lit 367::nat_lit 368::nat_lit 374::nat_lit 375::nat_lit 379::nat_lit 380::nat_lit 386::nat_lit 387::nat_lit 400::nat_lit 401::nat_lit 407::nat_lit 408::nat_lit 412::nat_lit 413::nat_lit 417::nat_lit 418::nat_lit 424::nat_lit 425::nat_lit 429::nat_lit 430::nat_lit 436::nat_lit 437::nat_lit 441::nat_lit 442::nat_lit 448::nat_lit 449::nat_lit 455::nat_lit 456::nat_lit 462::nat_lit 463::nat_lit 469::nat_lit 470::nat_lit 476::nat_lit 477::nat_lit 483::nat_lit 484::nat_lit 490::nat_lit 491::nat_lit 497::nat_lit 498::nat_lit 502::nat_lit 503::[]
theorem zGX (P:Params):(KK P).lookup 500=Gb:=by kernel_rfl
theorem zF5 (P:Params):codeHdIn (KK P) 502 500=true:=by kernel_rfl
end
open PySem PySem.W PySem.Spec PyProof.Rows L2 T3
abbrev sR:Program:=PySem.Challenge.pw_roundfall_k53_whole_every_rule_breaks
def qv0:Program:=view sR (jd 199)
theorem zrA (P:Params):KA=(KK P).map (·.1):=by kernel_rfl
abbrev xt0 (s:Gh):Bool:=xlAt qv0 [] s&&recOk [] s
abbrev oS (p q:Program)(Xt:Gh->Bool)(s:Gh):=openSeen q [] (importedModules p.main.body) Xt true s
abbrev oE (p:Program)(w:World):=openEnds treeTable p w 9000
theorem ZG {p q:Program}{Xt:Gh->Bool}{α:Type}{Yf:Gh->α}{Ya:World->α}
  (h1:∀ w,(oE p w).map (λs=>(oS p q Xt s).1)=Ga (expectedOf q)) (h2:∀ w,(oE p w).map (λs=>((oS p q Xt s).2.1,(oS p q Xt s).2.2.2.2.2.2.2.1))=Ga (bltViewBooted,wideGood q))
  (h3:∀ w,(oE p w).map (λs=>(oS p q Xt s).2.2.1)=Ga true) (h4:∀ w,(oE p w).map (λs=>(oS p q Xt s).2.2.2.2.2.1)=Ga (plainGoodE q (looseW q []))) (h6:∀ w,(oE p w).map (λs=>((oS p q Xt s).2.2.2.1,(oS p q Xt s).2.2.2.2.1,(oS p q Xt s).2.2.2.2.2.2.1,(oS p q Xt s).2.2.2.2.2.2.2.2))=Ga (true,pinGoodD (drecsOf q),plainGoodD q [],clsGoodW q [])) (h5:∀ w,(oE p w).map Yf=Ga (Ya w)):LeftO p q [] Xt Yf Ya 9000:=λw=>by
 have a1:=h1 w;have a2:=h2 w;have a3:=h3 w;have a4:=h4 w;have a5:=h5 w;have a6:=h6 w;clear h1 h2 h3 h4 h5 h6;unfold oE at *;generalize openEnds treeTable p w 9000=E at *;cases E with
 | none=>cases a1
 | some s =>
  obtain⟨b1,b2⟩:=Prod.mk.inj (jF a2);obtain⟨c1,c2⟩:=Prod.mk.inj (jF a6);obtain⟨c2,c3⟩:=Prod.mk.inj c2;obtain⟨c3,c4⟩:=Prod.mk.inj c3;have e:oS p q Xt s=openGood q []:=Prod.ext (jF a1) (Prod.ext b1 (Prod.ext (jF a3) (Prod.ext c1 (Prod.ext c2 (Prod.ext (jF a4) (Prod.ext c3 (Prod.ext b2 c4)))))));show Ga (oS p q Xt s,Yf s)=Ga (openGood q [],Ya w);rw[e,show Yf s=Ya w from jF a5]
set_option maxHeartbeats 0 in
theorem VM:∀ w:World,(oE sR w).map (λs=>(oS sR qv0 xt0 s).1)=Ga (expectedOf qv0):=by
 intro w;unfold oE oS openEnds fencedOpening topFrom;rw[Fast.te14364793385576792824,Fast.te14082659384304107361,Fast.te10274390034422433532,Fast.te4187177175401517315]
 kernel_rfl
set_option maxHeartbeats 0 in
theorem WO:∀ w:World,(oE sR w).map (λs=>((oS sR qv0 xt0 s).2.1,(oS sR qv0 xt0 s).2.2.2.2.2.2.2.1))=Ga (bltViewBooted,wideGood qv0):=by
 intro w;unfold oE oS openEnds fencedOpening topFrom;rw[Fast.te14364793385576792824,Fast.te14082659384304107361,Fast.te10274390034422433532,Fast.te4187177175401517315]
 kernel_rfl
set_option maxHeartbeats 0 in
theorem Wf:∀ w:World,(oE sR w).map (λs=>(oS sR qv0 xt0 s).2.2.1)=Ga true:=by
 intro w;unfold oE oS openEnds fencedOpening topFrom;rw[Fast.te14364793385576792824,Fast.te14082659384304107361,Fast.te10274390034422433532,Fast.te4187177175401517315]
 kernel_rfl
set_option maxHeartbeats 0 in
theorem Wa:∀ w:World,(oE sR w).map (λs=>(oS sR qv0 xt0 s).2.2.2.2.2.1)=Ga (plainGoodE qv0 (looseW qv0 [])):=by
 intro w;unfold oE oS openEnds fencedOpening topFrom;rw[Fast.te14364793385576792824,Fast.te14082659384304107361,Fast.te10274390034422433532,Fast.te4187177175401517315]
 kernel_rfl
set_option maxHeartbeats 0 in
theorem VT:∀ w:World,(oE sR w).map (λs=>((oS sR qv0 xt0 s).2.2.2.1,(oS sR qv0 xt0 s).2.2.2.2.1,(oS sR qv0 xt0 s).2.2.2.2.2.2.1,(oS sR qv0 xt0 s).2.2.2.2.2.2.2.2))=Ga (true,pinGoodD (drecsOf qv0),plainGoodD qv0 [],clsGoodW qv0 []):=by
 intro w;unfold oE oS openEnds fencedOpening topFrom;rw[Fast.te14364793385576792824,Fast.te14082659384304107361,Fast.te10274390034422433532,Fast.te4187177175401517315]
 kernel_rfl
set_option maxHeartbeats 0 in
theorem Wt:∀ w:World,(oE sR w).map (Hook.obs (uy Law.KK Law.KA Law.zrA [500]))=Ga (Hook.val (uy Law.KK Law.KA Law.zrA [500]) w):=by
 intro w;unfold oE openEnds fencedOpening topFrom;rw[Fast.te14364793385576792824,Fast.te14082659384304107361,Fast.te10274390034422433532]
 kernel_rfl
theorem lf0:LeftO sR qv0 [] xt0 (Hook.obs (uy Law.KK Law.KA Law.zrA [500])) (Hook.val (uy Law.KK Law.KA Law.zrA [500])) 9000:=ZG VM WO Wf Wa VT Wt
set_option maxHeartbeats 0 in
theorem ws0:PySem.Challenge.rw_roundfall_k53_whole_every_rule_breaks.wellSaid=true:=by
 rw[Fast.te9446332074065402090]
 kernel_rfl
abbrev Na:Stmt:=mq 6
abbrev Mi:Stmt:=mq 7
abbrev KB:Stmt:=mq 8
abbrev KY:Stmt:=mq 9
abbrev Pb:Stmt:=mq 10
abbrev Nq:Stmt:=mq 15
abbrev Op:Stmt:=mq 16
abbrev NT:Stmt:=mq 17
abbrev PU:Stmt:=mq 18
abbrev Pe:Stmt:=mq 19
abbrev On:Stmt:=mq 20
abbrev Kt:Stmt:=mq 21
abbrev LR:Stmt:=mq 22
abbrev Mw:Stmt:=mq 23
abbrev Po:Stmt:=mq 24
abbrev LS:Stmt:=mq 25
abbrev NU:Stmt:=mq 27
abbrev Mm:Stmt:=mq 28
abbrev Lw:Stmt:=mq 29
abbrev NI:Stmt:=mq 31
abbrev LQ:Stmt:=mq 32
abbrev PC:Stmt:=mq 33
abbrev Kz:Stmt:=mq 34
abbrev PP:Stmt:=mq 35
abbrev Nz:Stmt:=mq 36
abbrev Qh:Stmt:=mq 38
abbrev MV:Stmt:=mq 39
abbrev NX:Stmt:=mq 40
abbrev KP:Stmt:=mq 41
abbrev Ob:Stmt:=mq 42
abbrev IX:Stmt:=mq 43
abbrev Od:Stmt:=mq 44
abbrev Of:Stmt:=mq 45
abbrev Oh:Stmt:=mq 46
abbrev Nc:Stmt:=mq 48
abbrev LG:Stmt:=mq 49
abbrev KR:Stmt:=mq 50
abbrev Pa:Stmt:=mq 52
abbrev NF:Stmt:=mq 53
abbrev Li:Stmt:=mq 54
abbrev KF:Stmt:=mq 55
abbrev OC:Stmt:=mq 56
abbrev PD:Stmt:=mq 57
abbrev PK:Stmt:=mq 59
abbrev Mr:Stmt:=mq 61
abbrev OE:Stmt:=mq 62
abbrev Pz:Stmt:=mq 63
abbrev NA:Stmt:=mq 64
abbrev LM:Stmt:=mq 65
abbrev Oq:Stmt:=mq 66
abbrev Ny:Stmt:=mq 67
abbrev Qk:Stmt:=mq 68
abbrev Pr:Stmt:=mq 71
abbrev Oe:Stmt:=mq 72
abbrev Pk:Stmt:=mq 73
abbrev Nh:Stmt:=mq 74
abbrev KQ:Stmt:=mq 75
abbrev PX:Stmt:=mq 76
abbrev LH:Stmt:=mq 77
abbrev Mq:Stmt:=mq 78
abbrev Ld:Stmt:=mq 79
abbrev KN:Stmt:=mq 80
abbrev IY:Stmt:=mq 81
abbrev KO:Stmt:=mq 82
abbrev Lb:Stmt:=mq 83
abbrev KG:Stmt:=mq 84
abbrev MP:Stmt:=mq 85
abbrev NH:Stmt:=mq 86
abbrev zk:Stmt:=mq 87
structure UA where
 a_q40:Gj
 d_q40:Gi
 a_q63:Gj
 d_q63:Gi
 a_q41:Gj
 d_q41:Gi
 a_q54:Gj
 d_q54:Gi
 a_q52:Gj
 d_q52:Gi
 a_q26:Gj
 d_q26:Gi
 a_q11:Gj
 d_q11:Gi
 a_q23:Gj
 d_q23:Gi
 a_q53:Gj
 d_q53:Gi
 a_q7:Gj
 d_q7:Gi
 a_q25:Gj
 d_q25:Gi
 a_q17:Gj
 d_q17:Gi
 a_q67:Gj
 d_q67:Gi
 a_q24:Gj
 d_q24:Gi
 a_q66:Gj
 d_q66:Gi
 a_q65:Gj
 d_q65:Gi
 a_q2:Gj
 d_q2:Gi
 a_q0:Gj
 d_q0:Gi
 a_q60:Gj
 d_q60:Gi
 a_q34:Gj
 d_q34:Gi
 a_q6:Gj
 d_q6:Gi
 a_q30:Gj
 d_q30:Gi
 a_q48:Gj
 d_q48:Gi
 a_q5:Gj
 d_q5:Gi
 a_q58:Gj
 d_q58:Gi
 a_q1:Gj
 d_q1:Gi
 a_q12:Gj
 d_q12:Gi
 a_q18:Gj
 d_q18:Gi
 a_q3:Gj
 d_q3:Gi
 a_q64:Gj
 d_q64:Gi
 a_q10:Gj
 d_q10:Gi
 a_q19:Gj
 d_q19:Gi
 a_q9:Gj
 d_q9:Gi
 a_q61:Gj
 d_q61:Gi
 a_q21:Gj
 d_q21:Gi
 a_q4:Gj
 d_q4:Gi
 a_q47:Gj
 d_q47:Gi
 a_q13:Gj
 d_q13:Gi
 a_q8:Gj
 d_q8:Gi
 a_q46:Gj
 d_q46:Gi
 a_q42:Gj
 d_q42:Gi
 a_q32:Gj
 d_q32:Gi
 a_q51:Gj
 d_q51:Gi
 a_q36:Gj
 d_q36:Gi
 a_q28:Gj
 d_q28:Gi
 a_q59:Gj
 d_q59:Gi
 a_q45:Gj
 d_q45:Gi
 a_q55:Gj
 d_q55:Gi
 a_q31:Gj
 d_q31:Gi
 a_q57:Gj
 d_q57:Gi
 a_q15:Gj
 d_q15:Gi
 a_q62:Gj
 d_q62:Gi
 a_q33:Gj
 d_q33:Gi
 a_q29:Gj
 d_q29:Gi
 a_q14:Gj
 d_q14:Gi
 a_q35:Gj
 d_q35:Gi
 a_q43:Gj
 d_q43:Gi
 a_q38:Gj
 d_q38:Gi
 a_q44:Gj
 d_q44:Gi
 a_q16:Gj
 d_q16:Gi
 a_q22:Gj
 d_q22:Gi
 a_q27:Gj
 d_q27:Gi
 a_q37:Gj
 d_q37:Gi
 a_q49:Gj
 d_q49:Gi
 a_q56:Gj
 d_q56:Gi
 a_q39:Gj
 d_q39:Gi
 a_q50:Gj
 d_q50:Gi
 a_q20:Gj
 d_q20:Gi
 a_q68:Gj
 d_q68:Gi
 c0:Gj
 Pt:Gj
structure ml (K:ja)(mg:Str->Option Gg)(t:UA):Prop where
 q40:Fn K mg "is_whole" Na ["thing"] t.a_q40 t.d_q40
 q63:Fn K mg "bit_of" Mi ["hand"] t.a_q63 t.d_q63
 q41:Fn K mg "has_hand" KB ["mask","hand"] t.a_q41 t.d_q41
 q54:Fn K mg "mask_of" KY ["hands"] t.a_q54 t.d_q54
 q52:Fn K mg "hands_in" Pb ["mask"] t.a_q52 t.d_q52
 q26:Fn K mg "is_number" Nq ["thing"] t.a_q26 t.d_q26
 q11:Fn K mg "are_numbers" Op ["thing"] t.a_q11 t.d_q11
 q23:Fn K mg "many_hands" NT ["run"] t.a_q23 t.d_q23
 q53:Fn K mg "fall_of" PU ["run","hand"] t.a_q53 t.d_q53
 q7:Fn K mg "without_fall" Pe ["run","hand"] t.a_q7 t.d_q7
 q25:Fn K mg "with_fall" On ["run","hand","at","reached"] t.a_q25 t.d_q25
 q17:Fn K mg "with_number" Kt ["run","hand","number"] t.a_q17 t.d_q17
 q67:Fn K mg "is_up" LR ["run","hand","rounds"] t.a_q67 t.d_q67
 q24:Fn K mg "who_is_up" Mw ["run","rounds"] t.a_q24 t.d_q24
 q66:Fn K mg "comes" Po ["run","by","to","at"] t.a_q66 t.d_q66
 q65:Fn K mg "keeps" LS ["run","bound"] t.a_q65 t.d_q65
 q2:Fn K mg "with_reach_turned" NU ["run","hand","to"] t.a_q2 t.d_q2
 q0:Fn K mg "changed_while_hushed" Mm ["run","other","hand","at","rounds"] t.a_q0 t.d_q0
 q60:Fn K mg "hushed" Lw ["run","hand","at","rounds"] t.a_q60 t.d_q60
 q34:Fn K mg "all_heard" NI ["fall","up"] t.a_q34 t.d_q34
 q6:Fn K mg "is_found_out" LQ ["fall","up","rounds"] t.a_q6 t.d_q6
 q30:Fn K mg "found_out" PC ["run","rounds"] t.a_q30 t.d_q30
 q48:Fn K mg "waste_of" Kz ["run"] t.a_q48 t.d_q48
 q5:Fn K mg "closing_round" PP ["run","bound"] t.a_q5 t.d_q5
 q58:Fn K mg "is_open" Nz ["run","bound","rounds"] t.a_q58 t.d_q58
 q1:Fn K mg "without_late_falls" Qh ["run","rounds"] t.a_q1 t.d_q1
 q12:Fn K mg "heard_falls" MV ["run","at"] t.a_q12 t.d_q12
 q18:Fn K mg "fallen_next" NX ["run","hand","at","rounds"] t.a_q18 t.d_q18
 q3:Fn K mg "with_heard_next" KP ["run","at","rounds"] t.a_q3 t.d_q3
 q64:Fn K mg "risen" Ob ["run","hand","at","rounds"] t.a_q64 t.d_q64
 q10:Fn K mg "heard_healed" IX ["run","at","rounds"] t.a_q10 t.d_q10
 q19:Fn K mg "made_heard" Od ["run","hand","at","rounds"] t.a_q19 t.d_q19
 q9:Fn K mg "round_healed" Of ["run","at","rounds"] t.a_q9 t.d_q9
 q61:Fn K mg "healed" Oh ["run","bound","rounds"] t.a_q61 t.d_q61
 q21:Fn K mg "renumbered" Nc ["run","numbers","rounds"] t.a_q21 t.d_q21
 q4:Fn K mg "are_numbers_for" LG ["run","thing"] t.a_q4 t.d_q4
 q47:Fn K mg "chain_of" KR ["run","bound","rounds","numbers"] t.a_q47 t.d_q47
 q13:Fn K mg "view_behind" Pa ["run","views","hand","at"] t.a_q13 t.d_q13
 q8:Fn K mg "views_behind" NF ["run","views","at"] t.a_q8 t.d_q8
 q46:Fn K mg "views_of" Li ["run","rounds"] t.a_q46 t.d_q46
 q42:Fn K mg "own_part" KF ["view"] t.a_q42 t.d_q42
 q32:Fn K mg "rounds_of" OC ["view"] t.a_q32 t.d_q32
 q51:Fn K mg "own_past" PD ["view","rounds"] t.a_q51 t.d_q51
 q36:Fn K mg "choice_by" PK ["rule","view"] t.a_q36 t.d_q36
 q28:Fn K mg "number_by" Mr ["rule","view"] t.a_q28 t.d_q28
 q59:Fn K mg "told_by" OE ["rule","run","rounds"] t.a_q59 t.d_q59
 q45:Fn K mg "all_told" Pz ["told","number"] t.a_q45 t.d_q45
 q55:Fn K mg "torn_in" NA ["run","told"] t.a_q55 t.d_q55
 q31:Fn K mg "strangers" LM ["told","number"] t.a_q31 t.d_q31
 q57:Fn K mg "torn_on" Oq ["rule","chain","number","rounds"] t.a_q57 t.d_q57
 q15:Fn K mg "broken_from" Ny ["rule","run","bound","rounds","number"] t.a_q15 t.d_q15
 q62:Fn K mg "broken" Qk ["rule","run","bound","rounds"] t.a_q62 t.d_q62
 q33:Fn K mg "_law_whole" Pr ["found"] t.a_q33 t.d_q33
 q29:Fn K mg "_law_mixed" Oe ["number","k"] t.a_q29 t.d_q29
 q14:Fn K mg "_law_numbers" Pk ["number","many"] t.a_q14 t.d_q14
 q35:Fn K mg "_law_falls" Nh ["mixed","many","most","last"] t.a_q35 t.d_q35
 q43:Fn K mg "_law_view" KQ ["before","ends","hand","at"] t.a_q43 t.d_q43
 q38:Fn K mg "_law_views" PX ["run","rounds"] t.a_q38 t.d_q38
 q44:Fn K mg "_law_good" LH ["run","many","most"] t.a_q44 t.d_q44
 q16:Fn K mg "_law_closing" Mq ["run","bound"] t.a_q16 t.d_q16
 q22:Fn K mg "_law_folded" Ld ["script"] t.a_q22 t.d_q22
 q27:Fn K mg "_law_score" KN ["view","cells"] t.a_q27 t.d_q27
 q37:Fn K mg "_law_heard" IY ["view"] t.a_q37 t.d_q37
 q49:Fn K mg "_law_deep" KO ["view"] t.a_q49 t.d_q49
 q56:Fn K mg "_law_one" Lb ["numbers","cells"] t.a_q56 t.d_q56
 q39:Fn K mg "_law_rule" KG ["view","cells","start","one"] t.a_q39 t.d_q39
 q50:Fn K mg "_law_told" MP ["rule","run","rounds"] t.a_q50 t.d_q50
 q20:Fn K mg "_law_breaks" NH ["found","rule","many","bound","rounds"] t.a_q20 t.d_q20
 q68:Fn K mg "law" zk ["script"] t.a_q68 t.d_q68
 b_abs:mg "abs"=Gb
 b_all:mg "all"=Gb
 b_bool:mg "bool"=Gb
 b_int:mg "int"=Gb
 b_isinstance:mg "isinstance"=Gb
 b_len:mg "len"=Gb
 b_list:mg "list"=Gb
 b_max:mg "max"=Gb
 b_min:mg "min"=Gb
 b_range:mg "range"=Gb
 b_reversed:mg "reversed"=Gb
 b_sorted:mg "sorted"=Gb
 b_sum:mg "sum"=Gb
 b_tuple:mg "tuple"=Gb
 lam_cd:t.d_q68.code=.ref t.c0
 lam_hd:qJ K t.c0 t.Pt=true
 lam_bm:∃ bm o,mg "__builtins__"=Ga (.ref bm)/\bm≠builtinsNs/\bm≠mainGlobals/\K.lookup bm=Ga o/\o.cls=.type "module"/\o.dict=Ga builtinsNs/\o.data=.plain
 c_LAST_ROUND:∃ t,mg "LAST_ROUND"=Ga (.int 5 t)
 c_LEAST_HANDS:∃ t,mg "LEAST_HANDS"=Ga (.int 2 t)
 c_MOST_HANDS:∃ t,mg "MOST_HANDS"=Ga (.int 5 t)
variable {P:Program}{w:World}{K:ja}{mg:Str->Option Gg}{base:Heap}{t:UA}
theorem zqE:lg ["thing"] ["thing"] (iT Na):=fO (by nofun)
abbrev iA:=gv 0
abbrev bH:=Aq (pz (sk "int") iA) (UO (pz (sk "bool") iA))
def Kh:FS:=mR bH
def AJ:List D->Option D:=lX 1 1 Kh
theorem UQ (T:ml K mg t):lz P w K mg base lK 1 t.a_q40 t.d_q40 ["thing"] (mE K AJ) :=
 cV (mX T.q40.F zqE λ_ _ _ _ _ _ hr=>lv (lR (yx (wu (T:="int") (by decide) rfl T.b_isinstance rfl T.b_int boot_int (iM 0)) (yh (Lj (wu (T:="bool") (by decide) rfl T.b_isinstance rfl T.b_bool boot_bool (iM 0))))))) rfl
theorem GK:lg ["hand","bit","step"] ["hand"] (iT Mi):=fO (by nofun)
abbrev iB:=gv 1
abbrev gU:=mI (.int 1)
abbrev gW:=mI (.int 2)
abbrev dA:=lT 1 (lx mM iB gW)
abbrev gq:=pv mr iA
abbrev ic:=mQ iB
abbrev iz:=oZ 2
def LC:FS:=lE (lT 1 gU) (lE (pT gq iz dA) ic)
def zr:List D->Option D:=lX 1 3 LC
theorem PJ (T:ml K mg t):lz P w K mg base lK 1 t.a_q63 t.d_q63 ["hand"] (mE K zr) :=
 mX T.q63.F GK λ_ _ _ _ _ _ hr=>lu (lW 1 iR GK.nd) (lu (pe PassesOwn.never rfl (rC rfl T.b_range (iM 0)) (on 2 GK.nd) (lv (lW 1 (tE (iM 1) iR) GK.nd))) (lv (lR (iM 1))))
theorem zqF:lg ["mask","hand"] ["mask","hand"] (iT KB):=fO (by nofun)
abbrev gb:=iV iB (mf)
abbrev gX:=mI (.int 0)
def zrS:FS:=mQ (lx nG (lx Ls iA (lA zr gb)) gX)
def rG:List D->Option D:=lX 2 2 zrS
theorem Hs (T:ml K mg t):lz P w K mg base lK 2 t.a_q41 t.d_q41 ["mask","hand"] (mE K rG) :=
 mX T.q41.F zqF λ_ _ _ _ _ _ hr=>lv (lR (Fu (nM hr) (zDG (iM 0) (vc (PJ T) T.q63 hr (iQ (iM 1) lr))) iR))
theorem GQ:lg ["hands","mask","hand"] ["hands"] (iT KY):=fO (by nofun)
abbrev iD:=gv 2
abbrev gc:=iV iD (mf)
abbrev cJ:=lx Ha iB (lA zr gc)
abbrev bS:=lT 1 cJ
def OY:FS:=lE (lT 1 gX) (lE (pT (sY iA) iz bS) ic)
def Aa:List D->Option D:=lX 1 3 OY
theorem Rq (T:ml K mg t):lz P w K mg base lK 2 t.a_q54 t.d_q54 ["hands"] (mE K Aa) :=
 mX T.q54.F GQ λ_ _ _ _ _ _ hr=>lu (lW 1 iR GQ.nd) (lu (pe PassesOwn.never rfl (oI (iM 0)) (on 2 GQ.nd) (lv (lW 1 (Xw (iM 1) (vc (PJ T) T.q63 hr (iQ (iM 2) lr))) GQ.nd))) (lv (lR (iM 1))))
theorem SJ:lg ["mask"] ["mask"] (iT Pb):=fO (by nofun)
abbrev ge:=iV iA (mf)
abbrev dM:=iV iB ge
abbrev fN:=pv mr (un Dt iA)
def LI:FS:=zQ (lY fN (pq (lA rG dM)) iA [0])
def Ai:List D->Option (List D):=yV 1 1 LI
theorem Xn (T:ml K mg t):lz P w K mg base lK 3 t.a_q52 t.d_q52 ["mask"] (xf K Ai) :=
 HD T.q52.F SJ λ_ _ _ _ _ _ hr=>lv (Kx (rE rfl (cO SJ (fr:=["mask"]) (by nofun)) (rC rfl T.b_range (zDN (iM 0))) (sA (by nofun) rfl (λcl C s H fp ω=>oO (vc (Hs T) T.q41 hr (iQ (iM 1) (iQ (iM 0) lr)))) (λcl C s H fp ω=>iM 0))))
theorem zo3:lg ["thing"] ["thing"] (iT Nq):=fO (by nofun)
abbrev gr:=lh iA (nD)
abbrev gI:=ng (.int 10)
abbrev gJ:=ng (.int 60)
def Pq:FS:=mR (Aq (lw AJ gr) (Nd rJ rJ (pz yS (iU pO gI gJ)) iA (iU pO gI gJ)))
def Dc:List D->Option D:=lX 1 1 Pq
theorem zo4 (T:ml K mg t):lz P w K mg base lK 2 t.a_q26 t.d_q26 ["thing"] (mE K Dc) :=
 cV (mX T.q26.F zo3 λ_ _ _ _ _ _ hr=>lv (lR (yx (vc (UQ T) T.q40 hr (iQ (iM 0) lr)) (yh (Sm AQ AQ (sS λ_ _ _=>.bl _) (sS λ_ _ _=>.bl _) (wm (Da iR iR)) (iM 0) (Da iR iR)))))) rfl
theorem Tp:lg ["thing"] ["thing"] (iT Op):=fO (by nofun)
abbrev gN:=ng (.int 2)
abbrev gG:=pz ma iA
abbrev fS:=mR (ng (.bool false))
abbrev gO:=ng (.int 5)
abbrev gY:=sk "tuple"
abbrev dE:=ol (mK (pz gY iA))
def Nk:FS:=iX (lD (nU dE (ol (Uy sT sT gN gG gO))) fS lI) (mR (pN wy (lY (pG iA) (λ_=>Ga true) (lw Dc gr) [])))
def CG:List D->Option D:=lX 1 1 Nk
theorem zm7 (T:ml K mg t):lz P w K mg base lK 3 t.a_q11 t.d_q11 ["thing"] (mE K CG) :=
 cV (mX T.q11.F Tp λ_ _ _ _ _ _ hr=>lu (mi (oX.b (oH (pL (oO (wu (T:="tuple") (by decide) rfl T.b_isinstance rfl T.b_tuple boot_tuple (iM 0)))) (tK (pL (zBV ym ym (sS λ_ _ _=>.bl _) (sS λ_ _ _=>.bl _) (OQ T.c_LEAST_HANDS) (oY rfl T.b_len (iM 0)) (OQ T.c_MOST_HANDS)))))) (lv (lR (pP))) nt) (lv (lR (Nn rfl rfl T.b_all (PO.sh (rE rfl (cO Tp (fr:=[]) (by nofun)) (oI (iM 0)) (rP (by nofun) rfl (λcl C s H fp ω=>vc (zo4 T) T.q26 hr (iQ (iM 0) lr))))))))) rfl
theorem zn4:lg ["run"] ["run"] (iT NT):=fO (by nofun)
abbrev fq:=lx iY iA gX
def zo5:FS:=mQ (un ma fq)
def si:List D->Option D:=lX 1 1 zo5
theorem CT (T:ml K mg t):lz P w K mg base lK 1 t.a_q23 t.d_q23 ["run"] (mE K si) :=
 mX T.q23.F zn4 λ_ _ _ _ _ _ hr=>lv (lR (oY rfl T.b_len (lc (iM 0) iR)))
theorem Ro:lg ["run","hand","fall"] ["run","hand"] (iT PU):=fO (by nofun)
abbrev ik:=mI .none
abbrev fu:=lx iY iD gX
abbrev bo:=oD (mL mm fu iB) (mQ iD) (oW)
abbrev ft:=lx iY iA gU
abbrev dL:=sY ft
abbrev gs:=mQ ik
def Mt:FS:=lE (pT dL iz bo) gs
def so:List D->Option D:=lX 2 3 Mt
theorem HA (T:ml K mg t):lz P w K mg base lK 1 t.a_q53 t.d_q53 ["run","hand"] (mE K so) :=
 mX T.q53.F Ro λ_ _ _ _ _ _ hr=>lu (pe PassesOwn.never rfl (oI (lc (iM 0) iR)) (on 2 Ro.nd) (lv (mi (oz (nM hr) (lc (iM 2) iR) (iM 1)) (lv (lR (iM 2))) nt))) (lv (lR pR))
theorem Sd:lg ["run","hand"] ["run","hand"] (iT Pe):=fO (by nofun)
abbrev gQ:=ng (.int 1)
abbrev gP:=ng (.int 0)
abbrev eC:=iU iY iA gP
abbrev eD:=iU iY iA gQ
abbrev dJ:=pG eD
abbrev cK:=mw nG eC iB
def Ma:FS:=mR (pC (lh eC (lh (pN rM (lY dJ cK iA [1])) nD)))
def yJ:List D->Option D:=lX 2 2 Ma
theorem Pn (T:ml K mg t):lz P w K mg base lK 1 t.a_q7 t.d_q7 ["run","hand"] (mE K yJ) :=
 cV (mX T.q7.F Sd λ_ _ _ _ _ _ hr=>lv (lR (rB (iQ (lc (iM 0) iR) (iQ (zu rfl T.b_tuple (PO.sh (rE rfl (cO Sd (fr:=["hand"]) (by nofun)) (oI (lc (iM 0) iR)) (sA (by nofun) rfl (λcl C s H fp ω=>sX (nM hr) (lc (iM 0) iR) (iM 1)) (λcl C s H fp ω=>iM 0))))) lr))))) rfl
theorem UJ:lg ["run","hand","at","reached","others"] ["run","hand","at","reached"] (iT On):=fO (by nofun)
abbrev iE:=gv 4
abbrev iF:=gv 3
abbrev gu:=lh iB (nD)
abbrev fv:=lh iA gu
abbrev gw:=lh iF (nD)
abbrev fw:=lh iD gw
abbrev dh:=lh iB fw
def OV:FS:=iX (lF 4 (iU iY (lw yJ fv) gQ)) (mR (pC (lh eC (lh (pN rM (Mc (NN (iU lJ iE (pC (lh (pC dh) nD)))))) nD))))
def xW:List D->Option D:=lX 4 5 OV
theorem Kk (T:ml K mg t):lz P w K mg base lK 2 t.a_q25 t.d_q25 ["run","hand","at","reached"] (mE K xW) :=
 cV (mX T.q25.F UJ λ_ _ _ _ _ _ hr=>lu (lW 4 (lc (vc (Pn T) T.q7 hr (iQ (iM 0) (iQ (iM 1) lr))) iR) UJ.nd) (lv (lR (rB (iQ (lc (iM 0) iR) (iQ (zu rfl T.b_tuple (PO.sh (Zd rfl T.b_sorted (nT (iM 4) (rB (iQ (rB (iQ (iM 1) (iQ (iM 2) (iQ (iM 3) lr)))) lr)))))) lr)))))) rfl
theorem Tt:lg ["run","hand","number","numbers"] ["run","hand","number"] (iT Kt):=fO (by nofun)
abbrev ed:=iU lJ iB gQ
abbrev gy:=lh iD (nD)
abbrev df:=lh eD (nD)
def Np:FS:=iX (lF 3 eC) (mR (pC (lh (iU lJ (iU lJ (om iF ot (BQ iB)) (pC gy)) (om iF (BQ ed) ot)) df)))
def xO:List D->Option D:=lX 3 4 Np
theorem zm8 (T:ml K mg t):lz P w K mg base lK 1 t.a_q17 t.d_q17 ["run","hand","number"] (mE K xO) :=
 cV (mX T.q17.F Tt λ_ _ _ _ _ _ hr=>lu (lW 3 (lc (iM 0) iR) Tt.nd) (lv (lR (rB (iQ (nT (nT (xg (iM 3) yi (wH (iM 1))) (rB (iQ (iM 2) lr))) (xg (iM 3) (wH (nT (iM 1) iR)) yi)) (iQ (lc (iM 0) iR) lr)))))) rfl
theorem SY:lg ["run","hand","rounds","fall"] ["run","hand","rounds"] (iT LR):=fO (by nofun)
abbrev dN:=iV iA gb
def Kv:FS:=lE (lT 3 (lA so dN)) (mQ (HZ (lx rZ iF ik) (lx sd (lx iY iF gU) iD)))
def CW:List D->Option D:=lX 3 4 Kv
theorem Vr (T:ml K mg t):lz P w K mg base lK 2 t.a_q67 t.d_q67 ["run","hand","rounds"] (mE K CW) :=
 mX T.q67.F SY λ_ _ _ _ _ _ hr=>lu (lW 3 (vc (HA T) T.q53 hr (iQ (iM 0) (iQ (iM 1) lr))) SY.nd) (lv (lR (PZ (Wl (iM 3) pR) (yh (VN (lc (iM 3) iR) (iM 2))))))
theorem SO:lg ["run","rounds"] ["run","rounds"] (iT Mw):=fO (by nofun)
abbrev bJ:=lA CW (iV iD dN)
def Ot:FS:=zQ (lY (pv mr (lA si ge)) (pq bJ) iA [1,0])
def tR:List D->Option (List D):=yV 2 2 Ot
theorem De (T:ml K mg t):lz P w K mg base lK 3 t.a_q24 t.d_q24 ["run","rounds"] (xf K tR) :=
 HD T.q24.F SO λ_ _ _ _ _ _ hr=>lv (Kx (rE rfl (cO SO (fr:=["rounds","run"]) (by nofun)) (rC rfl T.b_range (vc (CT T) T.q23 hr (iQ (iM 0) lr))) (sA (by nofun) rfl (λcl C s H fp ω=>oO (vc (Vr T) T.q67 hr (iQ (iM 2) (iQ (iM 0) (iQ (iM 1) lr))))) (λcl C s H fp ω=>iM 0))))
theorem Ti:lg ["run","by","to","at","fall"] ["run","by","to","at"] (iT Po):=fO (by nofun)
abbrev gf:=iV iF (mf)
abbrev dO:=iV iD gf
abbrev cx:=iV iA dO
abbrev bz:=pq (lA CW cx)
abbrev bM:=iV (lx iY iE gW) gc
abbrev fx:=lx iY iE gU
abbrev fT:=mQ (mI (.bool false))
def LO:FS:=lE (oD (yp (mL mm iB iD) (sZ bz)) fT oW) (lE (lT 4 (lA so dN)) (lE (oD (yp (mL rZ iE ik) (mL sd fx iF)) (mQ (mI (.bool true))) oW) (mQ (xu (lx mm fx iF) (lA rG bM)))))
def DZ:List D->Option D:=lX 4 5 LO
theorem Zg (T:ml K mg t):lz P w K mg base lK 3 t.a_q66 t.d_q66 ["run","by","to","at"] (mE K DZ) :=
 mX T.q66.F Ti λ_ _ _ _ _ _ hr=>lu (mi (oX.b (oH (oz (nM hr) (iM 1) (iM 2)) (tK (pL (oO (vc (Vr T) T.q67 hr (iQ (iM 0) (iQ (iM 2) (iQ (iM 3) lr))))))))) (lv (lR (pP))) nt) (lu (lW 4 (vc (HA T) T.q53 hr (iQ (iM 0) (iQ (iM 1) lr))) Ti.nd) (lu (mi (oX.b (oH (Dv (iM 4) pR) (tK (ww (lc (iM 4) iR) (iM 3))))) (lv (lR (pP))) nt) (lv (lR (yx (Bn (nM hr) (lc (iM 4) iR) (iM 3)) (yh (vc (Hs T) T.q41 hr (iQ (lc (iM 4) iR) (iQ (iM 2) lr)))))))))
theorem zvP:lg ["run","bound"] ["run","bound"] (iT LS):=fO (by nofun)
abbrev dB:=un ma ft
def PN:FS:=lE (oD (sZ (pq (lA AJ gb))) fT oW) (mQ (xu (Bg sT sT gX iB (lx nV (lA si ge) gW)) (lx sT dB iB)))
def Ph:List D->Option D:=lX 2 2 PN
theorem zvQ (T:ml K mg t):lz P w K mg base lK 2 t.a_q65 t.d_q65 ["run","bound"] (mE K Ph) :=
 mX T.q65.F zvP λ_ _ _ _ _ _ hr=>lu (mi (pL (oO (vc (UQ T) T.q40 hr (iQ (iM 1) lr)))) (lv (lR (pP))) nt) (lv (lR (yx (Sm ym ym (sS λ_ _ _=>.bl _) (sS λ_ _ _=>.bl _) iR (iM 1) (sC (vc (CT T) T.q23 hr (iQ (iM 0) lr)) iR)) (yh (WA (oY rfl T.b_len (lc (iM 0) iR)) (iM 1))))))
theorem QY:lg ["run","hand","to","fall"] ["run","hand","to"] (iT NU):=fO (by nofun)
def No:FS:=iX (lF 3 (lw so fv)) (mR (lw xW (lh iA (lh iB (lh (iU iY iF gQ) (lh (iU FF (iU iY iF gN) (lw zr gy)) nD))))))
def sQ:List D->Option D:=lX 3 4 No
theorem SI (T:ml K mg t):lz P w K mg base lK 3 t.a_q2 t.d_q2 ["run","hand","to"] (mE K sQ) :=
 cV (mX T.q2.F QY λ_ _ _ _ _ _ hr=>lu (lW 3 (vc (HA T) T.q53 hr (iQ (iM 0) (iQ (iM 1) lr))) QY.nd) (lv (lR (vc (Kk T) T.q25 hr (iQ (iM 0) (iQ (iM 1) (iQ (lc (iM 3) iR) (iQ (YX (lc (iM 3) iR) (vc (PJ T) T.q63 hr (iQ (iM 2) lr))) lr)))))))) rfl
theorem Yk:lg ["run","other","hand","at","rounds"] ["run","other","hand","at","rounds"] (iT Mm):=fO (by nofun)
abbrev gh:=iV iE (mf)
abbrev cy:=iV iD (iV iF gh)
def Oz (rA:List D->Option (List D)):FS:=mQ (lx lJ (pj (rL rA (iV iA cy))) (pj (MA (rL rA (iV iB cy)))))
theorem Tw (T:ml K mg t){n:Nat}{fm:List D->Option (List D)}(R:lz P w K mg base lK (n+4) t.a_q60 t.d_q60 ["run","hand","at","rounds"] (xf K fm)):lz P w K mg base lK (n+4+1) t.a_q0 t.d_q0 ["run","other","hand","at","rounds"] (mE K (lX 5 5 (Oz fm))) :=
 mX T.q0.F Yk λ_ _ _ _ _ _ hr=>lv (lR (nT (PO.v (wO R (hr.mono (by omega)) T.q60.m T.q60.F.kp T.q60.b (iQ (iM 0) (iQ (iM 2) (iQ (iM 3) (iQ (iM 4) lr)))))) (PO.v (RW rfl rfl T.b_list rfl T.b_reversed (PO.sh (wO R (hr.mono (by omega)) T.q60.m T.q60.F.kp T.q60.b (iQ (iM 1) (iQ (iM 2) (iQ (iM 3) (iQ (iM 4) lr))))))))))
theorem BD:lg ["run","hand","at","rounds","other","others","path","last","fewer"] ["run","hand","at","rounds"] (iT Lw):=fO (by nofun)
abbrev iH:=gv 7
abbrev iI:=gv 8
abbrev iG:=gv 5
abbrev bK:=iV (lx lJ iD gU) gf
abbrev ce:=pj (rL tR (iV iA gc))
abbrev dP:=iV iB gh
abbrev gi:=iV iG (mf)
def zvR (rA:List D->Option (List D))(pF:List D->Option D):FS:=lE (oD (mL sd iD iF) (zQ ge) oW) (lE (AX 5 (yT 5 (lY (sY ce) (mL nG iA iB) iA [1]))) (lE (yT 6 (rL rA (iV iA (iV iB bK)))) (lE (Og 6 (lA xW (iV iA (iV iB (iV iD (iV (lA Aa gi) mf)))))) (lE (pT (sY iG) (oZ 4) (lE (lT 7 (ixS (gl 6) (un yS gU))) (lE (lT 8 (lA sQ (iV iH dP))) (Qf 6 (Kg (lA pF (iV iH (iV iI (iV iE bK)))) (zw gU) (Mp)))))) (zQ (go 6))))))
def rA:Nat->List D->Option (List D)
 | 0=>λ_=>Gb
 | n+1=>yV 4 9 (zvR (rA n) (lX 5 5 (Oz (rA n))))
def pF (n:Nat):List D->Option D:=lX 5 5 (Oz (rA n))
theorem MX (T:ml K mg t):∀ n,lz P w K mg base lK (2*n+4) t.a_q60 t.d_q60 ["run","hand","at","rounds"] (xf K (rA n))
 | 0=>Wj
 | n+1=>by
  have R:=MX T n;have R2:=Tw T R;have e:2*(n+1)+4=2*n+4+1+1:=by omega
  rw[e];exact HD T.q60.F BD λ_ _ _ _ _ _ hr=>lu (mi (ww (iM 2) (iM 3)) (lv (Kx (rF (iQ (iM 0) lr)))) nt) (lu (Ay 5 (Ax 5 rfl (cO BD (fr:=["hand"]) (by nofun)) (oI (PO.v (wO (De T) (hr.mono (by omega)) T.q24.m T.q24.F.kp T.q24.b (iQ (iM 0) (iQ (iM 2) lr))))) (sA (by nofun) rfl (λcl C s H fp ω=>sX (nM hr) (iM 0) (iM 1)) (λcl C s H fp ω=>iM 0)) BD.nd)) (lu (yq 6 (wO R (hr.mono (by omega)) T.q60.m T.q60.F.kp T.q60.b (iQ (iM 0) (iQ (iM 1) (iQ (nT (iM 2) iR) (iQ (iM 3) lr))))) BD.nd) (lu (Bt 6 (AL (Kk T) (hr.mono (by omega)) T.q25.m T.q25.F.kp T.q25.b (iQ (iM 0) (iQ (iM 1) (iQ (iM 2) (iQ (AL (Rq T) (hr.mono (by omega)) T.q54.m T.q54.F.kp T.q54.b (iQ (iM 5) lr)) lr)))))) (lu (pe PassesOwn.never rfl (oI (iM 5)) (on 4 BD.nd) (lu (lW 7 (yu (xt 6) (wm iR)) BD.nd) (lu (lW 8 (AL (SI T) (hr.mono (by omega)) T.q2.m T.q2.F.kp T.q2.b (iQ (iM 7) (iQ (iM 1) (iQ (iM 4) lr)))) BD.nd) (lv (Bj 6 (xg (AL R2 (hr.mono (by omega)) T.q0.m T.q0.F.kp T.q0.b (iQ (iM 7) (iQ (iM 8) (iQ (iM 4) (iQ (nT (iM 2) iR) (iQ (iM 3) lr)))))) (wH iR) yi)))))) (lv (zm 6))))))
theorem Ri (T:ml K mg t)(n:Nat):lz P w K mg base lK (2*n+4+1) t.a_q0 t.d_q0 ["run","other","hand","at","rounds"] (mE K (pF n)):=Tw T (MX T n)
theorem UK:lg ["fall","up"] ["fall","up"] (iT NI):=fO (by nofun)
abbrev fy:=lx iY iB gW
abbrev bN:=iV fy ge
def Mu:FS:=mQ (yo wy (lY (sY iB) (λ_=>Ga true) (lA rG bN) [0]))
def zb:List D->Option D:=lX 2 2 Mu
theorem TW (T:ml K mg t):lz P w K mg base lK 3 t.a_q34 t.d_q34 ["fall","up"] (mE K zb) :=
 mX T.q34.F UK λ_ _ _ _ _ _ hr=>lv (lR (Nn rfl rfl T.b_all (PO.sh (rE rfl (cO UK (fr:=["fall"]) (by nofun)) (oI (iM 1)) (rP (by nofun) rfl (λcl C s H fp ω=>vc (Hs T) T.q41 hr (iQ (lc (iM 1) iR) (iQ (iM 0) lr))))))))
theorem zmD:lg ["fall","up","rounds"] ["fall","up","rounds"] (iT LQ):=fO (by nofun)
def MG:FS:=mQ (HZ (lx rJ ft iD) (xu (lx mm ft iD) (Qe (lA zb dN))))
def Ff:List D->Option D:=lX 3 3 MG
theorem ZT (T:ml K mg t):lz P w K mg base lK 4 t.a_q6 t.d_q6 ["fall","up","rounds"] (mE K Ff) :=
 mX T.q6.F zmD λ_ _ _ _ _ _ hr=>lv (lR (PZ (FR (lc (iM 0) iR) (iM 2)) (yh (yx (Bn (nM hr) (lc (iM 0) iR) (iM 2)) (yh (Lj (vc (TW T) T.q34 hr (iQ (iM 0) (iQ (iM 1) lr)))))))))
theorem Kc:lg ["run","rounds","up"] ["run","rounds"] (iT PC):=fO (by nofun)
abbrev cz:=iV iA (iV iD gb)
abbrev bA:=pq (lA Ff cz)
abbrev ci:=pj (rL tR dN)
def OG:FS:=lE (lT 2 ci) (lE (oD (mL mm (un ma iD) gX) (mQ gX) oW) (mQ (lA Aa (iV (pj (lY dL bA fq [1,2])) mf))))
def CY:List D->Option D:=lX 2 3 OG
theorem zo6 (T:ml K mg t):lz P w K mg base lK 5 t.a_q30 t.d_q30 ["run","rounds"] (mE K CY) :=
 mX T.q30.F Kc λ_ _ _ _ _ _ hr=>lu (lW 2 (PO.v (wO (De T) (hr.mono (by decide)) T.q24.m T.q24.F.kp T.q24.b (iQ (iM 0) (iQ (iM 1) lr)))) Kc.nd) (lu (mi (oz (nM hr) (oY rfl T.b_len (iM 2)) iR) (lv (lR iR)) nt) (lv (lR (vc (Rq T) T.q54 hr (iQ (PO.v (rE rfl (cO Kc (fr:=["rounds","up"]) (by nofun)) (oI (lc (iM 0) iR)) (sA (by nofun) rfl (λcl C s H fp ω=>oO (vc (ZT T) T.q6 hr (iQ (iM 0) (iQ (iM 2) (iQ (iM 1) lr))))) (λcl C s H fp ω=>lc (iM 0) iR)))) lr)))))
theorem SW:lg ["run"] ["run"] (iT Kz):=fO (by nofun)
abbrev aP:=un ma (pj (rL Ai (iV (lA CY dM) mf)))
abbrev aH:=lx nV aP iA
abbrev bD:=zT sq gU (lx lJ (mI (.int 5)) gU)
abbrev dQ:=pj (iV gX mf)
def Qa:FS:=mQ (yo sN (EF (lx lJ dQ (pj (lY bD (λ_=>Ga true) aH [0])))))
def MC:List D->Option D:=lX 1 1 Qa
theorem zqH (T:ml K mg t):lz P w K mg base lK 6 t.a_q48 t.d_q48 ["run"] (mE K MC) :=
 mX T.q48.F SW λ_ _ _ _ _ _ hr=>lv (lR (Vk rfl rfl T.b_max (PV.sh (nT (PO.v (rF (iQ iR lr))) (PO.v (rE rfl (cO SW (fr:=["run"]) (by nofun)) (GE rfl T.b_range iR (nT (OQ T.c_LAST_ROUND) iR)) (rP (by nofun) rfl (λcl C s H fp ω=>sC (oY rfl T.b_len (PO.v (wO (Xn T) (hr.mono (by decide)) T.q52.m T.q52.F.kp T.q52.b (iQ (vc (zo6 T) T.q30 hr (iQ (iM 1) (iQ (iM 0) lr))) lr)))) (iM 0)))))))))
theorem zlJ:lg ["run","bound"] ["run","bound"] (iT PP):=fO (by nofun)
abbrev eW:=lx lJ iB gU
def Ku:FS:=lE (oD (sZ (pq (lA Ph dN))) (FK) oW) (mQ (lx nV eW (lA MC ge)))
def Pj:List D->Option D:=lX 2 2 Ku
theorem zlK (T:ml K mg t):lz P w K mg base lK 7 t.a_q5 t.d_q5 ["run","bound"] (mE K Pj) :=
 mX T.q5.F zlJ λ_ _ _ _ _ _ hr=>lu (mi (pL (oO (vc (zvQ T) T.q65 hr (iQ (iM 0) (iQ (iM 1) lr))))) (lv Hl) nt) (lv (lR (sC (nT (iM 1) iR) (vc (zqH T) T.q48 hr (iQ (iM 0) lr)))))
theorem zrT:lg ["run","bound","rounds"] ["run","bound","rounds"] (iT Nz):=fO (by nofun)
def KD:FS:=mQ (lx rJ iD (lA Pj dN))
def wW:List D->Option D:=lX 3 3 KD
theorem Sv (T:ml K mg t):lz P w K mg base lK 8 t.a_q58 t.d_q58 ["run","bound","rounds"] (mE K wW) :=
 mX T.q58.F zrT λ_ _ _ _ _ _ hr=>lv (lR (FR (iM 2) (vc (zlK T) T.q5 hr (iQ (iM 0) (iQ (iM 1) lr)))))
theorem Su:lg ["run","rounds"] ["run","rounds"] (iT Qh):=fO (by nofun)
abbrev cL:=mw sT eD iB
def NM:FS:=mR (pC (lh eC (lh (pN rM (lY dJ cL iA [1])) nD)))
def Bh:List D->Option D:=lX 2 2 NM
theorem zh3 (T:ml K mg t):lz P w K mg base lK 1 t.a_q1 t.d_q1 ["run","rounds"] (mE K Bh) :=
 cV (mX T.q1.F Su λ_ _ _ _ _ _ hr=>lv (lR (rB (iQ (lc (iM 0) iR) (iQ (zu rfl T.b_tuple (PO.sh (rE rfl (cO Su (fr:=["rounds"]) (by nofun)) (oI (lc (iM 0) iR)) (sA (by nofun) rfl (λcl C s H fp ω=>DE (lc (iM 0) iR) (iM 1)) (λcl C s H fp ω=>iM 0))))) lr))))) rfl
theorem LK:lg ["run","at","up"] ["run","at"] (iT MV):=fO (by nofun)
abbrev fA:=lh iA gy
abbrev cM:=mw mm eD iB
def NC:FS:=iX (lF 2 (pf (tW tR fv))) (mR (pf (lY dJ (xo cM (mK (lw zb fA))) iA [1,2])))
def zj:List D->Option D:=lX 2 3 NC
theorem Uu (T:ml K mg t):lz P w K mg base lK 4 t.a_q12 t.d_q12 ["run","at"] (mE K zj) :=
 cV (mX T.q12.F LK λ_ _ _ _ _ _ hr=>lu (lW 2 (PO.v (wO (De T) (hr.mono (by decide)) T.q24.m T.q24.F.kp T.q24.b (iQ (iM 0) (iQ (iM 1) lr)))) LK.nd) (lv (lR (PO.v (rE rfl (cO LK (fr:=["at","up"]) (by nofun)) (oI (lc (iM 0) iR)) (sA (by nofun) rfl (λcl C s H fp ω=>oX.b (Cg (oz (nM hr) (lc (iM 0) iR) (iM 1)) (BN (oO (vc (TW T) T.q34 hr (iQ (iM 0) (iQ (iM 2) lr))))))) (λcl C s H fp ω=>iM 0))))))) rfl
theorem ZA:lg ["run","hand","at","rounds"] ["run","hand","at","rounds"] (iT NX):=fO (by nofun)
abbrev ee:=iU lJ iD gQ
def LN:FS:=mR (DJ (mw rJ iD iF) (lw xW (lh iA (lh iB (lh ee (lh gP nD))))) (lw yJ fv))
def ze:List D->Option D:=lX 4 4 LN
theorem znA (T:ml K mg t):lz P w K mg base lK 3 t.a_q18 t.d_q18 ["run","hand","at","rounds"] (mE K ze) :=
 cV (mX T.q18.F ZA λ_ _ _ _ _ _ hr=>lv (lR (BS (yL (iM 2) (iM 3)) (vc (Kk T) T.q25 hr (iQ (iM 0) (iQ (iM 1) (iQ (nT (iM 2) iR) (iQ iR lr))))) (vc (Pn T) T.q7 hr (iQ (iM 0) (iQ (iM 1) lr)))))) rfl
theorem Hq:lg ["run","at","rounds","later","fall"] ["run","at","rounds"] (iT KP):=fO (by nofun)
abbrev ip:=nO 4
abbrev fB:=lh iB gy
abbrev eG:=iU iY iE gP
abbrev bc:=lh iF (lh eG fB)
def Oi:FS:=iX (lF 3 iA) (iX (oK (pG (lw zj fv)) ip (lF 3 (lw ze bc))) (mR iF))
def BV:List D->Option D:=lX 3 5 Oi
theorem zj4 (T:ml K mg t):lz P w K mg base lK 5 t.a_q3 t.d_q3 ["run","at","rounds"] (mE K BV) :=
 cV (mX T.q3.F Hq λ_ _ _ _ _ _ hr=>lu (lW 3 (iM 0) Hq.nd) (lu (pe PassesOwn.never rfl (oI (vc (Uu T) T.q12 hr (iQ (iM 0) (iQ (iM 1) lr)))) (on 4 Hq.nd) (lv (lW 3 (vc (znA T) T.q18 hr (iQ (iM 3) (iQ (lc (iM 4) iR) (iQ (iM 1) (iQ (iM 2) lr))))) Hq.nd))) (lv (lR (iM 3))))) rfl
theorem zvS:lg ["run","hand","at","rounds"] ["run","hand","at","rounds"] (iT Ob):=fO (by nofun)
def OL:FS:=mR (pf (Oj (tW (rA 12) (lh (lw yJ fv) dh))))
def yr:List D->Option D:=lX 4 4 OL
theorem zvT (T:ml K mg t):lz P w K mg base lK 29 t.a_q64 t.d_q64 ["run","hand","at","rounds"] (mE K yr) :=
 cV (mX T.q64.F zvS λ_ _ _ _ _ _ hr=>lv (lR (PO.v (RW rfl rfl T.b_list rfl T.b_reversed (PO.sh (wO (MX T 12) (hr.mono (by decide)) T.q60.m T.q60.F.kp T.q60.b (iQ (vc (Pn T) T.q7 hr (iQ (iM 0) (iQ (iM 1) lr))) (iQ (iM 1) (iQ (iM 2) (iQ (iM 3) lr)))))))))) rfl
theorem Fk:lg ["run","at","rounds","hands","path","hand"] ["run","at","rounds"] (iT IX):=fO (by nofun)
abbrev fU:=pz yS gQ
abbrev dF:=BE (gl 4) fU
abbrev aF:=lh dF (lh iG (lh ed gy))
abbrev iq:=nO 5
abbrev di:=lh iA fB
abbrev gj:=BQ gQ
abbrev ig:=yZ (go 4)
def Mj:FS:=iX (Bu 3 (sD 3 (lY (pG (lw zj fv)) (λ_=>Ga true) eC []))) (iX (sD 4 gr) (iX (lD (mw sd (pz ma iF) gP) (zh 4 (lw BV di)) lI) (iX (oK (pG iF) iq (pW 4 (om (lw yr aF) gj ot))) ig)))
def wX:List D->Option (List D):=yV 3 6 Mj
theorem Ui (T:ml K mg t):lz P w K mg base lK 30 t.a_q10 t.d_q10 ["run","at","rounds"] (xf K wX) :=
 cW (HD T.q10.F Fk λ_ _ _ _ _ _ hr=>lu (Ay 3 (Ax 3 rfl (cO Fk (fr:=[]) (by nofun)) (oI (vc (Uu T) T.q12 hr (iQ (iM 0) (iQ (iM 1) lr)))) (rP (by nofun) rfl (λcl C s H fp ω=>lc (iM 0) iR)) Fk.nd)) (lu (yq 4 (rF (iQ (iM 0) lr)) Fk.nd) (lu (mi (ww (oY rfl T.b_len (iM 3)) iR) (lv (Bt 4 (vc (zj4 T) T.q3 hr (iQ (iM 0) (iQ (iM 1) (iQ (iM 2) lr)))))) nt) (lu (pe PassesOwn.never rfl (oI (iM 3)) (on 5 Fk.nd) (lv (Bj 4 (xg (vc (zvT T) T.q64 hr (iQ (yu (xt 4) (wm iR)) (iQ (iM 5) (iQ (nT (iM 1) iR) (iQ (iM 2) lr))))) (wH iR) yi)))) (lv (zm 4)))))) rfl
theorem El:lg ["run","hand","at","rounds","path","to","last","more"] ["run","hand","at","rounds"] (iT Od):=fO (by nofun)
abbrev iJ:=gv 6
abbrev bT:=lh ee gw
abbrev aM:=lh iJ (lh iH (lh iG bT))
abbrev cr:=pG (pf (tW tR fA))
abbrev gz:=lh iG (nD)
abbrev cX:=lF 6 dF
abbrev dm:=lh iJ (lh iB gz)
abbrev fC:=lh iJ gu
def KJ:FS:=iX (sD 4 gr) (iX (oK cr iq (iX cX (lD (ol (mK (lw rG (lh (iU iY (lw so fC) gN) gz)))) (iX (lF 7 (lw sQ dm)) (pW 4 (om (lw (pF 12) aM) gj ot))) lI))) ig)
def yF:List D->Option D:=lX 4 8 KJ
theorem zn9 (T:ml K mg t):lz P w K mg base lK 30 t.a_q19 t.d_q19 ["run","hand","at","rounds"] (mE K yF) :=
 cV (mX T.q19.F El λ_ _ _ _ _ _ hr=>lu (yq 4 (rF (iQ (iM 0) lr)) El.nd) (lu (pe PassesOwn.never rfl (oI (PO.v (wO (De T) (hr.mono (by decide)) T.q24.m T.q24.F.kp T.q24.b (iQ (iM 0) (iQ (iM 2) lr))))) (on 5 El.nd) (lu (lW 6 (yu (xt 4) (wm iR)) El.nd) (lv (mi (pL (oO (vc (Hs T) T.q41 hr (iQ (lc (vc (HA T) T.q53 hr (iQ (iM 6) (iQ (iM 1) lr))) iR) (iQ (iM 5) lr))))) (lu (lW 7 (vc (SI T) T.q2 hr (iQ (iM 6) (iQ (iM 1) (iQ (iM 5) lr)))) El.nd) (lv (Bj 4 (xg (vc (Ri T 12) T.q0 hr (iQ (iM 6) (iQ (iM 7) (iQ (iM 5) (iQ (nT (iM 2) iR) (iQ (iM 3) lr)))))) (wH iR) yi)))) nt)))) (lv (zm 4)))) rfl
theorem Fj:lg ["run","at","rounds","path","hands","hand"] ["run","at","rounds"] (iT Of):=fO (by nofun)
abbrev dG:=BE (gl 3) fU
abbrev aR:=lh dG (lh iG fB)
abbrev bg:=lh dG fB
abbrev ii:=yZ (go 3)
def Kb:FS:=iX (sD 3 (tW wX di)) (iX (Bu 4 (sD 4 (lY (pG (iU iY dG gQ)) cM eC [1]))) (iX (oK (pG iE) iq (iX (pW 3 (om (lw yF aR) gj ot)) (pW 3 (om (pf (tW wX bg)) gj ot)))) ii))
def yI:List D->Option D:=lX 3 6 Kb
theorem Zc (T:ml K mg t):lz P w K mg base lK 31 t.a_q9 t.d_q9 ["run","at","rounds"] (mE K yI) :=
 cV (mX T.q9.F Fj λ_ _ _ _ _ _ hr=>lu (yq 3 (wO (Ui T) (hr.mono (by decide)) T.q10.m T.q10.F.kp T.q10.b (iQ (iM 0) (iQ (iM 1) (iQ (iM 2) lr)))) Fj.nd) (lu (Ay 4 (Ax 4 rfl (cO Fj (fr:=["at"]) (by nofun)) (oI (lc (yu (xt 3) (wm iR)) iR)) (sA (by nofun) rfl (λcl C s H fp ω=>oz (nM hr) (lc (iM 0) iR) (iM 1)) (λcl C s H fp ω=>lc (iM 0) iR)) Fj.nd)) (lu (pe PassesOwn.never rfl (oI (iM 4)) (on 5 Fj.nd) (lu (Bj 3 (xg (vc (zn9 T) T.q19 hr (iQ (yu (xt 3) (wm iR)) (iQ (iM 5) (iQ (iM 1) (iQ (iM 2) lr))))) (wH iR) yi)) (lv (Bj 3 (xg (PO.v (wO (Ui T) (hr.mono (by decide)) T.q10.m T.q10.F.kp T.q10.b (iQ (yu (xt 3) (wm iR)) (iQ (iM 1) (iQ (iM 2) lr))))) (wH iR) yi))))) (lv (zm 3))))) rfl
theorem Hf:lg ["run","bound","rounds","path","seen","step"] ["run","bound","rounds"] (iT Oh):=fO (by nofun)
abbrev aN:=lh dG (lh (iU nV iD iG) gy)
def LX:FS:=iX (sD 3 gr) (iX (lF 4 (lw Bh fA)) (iX (lD (mw nG iE iA) (zh 3 iE) lI) (iX (oK (wP mr iD) iq (pW 3 (om (lw yI aN) gj ot))) ii)))
def AV:List D->Option D:=lX 3 6 LX
theorem ztC (T:ml K mg t):lz P w K mg base lK 32 t.a_q61 t.d_q61 ["run","bound","rounds"] (mE K AV) :=
 cV (mX T.q61.F Hf λ_ _ _ _ _ _ hr=>lu (yq 3 (rF (iQ (iM 0) lr)) Hf.nd) (lu (lW 4 (vc (zh3 T) T.q1 hr (iQ (iM 0) (iQ (iM 2) lr))) Hf.nd) (lu (mi (sX (nM hr) (iM 4) (iM 0)) (lv (Bt 3 (iM 4))) nt) (lu (pe PassesOwn.never rfl (rC rfl T.b_range (iM 2)) (on 5 Hf.nd) (lv (Bj 3 (xg (vc (Zc T) T.q9 hr (iQ (yu (xt 3) (wm iR)) (iQ (sC (iM 2) (iM 5)) (iQ (iM 2) lr)))) (wH iR) yi)))) (lv (zm 3)))))) rfl
theorem Ed:lg ["run","numbers","rounds","path","hand","last","other"] ["run","numbers","rounds"] (iT Nc):=fO (by nofun)
abbrev aZ:=mw nG (iU iY (iU iY iG gP) iE) (iU iY iB iE)
abbrev bf:=lh iG (lh iJ (lh iE (lh gQ gy)))
abbrev bL:=lh iG (lh iE (lh (iU iY iB iE) nD))
abbrev cY:=lF 5 dG
def OU:FS:=iX (sD 3 gr) (iX (oK (wP mr (lw si gr)) ip (iX cY (lD aZ (iX (lF 6 (lw xO bL)) (pW 3 (om (lw (pF 12) bf) gj ot))) lI))) ii)
def Bm:List D->Option D:=lX 3 7 OU
theorem zoA (T:ml K mg t):lz P w K mg base lK 30 t.a_q21 t.d_q21 ["run","numbers","rounds"] (mE K Bm) :=
 cV (mX T.q21.F Ed λ_ _ _ _ _ _ hr=>lu (yq 3 (rF (iQ (iM 0) lr)) Ed.nd) (lu (pe PassesOwn.never rfl (rC rfl T.b_range (vc (CT T) T.q23 hr (iQ (iM 0) lr))) (on 4 Ed.nd) (lu (lW 5 (yu (xt 3) (wm iR)) Ed.nd) (lv (mi (sX (nM hr) (lc (lc (iM 5) iR) (iM 4)) (lc (iM 1) (iM 4))) (lu (lW 6 (vc (zm8 T) T.q17 hr (iQ (iM 5) (iQ (iM 4) (iQ (lc (iM 1) (iM 4)) lr)))) Ed.nd) (lv (Bj 3 (xg (vc (Ri T 12) T.q0 hr (iQ (iM 5) (iQ (iM 6) (iQ (iM 4) (iQ iR (iQ (iM 2) lr)))))) (wH iR) yi)))) nt)))) (lv (zm 3)))) rfl
theorem XX:lg ["run","thing"] ["run","thing"] (iT LG):=fO (by nofun)
def MQ:FS:=mR (Aq (lw CG gu) (iU mm (pz ma iB) (lw si gr)))
def Br:List D->Option D:=lX 2 2 MQ
theorem zj6 (T:ml K mg t):lz P w K mg base lK 4 t.a_q4 t.d_q4 ["run","thing"] (mE K Br) :=
 cV (mX T.q4.F XX λ_ _ _ _ _ _ hr=>lv (lR (yx (vc (zm7 T) T.q11 hr (iQ (iM 1) lr)) (yh (Bn (nM hr) (oY rfl T.b_len (iM 1)) (vc (CT T) T.q23 hr (iQ (iM 0) lr))))))) rfl
theorem MB:lg ["run","bound","rounds","numbers","still_open","path"] ["run","bound","rounds","numbers"] (iT KR):=fO (by nofun)
abbrev fE:=lh iF gy
def Kl:FS:=iX (lF 4 (lw wW di)) (iX (lD (ol (mK (lw Br (lh iA gw)))) Gw lI) (iX (lD (ol (mK iE)) Gw lI) (iX (lF 5 (lw AV di)) (mR (iU lJ iG (om (lw Bm (lh (iU iY iG fU) fE)) gj ot))))))
def Ap:List D->Option D:=lX 4 6 Kl
theorem zqI (T:ml K mg t):lz P w K mg base lK 33 t.a_q47 t.d_q47 ["run","bound","rounds","numbers"] (mE K Ap) :=
 cV (mX T.q47.F MB λ_ _ _ _ _ _ hr=>lu (lW 4 (vc (Sv T) T.q58 hr (iQ (iM 0) (iQ (iM 1) (iQ (iM 2) lr)))) MB.nd) (lu (mi (pL (oO (vc (zj6 T) T.q4 hr (iQ (iM 0) (iQ (iM 3) lr))))) (lv Hl) nt) (lu (mi (pL (oO (iM 4))) (lv Hl) nt) (lu (lW 5 (vc (ztC T) T.q61 hr (iQ (iM 0) (iQ (iM 1) (iQ (iM 2) lr)))) MB.nd) (lv (lR (nT (iM 5) (xg (vc (zoA T) T.q21 hr (iQ (lc (iM 5) (wm iR)) (iQ (iM 3) (iQ (iM 2) lr)))) (wH iR) yi)))))))) rfl
theorem Mh:lg ["run","views","hand","at","parts"] ["run","views","hand","at"] (iT Pa):=fO (by nofun)
abbrev bh:=lA DZ (iV iF cz)
abbrev ar:=zy (yp (mL mm iA iD) (pq bh)) (lx iY iE iA) ik
abbrev fQ:=pv mr (un ma iB)
def NP:FS:=lE (AX 4 (yT 4 (lY fQ (λ_=>Ga true) ar [3,2,0,1]))) (mQ (tQ (iV iD (iV (yo rM (EF iE)) mf))))
def Hb:List D->Option D:=lX 4 5 NP
theorem znB (T:ml K mg t):lz P w K mg base lK 4 t.a_q13 t.d_q13 ["run","views","hand","at"] (mE K Hb) :=
 mX T.q13.F Mh λ_ _ _ _ _ _ hr=>lu (Ay 4 (Ax 4 rfl (cO Mh (fr:=["at","hand","run","views"]) (by nofun)) (rC rfl T.b_range (oY rfl T.b_len (iM 1))) (rP (by nofun) rfl (λcl C s H fp ω=>BS (oX.b (oH (oz (nM hr) (iM 0) (iM 2)) (tK (oO (vc (Zg T) T.q66 hr (iQ (iM 3) (iQ (iM 0) (iQ (iM 2) (iQ (iM 1) lr))))))))) (lc (iM 4) (iM 0)) pR)) Mh.nd)) (lv (lR (rB (iQ (iM 2) (iQ (zu rfl T.b_tuple (PV.sh (iM 4))) lr)))))
theorem MH:lg ["run","views","at","up"] ["run","views","at"] (iT NF):=fO (by nofun)
abbrev aE:=zy (mL Ak iA iF) (lA Hb (iV iD (iV iE dN))) ik
def OJ:FS:=lE (lT 3 ce) (mQ (pj (lY fQ (λ_=>Ga true) aE [2,0,3,1])))
def He:List D->Option D:=lX 3 4 OJ
theorem zmH (T:ml K mg t):lz P w K mg base lK 5 t.a_q8 t.d_q8 ["run","views","at"] (mE K He) :=
 mX T.q8.F MH λ_ _ _ _ _ _ hr=>lu (lW 3 (PO.v (wO (De T) (hr.mono (by decide)) T.q24.m T.q24.F.kp T.q24.b (iQ (iM 0) (iQ (iM 2) lr)))) MH.nd) (lv (lR (PO.v (rE rfl (cO MH (fr:=["at","run","up","views"]) (by nofun)) (rC rfl T.b_range (oY rfl T.b_len (iM 1))) (rP (by nofun) rfl (λcl C s H fp ω=>BS (VL (nM hr) (iM 0) (iM 3)) (vc (znB T) T.q13 hr (iQ (iM 2) (iQ (iM 4) (iQ (iM 0) (iQ (iM 1) lr))))) pR))))))
theorem Ey:lg ["run","rounds","views","at"] ["run","rounds"] (iT Li):=fO (by nofun)
abbrev fF:=lx iY iB gX
abbrev ba:=tQ (iV iA (iV (lx iY fF iA) mf))
abbrev bu:=lT 2 (lA He cx)
def ML:FS:=lE (AX 2 (yT 2 (lY (pv mr (lA si ge)) (λ_=>Ga true) ba [0]))) (lE (pT (zT sq gU eW) (oZ 3) bu) (mQ iD))
def Fp:List D->Option D:=lX 2 4 ML
theorem zqJ (T:ml K mg t):lz P w K mg base lK 6 t.a_q46 t.d_q46 ["run","rounds"] (mE K Fp) :=
 mX T.q46.F Ey λ_ _ _ _ _ _ hr=>lu (Ay 2 (Ax 2 rfl (cO Ey (fr:=["run"]) (by nofun)) (rC rfl T.b_range (vc (CT T) T.q23 hr (iQ (iM 0) lr))) (rP (by nofun) rfl (λcl C s H fp ω=>rB (iQ (iM 0) (iQ (lc (lc (iM 1) iR) (iM 0)) lr)))) Ey.nd)) (lu (pe PassesOwn.never rfl (GE rfl T.b_range iR (nT (iM 1) iR)) (on 3 Ey.nd) (lv (lW 2 (vc (zmH T) T.q8 hr (iQ (iM 0) (iQ (iM 2) (iQ (iM 3) lr)))) Ey.nd))) (lv (lR (iM 2))))
theorem zqK:lg ["view"] ["view"] (iT KF):=fO (by nofun)
abbrev br:=lx iY ft fq
def Kw:FS:=mQ br
def Ct:List D->Option D:=lX 1 1 Kw
theorem Vn (T:ml K mg t):lz P w K mg base lK 1 t.a_q42 t.d_q42 ["view"] (mE K Ct) :=
 mX T.q42.F zqK λ_ _ _ _ _ _ hr=>lv (lR (lc (lc (iM 0) iR) (lc (iM 0) iR)))
theorem HB:lg ["view","rounds"] ["view"] (iT OC):=fO (by nofun)
abbrev dy:=lT 0 (lA Ct ge)
abbrev dC:=lT 1 eW
abbrev aS:=lE dy dC
abbrev cA:=un gY ft
abbrev bY:=pq cA
def OH:FS:=lE (lT 1 gX) (lE (oy bY aS 100) ic)
def Bq:List D->Option D:=lX 1 2 OH
theorem RC (T:ml K mg t):lz P w K mg base lK 2 t.a_q32 t.d_q32 ["view"] (mE K Bq) :=
 mX T.q32.F HB λ_ _ _ _ _ _ hr=>lu (lW 1 iR HB.nd) (lu (Tv 100 PassesOwn.never (oO (wu (T:="tuple") (by decide) rfl T.b_isinstance rfl T.b_tuple boot_tuple (lc (iM 0) iR))) (lu (lW 0 (vc (Vn T) T.q42 hr (iQ (iM 0) lr)) HB.nd) (lv (lW 1 (nT (iM 1) iR) HB.nd)))) (lv (lR (iM 1))))
theorem LA:lg ["view","rounds","step"] ["view","rounds"] (iT PD):=fO (by nofun)
abbrev cB:=lx nV (lA Bq ge) iB
def Oc:FS:=lE (pT (pv mr cB) iz dy) (mQ iA)
def DX:List D->Option D:=lX 2 3 Oc
theorem zqL (T:ml K mg t):lz P w K mg base lK 3 t.a_q51 t.d_q51 ["view","rounds"] (mE K DX) :=
 mX T.q51.F LA λ_ _ _ _ _ _ hr=>lu (pe PassesOwn.never rfl (rC rfl T.b_range (sC (vc (RC T) T.q32 hr (iQ (iM 0) lr)) (iM 1))) (on 2 LA.nd) (lv (lW 0 (vc (Vn T) T.q42 hr (iQ (iM 0) lr)) LA.nd))) (lv (lR (iM 0)))
theorem MD:lg ["rule","view","rounds","number"] ["rule","view"] (iT PK):=fO (by nofun)
abbrev dR:=iV iB gc
def zqM (c:lN)(φ:D->Option D):FS:=lE (pT (pv mr (lx lJ (lA Bq gb) gU)) iz (lE (lT 3 (rK 0 c φ (lA DX dR))) (oD (mL nA iF ik) (mQ (tQ dO)) oW))) gs
def Cr (c:lN)(φ:D->Option D):List D->Option D:=vk 0 2 4 c (zqM c φ)
theorem zo7 (T:ml K mg t){c:lN}{φ:D->Option D}(hC:oP P w K mg base 15 c φ):lz P w K mg base lK 16 t.a_q36 t.d_q36 ["rule","view"] (xJ K 0 c (Cr c φ)) :=
 yE T.q36.F MD (by decide) λ_ _ _ _ _ _ hr=>lu (pe PassesOwn.never rfl (rC rfl T.b_range (nT (vc (RC T) T.q32 hr (iQ (iM 1) lr)) iR)) (on 2 MD.nd) (lu (lW 3 (TY 0 hC (hr.mono (by decide)) (vc (zqL T) T.q51 hr (iQ (iM 1) (iQ (iM 2) lr)))) MD.nd) (lv (mi (BO (iM 3) pR) (lv (lR (rB (iQ (iM 2) (iQ (iM 3) lr))))) nt)))) (lv (lR pR))
theorem TN:lg ["rule","view","choice"] ["rule","view"] (iT Mr):=fO (by nofun)
def zqN (c:lN)(φ:D->Option D):FS:=lE (lT 2 (mY 0 c (Cr c φ) gb)) (mQ (zy (mL rZ iD ik) ik (lx iY iD gU)))
def Bb (c:lN)(φ:D->Option D):List D->Option D:=vk 0 2 3 c (zqN c φ)
theorem zo8 (T:ml K mg t){c:lN}{φ:D->Option D}(hC:oP P w K mg base 15 c φ):lz P w K mg base lK 17 t.a_q28 t.d_q28 ["rule","view"] (xJ K 0 c (Bb c φ)) :=
 yE T.q28.F TN (by decide) λ_ _ _ _ _ _ hr=>lu (lW 2 (zv 0 (zo7 T hC) (hr.mono (by decide)) T.q36.m T.q36.F.kp T.q36.b (iQ (iM 1) lr)) TN.nd) (lv (lR (BS (Dv (iM 2) pR) pR (lc (iM 2) iR))))
theorem Ki:lg ["rule","run","rounds","views"] ["rule","run","rounds"] (iT OE):=fO (by nofun)
def ztD (c:lN)(φ:D->Option D):FS:=lE (lT 3 (lA Fp dR)) (mQ (pj (lY (sY (pj (rL tR dR))) (λ_=>Ga true) (tQ (iV iA (iV (mY 1 c (Bb c φ) (iV (lx iY iD iA) mf)) mf))) [0,3])))
def oU (c:lN)(φ:D->Option D):List D->Option D:=vk 0 3 4 c (ztD c φ)
theorem GS (T:ml K mg t){c:lN}{φ:D->Option D}(hC:oP P w K mg base 15 c φ):lz P w K mg base lK 18 t.a_q59 t.d_q59 ["rule","run","rounds"] (xJ K 0 c (oU c φ)) :=
 yE T.q59.F Ki (by decide) λ_ _ _ _ _ _ hr=>lu (lW 3 (vc (zqJ T) T.q46 hr (iQ (iM 1) (iQ (iM 2) lr))) Ki.nd) (lv (lR (PO.v (rE rfl (cO Ki (fr:=["rule","views"]) (by nofun)) (oI (PO.v (wO (De T) (hr.mono (by decide)) T.q24.m T.q24.F.kp T.q24.b (iQ (iM 1) (iQ (iM 2) lr))))) (rP (by nofun) rfl (λcl C s H fp ω=>rB (iQ (iM 0) (iQ (zv 1 (zo8 T hC) (hr.mono (by decide)) T.q28.m T.q28.F.kp T.q28.b (iQ (lc (iM 2) (iM 0)) lr)) lr))))))))
theorem RF:lg ["told","number"] ["told","number"] (iT Pz):=fO (by nofun)
abbrev cD:=iU mm eD iB
def NS:FS:=mR (pN wy (lY (pG iA) (λ_=>Ga true) cD [1]))
def rH:List D->Option D:=lX 2 2 NS
theorem Vg (T:ml K mg t):lz P w K mg base lK 1 t.a_q45 t.d_q45 ["told","number"] (mE K rH) :=
 cV (mX T.q45.F RF λ_ _ _ _ _ _ hr=>lv (lR (Nn rfl rfl T.b_all (PO.sh (rE rfl (cO RF (fr:=["number"]) (by nofun)) (oI (iM 0)) (rP (by nofun) rfl (λcl C s H fp ω=>Bn (nM hr) (lc (iM 0) iR) (iM 1)))))))) rfl
theorem NG:lg ["run","told","unlike"] ["run","told"] (iT NA):=fO (by nofun)
abbrev io:=jv "torn"
abbrev eH:=iU iY iB gP
abbrev bQ:=iU iY eH gQ
abbrev aK:=mw nG eD bQ
def MO:FS:=iX (Bu 2 (sD 2 (lY (pG iB) aK eC [1]))) (mR (pC (lh (ng (.str io)) (lh iA (lh (iU iY eH gP) (lh (iU iY iD gP) nD))))))
def wJ:List D->Option D:=lX 2 3 MO
theorem RY (T:ml K mg t):lz P w K mg base lK 1 t.a_q55 t.d_q55 ["run","told"] (mE K wJ) :=
 cV (mX T.q55.F NG λ_ _ _ _ _ _ hr=>lu (Ay 2 (Ax 2 rfl (cO NG (fr:=["told"]) (by nofun)) (oI (iM 1)) (sA (by nofun) rfl (λcl C s H fp ω=>sX (nM hr) (lc (iM 0) iR) (lc (lc (iM 1) iR) iR)) (λcl C s H fp ω=>lc (iM 0) iR)) NG.nd)) (lv (lR (rB (iQ GV (iQ (iM 0) (iQ (lc (lc (iM 1) iR) iR) (iQ (lc (iM 2) iR) lr)))))))) rfl
theorem Uv:lg ["told","number"] ["told","number"] (iT LM):=fO (by nofun)
abbrev ij:=ng .none
abbrev bV:=mw nA eD ij
abbrev aG:=xo bV (mw nG eD iB)
def Me:FS:=mR (pf (lY (pG iA) aG eC [1]))
def Aj:List D->Option D:=lX 2 2 Me
theorem zo9 (T:ml K mg t):lz P w K mg base lK 1 t.a_q31 t.d_q31 ["told","number"] (mE K Aj) :=
 cV (mX T.q31.F Uv λ_ _ _ _ _ _ hr=>lv (lR (PO.v (rE rfl (cO Uv (fr:=["number"]) (by nofun)) (oI (iM 0)) (sA (by nofun) rfl (λcl C s H fp ω=>oX.b (Cg (BO (lc (iM 0) iR) pR) (BN (sX (nM hr) (lc (iM 0) iR) (iM 1))))) (λcl C s H fp ω=>lc (iM 0) iR)))))) rfl
theorem CI:lg ["rule","chain","number","rounds","low","high","middle"] ["rule","chain","number","rounds"] (iT Oq):=fO (by nofun)
def ztE (c:lN)(φ:D->Option D):FS:=lE (lT 4 gX) (lE (lT 5 (lx nV (un ma iB) gU)) (lE (oy (mL sd (lx nV iG iE) gU) (lE (lT 6 (lx mS (lx lJ iE iG) gW)) (oD (pq (lA rH (iV (mY 0 c (oU c φ) (iV (lx iY iB iJ) gf)) gc))) (lT 4 iJ) (lT 5 iJ))) 100) (mQ (lA wJ (iV (lx iY iB iG) (iV (mY 0 c (oU c φ) (iV (lx iY iB iG) gf)) mf))))))
def Ch (c:lN)(φ:D->Option D):List D->Option D:=vk 0 4 7 c (ztE c φ)
theorem zrU (T:ml K mg t){c:lN}{φ:D->Option D}(hC:oP P w K mg base 15 c φ):lz P w K mg base lK 19 t.a_q57 t.d_q57 ["rule","chain","number","rounds"] (xJ K 0 c (Ch c φ)) :=
 yE T.q57.F CI (by decide) λ_ _ _ _ _ _ hr=>lu (lW 4 iR CI.nd) (lu (lW 5 (sC (oY rfl T.b_len (iM 1)) iR) CI.nd) (lu (Tv 100 PassesOwn.never (ww (sC (iM 5) (iM 4)) iR) (lu (lW 6 (sB (nT (iM 4) (iM 5)) iR) CI.nd) (lv (mi (oO (vc (Vg T) T.q45 hr (iQ (zv 0 (GS T hC) (hr.mono (by decide)) T.q59.m T.q59.F.kp T.q59.b (iQ (lc (iM 1) (iM 6)) (iQ (iM 3) lr))) (iQ (iM 2) lr)))) (lv (lW 4 (iM 6) CI.nd)) (lv (lW 5 (iM 6) CI.nd)))))) (lv (lR (vc (RY T) T.q55 hr (iQ (lc (iM 1) (iM 5)) (iQ (zv 0 (GS T hC) (hr.mono (by decide)) T.q59.m T.q59.F.kp T.q59.b (iQ (lc (iM 1) (iM 5)) (iQ (iM 3) lr))) lr)))))))
theorem Ft:lg ["rule","run","bound","rounds","number","other","chain","hands"] ["rule","run","bound","rounds","number"] (iT Ny):=fO (by nofun)
abbrev gZ:=jv "strange"
abbrev dD:=lx iY iJ (un yS gU)
def zoB (c:lN)(φ:D->Option D):FS:=lE (lT 5 (zy (mL mm iE gX) gU gX)) (lE (lT 6 (lA Ap (iV iB (iV iD (iV iF (iV (yo rM (lY (pv mr (lA si gb)) (λ_=>Ga true) iB [5])) mf)))))) (lE (lT 7 (lA Aj (iV (mY 0 c (oU c φ) (iV dD gf)) gi))) (lE (oD (mL sd (un ma iH) gX) (mQ (tQ (iV (mI (.str gZ)) (iV dD (iV (lx iY iH gX) mf))))) oW) (mQ (mY 0 c (Ch c φ) (iV iJ (iV iE gf)))))))
def AH (c:lN)(φ:D->Option D):List D->Option D:=vk 0 5 8 c (zoB c φ)
theorem YW (T:ml K mg t){c:lN}{φ:D->Option D}(hC:oP P w K mg base 15 c φ):lz P w K mg base lK 34 t.a_q15 t.d_q15 ["rule","run","bound","rounds","number"] (xJ K 0 c (AH c φ)) :=
 yE T.q15.F Ft (by decide) λ_ _ _ _ _ _ hr=>lu (lW 5 (BS (oz (nM hr) (iM 4) iR) iR iR) Ft.nd) (lu (lW 6 (vc (zqI T) T.q47 hr (iQ (iM 1) (iQ (iM 2) (iQ (iM 3) (iQ (zu rfl T.b_tuple (PO.sh (rE rfl (cO Ft (fr:=["other"]) (by nofun)) (rC rfl T.b_range (vc (CT T) T.q23 hr (iQ (iM 1) lr))) (rP (by nofun) rfl (λcl C s H fp ω=>iM 1))))) lr))))) Ft.nd) (lu (lW 7 (vc (zo9 T) T.q31 hr (iQ (zv 0 (GS T hC) (hr.mono (by decide)) T.q59.m T.q59.F.kp T.q59.b (iQ (lc (iM 6) (wm iR)) (iQ (iM 3) lr))) (iQ (iM 5) lr))) Ft.nd) (lu (mi (ww (oY rfl T.b_len (iM 7)) iR) (lv (lR (rB (iQ GV (iQ (lc (iM 6) (wm iR)) (iQ (lc (iM 7) iR) lr)))))) nt) (lv (lR (zv 0 (zrU T hC) (hr.mono (by decide)) T.q57.m T.q57.F.kp T.q57.b (iQ (iM 6) (iQ (iM 4) (iQ (iM 3) lr)))))))))
theorem IZ:lg ["rule","run","bound","rounds","told","number"] ["rule","run","bound","rounds"] (iT Qk):=fO (by nofun)
abbrev dS:=iV iE gi
abbrev fG:=lx iY iE gX
def zvU (c:lN)(φ:D->Option D):FS:=lE (oD (sZ (pq (lA wW (iV iB dO)))) (FK) oW) (lE (lT 4 (mY 0 c (oU c φ) (iV iB gf))) (lE (lT 5 (lx iY fG gU)) (lE (oD (sZ (pq (lA rH dS))) (mQ (lA wJ dP)) oW) (lE (oD (mL rZ iG ik) gs oW) (mQ (mY 0 c (AH c φ) (iV iB (iV iD (iV iF gi)))))))))
def Ad (c:lN)(φ:D->Option D):List D->Option D:=vk 0 4 6 c (zvU c φ)
theorem ztF (T:ml K mg t){c:lN}{φ:D->Option D}(hC:oP P w K mg base 15 c φ):lz P w K mg base lK 35 t.a_q62 t.d_q62 ["rule","run","bound","rounds"] (xJ K 0 c (Ad c φ)) :=
 yE T.q62.F IZ (by decide) λ_ _ _ _ _ _ hr=>lu (mi (pL (oO (vc (Sv T) T.q58 hr (iQ (iM 1) (iQ (iM 2) (iQ (iM 3) lr)))))) (lv Hl) nt) (lu (lW 4 (zv 0 (GS T hC) (hr.mono (by decide)) T.q59.m T.q59.F.kp T.q59.b (iQ (iM 1) (iQ (iM 3) lr))) IZ.nd) (lu (lW 5 (lc (lc (iM 4) iR) iR) IZ.nd) (lu (mi (pL (oO (vc (Vg T) T.q45 hr (iQ (iM 4) (iQ (iM 5) lr))))) (lv (lR (vc (RY T) T.q55 hr (iQ (iM 1) (iQ (iM 4) lr))))) nt) (lu (mi (Dv (iM 5) pR) (lv (lR pR)) nt) (lv (lR (zv 0 (YW T hC) (hr.mono (by decide)) T.q15.m T.q15.F.kp T.q15.b (iQ (iM 1) (iQ (iM 2) (iQ (iM 3) (iQ (iM 5) lr)))))))))))
theorem zpA:lg ["found"] ["found"] (iT Pr):=fO (by nofun)
def Mk:FS:=mR bH
def pQ:List D->Option D:=lX 1 1 Mk
theorem EJ (T:ml K mg t):lz P w K mg base lK 1 t.a_q33 t.d_q33 ["found"] (mE K pQ) :=
 cV (mX T.q33.F zpA λ_ _ _ _ _ _ hr=>lv (lR (yx (wu (T:="int") (by decide) rfl T.b_isinstance rfl T.b_int boot_int (iM 0)) (yh (Lj (wu (T:="bool") (by decide) rfl T.b_isinstance rfl T.b_bool boot_bool (iM 0))))))) rfl
theorem RL:lg ["number","k","mixed"] ["number","k"] (iT Oe):=fO (by nofun)
abbrev gp:=ng (.int 48271)
def Lg:FS:=iX (lF 2 (iU lM (iU lJ (iU mM iA gp) (iU mM (iU mM iB iB) (ng (.int 7919)))) (ng (.int 2147483647)))) (mR (iU lM (iU mM iD iD) (ng (.int 2147483629))))
def zG:List D->Option D:=lX 2 3 Lg
theorem zpB (T:ml K mg t):lz P w K mg base lK 1 t.a_q29 t.d_q29 ["number","k"] (mE K zG) :=
 cV (mX T.q29.F RL λ_ _ _ _ _ _ hr=>lu (lW 2 (oJ (nT (tE (iM 0) iR) (tE (tE (iM 1) (iM 1)) iR)) iR) RL.nd) (lv (lR (oJ (tE (iM 2) (iM 2)) iR)))) rfl
theorem Ih:lg ["number","many","rest"] ["number","many"] (iT Pk):=fO (by nofun)
abbrev gS:=ng (.int 4)
abbrev gR:=ng (.int 3)
abbrev aI:=iU nV (iU lM (iU mS iB (iU lJ iA gQ)) gS) gQ
abbrev aU:=iU lJ (iU mM iB (iU lJ (iU mM iA iA) gQ)) iA
abbrev gH:=wP mr iB
abbrev gK:=ng (.int 59)
def Ml:FS:=iX (lF 2 (iU mS iA gR)) (iX (lD (mw mm (iU lM iA gR) gP) (mR (pN rM (lY gH (λ_=>Ga true) aI [2]))) lI) (mR (pN rM (lY gH (λ_=>Ga true) (iU nV (iU lM aU (iU mM gN (iU pO gI gK))) (iU pO gI gK)) [2]))))
def wY:List D->Option D:=lX 2 3 Ml
theorem znD (T:ml K mg t):lz P w K mg base lK 1 t.a_q14 t.d_q14 ["number","many"] (mE K wY) :=
 cV (mX T.q14.F Ih λ_ _ _ _ _ _ hr=>lu (lW 2 (sB (iM 0) iR) Ih.nd) (lu (mi (oz (nM hr) (oJ (iM 0) iR) iR) (lv (lR (zu rfl T.b_tuple (PO.sh (rE rfl (cO Ih (fr:=["rest"]) (by nofun)) (rC rfl T.b_range (iM 1)) (rP (by nofun) rfl (λcl C s H fp ω=>sC (oJ (sB (iM 1) (nT (iM 0) iR)) iR) iR))))))) nt) (lv (lR (zu rfl T.b_tuple (PO.sh (rE rfl (cO Ih (fr:=["rest"]) (by nofun)) (rC rfl T.b_range (iM 1)) (rP (by nofun) rfl (λcl C s H fp ω=>sC (oJ (nT (tE (iM 1) (nT (tE (iM 0) (iM 0)) iR)) (iM 0)) (tE iR (Da iR iR))) (Da iR iR)))))))))) rfl
theorem xX:lg ["mixed","many","most","last","whole","falls","number","j","hand","reached"] ["mixed","many","most","last"] (iT Nh):=fO (by nofun)
abbrev gL:=ng (.int 16)
abbrev aB:=pf (lh gQ (lh gN (lh gS (lh (ng (.int 8)) (lh gL nD)))))
abbrev ay:=iU iY aB iI
abbrev aa:=iX (lF 6 (iU lM (iU lJ (iU lJ (iU mM iJ iJ) (iU mM gp iJ)) (ng (.int 7919))) (ng (.int 2147483647)))) (iX (lF 8 (iU lM (iU lJ iA iH) iB)) (iX (lF 9 (iU lM (iU mS iJ gL) (iU lJ iE gQ))) (iX (lD (mw mm (iU lM (iU mS iJ gS) gS) gP) (lF 9 iE) lI) (iX (lD (mw mm (iU lM (iU mS (gv 9) ay) gN) gQ) (lF 9 (iU nV (gv 9) ay)) lI) (lD (xo (mw sd (iU lM iJ gS) gP) (mw rJ (pz DI iG) iD)) (xF 5 iI (pC (lh iI (lh (iU lJ gQ (iU lM (iU mS iJ (ng (.int 512))) iF)) (lh (gv 9) nD))))) lI)))))
abbrev ax:=iU iY (pf (lh gR (lh (ng (.int 7)) (lh (ng (.int 15)) (lh (ng (.int 31)) nD))))) (iU nV iB gN)
abbrev ir:=nO 7
abbrev dU:=pG (pf (Mc (wP Dz iG)))
abbrev fV:=iU yM iB iA
def Qi:FS:=iX (lF 4 ax) (iX (Hw 5) (iX (lF 6 iA) (iX (oK gH ir aa) (Az 5 (mR (pN rM (lY dU (λ_=>Ga true) fV [5])))))))
def wM:List D->Option D:=lX 4 10 Qi
theorem zpC (T:ml K mg t):lz P w K mg base lK 1 t.a_q35 t.d_q35 ["mixed","many","most","last"] (mE K wM) :=
 cV (mX T.q35.F xX λ_ _ _ _ _ _ hr=>lu (lW 4 (lc (PO.v (rF (iQ iR (iQ iR (iQ iR (iQ iR lr)))))) (sC (iM 1) iR)) xX.nd) (lu (Ll 5 xX.nd) (lu (lW 6 (iM 0) xX.nd) (lu (pe PassesOwn.never rfl (rC rfl T.b_range (iM 1)) (on 7 xX.nd) (lu (lW 6 (oJ (nT (nT (tE (iM 6) (iM 6)) (tE iR (iM 6))) iR) iR) xX.nd) (lu (lW 8 (oJ (nT (iM 0) (iM 7)) (iM 1)) xX.nd) (lu (lW 9 (oJ (sB (iM 6) iR) (nT (iM 4) iR)) xX.nd) (lu (mi (oz (nM hr) (oJ (sB (iM 6) iR) iR) iR) (lv (lW 9 (iM 4) xX.nd)) nt) (lu (mi (oz (nM hr) (oJ (sB (iM 9) (lc (PO.v (rF (iQ iR (iQ iR (iQ iR (iQ iR (iQ iR lr))))))) (iM 8))) iR) iR) (lv (lW 9 (sC (iM 9) (lc (PO.v (rF (iQ iR (iQ iR (iQ iR (iQ iR (iQ iR lr))))))) (iM 8))) xX.nd)) nt) (lv (mi (oX.b (Cg (ww (oJ (iM 6) iR) iR) (BN (yL (zDW rfl T.b_len (iM 5)) (iM 2))))) (lv (Ng 5 (iM 8) (rB (iQ (iM 8) (iQ (nT iR (oJ (sB (iM 6) iR) (iM 3))) (iQ (iM 9) lr)))))) nt)))))))) (lv (EM 5 (lR (zu rfl T.b_tuple (PO.sh (rE rfl (cO xX (fr:=["falls"]) (by nofun)) (oI (PO.v (zxA rfl rfl T.b_sorted (iM 5)))) (rP (by nofun) rfl (λcl C s H fp ω=>Er (iM 1) (iM 0))))))))))))) rfl
theorem ED:lg ["before","ends","hand","at","parts","by","end","reached"] ["before","ends","hand","at"] (iT KQ):=fO (by nofun)
abbrev gT:=ng (.int 9)
abbrev cj:=pC (lh gT (lh gP nD))
abbrev iu:=nO 6
abbrev dz:=Cb (zE iu (zE ir Ht))
abbrev ag:=iX (Az 1 (KU (Pg AO iB iG cj) dz)) (lD (nU (mw mm iG iD) (nU (mw sd iJ iF) (xo (mw mm iJ iF) (mw mm (iU lM (iU mS iH (iU iY aB iD)) gN) gQ)))) (zh 4 (iU iY iA iG)) (zh 4 ij))
abbrev gA:=mR ij
def GJ:FS:=iX (lD (mw sT (iU iY (Pg AO iB iD cj) gP) iF) gA lI) (iX (sD 4 nD) (iX (oK (wP mr gG) iq ag) (mR (pC (lh iD (lh (pN rM (gl 4)) nD))))))
def AF:List D->Option D:=lX 4 8 GJ
theorem zqO (T:ml K mg t):lz P w K mg base lK 1 t.a_q43 t.d_q43 ["before","ends","hand","at"] (mE K AF) :=
 cV (mX T.q43.F ED λ_ _ _ _ _ _ hr=>lu (mi (DE (lc (SQ (iM 1) (iM 2) (rB (iQ iR (iQ iR lr)))) iR) (iM 3)) (lv (lR pR)) nt) (lu (yq 4 (rF lr) ED.nd) (lu (pe PassesOwn.never rfl (rC rfl T.b_range (oY rfl T.b_len (iM 0))) (on 5 ED.nd) (lu (EM 1 (RZ (SQ (iM 1) (iM 5) (rB (iQ iR (iQ iR lr)))) (Hy rfl (yt (on 6 ED.nd) (yt (on 7 ED.nd) HC))))) (lv (mi (oX.b (oH (oz (nM hr) (iM 5) (iM 2)) (oH (ww (iM 6) (iM 3)) (tK (oX.b (Cg (oz (nM hr) (iM 6) (iM 3)) (BN (oz (nM hr) (oJ (sB (iM 7) (lc (PO.v (rF (iQ iR (iQ iR (iQ iR (iQ iR (iQ iR lr))))))) (iM 2))) iR) iR)))))))) (lv (Bt 4 (lc (iM 0) (iM 5)))) (lv (Bt 4 pR)))))) (lv (lR (rB (iQ (iM 2) (iQ (zu rfl T.b_tuple (xt 4)) lr)))))))) rfl
theorem zD:lg ["run","rounds","ends","hand","at","reached","made"] ["run","rounds"] (iT PX):=fO (by nofun)
abbrev dq:=pz ma eC
abbrev cn:=wP mr dq
abbrev aV:=lh dG (lh iD fv)
abbrev aL:=lw AF aV
abbrev be:=pC (lh iA (lh (iU iY eH iA) nD))
abbrev iw:=nO 3
abbrev cN:=zE iw (zE ip (zE iq Ht))
abbrev bZ:=Cb cN
abbrev fH:=lh iE gz
abbrev cu:=xF 2 iF (pC fH)
def Oo:FS:=iX (Hw 2) (iX (oK dJ bZ cu) (iX (sD 6 (lh (pf (lY cn (λ_=>Ga true) be [0])) nD)) (iX (oK (Nm sq gQ ed) ip (Az 2 (zh 6 (pf (lY cn (λ_=>Ga true) aL [4,2,6]))))) (yZ (go 6)))))
def AD:List D->Option D:=lX 2 7 Oo
theorem zpD (T:ml K mg t):lz P w K mg base lK 2 t.a_q38 t.d_q38 ["run","rounds"] (mE K AD) :=
 cV (mX T.q38.F zD λ_ _ _ _ _ _ hr=>lu (Ll 2 zD.nd) (lu (pe PassesOwn.never rfl (oI (lc (iM 0) iR)) (Hy rfl (yt (on 3 zD.nd) (yt (on 4 zD.nd) (yt (on 5 zD.nd) HC)))) (lv (Ng 2 (iM 3) (rB (iQ (iM 4) (iQ (iM 5) lr)))))) (lu (yq 6 (rF (iQ (PO.v (rE rfl (cO zD (fr:=["run"]) (by nofun)) (rC rfl T.b_range (oY rfl T.b_len (lc (iM 0) iR))) (rP (by nofun) rfl (λcl C s H fp ω=>rB (iQ (iM 0) (iQ (lc (lc (iM 1) iR) (iM 0)) lr)))))) lr)) zD.nd) (lu (pe PassesOwn.never rfl (GE rfl T.b_range iR (nT (iM 1) iR)) (on 4 zD.nd) (lv (EM 2 (Bt 6 (PO.v (rE rfl (cO zD (fr:=["at","ends","made"]) (by nofun)) (rC rfl T.b_range (oY rfl T.b_len (lc (iM 0) iR))) (rP (by nofun) rfl (λcl C s H fp ω=>vc (zqO T) T.q43 hr (iQ (yu (xt 3) (wm iR)) (iQ (iM 2) (iQ (iM 0) (iQ (iM 1) lr)))))))))))) (lv (zm 6)))))) rfl
theorem Al:lg ["run","many","most","number","last","fall","hand","at","reached"] ["run","many","most"] (iT LH):=fO (by nofun)
abbrev gD:=lh iI (nD)
abbrev hE:=lF 4 iJ
abbrev af:=iX (lD (nU (mw sT iJ iE) (nU (mw ET iJ iB) (nU (mw rJ iH gQ) (nU (mw sd iH gO) (nU (mw rJ iI gP) (mw sd iI ax)))))) fS lI) (iX (lD (mw mm (iU lM (iU mS iI (iU iY aB iJ)) gN) gQ) fS lI) hE)
abbrev az:=lD (nU (ol (mK (pz gY iG))) (mw nG (pz ma iG) gR)) fS (lI)
abbrev bw:=KU iG (Cb (zE iu (zE ir (zE (nO 8) Ht))))
abbrev bE:=ol (mK (pz gY eD))
abbrev gB:=lh iJ (nD)
abbrev dt:=pz ma eD
abbrev fW:=mR (ng (.bool true))
abbrev gC:=lh iH (nD)
def Ky:FS:=iX (lD (nU dE (nU (mw nG gG gN) (nU (ol (mK (pz gY eC))) bE))) fS lI) (iX (lD (nU (mw nG dq iB) (mw sd dt iD)) fS lI) (iX (oK (pG eC) iw (lD (nU (ol (mK (lw pQ gw))) (mw ET (pz DL iF) (iU pO gI gJ))) fS lI)) (iX (lF 4 fU) (iX (oK dJ iq (iX az (iX bw (iX (lD (nU (ol (mK (lw pQ gB))) (nU (ol (mK (lw pQ gC))) (ol (mK (lw pQ gD))))) fS lI) af)))) fW))))
def zf:List D->Option D:=lX 3 9 Ky
theorem zqP (T:ml K mg t):lz P w K mg base lK 2 t.a_q44 t.d_q44 ["run","many","most"] (mE K zf) :=
 cV (mX T.q44.F Al λ_ _ _ _ _ _ hr=>lu (mi (oX.b (oH (pL (oO (wu (T:="tuple") (by decide) rfl T.b_isinstance rfl T.b_tuple boot_tuple (iM 0)))) (oH (sX (nM hr) (oY rfl T.b_len (iM 0)) iR) (oH (pL (oO (wu (T:="tuple") (by decide) rfl T.b_isinstance rfl T.b_tuple boot_tuple (lc (iM 0) iR)))) (tK (pL (oO (wu (T:="tuple") (by decide) rfl T.b_isinstance rfl T.b_tuple boot_tuple (lc (iM 0) iR))))))))) (lv (lR (pP))) nt) (lu (mi (oX.b (oH (sX (nM hr) (oY rfl T.b_len (lc (iM 0) iR)) (iM 1)) (tK (ww (oY rfl T.b_len (lc (iM 0) iR)) (iM 2))))) (lv (lR (pP))) nt) (lu (pe PassesOwn.never rfl (oI (lc (iM 0) iR)) (on 3 Al.nd) (lv (mi (oX.b (oH (pL (oO (vc (EJ T) T.q33 hr (iQ (iM 3) lr)))) (tK (Ms (Zz rfl T.b_abs (iM 3)) (Da iR iR))))) (lv (lR (pP))) nt))) (lu (lW 4 (wm iR) Al.nd) (lu (pe PassesOwn.never rfl (oI (lc (iM 0) iR)) (on 5 Al.nd) (lu (mi (oX.b (oH (pL (oO (wu (T:="tuple") (by decide) rfl T.b_isinstance rfl T.b_tuple boot_tuple (iM 5)))) (tK (sX (nM hr) (oY rfl T.b_len (iM 5)) iR)))) (lv (lR (pP))) nt) (lu (RZ (iM 5) (Hy rfl (yt (on 6 Al.nd) (yt (on 7 Al.nd) (yt (on 8 Al.nd) HC))))) (lu (mi (oX.b (oH (pL (oO (vc (EJ T) T.q33 hr (iQ (iM 6) lr)))) (oH (pL (oO (vc (EJ T) T.q33 hr (iQ (iM 7) lr)))) (tK (pL (oO (vc (EJ T) T.q33 hr (iQ (iM 8) lr)))))))) (lv (lR (pP))) nt) (lu (mi (oX.b (oH (DE (iM 6) (iM 4)) (oH (Ms (iM 6) (iM 1)) (oH (yL (iM 7) iR) (oH (ww (iM 7) iR) (oH (yL (iM 8) iR) (tK (ww (iM 8) (lc (PO.v (rF (iQ iR (iQ iR (iQ iR (iQ iR lr)))))) (sC (iM 1) iR)))))))))) (lv (lR (pP))) nt) (lu (mi (oz (nM hr) (oJ (sB (iM 8) (lc (PO.v (rF (iQ iR (iQ iR (iQ iR (iQ iR (iQ iR lr))))))) (iM 6))) iR) iR) (lv (lR (pP))) nt) (lv (lW 4 (iM 6) Al.nd)))))))) (lv (lR (pP)))))))) rfl
theorem xL:lg ["run","bound","waste","k","fall","up","count","missed"] ["run","bound"] (iT Mq):=fO (by nofun)
def zjN:Scope:={ kind:=.function,names:=[(jv ".0",.local),(jv "fall",.local),(jv "k",.free)],isGenerator:=false,isCoroutine:=false,more:=[] }
def zjO:Scope:={ kind:=.function,names:=[(jv ".0",.local),(jv "hand",.local),(jv "k",.free),(jv "run",.free)],isGenerator:=false,isCoroutine:=false,more:=[] }
theorem ZE:sf ["hand","k","run"] zjO zjN "fall" ["k"] [1] :=
 ⟨rfl,by nofun,by nofun,rfl,by nofun,by nofun,rfl,λj i y h1 h2=>(by
  match j,h1,h2 with
  | 0,h1,h2=>cases h1;cases h2;rfl
  | j+1,h1,h2=>simp at h1),by decide⟩
abbrev eI:=iU iY iD gQ
abbrev aq:=mw yR iA (pf (lY (pG eI) cL eC [1]))
abbrev eJ:=iU iY iB gN
abbrev aj:=mw mm (iU lM (iU mS eJ (iU iY aB iA)) gN) gP
abbrev eL:=iU iY iE gQ
abbrev eA:=iU lJ iJ gQ
abbrev ah:=iX (Bu 7 (sD 7 (lY (pG iG) aj iA [4]))) (lD (nU (mw rJ eL iF) (xo (mw mm eL iF) (mw nG iH (pf nD)))) (lF 6 eA) lI)
abbrev ae:=iX (Bu 5 (sD 5 (lY cn aq iA [3,0]))) (iX (lF 6 gP) (iX (oK dJ ip ah) (lF 2 (iU zq iD (iU nV iJ iF)))))
def NK:FS:=iX (lF 2 gP) (iX (oK (Nm sq gQ gS) iw ae) (mR (iU nV ed iD)))
def xy:List D->Option D:=lX 2 8 NK
theorem ZZ (T:ml K mg t):lz P w K mg base lK 1 t.a_q16 t.d_q16 ["run","bound"] (mE K xy) :=
 cV (mX T.q16.F xL λ_ _ _ _ _ _ hr=>lu (lW 2 iR xL.nd) (lu (pe PassesOwn.never rfl (GE rfl T.b_range iR iR) (on 3 xL.nd) (lu (Ay 5 (Ax 5 rfl (cO xL (fr:=["k","run"]) (by nofun)) (rC rfl T.b_range (oY rfl T.b_len (lc (iM 0) iR))) (sA (by nofun) rfl (λcl C s H fp ω=>zGc (nM hr) (iM 0) (PO.v (rE rfl (ZE.nest (by nofun)) (oI (lc (iM 2) iR)) (sA (by nofun) rfl (λcl C s H fp ω=>DE (lc (iM 0) iR) (iM 1)) (λcl C s H fp ω=>lc (iM 0) iR))))) (λcl C s H fp ω=>iM 0)) xL.nd)) (lu (lW 6 iR xL.nd) (lu (pe PassesOwn.never rfl (oI (lc (iM 0) iR)) (on 4 xL.nd) (lu (Ay 7 (Ax 7 rfl (cO xL (fr:=["fall"]) (by nofun)) (oI (iM 5)) (sA (by nofun) rfl (λcl C s H fp ω=>oz (nM hr) (oJ (sB (lc (iM 1) iR) (lc (PO.v (rF (iQ iR (iQ iR (iQ iR (iQ iR (iQ iR lr))))))) (iM 0))) iR) iR) (λcl C s H fp ω=>iM 0)) xL.nd)) (lv (mi (oX.b (oH (yL (lc (iM 4) iR) (iM 3)) (tK (oX.b (Cg (oz (nM hr) (lc (iM 4) iR) (iM 3)) (BN (sX (nM hr) (iM 7) (PO.v (rF lr))))))))) (lv (lW 6 (nT (iM 6) iR) xL.nd)) nt)))) (lv (lW 2 (SR rfl rfl T.b_max (iM 2) (sC (iM 6) (iM 3))) xL.nd)))))) (lv (lR (sC (nT (iM 1) iR) (iM 2)))))) rfl
theorem OA:lg ["script","cells","k"] ["script"] (iT Ld):=fO (by nofun)
abbrev ak:=sD 1 (lh gR (lh gO (lh (ng (.int 7)) (lh (ng (.int 11)) (lh (ng (.int 13)) (lh (ng (.int 17)) (lh (ng (.int 19)) (lh (ng (.int 23)) (lh (ng (.int 29)) nD)))))))))
abbrev eB:=iU lM iD gT
abbrev gk:=ng (.int 1000003)
abbrev am:=Tg 1 eB (iU lM (iU lJ (iU lJ (iU mM (BE (gl 1) eB) gp) (iU iY iA iD)) iD) gk)
abbrev de:=iU yn (ng (.int 63)) gG
abbrev bW:=wP mr de
abbrev iy:=nO 2
def Qj:FS:=iX ak (iX (oK bW iy am) (yZ (go 1)))
def Cv:List D->Option D:=lX 1 3 Qj
theorem zoC (T:ml K mg t):lz P w K mg base lK 1 t.a_q22 t.d_q22 ["script"] (mE K Cv) :=
 cV (mX T.q22.F OA λ_ _ _ _ _ _ hr=>lu (yq 1 (rF (iQ iR (iQ iR (iQ iR (iQ iR (iQ iR (iQ iR (iQ iR (iQ iR (iQ iR lr)))))))))) OA.nd) (lu (pe PassesOwn.never rfl (rC rfl T.b_range (Uj rfl rfl T.b_min iR (oY rfl T.b_len (iM 0)))) (on 2 OA.nd) (lv (XQ 1 (oJ (iM 2) iR) (oJ (nT (nT (tE (yu (xt 1) (oJ (iM 2) iR)) iR) (lc (iM 0) (iM 2))) (iM 2)) iR)))) (lv (zm 1)))) rfl
theorem BX:lg ["view","cells","total","k"] ["view","cells"] (iT KN):=fO (by nofun)
abbrev bI:=sZ bY
abbrev cZ:=lx iY ft iF
abbrev hJ:=mI (.int 3)
abbrev gn:=mI (.int 1000003)
abbrev hV:=mI (.int 4)
def XM (tU:List D->Option D):FS:=lE (oD bI (lE (lT 2 (lx lJ (lx mM (lx lM ft gn) fF) (lx mM fq (lx iY iB gU)))) (mQ (lx lM (lx lJ iD fy) gn))) oW) (lE (lT 2 (lx lJ (lx mM fq (lx iY iB hJ)) gU)) (lE (pT (pv mr dB) (oZ 3) (lE (lT 2 (lx lJ (lx mM iD (lx iY iB (lx lJ hV iF))) gU)) (lE (oD (mL nA cZ ik) (lT 2 (lx lJ iD (lA tU (iV cZ gb)))) oW) (lT 2 (lx lM iD gn))))) (mQ iD)))
def tU:Nat->List D->Option D
 | 0=>λ_=>Gb
 | n+1=>lX 2 4 (XM (tU n))
theorem SK (T:ml K mg t):∀ n,lz P w K mg base lK (n+1) t.a_q27 t.d_q27 ["view","cells"] (mE K (tU n))
 | 0=>Md
 | n+1=>by
  have R:=SK T n;have e:n+1+1=n+1+1:=by omega
  rw[e];exact mX T.q27.F BX λ_ _ _ _ _ _ hr=>lu (mi (pL (oO (wu (T:="tuple") (by decide) rfl T.b_isinstance rfl T.b_tuple boot_tuple (lc (iM 0) iR)))) (lu (lW 2 (nT (tE (oJ (lc (iM 0) iR) iR) (lc (iM 1) iR)) (tE (lc (iM 0) iR) (lc (iM 1) iR))) BX.nd) (lv (lR (oJ (nT (iM 2) (lc (iM 1) iR)) iR)))) nt) (lu (lW 2 (nT (tE (lc (iM 0) iR) (lc (iM 1) iR)) iR) BX.nd) (lu (pe PassesOwn.never rfl (rC rfl T.b_range (oY rfl T.b_len (lc (iM 0) iR))) (on 3 BX.nd) (lu (lW 2 (nT (tE (iM 2) (lc (iM 1) (nT iR (iM 3)))) iR) BX.nd) (lu (mi (BO (lc (lc (iM 0) iR) (iM 3)) pR) (lv (lW 2 (nT (iM 2) (AL R (hr.mono (by omega)) T.q27.m T.q27.F.kp T.q27.b (iQ (lc (lc (iM 0) iR) (iM 3)) (iQ (iM 1) lr)))) BX.nd)) nt) (lv (lW 2 (oJ (iM 2) iR) BX.nd))))) (lv (lR (iM 2)))))
theorem Il:lg ["view","found","part"] ["view"] (iT IY):=fO (by nofun)
def Zu (tY:List D->Option D):FS:=lE (oD bI (mQ (pj (iV ft mf))) oW) (lE (lT 1 (pj mf)) (lE (pT dL iz (oD (mL nA iD ik) (lT 1 (lx lJ iB (lA tY gc))) oW)) ic))
def tY:Nat->List D->Option D
 | 0=>λ_=>Gb
 | n+1=>lX 1 3 (Zu (tY n))
theorem GA (T:ml K mg t):∀ n,lz P w K mg base lK (n+1) t.a_q37 t.d_q37 ["view"] (mE K (tY n))
 | 0=>Md
 | n+1=>by
  have R:=GA T n;have e:n+1+1=n+1+1:=by omega
  rw[e];exact mX T.q37.F Il λ_ _ _ _ _ _ hr=>lu (mi (pL (oO (wu (T:="tuple") (by decide) rfl T.b_isinstance rfl T.b_tuple boot_tuple (lc (iM 0) iR)))) (lv (lR (PO.v (rF (iQ (lc (iM 0) iR) lr))))) nt) (lu (lW 1 (PO.v (rF lr)) Il.nd) (lu (pe PassesOwn.never rfl (oI (lc (iM 0) iR)) (on 2 Il.nd) (lv (mi (BO (iM 2) pR) (lv (lW 1 (nT (iM 1) (AL R (hr.mono (by omega)) T.q37.m T.q37.F.kp T.q37.b (iQ (iM 2) lr))) Il.nd)) nt))) (lv (lR (iM 1)))))
theorem zqS:lg ["view"] ["view"] (iT KO):=fO (by nofun)
def zrV (xj:List D->Option D):FS:=lE (oD bI (mQ gX) oW) (mQ (lx lJ gU (lA xj (iV br mf))))
def xj:Nat->List D->Option D
 | 0=>λ_=>Gb
 | n+1=>lX 1 1 (zrV (xj n))
theorem UC (T:ml K mg t):∀ n,lz P w K mg base lK (n+1) t.a_q49 t.d_q49 ["view"] (mE K (xj n))
 | 0=>Md
 | n+1=>by
  have R:=UC T n;have e:n+1+1=n+1+1:=by omega
  rw[e];exact mX T.q49.F zqS λ_ _ _ _ _ _ hr=>lu (mi (pL (oO (wu (T:="tuple") (by decide) rfl T.b_isinstance rfl T.b_tuple boot_tuple (lc (iM 0) iR)))) (lv (lR iR)) nt) (lv (lR (nT iR (AL R (hr.mono (by omega)) T.q49.m T.q49.F.kp T.q49.b (iQ (lc (lc (iM 0) iR) (lc (iM 0) iR)) lr)))))
theorem VA:lg ["numbers","cells","some"] ["numbers","cells"] (iT Lb):=fO (by nofun)
abbrev eM:=iU iY iB gR
def Qd:FS:=iX (lF 2 (pf (lh (iU lJ (pz DR iA) gQ) (lh (iU nV (pz Dm iA) gQ) (lh eC (lh (iU lJ (iU pO gI gJ) eM) (lh (iU nV (iU lM eM gO) gQ) nD))))))) (mR (iU iY iD (iU lM (iU mS eM gO) gO)))
def yf:List D->Option D:=lX 2 3 Qd
theorem zrW (T:ml K mg t):lz P w K mg base lK 1 t.a_q56 t.d_q56 ["numbers","cells"] (mE K yf) :=
 cV (mX T.q56.F VA λ_ _ _ _ _ _ hr=>lu (lW 2 (PO.v (rF (iQ (nT (WR rfl rfl T.b_max (iM 0)) iR) (iQ (sC (zEX rfl rfl T.b_min (iM 0)) iR) (iQ (lc (iM 0) iR) (iQ (nT (Da iR iR) (lc (iM 1) iR)) (iQ (sC (oJ (lc (iM 1) iR) iR) iR) lr))))))) VA.nd) (lv (lR (lc (iM 2) (oJ (sB (lc (iM 1) iR) iR) iR))))) rfl
theorem Hh:lg ["view","cells","start","one","way","score","some"] ["view","cells","start","one"] (iT KG):=fO (by nofun)
abbrev aO:=lD (mw mm (iU lM iG gL) (ng (.int 7))) gA (lI)
abbrev dY:=iU mS iG gL
abbrev aW:=mR (iU iY iJ (iU lM dY (pz ma iJ)))
abbrev bB:=lF 4 (iU lM eJ gO)
abbrev bC:=mR (iU lM dY gR)
abbrev bU:=lD (mw mm iE gS) (mR iF) (lI)
abbrev eO:=lw (tY 12) gr
abbrev dH:=Cc eO
abbrev eZ:=mw mm iE gP
abbrev fg:=mw mm iE gQ
abbrev fk:=mw mm iE gN
def Ql:FS:=iX bB (iX (lD (mw rJ (lw (xj 12) gr) iD) gA lI) (iX bU (iX (lF 5 (lw (tU 12) fv)) (iX aO (iX (lD eZ (mR (pN wp dH)) lI) (iX (lD fg (mR (pN sN dH)) lI) (iX (lD fk (iX (lF 6 eO) aW) lI) bC)))))))
def wo:List D->Option D:=lX 4 7 Ql
theorem Kr (T:ml K mg t):lz P w K mg base lK 14 t.a_q39 t.d_q39 ["view","cells","start","one"] (mE K wo) :=
 cV (mX T.q39.F Hh λ_ _ _ _ _ _ hr=>lu (lW 4 (oJ (lc (iM 1) iR) iR) Hh.nd) (lu (mi (yL (vc (UC T 12) T.q49 hr (iQ (iM 0) lr)) (iM 2)) (lv (lR pR)) nt) (lu (mi (oz (nM hr) (iM 4) iR) (lv (lR (iM 3))) nt) (lu (lW 5 (vc (SK T 12) T.q27 hr (iQ (iM 0) (iQ (iM 1) lr))) Hh.nd) (lu (mi (oz (nM hr) (oJ (iM 5) iR) iR) (lv (lR pR)) nt) (lu (mi (oz (nM hr) (iM 4) iR) (lv (lR (zDT rfl rfl T.b_min (PV.sh (vc (GA T 12) T.q37 hr (iQ (iM 0) lr)))))) nt) (lu (mi (oz (nM hr) (iM 4) iR) (lv (lR (Vk rfl rfl T.b_max (PV.sh (vc (GA T 12) T.q37 hr (iQ (iM 0) lr)))))) nt) (lu (mi (oz (nM hr) (iM 4) iR) (lu (lW 6 (vc (GA T 12) T.q37 hr (iQ (iM 0) lr)) Hh.nd) (lv (lR (lc (iM 6) (oJ (sB (iM 5) iR) (oY rfl T.b_len (iM 6))))))) nt) (lv (lR (oJ (sB (iM 5) iR) iR))))))))))) rfl
theorem Bw:lg ["rule","run","rounds","made","told","hand","number","views"] ["rule","run","rounds"] (iT MP):=fO (by nofun)
abbrev gm:=iV iJ (mf)
abbrev dW:=iV iG gm
def Xk (c:lN)(φ:D->Option D):FS:=lE (lT 3 (lA AD dR)) (lE (yT 4 mf) (lE (pT (pv mr (un ma fF)) (oZ 5) (oD (mL nA (lx iY (lx iY iF iD) iG) ik) (lE (lT 6 ik) (lE (pT (sY iF) (oZ 7) (oD (mL rZ iJ ik) (lT 6 (rK 0 c φ (lx iY iH iG))) oW)) (Og 4 (tQ dW)))) oW)) (zQ (go 4))))
def yD (c:lN)(φ:D->Option D):List D->Option D:=vk 0 3 8 c (Xk c φ)
theorem RQ (T:ml K mg t){c:lN}{φ:D->Option D}(hC:oP P w K mg base 15 c φ):lz P w K mg base lK 16 t.a_q50 t.d_q50 ["rule","run","rounds"] (xJ K 0 c (yD c φ)) :=
 yE T.q50.F Bw (by decide) λ_ _ _ _ _ _ hr=>lu (lW 3 (vc (zpD T) T.q38 hr (iQ (iM 1) (iQ (iM 2) lr))) Bw.nd) (lu (yq 4 (rF lr) Bw.nd) (lu (pe PassesOwn.never rfl (rC rfl T.b_range (oY rfl T.b_len (lc (iM 1) iR))) (on 5 Bw.nd) (lv (mi (BO (lc (lc (iM 3) (iM 2)) (iM 5)) pR) (lu (lW 6 pR Bw.nd) (lu (pe PassesOwn.never rfl (oI (iM 3)) (on 7 Bw.nd) (lv (mi (Dv (iM 6) pR) (lv (lW 6 (TY 0 hC (hr.mono (by decide)) (lc (iM 7) (iM 5))) Bw.nd)) nt))) (lv (Bt 4 (rB (iQ (iM 5) (iQ (iM 6) lr))))))) nt))) (lv (zm 4))))
theorem Cm:lg ["found","rule","many","bound","rounds","told","hand","number","first"] ["found","rule","many","bound","rounds"] (iT NH):=fO (by nofun)
abbrev cb:=lx iY ft gX
abbrev fI:=lx iY iA gW
abbrev cQ:=lx yM iG fI
abbrev fJ:=lx iY iA hJ
abbrev ga:=xF 5 iJ iH
abbrev gM:=un ma iA
def zpE (c:lN)(φ:D->Option D):FS:=lE (oD (yp (sZ (pq (un gY iA))) (yp (mL rJ gM hJ) (sZ (pq (lA zf (iV ft dO)))))) fT oW) (lE (Mx 5) (lE (pT (sY (mY 1 c (yD c φ) (iV ft gh))) (NE (xS (oZ 6) (xS (oZ 7) (DV)))) ga) (lE (pT (sY (Kg iA (zw gW) (Mp))) (oZ 6) (oD (yp (sZ (pq (lA pQ gm))) (mL wT iJ iG)) fT oW)) (lE (oD (PF (mL mm fq (mI (.str io))) (mL mm gM hV)) (NW 5 (mQ (xu (lx rJ fI fJ) (lx nG cQ (lx yM iG fJ))))) oW) (lE (oD (yp (mL nG fq (mI (.str gZ))) (mL nG gM hJ)) fT oW) (lE (lT 8 (lx iY cb gX)) (NW 5 (mQ (xu (lx mm cb (lx wS (tQ (iV iI mf)) iD)) (xu (lx nA cQ ik) (lx nG cQ iI)))))))))))
def CO (c:lN)(φ:D->Option D):List D->Option D:=vk 1 5 9 c (zpE c φ)
theorem zoD (T:ml K mg t){c:lN}{φ:D->Option D}(hC:oP P w K mg base 15 c φ):lz P w K mg base lK 17 t.a_q20 t.d_q20 ["found","rule","many","bound","rounds"] (xJ K 1 c (CO c φ)) :=
 yE T.q20.F Cm (by decide) λ_ _ _ _ _ _ hr=>lu (mi (oX.b (oH (pL (oO (wu (T:="tuple") (by decide) rfl T.b_isinstance rfl T.b_tuple boot_tuple (iM 0)))) (oH (yL (oY rfl T.b_len (iM 0)) iR) (tK (pL (oO (vc (zqP T) T.q44 hr (iQ (lc (iM 0) iR) (iQ (iM 2) (iQ (iM 3) lr)))))))))) (lv (lR (pP))) nt) (lu (Ll 5 Cm.nd) (lu (pe PassesOwn.never rfl (oI (zv 1 (RQ T hC) (hr.mono (by decide)) T.q50.m T.q50.F.kp T.q50.b (iQ (lc (iM 0) iR) (iQ (iM 4) lr)))) (Hy rfl (yt (on 6 Cm.nd) (yt (on 7 Cm.nd) HC))) (lv (Ng 5 (iM 6) (iM 7)))) (lu (pe PassesOwn.never rfl (oI (xg (iM 0) (wH iR) yi)) (on 6 Cm.nd) (lv (mi (oX.b (oH (pL (oO (vc (EJ T) T.q33 hr (iQ (iM 6) lr)))) (tK (zDV (iM 6) (iM 5))))) (lv (lR (pP))) nt))) (lu (mi (oX.b (Cg (oz (nM hr) (lc (iM 0) iR) GV) (BN (oz (nM hr) (oY rfl T.b_len (iM 0)) iR)))) (lv (EM 5 (lR (yx (FR (lc (iM 0) iR) (lc (iM 0) iR)) (yh (Fu (nM hr) (Er (iM 5) (lc (iM 0) iR)) (Er (iM 5) (lc (iM 0) iR)))))))) nt) (lu (mi (oX.b (oH (sX (nM hr) (lc (iM 0) iR) GV) (tK (sX (nM hr) (oY rfl T.b_len (iM 0)) iR)))) (lv (lR (pP))) nt) (lu (lW 8 (lc (lc (lc (iM 0) iR) iR) iR) Cm.nd) (lv (EM 5 (lR (yx (Bn (nM hr) (lc (lc (iM 0) iR) iR) (zEW (rB (iQ (iM 8) lr)) (iM 2))) (yx (zDK (Er (iM 5) (lc (iM 0) iR)) pR) (yh (Fu (nM hr) (Er (iM 5) (lc (iM 0) iR)) (iM 8))))))))))))))
theorem wq:lg ["script","k","mixed","many","run","bound","rounds","found","told","cells","one","start",".t"] ["script"] (iT zk):=fO (by nofun)
def Tz:Scope:={ kind:=.function,names:=[(jv "view",.local),(jv "cells",.free),(jv "one",.free),(jv "start",.free),(jv "_law_rule",.globalImplicit)],isGenerator:=false,isCoroutine:=false,more:=[] }
theorem Zk:wV "view" ["cells","one","start"] Tz:=⟨rfl,rfl,rfl,by nofun,rfl,by nofun,by nofun,by nofun⟩
theorem TD:∀ y∈Tz.names,y.2=.free->(iT zk).names.lookup y.1=Ga .cell\/(iT zk).names.lookup y.1=Ga .free:=by nofun
theorem zrY:∀ (j i:Nat) (y:Str),([9,10,11]:List Nat)[j]?=Ga i->(["cells","one","start"]:List Str)[j]?=Ga y->(["script","k","mixed","many","run","bound","rounds","found","told","cells","one","start",".t"]:List Str)[i]?=Ga y:=λj i y h1 h2=>(by
  match j,h1,h2 with
  | 0,h1,h2=>cases h1;cases h2;rfl
  | 1,h1,h2=>cases h1;cases h2;rfl
  | 2,h1,h2=>cases h1;cases h2;rfl
  | j+3,h1,h2=>simp at h1)
def VG:Scope:={ kind:=.function,names:=[(jv "seen",.local),(jv "cells",.free),(jv "one",.free),(jv "start",.free),(jv "_law_rule",.globalImplicit)],isGenerator:=false,isCoroutine:=false,more:=[] }
theorem zvW:wV "seen" ["cells","one","start"] VG:=⟨rfl,rfl,rfl,by nofun,rfl,by nofun,by nofun,by nofun⟩
theorem Tl:∀ y∈VG.names,y.2=.free->(iT zk).names.lookup y.1=Ga .cell\/(iT zk).names.lookup y.1=Ga .free:=by nofun
theorem Xi:∀ (j i:Nat) (y:Str),([9,10,11]:List Nat)[j]?=Ga i->(["cells","one","start"]:List Str)[j]?=Ga y->(["script","k","mixed","many","run","bound","rounds","found","told","cells","one","start",".t"]:List Str)[i]?=Ga y:=λj i y h1 h2=>(by
  match j,h1,h2 with
  | 0,h1,h2=>cases h1;cases h2;rfl
  | 1,h1,h2=>cases h1;cases h2;rfl
  | 2,h1,h2=>cases h1;cases h2;rfl
  | j+3,h1,h2=>simp at h1)
def Vf:Scope:={ kind:=.function,names:=[(jv "asked",.local),(jv "cells",.free),(jv "one",.free),(jv "start",.free),(jv "_law_rule",.globalImplicit)],isGenerator:=false,isCoroutine:=false,more:=[] }
theorem zvX:wV "asked" ["cells","one","start"] Vf:=⟨rfl,rfl,rfl,by nofun,rfl,by nofun,by nofun,by nofun⟩
theorem Vm:∀ y∈Vf.names,y.2=.free->(iT zk).names.lookup y.1=Ga .cell\/(iT zk).names.lookup y.1=Ga .free:=by nofun
theorem zr0:∀ (j i:Nat) (y:Str),([9,10,11]:List Nat)[j]?=Ga i->(["cells","one","start"]:List Str)[j]?=Ga y->(["script","k","mixed","many","run","bound","rounds","found","told","cells","one","start",".t"]:List Str)[i]?=Ga y:=λj i y h1 h2=>(by
  match j,h1,h2 with
  | 0,h1,h2=>cases h1;cases h2;rfl
  | 1,h1,h2=>cases h1;cases h2;rfl
  | 2,h1,h2=>cases h1;cases h2;rfl
  | j+3,h1,h2=>simp at h1)
abbrev bG:=iV iA (iV iB (iV iF gc))
def zCZ (mk:(D->Option D)->lN)(Pt:Gj):FS:=lE (lT 9 (lA Cv ge)) (lE (pT (MS xC gX (lx yn (mI (.int 63)) gM) (mI (.int 9))) (oZ 1) (lE (lT 2 (lA zG (iV (yo yP (EF (Kg iA (zw iB) (zw (lx lJ iB (mI (.int 9))))))) gb))) (lE (lT 3 (lx lJ gW (lx lM iD gW))) (lE (oD (PF (mL mm iB gX) (mL mm (lx lM (lx mS iD gW) gW) gX)) (lT 3 hV) oW) (lE (lT 4 (tQ (iV (lA wY (iV (lx iY iA iB) gf)) (iV (lA wM (iV (lx mS iD hV) (iV iF (iV (lx nV iF gW) (iV hJ mf))))) mf)))) (lE (lT 5 (lx zq (un ma fx) (lx lM (lx mS iD (mI (.int 16))) (lx nV iF gU)))) (lE (lT 6 (lx lM (lx mS iD (mI (.int 48))) (lA xy dS))) (lE (lT 11 (lx lM (lx mS iD (mI (.int 144))) (lx lJ iJ gU))) (lE (lT 10 (lA yf (iV fG (iV (gv 9) mf)))) (lE (lT 7 (re 12 Pt mk (lA wo bG) Ad [9,10,11] (iV iE dW))) (lE (lT 8 (re 12 Pt mk (lA wo bG) yD [9,10,11] (iV iE gm))) (oD (mL mm (un ma (pj (lY (sY iI) (mL nA ft ik) iA []))) gX) (oD (mL nA iH ik) fT oW) (oD (sZ (pq (re 12 Pt mk (lA wo bG) CO [9,10,11] (iV iH (iV iF dW))))) fT oW))))))))))))) (mQ (mI (.bool true))))
def zlU (mk:(D->Option D)->lN)(Pt:Gj):List D->Option D:=BM 1 13 Pt (zCZ mk Pt)
theorem zAl (T:ml K mg t):lz P w K mg base lK 36 t.a_q68 t.d_q68 ["script"] (spT K t.Pt (zlU (zS P w K mg base 15) t.Pt)) :=
 okT T.q68.F T.lam_cd wq (by decide) (by decide) λ_ _ _ _ _ hr=>lu (lW 9 (vc (zoC T) T.q22 hr (iQ (iM 0) lr)) wq.nd) (lu (pe PassesOwn.never rfl (zDS rfl T.b_range iR (Uj rfl rfl T.b_min iR (oY rfl T.b_len (iM 0))) iR) (on 1 wq.nd) (lu (lW 2 (vc (zpB T) T.q29 hr (iQ (zDP rfl rfl T.b_sum (PV.sh (xg (iM 0) (wH (iM 1)) (wH (nT (iM 1) iR))))) (iQ (iM 1) lr))) wq.nd) (lu (lW 3 (nT iR (oJ (iM 2) iR)) wq.nd) (lu (mi (oX.b (Cg (oz (nM hr) (iM 1) iR) (BN (oz (nM hr) (oJ (sB (iM 2) iR) iR) iR)))) (lv (lW 3 iR wq.nd)) nt) (lu (lW 4 (rB (iQ (vc (znD T) T.q14 hr (iQ (lc (iM 0) (iM 1)) (iQ (iM 3) lr))) (iQ (vc (zpC T) T.q35 hr (iQ (sB (iM 2) iR) (iQ (iM 3) (iQ (sC (iM 3) iR) (iQ iR lr))))) lr))) wq.nd) (lu (lW 5 (SR rfl rfl T.b_max (oY rfl T.b_len (lc (iM 4) iR)) (oJ (sB (iM 2) iR) (sC (iM 3) iR))) wq.nd) (lu (lW 6 (oJ (sB (iM 2) iR) (vc (ZZ T) T.q16 hr (iQ (iM 4) (iQ (iM 5) lr)))) wq.nd) (lu (lW 11 (oJ (sB (iM 2) iR) (nT (iM 6) iR)) wq.nd) (lu (lW 10 (vc (zrW T) T.q56 hr (iQ (lc (iM 4) iR) (iQ (iM 9) lr))) wq.nd) (lu (lW 7 (Kf 12 (kl:=14) Zk TD (by nofun) (λ_=>rfl) rfl zrY (λ_ _ _ _ _ _ _=>rfl) (λqual fl cdl cl A outer s H hr=>vc (Kr T) T.q39 hr (iQ (iM 0) (iQ (iM 1) (iQ (iM 3) (iQ (iM 2) lr))))) (λφ=>ztF T (LP P w K mg base (14+1) φ)) (hr.mono (by decide)) T.q62.m T.q62.F.kp T.q62.b (Lh ⟨rfl,λh Y=>vC Y T.lam_hd,T.lam_bm⟩ TD (by nofun) (iQ (iM 4) (iQ (iM 5) (iQ (iM 6) lr))))) wq.nd) (lu (lW 8 (Kf 12 (kl:=14) zvW Tl (by nofun) (λ_=>rfl) rfl Xi (λ_ _ _ _ _ _ _=>rfl) (λqual fl cdl cl A outer s H hr=>vc (Kr T) T.q39 hr (iQ (iM 0) (iQ (iM 1) (iQ (iM 3) (iQ (iM 2) lr))))) (λφ=>RQ T (LP P w K mg base (14+1) φ)) (hr.mono (by decide)) T.q50.m T.q50.F.kp T.q50.b (Lh ⟨rfl,λh Y=>vC Y T.lam_hd,T.lam_bm⟩ Tl (by nofun) (iQ (iM 4) (iQ (iM 6) lr)))) wq.nd) (lv (mi (oz (nM hr) (oY rfl T.b_len (PO.v (rE rfl (cO wq (fr:=[]) (by nofun)) (oI (iM 8)) (sA (by nofun) rfl (λcl C s H fp ω=>BO (lc (iM 0) iR) pR) (λcl C s H fp ω=>iM 0))))) iR) (lv (mi (BO (iM 7) pR) (lv (lR (pP))) nt)) (lv (mi (pL (oO (Kf 12 (kl:=14) zvX Vm (by nofun) (λ_=>rfl) rfl zr0 (λ_ _ _ _ _ _ _=>rfl) (λqual fl cdl cl A outer s H hr=>vc (Kr T) T.q39 hr (iQ (iM 0) (iQ (iM 1) (iQ (iM 3) (iQ (iM 2) lr))))) (λφ=>zoD T (LP P w K mg base (14+1) φ)) (hr.mono (by decide)) T.q20.m T.q20.F.kp T.q20.b (zzS (iM 7) (Lh ⟨rfl,λh Y=>vC Y T.lam_hd,T.lam_bm⟩ Vm (by nofun) (iQ (iM 3) (iQ (iM 5) (iQ (iM 6) lr)))))))) (lv (lR (pP))) nt))))))))))))))) (lv (lR (pP))))
set_option autoImplicit true in
theorem zEZ {K:ja}{mg:Str->Option Gg}{h:Heap}(X:K.In h)(G:h.Ns mainGlobals mg) (w_q40:mh K "is_whole" Na cd_q40 a_q40 d_q40) (w_q63:mh K "bit_of" Mi cd_q63 a_q63 d_q63) (w_q41:mh K "has_hand" KB cd_q41 a_q41 d_q41) (w_q54:mh K "mask_of" KY cd_q54 a_q54 d_q54) (w_q52:mh K "hands_in" Pb cd_q52 a_q52 d_q52) (w_q26:mh K "is_number" Nq cd_q26 a_q26 d_q26) (w_q11:mh K "are_numbers" Op cd_q11 a_q11 d_q11) (w_q23:mh K "many_hands" NT cd_q23 a_q23 d_q23) (w_q53:mh K "fall_of" PU cd_q53 a_q53 d_q53) (w_q7:mh K "without_fall" Pe cd_q7 a_q7 d_q7) (w_q25:mh K "with_fall" On cd_q25 a_q25 d_q25) (w_q17:mh K "with_number" Kt cd_q17 a_q17 d_q17) (w_q67:mh K "is_up" LR cd_q67 a_q67 d_q67) (w_q24:mh K "who_is_up" Mw cd_q24 a_q24 d_q24) (w_q66:mh K "comes" Po cd_q66 a_q66 d_q66) (w_q65:mh K "keeps" LS cd_q65 a_q65 d_q65) (w_q2:mh K "with_reach_turned" NU cd_q2 a_q2 d_q2) (w_q0:mh K "changed_while_hushed" Mm cd_q0 a_q0 d_q0) (w_q60:mh K "hushed" Lw cd_q60 a_q60 d_q60) (w_q34:mh K "all_heard" NI cd_q34 a_q34 d_q34) (w_q6:mh K "is_found_out" LQ cd_q6 a_q6 d_q6) (w_q30:mh K "found_out" PC cd_q30 a_q30 d_q30) (w_q48:mh K "waste_of" Kz cd_q48 a_q48 d_q48) (w_q5:mh K "closing_round" PP cd_q5 a_q5 d_q5) (w_q58:mh K "is_open" Nz cd_q58 a_q58 d_q58) (w_q1:mh K "without_late_falls" Qh cd_q1 a_q1 d_q1) (w_q12:mh K "heard_falls" MV cd_q12 a_q12 d_q12) (w_q18:mh K "fallen_next" NX cd_q18 a_q18 d_q18) (w_q3:mh K "with_heard_next" KP cd_q3 a_q3 d_q3) (w_q64:mh K "risen" Ob cd_q64 a_q64 d_q64) (w_q10:mh K "heard_healed" IX cd_q10 a_q10 d_q10) (w_q19:mh K "made_heard" Od cd_q19 a_q19 d_q19) (w_q9:mh K "round_healed" Of cd_q9 a_q9 d_q9) (w_q61:mh K "healed" Oh cd_q61 a_q61 d_q61) (w_q21:mh K "renumbered" Nc cd_q21 a_q21 d_q21) (w_q4:mh K "are_numbers_for" LG cd_q4 a_q4 d_q4) (w_q47:mh K "chain_of" KR cd_q47 a_q47 d_q47) (w_q13:mh K "view_behind" Pa cd_q13 a_q13 d_q13) (w_q8:mh K "views_behind" NF cd_q8 a_q8 d_q8) (w_q46:mh K "views_of" Li cd_q46 a_q46 d_q46) (w_q42:mh K "own_part" KF cd_q42 a_q42 d_q42) (w_q32:mh K "rounds_of" OC cd_q32 a_q32 d_q32) (w_q51:mh K "own_past" PD cd_q51 a_q51 d_q51) (w_q36:mh K "choice_by" PK cd_q36 a_q36 d_q36) (w_q28:mh K "number_by" Mr cd_q28 a_q28 d_q28) (w_q59:mh K "told_by" OE cd_q59 a_q59 d_q59) (w_q45:mh K "all_told" Pz cd_q45 a_q45 d_q45) (w_q55:mh K "torn_in" NA cd_q55 a_q55 d_q55) (w_q31:mh K "strangers" LM cd_q31 a_q31 d_q31) (w_q57:mh K "torn_on" Oq cd_q57 a_q57 d_q57) (w_q15:mh K "broken_from" Ny cd_q15 a_q15 d_q15) (w_q62:mh K "broken" Qk cd_q62 a_q62 d_q62) (w_q33:mh K "_law_whole" Pr cd_q33 a_q33 d_q33) (w_q29:mh K "_law_mixed" Oe cd_q29 a_q29 d_q29) (w_q14:mh K "_law_numbers" Pk cd_q14 a_q14 d_q14) (w_q35:mh K "_law_falls" Nh cd_q35 a_q35 d_q35) (w_q43:mh K "_law_view" KQ cd_q43 a_q43 d_q43) (w_q38:mh K "_law_views" PX cd_q38 a_q38 d_q38) (w_q44:mh K "_law_good" LH cd_q44 a_q44 d_q44) (w_q16:mh K "_law_closing" Mq cd_q16 a_q16 d_q16) (w_q22:mh K "_law_folded" Ld cd_q22 a_q22 d_q22) (w_q27:mh K "_law_score" KN cd_q27 a_q27 d_q27) (w_q37:mh K "_law_heard" IY cd_q37 a_q37 d_q37) (w_q49:mh K "_law_deep" KO cd_q49 a_q49 d_q49) (w_q56:mh K "_law_one" Lb cd_q56 a_q56 d_q56) (w_q39:mh K "_law_rule" KG cd_q39 a_q39 d_q39) (w_q50:mh K "_law_told" MP cd_q50 a_q50 d_q50) (w_q20:mh K "_law_breaks" NH cd_q20 a_q20 d_q20) (w_q68:mh K "law" zk cd_q68 a_q68 d_q68) (z_abs:kj K mainGlobals "abs"=Ga Gb) (z_all:kj K mainGlobals "all"=Ga Gb) (z_bool:kj K mainGlobals "bool"=Ga Gb) (z_int:kj K mainGlobals "int"=Ga Gb) (z_isinstance:kj K mainGlobals "isinstance"=Ga Gb) (z_len:kj K mainGlobals "len"=Ga Gb) (z_list:kj K mainGlobals "list"=Ga Gb) (z_max:kj K mainGlobals "max"=Ga Gb) (z_min:kj K mainGlobals "min"=Ga Gb) (z_range:kj K mainGlobals "range"=Ga Gb) (z_reversed:kj K mainGlobals "reversed"=Ga Gb) (z_sorted:kj K mainGlobals "sorted"=Ga Gb) (z_sum:kj K mainGlobals "sum"=Ga Gb) (z_tuple:kj K mainGlobals "tuple"=Ga Gb) {k_LAST_ROUND} (c_LAST_ROUND:kj K mainGlobals "LAST_ROUND"=Ga (Ga (.int 5 k_LAST_ROUND))) {k_LEAST_HANDS} (c_LEAST_HANDS:kj K mainGlobals "LEAST_HANDS"=Ga (Ga (.int 2 k_LEAST_HANDS))) {k_MOST_HANDS} (c_MOST_HANDS:kj K mainGlobals "MOST_HANDS"=Ga (Ga (.int 5 k_MOST_HANDS))) {c0 Pt bm:Gj} {slm:Array (Option Gg)} (l_1:cd_q68=.ref c0) (l_2:qJ K c0 Pt=true) (l_3:kj K mainGlobals "__builtins__"=Ga (Ga (.ref bm))) (l_4:K.lookup bm=Ga ⟨.type "module",Ga builtinsNs,.plain,slm⟩) (l_5:bm≠builtinsNs) (l_6:bm≠mainGlobals) : ∃ t,ml K mg t/\t.Pt=Pt/\t.a_q68=a_q68/\∀ (s:Gh) (v:Gg),BindsTo s t.d_q68 ⟨[v],[]⟩ [("script",v)]:=by
 exact⟨⟨a_q40,d_q40,a_q63,d_q63,a_q41,d_q41,a_q54,d_q54,a_q52,d_q52,a_q26,d_q26,a_q11,d_q11,a_q23,d_q23,a_q53,d_q53,a_q7,d_q7,a_q25,d_q25,a_q17,d_q17,a_q67,d_q67,a_q24,d_q24,a_q66,d_q66,a_q65,d_q65,a_q2,d_q2,a_q0,d_q0,a_q60,d_q60,a_q34,d_q34,a_q6,d_q6,a_q30,d_q30,a_q48,d_q48,a_q5,d_q5,a_q58,d_q58,a_q1,d_q1,a_q12,d_q12,a_q18,d_q18,a_q3,d_q3,a_q64,d_q64,a_q10,d_q10,a_q19,d_q19,a_q9,d_q9,a_q61,d_q61,a_q21,d_q21,a_q4,d_q4,a_q47,d_q47,a_q13,d_q13,a_q8,d_q8,a_q46,d_q46,a_q42,d_q42,a_q32,d_q32,a_q51,d_q51,a_q36,d_q36,a_q28,d_q28,a_q59,d_q59,a_q45,d_q45,a_q55,d_q55,a_q31,d_q31,a_q57,d_q57,a_q15,d_q15,a_q62,d_q62,a_q33,d_q33,a_q29,d_q29,a_q14,d_q14,a_q35,d_q35,a_q43,d_q43,a_q38,d_q38,a_q44,d_q44,a_q16,d_q16,a_q22,d_q22,a_q27,d_q27,a_q37,d_q37,a_q49,d_q49,a_q56,d_q56,a_q39,d_q39,a_q50,d_q50,a_q20,d_q20,a_q68,d_q68,c0,Pt⟩,⟨my X G w_q40,my X G w_q63,my X G w_q41,my X G w_q54,my X G w_q52,my X G w_q26,my X G w_q11,my X G w_q23,my X G w_q53,my X G w_q7,my X G w_q25,my X G w_q17,my X G w_q67,my X G w_q24,my X G w_q66,my X G w_q65,my X G w_q2,my X G w_q0,my X G w_q60,my X G w_q34,my X G w_q6,my X G w_q30,my X G w_q48,my X G w_q5,my X G w_q58,my X G w_q1,my X G w_q12,my X G w_q18,my X G w_q3,my X G w_q64,my X G w_q10,my X G w_q19,my X G w_q9,my X G w_q61,my X G w_q21,my X G w_q4,my X G w_q47,my X G w_q13,my X G w_q8,my X G w_q46,my X G w_q42,my X G w_q32,my X G w_q51,my X G w_q36,my X G w_q28,my X G w_q59,my X G w_q45,my X G w_q55,my X G w_q31,my X G w_q57,my X G w_q15,my X G w_q62,my X G w_q33,my X G w_q29,my X G w_q14,my X G w_q35,my X G w_q43,my X G w_q38,my X G w_q44,my X G w_q16,my X G w_q22,my X G w_q27,my X G w_q37,my X G w_q49,my X G w_q56,my X G w_q39,my X G w_q50,my X G w_q20,my X G w_q68,ka X G z_abs,ka X G z_all,ka X G z_bool,ka X G z_int,ka X G z_isinstance,ka X G z_len,ka X G z_list,ka X G z_max,ka X G z_min,ka X G z_range,ka X G z_reversed,ka X G z_sorted,ka X G z_sum,ka X G z_tuple,w_q68.code.trans l_1,l_2,⟨bm,_,v5 X G l_3,l_5,l_6,l_4,rfl,rfl,rfl⟩,⟨_,v5 X G c_LAST_ROUND⟩,⟨_,v5 X G c_LEAST_HANDS⟩,⟨_,v5 X G c_MOST_HANDS⟩⟩,rfl,rfl,w_q68.bt (Q:=λfd=>∀ (s:Gh) (v:Gg),BindsTo s fd ⟨[v],[]⟩ [("script",v)]) λ_ _ _ _ _ _ _ _=>.of_eq rfl⟩
theorem zE0 {l:Program}{w:World}{K:ja}{mg:Str->Option Gg}{h:Heap}{fa a Pt:Gj}(X:K.In h)(G:h.Ns mainGlobals mg)(hmg:mg "law"=Ga (.ref fa))
  (z:∃ t,ml K mg t/\t.Pt=Pt/\t.a_q68=a/\∀ (s:Gh) (v:Gg),BindsTo s t.d_q68 ⟨[v],[]⟩ [("script",v)]) :
  ∃ fd:Gi,(∀ (s:Gh) (v:Gg),BindsTo s fd ⟨[v],[]⟩ [("script",v)])/\∀ base:Heap,K.In base->base.Ns mainGlobals mg->lz l w K mg base lK 36 fa fd ["script"] (λvs H Q E=>∀ mk,spT K Pt (zlU mk Pt) vs H Q E):=by
 obtain⟨t,T,rfl,_,hb⟩:=z;have e:=hmg.symm.trans T.q68.m;cases e;exact⟨t.d_q68,hb,λbase _ _=>(zAl T).imp λvs H Q E h=>h _⟩
end
noncomputable section
open PySem PySem.Spec PyProof.Rows L2 T3
theorem zqT (x0:D):AJ [x0]=lq (Kh [.val x0]):=rfl
theorem Xg (x0:D):Dc [x0]=lq (Pq [.val x0]):=rfl
theorem znF (x0:D):CG [x0]=lq (Nk [.val x0]):=rfl
theorem zmI (x0 x1:D):yJ [x0,x1]=lq (Ma [.val x0,.val x1]):=rfl
theorem zpG (x0 x1 x2 x3:D):xW [x0,x1,x2,x3]=lq (OV [.val x0,.val x1,.val x2,.val x3,.no]):=rfl
theorem znG (x0 x1 x2:D):xO [x0,x1,x2]=lq (Np [.val x0,.val x1,.val x2,.no]):=rfl
theorem ziR (x0 x1 x2:D):sQ [x0,x1,x2]=lq (No [.val x0,.val x1,.val x2,.no]):=rfl
abbrev gF:=lh iE (nD)
abbrev du:=lh iD (lh iF gF)
def NL (rA:List D->Option (List D)):FS:=mR (iU lJ (pf (tW rA (lh iA du))) (pf (Oj (tW rA (lh iB du)))))
abbrev fK:=lh iB gF
abbrev fZ:=mw nG iA iB
def EI (rA:List D->Option (List D))(pF:List D->Option D):FS:=iX (lD (mw sd iD iF) (yZ gr) lI) (iX (Bu 5 (sD 5 (lY cr fZ iA [1]))) (iX (sD 6 (tW rA (lh iA (lh iB bT)))) (iX (zh 6 (lw xW (lh iA (lh iB (lh iD (lh (lw Aa gz) nD)))))) (iX (oK (pG iG) ip (iX (lF 7 (BE (gl 6) fU)) (iX (lF 8 (lw sQ (lh iH fK))) (pW 6 (om (lw pF (lh iH (lh iI (lh iE bT)))) gj ot))))) (yZ (go 6))))))
theorem RK (n:Nat)(x0 x1 x2 x3:D):rA (n+1) [x0,x1,x2,x3]=sG (EI (rA n) (pF n) [.val x0,.val x1,.val x2,.val x3,.no,.no,.no,.no,.no]):=rfl
theorem SA (n:Nat)(x0 x1 x2 x3 x4:D):pF n [x0,x1,x2,x3,x4]=lq (NL (rA n) [.val x0,.val x1,.val x2,.val x3,.val x4]):=rfl
theorem ziE (x0 x1:D):Bh [x0,x1]=lq (NM [.val x0,.val x1]):=rfl
theorem WX (x0 x1:D):zj [x0,x1]=lq (NC [.val x0,.val x1,.no]):=rfl
theorem znI (x0 x1 x2 x3:D):ze [x0,x1,x2,x3]=lq (LN [.val x0,.val x1,.val x2,.val x3]):=rfl
theorem zj7 (x0 x1 x2:D):BV [x0,x1,x2]=lq (Oi [.val x0,.val x1,.val x2,.no,.no]):=rfl
theorem zvY (x0 x1 x2 x3:D):yr [x0,x1,x2,x3]=lq (OL [.val x0,.val x1,.val x2,.val x3]):=rfl
theorem zmJ (x0 x1 x2:D):wX [x0,x1,x2]=sG (Mj [.val x0,.val x1,.val x2,.no,.no,.no]):=rfl
theorem zoF (x0 x1 x2 x3:D):yF [x0,x1,x2,x3]=lq (KJ [.val x0,.val x1,.val x2,.val x3,.no,.no,.no,.no]):=rfl
theorem YI (x0 x1 x2:D):yI [x0,x1,x2]=lq (Kb [.val x0,.val x1,.val x2,.no,.no,.no]):=rfl
theorem ztG (x0 x1 x2:D):AV [x0,x1,x2]=lq (LX [.val x0,.val x1,.val x2,.no,.no,.no]):=rfl
theorem zoG (x0 x1 x2:D):Bm [x0,x1,x2]=lq (OU [.val x0,.val x1,.val x2,.no,.no,.no,.no]):=rfl
theorem zj8 (x0 x1:D):Br [x0,x1]=lq (MQ [.val x0,.val x1]):=rfl
theorem zqU (x0 x1 x2 x3:D):Ap [x0,x1,x2,x3]=lq (Kl [.val x0,.val x1,.val x2,.val x3,.no,.no]):=rfl
abbrev aX:=lD (mw nA iF ij) (mR (pC fw)) (lI)
def UL (c:lN)(φ:D->Option D):FS:=iX (oK (wP mr (iU lJ (lw Bq gu) gQ)) iy (iX (lF 3 (rK 0 c φ (lw DX fB))) aX)) gA
theorem zpH (c:lN)(φ:D->Option D)(x0:D):Cr c φ [x0]=lq (UL c φ [.fn c,.val x0,.no,.no]):=rfl
abbrev aY:=mR (DJ (mw rZ iD ij) ij eI)
def Up (c:lN)(φ:D->Option D):FS:=iX (lF 2 (mY 0 c (Cr c φ) gu)) aY
theorem zpI (c:lN)(φ:D->Option D)(x0:D):Bb c φ [x0]=lq (Up c φ [.fn c,.val x0,.no]):=rfl
abbrev dX:=lh (iU iY iD iA) (nD)
def Vx (c:lN)(φ:D->Option D):FS:=iX (lF 3 (lw Fp fB)) (mR (pf (lY (pG (pf (tW tR fB))) (λ_=>Ga true) (pC (lh iA (lh (mY 1 c (Bb c φ) dX) nD))) [0,3])))
theorem ZS (c:lN)(φ:D->Option D)(x0 x1:D):oU c φ [x0,x1]=lq (Vx c φ [.fn c,.val x0,.val x1,.no]):=rfl
theorem zqV (x0 x1:D):rH [x0,x1]=lq (NS [.val x0,.val x1]):=rfl
theorem zr2 (x0 x1:D):wJ [x0,x1]=lq (MO [.val x0,.val x1,.no]):=rfl
theorem zpJ (x0 x1:D):Aj [x0,x1]=lq (Me [.val x0,.val x1]):=rfl
abbrev bP:=lF 6 (iU mS (iU lJ iE iG) gN)
abbrev cH:=mw sd (iU nV iG iE) gQ
abbrev cR:=lh (iU iY iB iJ) gw
abbrev ia:=lF 5 iJ
def TK (c:lN)(φ:D->Option D):FS:=iX (lF 4 gP) (iX (lF 5 (iU nV (pz ma iB) gQ)) (iX (oy cH (iX bP (lD (mK (lw rH (lh (mY 0 c (oU c φ) cR) gy))) hE ia)) 100) (mR (lw wJ (lh (iU iY iB iG) (lh (mY 0 c (oU c φ) (lh (iU iY iB iG) gw)) nD))))))
theorem Zy (c:lN)(φ:D->Option D)(x0 x1 x2:D):Ch c φ [x0,x1,x2]=lq (TK c φ [.fn c,.val x0,.val x1,.val x2,.no,.no,.no]):=rfl
abbrev fR:=ng (.str gZ)
abbrev dw:=iU iY iJ fU
def SF (c:lN)(φ:D->Option D):FS:=iX (lF 5 (DJ eZ gQ gP)) (iX (lF 6 (lw Ap (lh iB (lh iD (lh iF (lh (pN rM (lY (wP mr (lw si gu)) (λ_=>Ga true) iB [5])) nD)))))) (iX (lF 7 (lw Aj (lh (mY 0 c (oU c φ) (lh dw gw)) gz))) (iX (lD (mw sd (pz ma iH) gP) (mR (pC (lh fR (lh dw (lh (iU iY iH gP) nD))))) lI) (mR (mY 0 c (Ch c φ) (lh iJ (lh iE gw)))))))
theorem znJ (c:lN)(φ:D->Option D)(x0 x1 x2 x3:D):AH c φ [x0,x1,x2,x3]=lq (SF c φ [.fn c,.val x0,.val x1,.val x2,.val x3,.no,.no,.no]):=rfl
def LF (c:lN)(φ:D->Option D):FS:=iX (lD (ol (mK (lw wW dh))) Gw lI) (iX (lF 4 (mY 0 c (oU c φ) (lh iB gw))) (iX (lF 5 (iU iY eG gQ)) (iX (lD (ol (mK (lw rH fH))) (mR (lw wJ fK)) lI) (iX (lD (mw rZ iG ij) gA lI) (mR (mY 0 c (AH c φ) (lh iB (lh iD (lh iF gz)))))))))
theorem UG (c:lN)(φ:D->Option D)(x0 x1 x2:D):Ad c φ [x0,x1,x2]=lq (LF c φ [.fn c,.val x0,.val x1,.val x2,.no,.no]):=rfl
theorem zpK (x0:D):pQ [x0]=lq (Mk [.val x0]):=rfl
theorem Yt (x0 x1:D):zG [x0,x1]=lq (Lg [.val x0,.val x1,.no]):=rfl
theorem znK (x0 x1:D):wY [x0,x1]=lq (Ml [.val x0,.val x1,.no]):=rfl
theorem zpM (x0 x1 x2 x3:D):wM [x0,x1,x2,x3]=lq (Qi [.val x0,.val x1,.val x2,.val x3,.no,.no,.no,.no,.no,.no]):=rfl
theorem SC (x0 x1 x2 x3:D):AF [x0,x1,x2,x3]=lq (GJ [.val x0,.val x1,.val x2,.val x3,.no,.no,.no,.no]):=rfl
theorem Yb (x0 x1:D):AD [x0,x1]=lq (Oo [.val x0,.val x1,.no,.no,.no,.no,.no]):=rfl
theorem ZO (x0 x1 x2:D):zf [x0,x1,x2]=lq (Ky [.val x0,.val x1,.val x2,.no,.no,.no,.no,.no,.no]):=rfl
theorem Zh (x0 x1:D):xy [x0,x1]=lq (NK [.val x0,.val x1,.no,.no,.no,.no,.no,.no]):=rfl
theorem zoK (x0:D):Cv [x0]=lq (Qj [.val x0,.no,.no]):=rfl
abbrev aJ:=lF 2 (iU lJ (iU mM iD (iU iY iB (iU lJ gS iF))) gQ)
abbrev cI:=iU iY eD iF
abbrev bi:=mw nA cI ij
abbrev bj:=lh cI gu
abbrev da:=lF 2 (iU lM iD gk)
def Et (tU:List D->Option D):FS:=iX (lD bE (iX (lF 2 (iU lJ (iU mM (iU lM eD gk) eH) (iU mM eC (iU iY iB gQ)))) (mR (iU lM (iU lJ iD eJ) gk))) lI) (iX (lF 2 (iU lJ (iU mM eC eM) gQ)) (iX (oK (wP mr dt) iw (iX aJ (iX (lD bi (lF 2 (iU lJ iD (lw tU bj))) lI) da))) (mR iD)))
theorem SU (n:Nat)(x0 x1:D):tU (n+1) [x0,x1]=lq (Et (tU n) [.val x0,.val x1,.no,.no]):=rfl
abbrev fL:=mw nA iD ij
def EX (tY:List D->Option D):FS:=iX (lD bE (mR (pf df)) lI) (iX (lF 1 (pf nD)) (iX (oK dJ iy (lD fL (lF 1 (iU lJ iB (lw tY gy))) lI)) (mR iB)))
theorem Uo (n:Nat)(x0:D):tY (n+1) [x0]=lq (EX (tY n) [.val x0,.no,.no]):=rfl
def Eg (xj:List D->Option D):FS:=iX (lD bE (mR gP) lI) (mR (iU lJ gQ (lw xj (lh (iU iY eD eC) nD))))
theorem RO (n:Nat)(x0:D):xj (n+1) [x0]=lq (Eg (xj n) [.val x0]):=rfl
theorem zr4 (x0 x1:D):yf [x0,x1]=lq (Qd [.val x0,.val x1,.no]):=rfl
theorem XW (x0 x1 x2 x3:D):wo [x0,x1,x2,x3]=lq (Ql [.val x0,.val x1,.val x2,.val x3,.no,.no,.no]):=rfl
abbrev bF:=mw nA (iU iY (iU iY iF iD) iG) ij
abbrev cq:=wP mr (pz ma eH)
abbrev fM:=lh iG gB
abbrev dg:=zh 4 (pC fM)
abbrev fP:=mw rZ iJ ij
abbrev fY:=iU iY iH iG
def Uq (c:lN)(φ:D->Option D):FS:=iX (lF 3 (lw AD fB)) (iX (sD 4 nD) (iX (oK cq iq (lD bF (iX (lF 6 ij) (iX (oK (pG iF) ir (lD fP (lF 6 (rK 0 c φ fY)) lI)) dg)) lI)) ig))
theorem zqY (c:lN)(φ:D->Option D)(x0 x1:D):yD c φ [x0,x1]=lq (Uq c φ [.fn c,.val x0,.val x1,.no,.no,.no,.no,.no]):=rfl
abbrev eQ:=iU iY iA gN
abbrev eS:=iU iY iA gR
abbrev cw:=iU yM iG eQ
abbrev bR:=iU iY eD gP
abbrev ac:=iX (lD (xo (mw mm eC (ng (.str io))) (mw mm gG gS)) (Az 5 (mR (Aq (iU rJ eQ eS) (iU nG cw (iU yM iG eS))))) lI) (iX (lD (nU (mw nG eC fR) (mw nG gG gR)) fS lI) (iX (lF 8 (iU iY bR gP)) (Az 5 (mR (Aq (iU mm bR (iU wS (pC gD) iD)) (Aq (iU nA cw ij) (iU nG cw iI)))))))
abbrev db:=pG (om iA (BQ gN) ot)
abbrev fX:=mw wT iJ iG
def UU (c:lN)(φ:D->Option D):FS:=iX (lD (nU dE (nU (mw rJ gG gR) (ol (mK (lw zf (lh eD fw)))))) fS lI) (iX (Hw 5) (iX (oK (pG (mY 1 c (yD c φ) (lh eD gF))) dz ga) (iX (oK db iu (lD (nU (ol (mK (lw pQ gB))) fX) fS lI)) ac)))
theorem zoL (c:lN)(φ:D->Option D)(x0 x1 x2 x3:D):CO c φ [x0,x1,x2,x3]=lq (UU c φ [.val x0,.fn c,.val x1,.val x2,.val x3,.no,.no,.no,.no]):=rfl
abbrev ao:=lD (xo (mw mm iB gP) (mw mm (iU lM (iU mS iD gN) gN) gP)) (lF 3 gS) (lI)
abbrev au:=lF 5 (iU zq (pz ma eL) (iU lM (iU mS iD gL) (iU nV iF gQ)))
abbrev aA:=mw mm (pz ma (pf (lY (pG iI) bV iA []))) gP
abbrev aD:=lh (iU mS iD gS) (lh iF (lh (iU nV iF gN) (lh gR nD)))
abbrev aQ:=lF 11 (iU lM (iU mS iD (ng (.int 144))) eA)
abbrev bp:=Cc (om iA (BQ iB) (BQ (iU lJ iB gT)))
abbrev bv:=lD (mw nA iH ij) fS (lI)
abbrev bx:=lF 3 (iU lJ gN (iU lM iD gN))
abbrev bX:=lh eG (lh (gv 9) nD)
abbrev ca:=lh iA (lh iB fE)
abbrev cT:=lh (iU iY iA iB) gw
abbrev dZ:=iU mS iD (ng (.int 48))
def TX (mk:(D->Option D)->lN)(Pt:Gj):FS:=iX (lF 9 (lw Cv gr)) (iX (oK (Lf xC gP de gT) (nO 1) (iX (lF 2 (lw zG (lh (pN yP bp) gu))) (iX bx (iX ao (iX (lF 4 (pC (lh (lw wY cT) (lh (lw wM aD) nD)))) (iX au (iX (lF 6 (iU lM dZ (lw xy fH))) (iX aQ (iX (lF 10 (lw yf bX)) (iX (lF 7 (re 12 Pt mk (lw wo ca) Ad [9,10,11] (lh iE fM))) (iX (lF 8 (re 12 Pt mk (lw wo ca) yD [9,10,11] (lh iE gB))) (lD aA bv (lD (ol (mK (re 12 Pt mk (lw wo ca) CO [9,10,11] (lh iH (lh iF fM))))) fS lI))))))))))))) fW)
theorem zAm (mk:(D->Option D)->lN)(Pt:Gj)(x0:D):zlU mk Pt [x0]=lq (TX mk Pt [.val x0,.no,.no,.no,.no,.no,.no,.no,.no,.no,.no,.no,.tab Pt]):=rfl
end
open PySem T3
theorem QW (a:Sl):∀ (ds:List D) (b:Int) (x:Sl),∃ x',lS (oZ 2) (lT 1 (lx mM (gv 1) (mI (.int 2)))) ds [a,.val (.int b),x]=Ga (.nx [a,.val (.int (b*2^ds.length)),x'])
 | [],b,x=>⟨x,by simp[lS]⟩
 | d::r,b,x=>by
  obtain⟨x',e⟩:=QW a r (b*2) (.val d);refine⟨x',?_⟩;have hm:mM (.int b) (.int 2)=Ga (.int (b*2)):=by simp[mM,dI,tP]
  unfold lS;simp only[oZ,lT,lx,mI,gv,List.set_cons_succ,List.set_cons_zero,vM,List.getElem?_cons_zero,jp,hm];rw[show(lx mM (gv 1) (mI (.int 2)):FV)=λψ=>(gv 1 ψ).bind λx=>(mI (.int 2) ψ).bind λy=>mM x y from rfl] at e;refine e.trans ?_;rw[jM,Int.pow_succ',Int.mul_assoc]
theorem NV (n:Int)(h0:0<=n)(h1:n<1000):zr [.int n]=Ga (.int (2^n.toNat)):=by
 show lq (LC [.val (.int n),.no,.no])=_;have hr:mr (.int n)=Ga (oi 0 n.toNat):=by unfold mr;dsimp only;rw[Ge (by constructor<;>omega)]
 obtain⟨x',e⟩:=QW (.val (.int n)) (oi 0 n.toNat) 1 .no;have hl:(oi 0 n.toNat).length=n.toNat:=by simp[oi]
 rw[hl,Int.one_mul] at e;unfold LC;have e1:lT 1 (mI (.int 1)) [.val (.int n),.no,.no]=Ga (.nx [.val (.int n),.val (.int 1),.no]):=rfl;have e2:pT (pv mr (gv 0)) (oZ 2) (lT 1 (lx mM (gv 1) (mI (.int 2)))) [.val (.int n),.val (.int 1),.no]=Ga (.nx [.val (.int n),.val (.int (2^n.toNat)),x']):=by
  show(mr (.int n)).bind (λds=>lS _ _ ds _)=_;rw[hr];exact e
 show lq (mU (lT 1 (mI (.int 1)) [.val (.int n),.no,.no]) _)=_;rw[e1];show lq (mU (pT (pv mr (gv 0)) (oZ 2) (lT 1 (lx mM (gv 1) (mI (.int 2)))) [.val (.int n),.val (.int 1),.no]) _)=_;rw[e2];rfl
theorem QX (m h:Int)(h0:0<=h)(h1:h<1000):rG [.int m,.int h]=Ga (.bool (!(uV m (2^h.toNat)==0))):=by
 refine congrArg lq (tX (ψ:=[.val (.int m),.val (.int h)]) ((wc ((wc rfl ((pK rfl).trans (NV h h0 h1))).trans rfl) rfl).trans ?_));exact Lr _ _
structure Fl where
 h:Nat
 a:Int
 m:Nat
def fd (f:Fl):D:=.tuple [.int f.h,.int f.a,.int f.m]
def rd (ns:List D)(fs:List Fl):D:=.tuple [.tuple ns,.tuple (fs.map fd)]
structure ph (n:Nat)(fs:List Fl):Prop where
 n2:2<=n
 n5:n<=5
 hb:∀ f∈fs,f.h<n
 mb:∀ f∈fs,f.m<32
 nd:(fs.map Fl.h).Nodup
 ab:∀ f∈fs,1<=f.a
 a5:∀ f∈fs,f.a<=5
def bk (d:D):Fl:=match d with
 | .tuple [.int a,.int b,.int c]=>⟨a.toNat,b,c.toNat⟩
 | _=>⟨0,0,0⟩
theorem zE1 {i j:Int}(h1:-(2^64)<i)(h2:i<2^64):tP i j=true:=by unfold tP;rw[Gc h1,Gc h2];rfl
theorem zE2 {i j:Int}(h1:-(2^64)<j)(h2:j<2^64):tP i j=true:=by unfold tP;rw[Gc h1,Gc h2,Bool.and_self,qV]
theorem Uh {i:Nat}{f:FL}{ψ e:En}{d:List D}(h:f ψ=Ga d)(he:frzAt i (ψ.set i (.own d))=e):AX i (yT i f) ψ=Ga (.nx e):=by rw[zGg (zGf h),he]
def nY (fs:List Fl)(h:Nat):Option Fl:=fs.find? λf=>f.h==h
def up (fs:List Fl)(h:Nat)(r:Int):Bool:=match nY fs h with|some f=>decide (r<f.a)|none=>true
theorem eqH (f:Fl)(h:Nat):mm (.int f.h) (.int h)=Ga (.bool (f.h==h)):=by
 rw[AC];congr 2;rw[kq,beq_iff_eq,beq_iff_eq];omega
theorem Hg {fs:List Fl}{h:Nat}{f:Fl}(e:nY fs h=Ga f):f∈fs/\f.h=h:=⟨qy e,by have:=Va e;exact beq_iff_eq.mp this⟩
def bt (m h:Nat):Bool:=decide ((m:Int)/(2^h)%2=1)
theorem Zo (fs:List Fl)(nd:(fs.map Fl.h).Nodup)(h:Nat)(r:Int):fs.all (λf=>!(f.h==h&&decide (f.a<=r)))=up fs h r:=by
 unfold up;rw[kq,jH];cases e:nY fs h with
 | none =>
  refine⟨λ_=>rfl,λ_ f hf=>?_⟩;have:=vb.mp e f hf;rw[jT] at this;rw[this];rfl
 | some g =>
  obtain⟨g1,g2⟩:=Hg e;dsimp only;rw[decide_eq_true_eq];constructor
  .intro z;have:=z g g1;rw[g2,beq_self_eq_true,uU,kB,decide_eq_false_iff_not] at this;omega
  .intro z f hf;rw[kB,Bool.and_eq_false_iff];by_cases q:f.h=h
   .have:f=g:=by
     obtain⟨i,hi,ei⟩:=qi hf;obtain⟨j,hj,ej⟩:=qi g1;have a1:(fs.map Fl.h)[i]?=Ga h:=by rw[jA,ji hi,ei,Jd,q]
     have a2:(fs.map Fl.h)[j]?=Ga h:=by rw[jA,ji hj,ej,Jd,g2]
     have:=(List.getElem?_inj (by rw[jc];exact hi) nd).mp (a1.trans a2.symm);subst this;rw[<- ei,<- ej]
    rw[this];exact .inr (Gd (by omega))
   .exact .inl (by rw[<- jT,beq_iff_eq];exact q)
def Sf (b t:Nat)(at_:Int)(f:Fl):Bool:=!((f.h==t&&decide (f.a<=at_))||(f.h==b&&decide (f.a<at_)))&&!(f.h==b&&(decide (f.a=at_)&&!bt f.m t))
def cm (fs:List Fl)(b t:Nat)(at_:Int):Bool:=fs.all (Sf b t at_)
theorem Lc {n:Nat}{fs:List Fl}(G:ph n fs)(b t:Nat)(r:Int):cm fs b t r=true↔∀ f∈fs,(f.h=t->r<f.a)/\(f.h=b->r<=f.a/\(f.a=r->bt f.m t=true)):=by
 unfold cm;rw[jH];refine forall_congr' λf=>forall_congr' λ_=>?_;unfold Sf;by_cases h1:f.h=t<;>by_cases h2:f.h=b<;>by_cases h3:f.a<r<;>by_cases h4:f.a=r<;>by_cases h5:f.a<=r<;>cases h6:bt f.m t<;>simp[h1,h2,h3,h4,h5,h6]<;>omega
theorem HM {n:Nat}{fs:List Fl}(G:ph n fs)(h:Nat)(r:Int):up fs h r=true↔∀ f∈fs,f.h=h->r<f.a:=by
 rw[<- Zo fs G.nd h r,jH];refine forall_congr' λf=>forall_congr' λ_=>?_;by_cases h1:f.h=h<;>by_cases h2:f.a<=r<;>simp[h1,h2]<;>omega
def vw (ns:List D)(fs:List Fl):Nat->Nat->D
 | 0,h=>.tuple [.int h,ns.getD h .none]
 | r+1,h=>.tuple [.int h,.tuple ((jd ns.length).map λo=>if o=h\/cm fs o h ((r+1:Nat):Int)=true then vw ns fs r o else .none)]
theorem QQ (ns:List D)(fs:List Fl)(r h:Nat)(hh:h<ns.length):Ct [vw ns fs (r+1) h]=Ga (vw ns fs r h):=by
 have g:((jd ns.length).map λo=>if o=h\/cm fs o h ((r+1:Nat):Int)=true then vw ns fs r o else .none)[h]?=Ga (vw ns fs r h):=by
  rw[jA,ud hh,Jd,Ge (uu rfl)]
 show lq (Kw [.val (vw ns fs (r+1) h)])=_;unfold Kw;exact(congrArg lq (tX (d:=vw ns fs r h) ((wc (a:=.tuple ((jd ns.length).map λo=>if o=h\/cm fs o h ((r+1:Nat):Int)=true then vw ns fs r o else .none)) (b:=.int h) rfl rfl).trans (MK g)))).trans rfl
theorem Ta (ns:List D)(fs:List Fl)(hi:∀ d∈ns,∃ i:Int,d=.int i)(h:Nat)(hh:h<ns.length):∀ (r m:Nat) (j:Int),r<m->oy (pq (un (sk "tuple") (lx iY (gv 0) (mI (.int 1))))) (lE (lT 0 (lA Ct (iV (gv 0) mf))) (lT 1 (lx lJ (gv 1) (mI (.int 1))))) m [.val (vw ns fs r h),.val (.int j)]=Ga (.nx [.val (vw ns fs 0 h),.val (.int (j+r))])
 | 0,m,j,hm=>by
  obtain⟨m',rfl⟩:∃ m',m=m'+1:=⟨m-1,by omega⟩;unfold oy;have e:pq (un (sk "tuple") (lx iY (gv 0) (mI (.int 1)))) (frz [.val (vw ns fs 0 h),.val (.int j)])=Ga false:=by
   obtain⟨i,hi'⟩:=hi (ns[h]) (uB hh);refine Ao (d:=.bool false) ((zU (a:=.int i) ((wc (a:=vw ns fs 0 h) (b:=.int 1) rfl rfl).trans ?_)).trans rfl) rfl;show Ga (ns.getD h .none)=_;rw[jq,ji hh,<- hi'];rfl
  rw[e,jp,Gf jw,show(j+((0:Nat):Int))=j by omega]
 | r+1,m,j,hm=>by
  obtain⟨m',rfl⟩:∃ m',m=m'+1:=⟨m-1,by omega⟩;have ih:=Ta ns fs hi h hh r m' (j+1) (by omega);unfold oy;have e:pq (un (sk "tuple") (lx iY (gv 0) (mI (.int 1)))) (frz [.val (vw ns fs (r+1) h),.val (.int j)])=Ga true:=rfl;have b1:lE (lT 0 (lA Ct (iV (gv 0) mf))) (lT 1 (lx lJ (gv 1) (mI (.int 1)))) [.val (vw ns fs (r+1) h),.val (.int j)]=Ga (.nx [.val (vw ns fs r h),.val (.int (j+1))]) :=
   (rT (e:=[.val (vw ns fs r h),.val (.int j)]) (AG ((pK (ds:=[vw ns fs (r+1) h]) rfl).trans (QQ ns fs r h hh)))).trans rfl
  rw[e,jp,Ge rfl,b1,jp];show oy _ _ m' [.val (vw ns fs r h),.val (.int (j+1))]=_;rw[ih,show j+1+(r:Int)=j+((r+1:Nat):Int) by omega]
theorem Sz (ns:List D)(fs:List Fl)(hi:∀ d∈ns,∃ i:Int,d=.int i)(r h:Nat)(hh:h<ns.length)(hr:r<100):Bq [vw ns fs r h]=Ga (.int r):=by
 show lq (OH [.val (vw ns fs r h),.no])=_;unfold OH;rw[rT (e:=[.val (vw ns fs r h),.val (.int 0)]) rfl,rT (Ta ns fs hi h hh r 100 0 hr),qj];rfl
def hd (fs:List Fl)(h:Nat)(r:Nat)(o:Nat):Bool:=decide (o=h)||cm fs o h (r:Int)
theorem SX (ns:List D)(fs:List Fl)(h:Nat)(hh:h<ns.length)(b:Sl):∀ (ds:List D) (r:Nat) (x:Sl),ds.length<=r->∃ x',lS (oZ 2) (lT 0 (lA Ct (iV (gv 0) mf))) ds [.val (vw ns fs r h),b,x]=Ga (.nx [.val (vw ns fs (r-ds.length) h),b,x'])
 | [],r,x,_=>⟨x,rfl⟩
 | d::ds,r,x,hl=>by
  rw[jM] at hl ⊢;obtain⟨r',rfl⟩:∃ r',r=r'+1:=⟨r-1,by omega⟩;obtain⟨x',e⟩:=SX ns fs h hh b ds r' (.val d) (by omega);refine⟨x',?_⟩;unfold lS;rw[show oZ 2 d [.val (vw ns fs (r'+1) h),b,x]=Ga [.val (vw ns fs (r'+1) h),b,.val d] from rfl,jp];rw[AG (d:=vw ns fs r' h) ((pK (ds:=[vw ns fs (r'+1) h]) rfl).trans (QQ ns fs r' h hh))];rw[show r'+1-(ds.length+1)=r'-ds.length by omega];exact e
theorem OM (ns:List D)(fs:List Fl)(hi:∀ d∈ns,∃ i:Int,d=.int i)(r q h:Nat)(hh:h<ns.length)(hr:r<100)(hq:q<=r):DX [vw ns fs r h,.int q]=Ga (vw ns fs q h):=by
 show lq (Oc [.val (vw ns fs r h),.val (.int q),.no])=_;unfold Oc;have er:pv mr (lx nV (lA Bq (iV (gv 0) mf)) (gv 1)) [.val (vw ns fs r h),.val (.int q),.no]=Ga (oi 0 (r-q)):=by
  refine(Co (a:=.int ((r-q:Nat):Int)) ((wc (a:=.int r) (b:=.int q) ((pK (ds:=[vw ns fs r h]) rfl).trans (Sz ns fs hi r h hh hr)) rfl).trans ?_)).trans (zH (by omega));show Ga (jb ((r:Int)-q))=_;rw[show(r:Int)-q=((r-q:Nat):Int) by omega]
 obtain⟨x',e⟩:=SX ns fs h hh (.val (.int q)) (oi 0 (r-q)) r .no (by rw[Dd];omega);rw[Dd,show r-(r-q)=q by omega] at e;rw[rT ((EK er).trans e)];rfl
def pt (ns:List D)(fs:List Fl)(r h o:Nat):D:=if hd fs h (r+1) o=true then vw ns fs r o else .none
theorem zGp (ns:List D)(fs:List Fl)(r h:Nat):∃ ds,vw ns fs r h=.tuple ds:=by cases r<;>exact⟨_,rfl⟩
theorem Lk {ns:List D}(hi:∀ d∈ns,∃ i:Int,d=.int i){h:Nat}(hh:h<ns.length):∃ i:Int,ns.getD h .none=.int i:=by
 rw[jq,ji hh];exact hi _ (uB hh)
def hl (n:Nat)(p:Nat->Bool):List D:=(jd n).map λo=>.bool (p o)
def yb (fs:List Fl)(h:Nat):D:=match nY fs h with|some f=>fd f|none=>.none
theorem SN (a:Sl)(h:Nat):∀ (fs:List Fl) (x:Sl),
  (nY fs h=Gb->∃ x',lS (oZ 2) (oD (mL mm (lx iY (gv 2) (mI (.int 0))) (gv 1)) (mQ (gv 2)) oW) (fs.map fd) [a,.val (.int h),x]=Ga (.nx [a,.val (.int h),x'])) /\
  (∀ f,nY fs h=Ga f->lS (oZ 2) (oD (mL mm (lx iY (gv 2) (mI (.int 0))) (gv 1)) (mQ (gv 2)) oW) (fs.map fd) [a,.val (.int h),x]=Ga (.rt (fd f)))
 | [],x=>⟨λ_=>⟨x,rfl⟩,λf e=>by cases e⟩
 | f::r,x=>by
  obtain⟨i1,i2⟩:=SN a h r (.val (fd f));have hc:mL mm (lx iY (gv 2) (mI (.int 0))) (gv 1) (frz [a,.val (.int h),.val (fd f)])=Ga (f.h==h):=Av (x:=.int f.h) (y:=.int h) rfl rfl (eqH f h);by_cases hh:(f.h==h)=true
  .have ef:nY (f::r) h=Ga f:=by unfold nY;exact kF (p:=λ(f:Fl)=>f.h==h) hh
   rw[ef];refine⟨λe=>by(cases e),λf' e=>?_⟩;cases e;rw[jK];unfold lS;rw[show oZ 2 (fd f) [a,.val (.int h),x]=Ga [a,.val (.int h),.val (fd f)] from rfl,jp,zP (hc.trans (congrArg Ga hh))];rfl
  .have ef:nY (f::r) h=nY r h:=by unfold nY;exact kA (p:=λ(f:Fl)=>f.h==h) hh
   have hf:(f.h==h)=false:=by cases hq:(f.h==h) with|true=>exact absurd hq hh|false=>rfl
   have st:∀ o,lS (oZ 2) (oD (mL mm (lx iY (gv 2) (mI (.int 0))) (gv 1)) (mQ (gv 2)) oW) (r.map fd) [a,.val (.int h),.val (fd f)]=o->lS (oZ 2) (oD (mL mm (lx iY (gv 2) (mI (.int 0))) (gv 1)) (mQ (gv 2)) oW) ((f::r).map fd) [a,.val (.int h),x]=o:=by
    intro o e;rw[jK];rw[show ∀ t g d (ds:List D) ψ,lS t g (d::ds) ψ=(t d ψ).bind λe1=>(g e1).bind λo=>match o with|.nx e=>lS t g ds e|.ct e=>lS t g ds e|.bk e=>Ga (.nx e)|.rt d=>Ga (.rt d)|.ro ds=>Ga (.ro ds)|.rm a k=>Ga (.rm a k)|.rc d e=>Ga (.rc d e) from λ_ _ _ _ _=>rfl];rw[show oZ 2 (fd f) [a,.val (.int h),x]=Ga [a,.val (.int h),.val (fd f)] from rfl,jp,zR (hc.trans (congrArg Ga hf))];exact e
   rw[ef];exact⟨λe=>by obtain⟨x',e'⟩:=i1 e;exact⟨x',st _ e'⟩,λf' e=>st _ (i2 f' e)⟩
theorem Ib (ns:List D)(fs:List Fl)(h:Nat):so [rd ns fs,.int h]=Ga (yb fs h):=by
 obtain⟨i1,i2⟩:=SN (.val (rd ns fs)) h fs .no;show lq (Mt [.val (rd ns fs),.val (.int h),.no])=_;unfold Mt yb;cases e:nY fs h with
 | none =>
  obtain⟨x',e'⟩:=i1 e;rw[rT ((EK (ds:=fs.map fd) rfl).trans e')];rfl
 | some f=>rw[Cs ((EK (ds:=fs.map fd) rfl).trans (i2 f e))];rfl
theorem Te (ns:List D)(fs:List Fl)(h:Nat)(r:Int):CW [rd ns fs,.int h,.int r]=Ga (.bool (up fs h r)):=by
 show lq (Kv [.val (rd ns fs),.val (.int h),.val (.int r),.no])=_;unfold Kv;rw[rT (e:=[.val (rd ns fs),.val (.int h),.val (.int r),.val (yb fs h)]) (AG ((pK (ds:=[rd ns fs,.int h]) rfl).trans (Ib ns fs h)))];unfold yb up;cases nY fs h<;>rfl
theorem ER (ns:List D)(fs:List Fl):si [rd ns fs]=Ga (.int ns.length):=rfl
theorem ES (ns:List D)(fs:List Fl)(r:Int)(hn:ns.length<=5):tR [rd ns fs,.int r]=Ga (((jd ns.length).filter λh=>up fs h r).map λ(h:Nat)=>jb (h:Int)):=by
 show sG (Ot [.val (rd ns fs),.val (.int r)])=_;have ei:(pv mr (lA si (iV (gv 0) mf))) [.val (rd ns fs),.val (.int r)]=Ga (oi 0 ns.length) :=
  (Co (a:=.int ns.length) ((pK (ds:=[rd ns fs]) rfl).trans (ER ns fs))).trans (zH (by omega))
 have e:=Vy ((AI (fc:=pq (lA CW (iV (gv 2) (iV (gv 0) (iV (gv 1) mf))))) (fe:=gv 0) (ix:=[1,0]) ei (by rw[Dd];omega)).trans (Gn (p:=λd=>match d with|.int h=>up fs h.toNat r|_=>false) (F:=id) (λd hd=>by
  rw[xN] at hd;obtain⟨k,hk,rfl⟩:=jx.mp hd;exact Ao ((pK (ds:=[rd ns fs,.int (k:Int),.int r]) rfl).trans (Te _ _ _ _)) rfl) (λd hd _=>rfl)))
 unfold Ot;rw[e,Vi,xN,vI,jL];rfl
theorem zAn:∀ (m:Fin 32) (h:Fin 5),(!(uV (m.val:Int) (2^h.val)==0))=decide ((m.val:Int)/(2^h.val)%2=1):=by nofun
theorem PH (m h:Nat)(hm:m<32)(hh:h<5):rG [.int m,.int h]=Ga (.bool (decide ((m:Int)/(2^h)%2=1))):=by
 rw[QX _ _ (by omega) (by omega),j7];exact congrArg (λb=>Ga (kh b)) (zAn ⟨m,hm⟩ ⟨h,hh⟩)
def Gv (fs:List Fl)(b t:Nat)(at_:Int):Bool :=
 if b=t then false else if up fs t at_=false then false else match nY fs b with
  | none=>true
  | some f=>if at_<f.a then true else decide (f.a=at_)&&decide ((f.m:Int)/(2^t)%2=1)
theorem zAo (ns:List D)(fs:List Fl)(b t:Nat)(at_:Int)(G:ph ns.length fs)(ht:t<ns.length):DZ [rd ns fs,.int b,.int t,.int at_]=Ga (.bool (Gv fs b t at_)):=by
 have h5:=G.n5;show lq (LO [.val (rd ns fs),.val (.int b),.val (.int t),.val (.int at_),.no])=_;unfold LO;have c1:mL mm (gv 1) (gv 2) (frz [.val (rd ns fs),.val (.int b),.val (.int t),.val (.int at_),.no])=Ga (decide (b=t)):=by
  refine Av (x:=.int b) (y:=.int t) rfl rfl ((AC _ _).trans ?_)
  congr 2;rw[kq,beq_iff_eq,decide_eq_true_eq];omega
 have c2:sZ (pq (lA CW (iV (gv 0) (iV (gv 2) (iV (gv 3) mf))))) (frz [.val (rd ns fs),.val (.int b),.val (.int t),.val (.int at_),.no])=Ga (!(up fs t at_)) :=
  NR (Ao ((pK (ds:=[rd ns fs,.int t,.int at_]) rfl).trans (Te _ _ _ _)) rfl)
 unfold Gv;by_cases hbt:b=t
 .rw[Ge hbt,Cs ((zP (FQ (c1.trans (congrArg Ga (Gc hbt))))).trans (tX rfl))];rfl
 rw[Gf hbt];by_cases hu:up fs t at_=false
 .rw[Ge hu,Cs ((zP ((zL (c1.trans (congrArg Ga (Gd hbt)))).trans (c2.trans (by rw[hu];rfl)))).trans (tX rfl))];rfl
 rw[Gf hu];have hu':up fs t at_=true:=by cases h:up fs t at_ with|true=>rfl|false=>exact absurd h hu
 rw[rT (zR ((zL (c1.trans (congrArg Ga (Gd hbt)))).trans (c2.trans (by rw[hu'];rfl))))];rw[rT (e:=[.val (rd ns fs),.val (.int b),.val (.int t),.val (.int at_),.val (yb fs b)]) (AG ((pK (ds:=[rd ns fs,.int b]) rfl).trans (Ib ns fs b)))];unfold yb;cases e:nY fs b with
 | none=>rw[Cs ((zP (FQ (Av (x:=.none) (y:=.none) rfl rfl rfl))).trans (tX rfl))];rfl
 | some f =>
  have hm:=G.mb f (Hg e).1;dsimp only;have d1:mL rZ (gv 4) (mI .none) (frz [.val (rd ns fs),.val (.int b),.val (.int t),.val (.int at_),.val (fd f)])=Ga false:=Av (x:=fd f) (y:=.none) rfl rfl rfl;have d2:mL sd (lx iY (gv 4) (mI (.int 1))) (gv 3) (frz [.val (rd ns fs),.val (.int b),.val (.int t),.val (.int at_),.val (fd f)])=Ga (decide (at_<f.a)):=Av (x:=.int f.a) (y:=.int at_) rfl rfl rfl;by_cases hl:at_<f.a
  .rw[Ge hl,Cs ((zP ((zL d1).trans (d2.trans (congrArg Ga (Gc hl))))).trans (tX rfl))];rfl
  rw[Gf hl,rT (zR ((zL d1).trans (d2.trans (congrArg Ga (Gd hl)))))];have d3:lx mm (lx iY (gv 4) (mI (.int 1))) (gv 3) [.val (rd ns fs),.val (.int b),.val (.int t),.val (.int at_),.val (fd f)]=Ga (.bool (decide (f.a=at_))):=by
   refine(wc (a:=.int f.a) (b:=.int at_) rfl rfl).trans ((AC _ _).trans ?_)
   congr 2
  have d4:lA rG (iV (lx iY (gv 4) (mI (.int 2))) (iV (gv 2) mf)) [.val (rd ns fs),.val (.int b),.val (.int t),.val (.int at_),.val (fd f)]=Ga (.bool (decide ((f.m:Int)/(2^t)%2=1))) :=
   (pK (ds:=[.int f.m,.int t]) rfl).trans (PH _ _ hm (by omega))
  rw[tX (d:=.bool (decide (f.a=at_)&&decide ((f.m:Int)/(2^t)%2=1))) ?_]
  .rfl
  .show((lx mm (lx iY (gv 4) (mI (.int 1))) (gv 3) [.val (rd ns fs),.val (.int b),.val (.int t),.val (.int at_),.val (fd f)]).bind nN).bind _=_;rw[d3,jp,show nN (.bool (decide (f.a=at_)))=Ga (decide (f.a=at_)) from rfl,jp];cases decide (f.a=at_) with
   | false=>rfl
   | true=>exact d4
def sE (ns:List D)(fs:List Fl)(r h:Nat):D:=if up fs h r=true then vw ns fs r h else .none
def vL (ns:List D)(fs:List Fl)(r:Nat):List D:=(jd ns.length).map λh=>sE ns fs r h
theorem QS (ns:List D)(fs:List Fl)(r:Nat):(vL ns fs r).length=ns.length:=by unfold vL;rw[jc,jE]
theorem GB {ns:List D}{fs:List Fl}{r h:Nat}(hh:h<ns.length):iY (.list (vL ns fs r)) (.int h)=Ga (sE ns fs r h):=by
 refine MK ?_;unfold vL;rw[jA,ud hh];rfl
theorem NZ {fs:List Fl}{h:Nat}{r r':Int}(hr:r<=r')(u:up fs h r'=true):up fs h r=true:=by
 unfold up at u ⊢;cases e:nY fs h with
 | none=>rfl
 | some f=>rw[e] at u;dsimp only at u ⊢;rw[decide_eq_true_eq] at u ⊢;omega
theorem SB:∀ {fs:List Fl},(fs.map Fl.h).Nodup->∀ {f g:Fl},f∈fs->g∈fs->f.h=g.h->f=g
 | [],_,f,g,hf,_,_=>by cases hf
 | x::r,nd,f,g,hf,hg,e=>by
  rw[jK,kg] at nd;rcases ju.mp hf with z|z
  .rcases ju.mp hg with w|w
   .exact z.trans w.symm
   .exact absurd (jx.mpr ⟨g,w,by rw[<- e,z]⟩) nd.1
  .rcases ju.mp hg with w|w
   .exact absurd (jx.mpr ⟨f,z,by rw[e,w]⟩) nd.1
   .exact SB nd.2 z w e
theorem QZ {n:Nat}{fs:List Fl}(G:ph n fs){o h:Nat}{r:Nat}(c:cm fs o h ((r+1:Nat):Int)=true):up fs o r=true:=by
 rw[Lc G] at c;rw[HM G];intro f hf e;have:=((c f hf).2 e).1;omega
theorem zE5 {n:Nat}{fs:List Fl}(G:ph n fs){b t:Nat}{r:Int}(q:¬b=t):Gv fs b t r=cm fs b t r:=by
 rw[kq,Lc G];unfold Gv;rw[Gf q];have us:=HM G t r;cases u:up fs t r with
 | false =>
  rw[Ge rfl];constructor
  .intro z;cases z
  .intro z;have:=us.mpr λf hf e=>(z f hf).1 e;rw[u] at this;cases this
 | true =>
  rw[Gf (by decide)];have ut:=us.mp u;cases e:nY fs b with
  | none =>
   refine⟨λ_ f hf=>⟨ut f hf,λeb=>?_⟩,λ_=>rfl⟩;have:=vb.mp e f hf;rw[eb] at this;exact absurd (beq_self_eq_true b) this
  | some f0 =>
   obtain⟨m0,e0⟩:=Hg e;dsimp only;constructor
   .intro z f hf;refine⟨ut f hf,λeb=>?_⟩;have:f=f0:=SB G.nd hf m0 (eb.trans e0.symm);subst this;split at z
    .exact⟨by omega,λw=>by omega⟩
    .rw[jG,decide_eq_true_eq] at z;exact⟨by omega,λ_=>z.2⟩
   .intro z;have z:=(z f0 m0).2 e0;split
    .rfl
    .have:f0.a=r:=by omega
     rw[Gc this,uU];exact z.2 this
theorem DA {c:FB}{f g:FV}{ψ:En}{b:Bool}(h:c ψ=Ga b):zy c f g ψ=if b then f ψ else g ψ:=by show(c ψ).bind _=_;rw[h];rfl
theorem zpO (ns:List D)(fs:List Fl)(G:ph ns.length fs)(r h:Nat)(hh:h<ns.length)(u:up fs h ((r+1:Nat):Int)=true) :
  Hb [rd ns fs,.list (vL ns fs r),.int h,.int ((r+1:Nat):Int)]=Ga (vw ns fs (r+1) h):=by
 have h5:=G.n5;show lq (NP [.val (rd ns fs),.val (.list (vL ns fs r)),.val (.int h),.val (.int ((r+1:Nat):Int)),.no])=_;unfold NP;have el:un ma (gv 1) [.val (rd ns fs),.val (.list (vL ns fs r)),.val (.int h),.val (.int ((r+1:Nat):Int)),.no]=Ga (.int ns.length):=by
  rw[zU (a:=.list (vL ns fs r)) rfl];show Ga (jb ((vL ns fs r).length:Nat))=_;rw[QS]
 have ec:lY (pv mr (un ma (gv 1))) (λ_=>Ga true) (zy (yp (mL mm (gv 0) (gv 2)) (pq (lA DZ (iV (gv 3) (iV (gv 0) (iV (gv 2) (iV (gv 1) mf))))))) (lx iY (gv 4) (gv 0)) (mI .none)) [3,2,0,1] [.val (rd ns fs),.val (.list (vL ns fs r)),.val (.int h),.val (.int ((r+1:Nat):Int)),.no]=Ga ((jd ns.length).map λo=>if o=h\/cm fs o h ((r+1:Nat):Int)=true then vw ns fs r o else .none):=by
  refine(AI (ds:=oi 0 ns.length) ((Co el).trans (zH (by omega))) (by rw[Dd];omega)).trans ((CA (F:=λd=>match d with|.int t=>(if t.toNat=h\/cm fs t.toNat h ((r+1:Nat):Int)=true then vw ns fs r t.toNat else .none)|_=>.none) (λd hd=>?_)).trans ?_)
  .rw[xN] at hd;obtain⟨o,ho,rfl⟩:=jx.mp hd;have ho':=jn.mp ho;show zy _ _ _ [.val (.int o),.val (.int ((r+1:Nat):Int)),.val (.int h),.val (rd ns fs),.val (.list (vL ns fs r))]=Ga (if (o:Int).toNat=h\/cm fs (o:Int).toNat h ((r+1:Nat):Int)=true then vw ns fs r (o:Int).toNat else .none);rw[j7];have c1:mL mm (gv 0) (gv 2) [.val (.int o),.val (.int ((r+1:Nat):Int)),.val (.int h),.val (rd ns fs),.val (.list (vL ns fs r))]=Ga (decide (o=h)):=by
    refine Av (x:=.int o) (y:=.int h) rfl rfl ((AC _ _).trans ?_)
    congr 2;rw[kq,beq_iff_eq,decide_eq_true_eq];omega
   have c2:¬o=h->pq (lA DZ (iV (gv 3) (iV (gv 0) (iV (gv 2) (iV (gv 1) mf))))) [.val (.int o),.val (.int ((r+1:Nat):Int)),.val (.int h),.val (rd ns fs),.val (.list (vL ns fs r))]=Ga (cm fs o h ((r+1:Nat):Int)) :=
    λq=>Ao ((pK (ds:=[rd ns fs,.int o,.int h,.int ((r+1:Nat):Int)]) rfl).trans ((zAo ns fs o h _ G hh).trans (congrArg (λb=>Ga (kh b)) (zE5 G q)))) rfl
   have ix:∀ (w:up fs o r=true),lx iY (gv 4) (gv 0) [.val (.int o),.val (.int ((r+1:Nat):Int)),.val (.int h),.val (rd ns fs),.val (.list (vL ns fs r))]=Ga (vw ns fs r o):=λw=>by
    refine(wc (a:=.list (vL ns fs r)) (b:=.int o) rfl rfl).trans ((GB ho').trans ?_);unfold sE;rw[Ge w]
   by_cases q:o=h
   .rw[DA (b:=true) (FQ (c1.trans (congrArg Ga (Gc q)))),Ge rfl,Ge (uu q)];exact ix (by rw[q];exact NZ (by omega) u)
   .cases hc:cm fs o h ((r+1:Nat):Int) with
    | true =>
     rw[DA (b:=true) ((zL (c1.trans (congrArg Ga (Gd q)))).trans ((c2 q).trans (congrArg Ga hc))),Ge rfl,Ge (kS rfl)];exact ix (QZ G hc)
    | false =>
     rw[DA (b:=false) ((zL (c1.trans (congrArg Ga (Gd q)))).trans ((c2 q).trans (congrArg Ga hc))),Gf jw,Gf (λz=>by rcases z with z|z;exact q z;cases z)]
  .rw[xN,jL];rfl
 rw[rT (Uh ec rfl)];rfl
theorem zr9 {n:Nat}{fs:List Fl}{r:Int}{h:Nat}(hh:h<n):(((jd n).filter λh=>up fs h r).map λ(k:Nat)=>(k:Int)).contains (h:Int)=up fs h r:=by
 rw[kq,jC,jx];constructor
 .rintro⟨k,hk,e⟩;have:k=h:=by omega
  subst this;exact(jD.mp hk).2
 .intro u;exact⟨h,jD.mpr ⟨jn.mpr hh,u⟩,rfl⟩
theorem XH (ns:List D)(fs:List Fl)(G:ph ns.length fs)(r:Nat):He [rd ns fs,.list (vL ns fs r),.int ((r+1:Nat):Int)]=Ga (.list (vL ns fs (r+1))):=by
 have h5:=G.n5;show lq (OJ [.val (rd ns fs),.val (.list (vL ns fs r)),.val (.int ((r+1:Nat):Int)),.no])=_;unfold OJ;have hw:=ES ns fs ((r+1:Nat):Int) h5;generalize hU:(((jd ns.length).filter λh=>up fs h ((r+1:Nat):Int)).map λ(h:Nat)=>jb (h:Int))=U at hw;have hU':U=((((jd ns.length).filter λh=>up fs h ((r+1:Nat):Int)).map λ(k:Nat)=>(k:Int))).map jb:=by rw[jL,<- hU];rfl
 rw[rT (e:=[.val (rd ns fs),.val (.list (vL ns fs r)),.val (.int ((r+1:Nat):Int)),.val (.list U)]) (AG (Cy ((LJ (ds:=[rd ns fs,.int ((r+1:Nat):Int)]) rfl).trans hw)))];have el:un ma (gv 1) [.val (rd ns fs),.val (.list (vL ns fs r)),.val (.int ((r+1:Nat):Int)),.val (.list U)]=Ga (.int ns.length):=by
  rw[zU (a:=.list (vL ns fs r)) rfl];show Ga (jb ((vL ns fs r).length:Nat))=_;rw[QS]
 have ec:lY (pv mr (un ma (gv 1))) (λ_=>Ga true) (zy (mL Ak (gv 0) (gv 3)) (lA Hb (iV (gv 2) (iV (gv 4) (iV (gv 0) (iV (gv 1) mf))))) (mI .none)) [2,0,3,1] [.val (rd ns fs),.val (.list (vL ns fs r)),.val (.int ((r+1:Nat):Int)),.val (.list U)]=Ga (vL ns fs (r+1)):=by
  refine(AI (ds:=oi 0 ns.length) ((Co el).trans (zH (by omega))) (by rw[Dd];omega)).trans ((CA (F:=λd=>match d with|.int t=>sE ns fs (r+1) t.toNat|_=>.none) (λd hd=>?_)).trans ?_)
  .rw[xN] at hd;obtain⟨h,ho,rfl⟩:=jx.mp hd;have ho':=jn.mp ho;show zy _ _ _ [.val (.int h),.val (.int ((r+1:Nat):Int)),.val (rd ns fs),.val (.list U),.val (.list (vL ns fs r))]=Ga (sE ns fs (r+1) (h:Int).toNat);rw[j7];have c1:mL Ak (gv 0) (gv 3) [.val (.int h),.val (.int ((r+1:Nat):Int)),.val (rd ns fs),.val (.list U),.val (.list (vL ns fs r))]=Ga (up fs h ((r+1:Nat):Int)) :=
    Av (x:=.int h) (y:=.list U) rfl rfl (by rw[hU',Vj,zr9 ho'])
   rw[DA c1];unfold sE;cases u:up fs h ((r+1:Nat):Int) with
   | true=>rw[Ge rfl,Ge rfl];exact(pK (ds:=[rd ns fs,.list (vL ns fs r),.int h,.int ((r+1:Nat):Int)]) rfl).trans (zpO ns fs G r h ho' u)
   | false=>rw[Gf jw,Gf jw]
  .rw[xN,jL];rfl
 exact(congrArg lq (tX (Cy ec))).trans rfl
theorem up0 {n:Nat}{fs:List Fl}(G:ph n fs)(h:Nat):up fs h ((0:Nat):Int)=true:=by
 unfold up;cases e:nY fs h with
 | none=>rfl
 | some f=>dsimp only;rw[decide_eq_true_eq];have:=G.ab f (Hg e).1;omega
theorem zC0 {ns:List D}{h:Nat}(hh:h<ns.length):iY (.tuple ns) (.int h)=Ga (ns.getD h .none):=by
 refine MK ?_;rw[jq,ji hh];rfl
theorem Tc (ns:List D)(fs:List Fl)(G:ph ns.length fs)(a b:Sl)(hb:a=.val (rd ns fs)):∀ (m s:Nat) (x:Sl),∃ x',lS (oZ 3) (lT 2 (lA He (iV (gv 0) (iV (gv 2) (iV (gv 3) mf))))) ((qB s m).map λ(k:Nat)=>jb ((k+1:Nat):Int)) [a,b,.val (.list (vL ns fs s)),x]=Ga (.nx [a,b,.val (.list (vL ns fs (s+m))),x'])
 | 0,s,x=>⟨x,rfl⟩
 | m+1,s,x=>by
  subst hb;obtain⟨x',e⟩:=Tc ns fs G (.val (rd ns fs)) b rfl m (s+1) (.val (.int ((s+1:Nat):Int)));refine⟨x',?_⟩;rw[qK,jK];unfold lS;rw[show oZ 3 (jb ((s+1:Nat):Int)) [.val (rd ns fs),b,.val (.list (vL ns fs s)),x]=Ga [.val (rd ns fs),b,.val (.list (vL ns fs s)),.val (.int ((s+1:Nat):Int))] from rfl,jp];rw[AG (d:=.list (vL ns fs (s+1))) ((pK (ds:=[rd ns fs,.list (vL ns fs s),.int ((s+1:Nat):Int)]) rfl).trans (XH ns fs G s))];rw[show s+(m+1)=s+1+m by omega];exact e
theorem ztK (ns:List D)(fs:List Fl)(G:ph ns.length fs)(r:Nat)(hr:r<100):Fp [rd ns fs,.int r]=Ga (.list (vL ns fs r)):=by
 have h5:=G.n5;show lq (ML [.val (rd ns fs),.val (.int r),.no,.no])=_;unfold ML;have ec:lY (pv mr (lA si (iV (gv 0) mf))) (λ_=>Ga true) (tQ (iV (gv 0) (iV (lx iY (lx iY (gv 1) (mI (.int 0))) (gv 0)) mf))) [0] [.val (rd ns fs),.val (.int r),.no,.no]=Ga (vL ns fs 0):=by
  refine(AI (ds:=oi 0 ns.length) ((Co (a:=.int ns.length) ((pK (ds:=[rd ns fs]) rfl).trans (ER ns fs))).trans (zH (by omega))) (by rw[Dd];omega)).trans ((CA (F:=λd=>match d with|.int t=>sE ns fs 0 t.toNat|_=>.none) (λd hd=>?_)).trans ?_)
  .rw[xN] at hd;obtain⟨h,ho,rfl⟩:=jx.mp hd;have ho':=jn.mp ho;show tQ _ [.val (.int h),.val (rd ns fs)]=Ga (sE ns fs 0 (h:Int).toNat);rw[j7];unfold sE;rw[Ge (up0 G h)];exact zGh (HK rfl (HK ((wc (a:=.tuple ns) (b:=.int h) rfl rfl).trans (zC0 ho')) rfl))
  .rw[xN,jL];rfl
 rw[rT (Uh ec rfl)];obtain⟨x',e⟩:=Tc ns fs G (.val (rd ns fs)) (.val (.int r)) rfl r 0 .no;rw[vy] at e;have er:zT sq (mI (.int 1)) (lx lJ (gv 1) (mI (.int 1))) [.val (rd ns fs),.val (.int r),.val (.list (vL ns fs 0)),.no]=Ga ((qB 0 r).map λ(k:Nat)=>jb ((k+1:Nat):Int)):=by
  refine(Yj (a:=.int 1) (b:=.int ((r:Int)+1)) rfl rfl).trans ?_;unfold sq;dsimp only;rw[Ge (by omega),show((r:Int)+1-1).toNat=r by omega,<- kP];unfold oi;refine congrArg Ga (jN λk _=>?_);rw[show(1:Int)+(k:Nat)=((k+1:Nat):Int) by omega]
 show lq (lE _ _ [.val (rd ns fs),.val (.int r),.val (.list (vL ns fs 0)),.no])=_;rw[rT ((EK er).trans e)];rfl
open Lean in
local macro_rules|`(tactic|simp_arith[$a,*])=>do let l:TSyntaxArray `ident:=("zDZ YT zGk ZB XJ zB7 zB8 zB9 zD3 zCa zCc Yx zxF Xe zCd zzU Xs zCf zzV zzW zD5 zD6 zCh zCi zCj zCl zCn zCo zCp zzY Zf WU Yl XU ZV XI zCr zCs zCt Zj zCu zCv zCw zCx zCy zCz ZI Ym ZK zEc zz3 YA Zi zvD ZU zvF zvG zs9 ZN zxJ zxK zxL zEe XA zEg zEh zEi zCD zCE zEj zEk Yi zEl zCG zCH zEm zEn YB zEp zCI Zm zEr zEs zEt Xz zCJ WT zEw XB Zp XY ZQ zEz zEA zEB zEC zCM zED Xl zCN zEF zEG zCO zEH zCP zz5 zz6 Zs Yh zz9 zvH YV zvI zvJ zEI VC YK zEJ zAa Yu zEL OF QU zEM zEN zEO Za zGl Zw Yo WQ Zn WZ zAb zER Xx zCT zCU zES HL LZ zET zEU zEV zAc zAd zAe zAf Yn zCW zCX zxP zxQ zxR zAg Yr zvK zAi zo1 zvL Ye zqD zo2 jp Option.bind_none Bool.not_true Bool.not_false YM ite_true ite_false decide_true decide_false".splitOn " ").toArray.map fun s=>mkIdent s.toName;`(tactic|simp only[$[$l:ident],*,$a,*])
def mB (b0 b1 b2 b3 b4:Bool):Int:=(if b0 then 1 else 0)+(if b1 then 2 else 0)+(if b2 then 4 else 0)+(if b3 then 8 else 0)+(if b4 then 16 else 0)
theorem YH:∀ (b0 b1 b2 b3 b4:Bool) (h:Fin 5),Jx (mB b0 b1 b2 b3 b4) (2^h.val)=mB (b0||h.val==0) (b1||h.val==1) (b2||h.val==2) (b3||h.val==3) (b4||h.val==4):=by nofun
theorem Sx (a:Sl):∀ (hs:List Int) (b0 b1 b2 b3 b4:Bool) (x:Sl),(∀ h∈hs,0<=h/\h<5) ->
  ∃ x',lS (oZ 2) (lT 1 (lx Ha (gv 1) (lA zr (iV (gv 2) mf)))) (hs.map jb) [a,.val (.int (mB b0 b1 b2 b3 b4)),x] =
   Ga (.nx [a,.val (.int (mB (b0||hs.contains 0) (b1||hs.contains 1) (b2||hs.contains 2) (b3||hs.contains 3) (b4||hs.contains 4))),x'])
 | [],b0,b1,b2,b3,b4,x,_=>⟨x,by simp only[qP,lS,List.contains_nil,uS]⟩
 | h::r,b0,b1,b2,b3,b4,x,hh=>by
  obtain⟨h0,h5⟩:=hh h jf;obtain⟨x',e⟩:=Sx a r (b0||h.toNat==0) (b1||h.toNat==1) (b2||h.toNat==2) (b3||h.toNat==3) (b4||h.toNat==4) (.val (.int h)) (λy hy=>hh y (jh _ hy));refine⟨x',?_⟩;have hm:=YH b0 b1 b2 b3 b4 ⟨h.toNat,by omega⟩;dsimp only at hm;have hb:(lx Ha (gv 1) (lA zr (iV (gv 2) mf))) [a,.val (.int (mB b0 b1 b2 b3 b4)),.val (.int h)]=Ga (.int (mB (b0||h.toNat==0) (b1||h.toNat==1) (b2||h.toNat==2) (b3||h.toNat==3) (b4||h.toNat==4))) :=
   (wc (a:=.int (mB b0 b1 b2 b3 b4)) rfl ((pK rfl).trans (NV h h0 (by omega)))).trans (congrArg (λz=>Ga (jb z)) hm)
  rw[jK];unfold lS;rw[show(oZ 2 (jb h) [a,.val (.int (mB b0 b1 b2 b3 b4)),x])=Ga [a,.val (.int (mB b0 b1 b2 b3 b4)),.val (.int h)] from rfl,jp,AG hb];refine e.trans ?_;have c:∀ k:Nat,((h.toNat==k)||r.contains (k:Int))=(h::r).contains (k:Int):=λk=>by
   rw[qu]
   congr 1
   rw[kq,beq_iff_eq,beq_iff_eq];omega
  simp only[Bool.or_assoc];rw[show((h.toNat==0)||r.contains (0:Int))=_ from c 0,show((h.toNat==1)||r.contains (1:Int))=_ from c 1,show((h.toNat==2)||r.contains (2:Int))=_ from c 2,show((h.toNat==3)||r.contains (3:Int))=_ from c 3,show((h.toNat==4)||r.contains (4:Int))=_ from c 4];rfl
theorem To (hs:List Int)(hh:∀ h∈hs,0<=h/\h<5):Aa [.list (hs.map jb)]=Ga (.int (mB (hs.contains 0) (hs.contains 1) (hs.contains 2) (hs.contains 3) (hs.contains 4))):=by
 obtain⟨x',e⟩:=Sx (.val (.list (hs.map jb))) hs false false false false false .no hh;simp only[vg] at e;rw[show mB false false false false false=0 from rfl] at e;show lq (OY [.val (.list (hs.map jb)),.no,.no])=_;unfold OY;rw[rT (e:=[.val (.list (hs.map jb)),.val (.int 0),.no]) rfl,rT ((EK (ds:=hs.map jb) rfl).trans e)];rfl
def il (A:List Nat):List D:=A.map λ(k:Nat)=>jb (k:Int)
theorem UZ (f:Fl)(hm:f.m<32)(U:List Nat)(hU:∀ x∈U,x<5)(hl:U.length<=5):zb [fd f,.list (il U)]=Ga (.bool (U.all λh=>bt f.m h)):=by
 show lq (Mu [.val (fd f),.val (.list (il U))])=_;unfold Mu;have ec:lY (sY (gv 1)) (λ_=>Ga true) (lA rG (iV (lx iY (gv 1) (mI (.int 2))) (iV (gv 0) mf))) [0] [.val (fd f),.val (.list (il U))]=Ga ((U.map λh=>bt f.m h).map kh):=by
  refine(AI (ds:=il U) rfl (by unfold il;rw[jc];omega)).trans ((CA (F:=λd=>match d with|.int t=>.bool (bt f.m t.toNat)|_=>.none) (λd hd=>?_)).trans ?_)
  .obtain⟨h,hh,rfl⟩:=jx.mp hd;show lA rG _ [.val (.int h),.val (fd f)]=Ga (.bool (bt f.m (h:Int).toNat));rw[j7];exact(pK (ds:=[.int f.m,.int h]) rfl).trans (PH f.m h hm (hU h hh))
  .unfold il;rw[jL,jL];rfl
 refine(congrArg lq (tX (d:=.bool (U.all λh=>bt f.m h)) ((Sk ec).trans ?_))).trans rfl;unfold wy;rw[GX,jp,JW];rfl
theorem Ic:∀ (n:Nat) (l:List Nat),l.Nodup->(∀ x∈l,x<n)->l.length<=n
 | 0,[],_,_=>jj _
 | 0,x::r,_,h=>absurd (h x jf) (vf _)
 | n+1,l,nd,h=>by
  by_cases hm:n∈l
  .have ih:=Ic n (l.erase n) (nd.erase n) (λx hx=>by
    have h1:=(nd.mem_erase_iff.mp hx);have h2:=h x h1.2;have h3:=h1.1;omega)
   rw[qF hm] at ih;omega
  .have ih:=Ic n l nd (λx hx=>by
    have h2:=h x hx;have h3:x≠n:=λe=>hm (e▸hx);omega)
   omega
theorem zE6 {n:Nat}{fs:List Fl}(G:ph n fs):fs.length<=n:=by
 have:=Ic n (fs.map Fl.h) G.nd (λx hx=>by obtain⟨f,hf,rfl⟩:=jx.mp hx;exact G.hb f hf);rw[jc] at this;exact this
theorem Hj (f:Fl):bk (fd f)=f:=by
 show(⟨(f.h:Int).toNat,f.a,(f.m:Int).toNat⟩:Fl)=f;rw[j7,j7]
def KZ (b0 b1 b2 b3 b4:Bool):List Int:=(if b0 then[0] else[])++(if b1 then[1] else[])++(if b2 then[2] else[])++(if b3 then[3] else[])++(if b4 then[4] else[])
theorem ztL:∀ (b0 b1 b2 b3 b4:Bool),Ai [.int (mB b0 b1 b2 b3 b4)]=Ga ((KZ b0 b1 b2 b3 b4).map jb):=by
 have key:∀ (b0 b1 b2 b3 b4:Bool),((jd (kT (mB b0 b1 b2 b3 b4))).map λ(k:Nat)=>(k:Int)).filter (λh=>!(uV (mB b0 b1 b2 b3 b4) (2^h.toNat)==0))=KZ b0 b1 b2 b3 b4:=by nofun
 have small:∀ (b0 b1 b2 b3 b4:Bool),kT (mB b0 b1 b2 b3 b4)<10:=by nofun
 intro b0 b1 b2 b3 b4;have sm:=small b0 b1 b2 b3 b4;show sG (LI [.val (.int (mB b0 b1 b2 b3 b4))])=_;generalize hm:mB b0 b1 b2 b3 b4=m at sm ⊢;have ei:(pv mr (un Dt (gv 0))) [.val (.int m)]=Ga (oi 0 (kT m)):=by
  refine(Co (a:=.int (kT m:Nat)) ((zU (a:=.int m) rfl).trans rfl)).trans ?_;generalize kT m=k at sm;unfold mr;dsimp only;rw[Ge (by constructor<;>omega),j7]
 have hlen:(oi 0 (kT m)).length<=1000000:=by unfold oi;rw[jc,jE];omega
 have e:=Vy ((AI (fc:=pq (lA rG (iV (gv 1) (iV (gv 0) mf)))) (fe:=gv 0) (ix:=[0]) ei hlen).trans (Gn (p:=λd=>match d with|.int h=>!(uV m (2^h.toNat)==0)|_=>false) (F:=id) (λd hd=>by
  obtain⟨k,hk,rfl⟩:=jx.mp hd;have hk':=jn.mp hk;exact Ao ((pK rfl).trans (QX _ _ (by omega) (by omega))) rfl) (λd hd _=>rfl)))
 unfold LI;rw[e];rw[Vi];rw[List.map_id];rw[<- key b0 b1 b2 b3 b4];rw[hm];refine congrArg Ga ?_;unfold oi;rw[vI,vI,jL];exact congr (congrArg v9 (funext λx=>congrArg jb (qj _))) (congrArg (λp=>List.filter p _) (funext λx=>congrArg (λz:Int=>!(uV m (2^z.toNat)==0)) (qj (x:Int))))
theorem zGr {f g:FV}{ψ:En}(h:f ψ=Ga (.bool false)):HZ f g ψ=g ψ:=by show((f ψ).bind nN).bind _=_;rw[h];rfl
theorem zGs {f g:FV}{ψ:En}(h:f ψ=Ga (.bool true)):HZ f g ψ=Ga (.bool true):=by show((f ψ).bind nN).bind _=_;rw[h];rfl
theorem Rb {f g:FV}{ψ:En}(h:f ψ=Ga (.bool true)):xu f g ψ=g ψ:=by show((f ψ).bind nN).bind _=_;rw[h];rfl
theorem Ys {f g:FV}{ψ:En}(h:f ψ=Ga (.bool false)):xu f g ψ=Ga (.bool false):=by show((f ψ).bind nN).bind _=_;rw[h];rfl
theorem zAq {f g h:FV}{ψ:En}{a b c:Int}(h1:f ψ=Ga (.int a))(h2:g ψ=Ga (.int b))(h3:h ψ=Ga (.int c))(q1:a<=b)(q2:b<=c):Bg sT sT f g h ψ=Ga (.bool true):=by
 show(f ψ).bind _=_;rw[h1,jp,h2,jp];rw[show(sT (.int a) (.int b)).bind nN=Ga true from(by show Ga (decide (a<=b))=_;rw[Gc q1]),jp,Ge rfl,h3,jp];show Ga (kh (decide (b<=c)))=_;rw[Gc q2]
def Dl:Nat->List (List Nat)
 | 0=>[[]]
 | n+1=>(Dl n).flatMap λA=>((jd 5).filter λx=>!A.contains x).map λx=>x::A
theorem Sn:∀ (A:List Nat),A.Nodup->(∀ x∈A,x<5)->A∈Dl A.length
 | [],_,_=>jo.mpr rfl
 | x::A,nd,lt=>by
  rw[kg] at nd;show x::A∈(Dl A.length).flatMap _;rw[List.mem_flatMap];refine⟨A,Sn A nd.2 λy hy=>lt y (jh _ hy),jx.mpr ⟨x,jD.mpr ⟨jn.mpr (lt x jf),?_⟩,rfl⟩⟩;rw[kB,<- jT,jC];exact nd.1
def VZ (A:List Nat):Bool:=(KZ ((A.map λ(k:Nat)=>(k:Int)).contains 0) ((A.map λ(k:Nat)=>(k:Int)).contains 1) ((A.map λ(k:Nat)=>(k:Int)).contains 2) ((A.map λ(k:Nat)=>(k:Int)).contains 3) ((A.map λ(k:Nat)=>(k:Int)).contains 4)).length==A.length
theorem zAr:(jd 6).all (λn=>(Dl n).all VZ)=true:=by nofun
theorem Xy (A:List Nat)(nd:A.Nodup)(lt:∀ x∈A,x<5):∃ L:List D,L.length=A.length/\∃ m:Int,Aa [.list (il A)]=Ga (.int m)/\Ai [.int m]=Ga L:=by
 have hl:=Ic 5 A nd lt;have c:=jH.mp (jH.mp zAr A.length (jn.mpr (by omega))) A (Sn A nd lt);have e:il A=(A.map λ(k:Nat)=>(k:Int)).map jb:=by unfold il;rw[jL];rfl
 have m:=To (A.map λ(k:Nat)=>(k:Int)) (λh hh=>by
  obtain⟨k,hk,rfl⟩:=jx.mp hh;have:=lt k hk;omega)
 refine⟨_,?_,_,by rw[e];exact m,ztL _ _ _ _ _⟩;rw[jc];exact eq_of_beq c
def wg (U:List Nat)(k:Nat)(f:Fl):Bool:=decide (f.a<(k:Int))||(decide (f.a=(k:Int))&&!(U.all λh=>bt f.m h))
theorem ztM (f:Fl)(hm:f.m<32)(U:List Nat)(hU:∀ x∈U,x<5)(hl:U.length<=5)(k:Nat):Ff [fd f,.list (il U),.int k]=Ga (.bool (wg U k f)):=by
 have ha:=UZ f hm U hU hl;show lq (MG [.val (fd f),.val (.list (il U)),.val (.int k)])=_;generalize kU (il U)=W at ha;unfold MG;refine(congrArg lq (tX (d:=.bool (wg U k f)) ?_)).trans rfl;have c1:lx rJ (lx iY (gv 0) (mI (.int 1))) (gv 2) [.val (fd f),.val W,.val (.int k)]=Ga (.bool (decide (f.a<(k:Int)))):=rfl;have c2:lx mm (lx iY (gv 0) (mI (.int 1))) (gv 2) [.val (fd f),.val W,.val (.int k)]=Ga (.bool (decide (f.a=(k:Int)))):=by
  refine(wc (a:=.int f.a) (b:=.int k) rfl rfl).trans ((AC _ _).trans (congrArg (λb=>Ga (kh b)) ?_));rw[kq,beq_iff_eq,decide_eq_true_eq]
 have c3:Qe (lA zb (iV (gv 0) (iV (gv 1) mf))) [.val (fd f),.val W,.val (.int k)]=Ga (.bool (!(U.all λh=>bt f.m h))):=by
  show((lA zb (iV (gv 0) (iV (gv 1) mf)) [.val (fd f),.val W,.val (.int k)]).bind nN).bind _=_;rw[(pK (ds:=[fd f,W]) rfl).trans ha];rfl
 unfold wg;cases q1:decide (f.a<(k:Int)) with
 | true=>rw[q1] at c1;exact zGs c1
 | false =>
  rw[q1] at c1;refine(zGr c1).trans ?_;cases q2:decide (f.a=(k:Int)) with
  | true=>rw[q2] at c2;exact(Rb c2).trans c3
  | false=>rw[q2] at c2;exact Ys c2
def upL (n:Nat)(fs:List Fl)(k:Nat):List Nat:=(jd n).filter λh=>up fs h (k:Int)
theorem zE8 {n:Nat}{fs:List Fl}{k x:Nat}(h:x∈upL n fs k):x<n:=jn.mp (jD.mp h).1
theorem zC1 (n:Nat)(fs:List Fl)(k:Nat):(upL n fs k).length<=n:=by
 have:=jW (λh=>up fs h (k:Int)) (jd n);rw[jE] at this;exact this
def HI (n:Nat)(fs:List Fl)(k:Nat):List Fl:=if (upL n fs k).isEmpty then[] else fs.filter (wg (upL n fs k) k)
theorem YC (ns:List D)(fs:List Fl)(G:ph ns.length fs)(k:Nat):∃ m:Int,∃ L:List D,CY [rd ns fs,.int k]=Ga (.int m)/\Ai [.int m]=Ga L/\L.length=(HI ns.length fs k).length:=by
 have n5:=G.n5;have hw:=ES ns fs (k:Int) n5;have hlU:=zC1 ns.length fs k;have e0:(((jd ns.length).filter λh=>up fs h (k:Int)).map λ(h:Nat)=>jb (h:Int))=il (upL ns.length fs k):=rfl;rw[e0] at hw;show ∃ m:Int,∃ L:List D,lq (OG [.val (rd ns fs),.val (.int k),.no])=_/\_;have hfo:∀ f∈fs,Ff [fd f,.list (il (upL ns.length fs k)),.int k]=Ga (.bool (wg (upL ns.length fs k) k f)):=λf hf=>ztM f (G.mb f hf) _ (λx hx=>by have:=zE8 hx;omega) (by omega) k;have hln:ma (.list (il (upL ns.length fs k)))=Ga (.int (upL ns.length fs k).length):=by
  show Ga (jb ((il (upL ns.length fs k)).length:Nat))=_;unfold il;rw[jc]
 unfold HI;generalize upL ns.length fs k=U at hw hlU hfo hln;generalize il U=W at hw hfo hln;have s2:lT 2 (pj (rL tR (iV (gv 0) (iV (gv 1) mf)))) [.val (rd ns fs),.val (.int k),.no]=Ga (.nx [.val (rd ns fs),.val (.int k),.val (.list W)]):=AG (Cy ((LJ (ds:=[rd ns fs,.int k]) rfl).trans hw));have c1:mL mm (un ma (gv 2)) (mI (.int 0)) (frz [.val (rd ns fs),.val (.int k),.val (.list W)])=Ga ((U.length:Int)==0):=Av ((zU (a:=.list W) rfl).trans hln) rfl (AC _ _);unfold OG;by_cases hU:U=[]
 .subst hU;refine⟨0,[],?_,by nofun,rfl⟩;rw[rT s2,Cs (d:=.int 0) ((zP c1).trans rfl)];rfl
 .have hne:U.isEmpty=false:=by cases U with|nil=>exact absurd rfl hU|cons _ _=>rfl
  have hz:((U.length:Int)==0)=false:=by
   rw[<- jT,beq_iff_eq];cases U with
   | nil=>exact absurd rfl hU
   | cons a b=>rw[jM];omega
  rw[hz] at c1;rw[hne,Gf jw];obtain⟨L,hL,m,hm,hh⟩:=Xy ((fs.filter (wg U k)).map Fl.h) (((kD (l:=fs) (p:=wg U k)).map Fl.h).nodup G.nd) (λx hx=>by obtain⟨f,hf,rfl⟩:=jx.mp hx;have:=G.hb f (jD.mp hf).1;omega);refine⟨m,L,?_,hh,by rw[hL,jc]⟩;rw[rT s2,rT ((zR c1).trans rfl)];have ec:lY (sY (lx iY (gv 0) (mI (.int 1)))) (pq (lA Ff (iV (gv 0) (iV (gv 2) (iV (gv 1) mf))))) (lx iY (gv 0) (mI (.int 0))) [1,2] [.val (rd ns fs),.val (.int k),.val (.list W)]=Ga (il ((fs.filter (wg U k)).map Fl.h)):=by
   have lf:=zE6 G;refine(AI (ds:=fs.map fd) rfl (by rw[jc];omega)).trans ((Gn (p:=λd=>wg U k (bk d)) (F:=λd=>.int (bk d).h) (λd hd=>?_) (λd hd _=>?_)).trans ?_)
   .obtain⟨f,hf,rfl⟩:=jx.mp hd;rw[Hj];exact Ao ((pK (ds:=[fd f,.list W,.int k]) rfl).trans (hfo f hf)) rfl
   .obtain⟨f,hf,rfl⟩:=jx.mp hd;rw[Hj];rfl
   .rw[vI,jL];unfold il;rw[jL];have e1:(λd=>wg U k (bk d))∘fd=wg U k:=by funext f;show wg U k (bk (fd f))=_;rw[Hj]
    rw[e1];refine congrArg Ga (jN λf _=>?_);show jb ((bk (fd f)).h:Int)=_;rw[Hj];rfl
  exact(congrArg lq (tX ((pK (ds:=[.list (il ((fs.filter (wg U k)).map Fl.h))]) (HK (Cy ec) rfl)).trans hm))).trans rfl
def cnt (n:Nat)(fs:List Fl)(k:Nat):Int:=((HI n fs k).length:Int)
def mx (a b:Int):Int:=if a<b then b else a
def Df (c:Nat->Int):Int:=mx (mx (mx (mx (mx 0 (c 1-1)) (c 2-2)) (c 3-3)) (c 4-4)) (c 5-5)
theorem zAt (ns:List D)(fs:List Fl)(G:ph ns.length fs):MC [rd ns fs]=Ga (.int (Df (cnt ns.length fs))):=by
 have hf:=λk=>YC ns fs G k;show lq (Qa [.val (rd ns fs)])=_;have hc:∀ k:Nat,lx nV (un ma (pj (rL Ai (iV (lA CY (iV (gv 1) (iV (gv 0) mf))) mf)))) (gv 0) [.val (.int k),.val (rd ns fs)]=Ga (.int (cnt ns.length fs k-k)):=λk=>by
  obtain⟨m,L,e1,e2,e3⟩:=hf k;refine(wc (a:=.int (L.length:Nat)) (b:=.int k) ((zU (a:=.list L) (Cy ((LJ (ds:=[.int m]) (HK ((pK (ds:=[rd ns fs,.int k]) rfl).trans e1) rfl)).trans e2))).trans rfl) rfl).trans ?_;show Ga (jb ((L.length:Int)-(k:Int)))=_;unfold cnt;rw[e3]
 unfold Qa;generalize rd ns fs=R at hc;have ec:lY (zT sq (mI (.int 1)) (lx lJ (mI (.int 5)) (mI (.int 1)))) (λ_=>Ga true) (lx nV (un ma (pj (rL Ai (iV (lA CY (iV (gv 1) (iV (gv 0) mf))) mf)))) (gv 0)) [0] [.val R]=Ga ([cnt ns.length fs 1-1,cnt ns.length fs 2-2,cnt ns.length fs 3-3,cnt ns.length fs 4-4,cnt ns.length fs 5-5].map jb):=by
  refine(AI (ds:=([1,2,3,4,5]:List Nat).map λ(k:Nat)=>jb (k:Int)) rfl (show 5<=1000000 by decide)).trans ((CA (F:=λd=>match d with|.int k=>.int (cnt ns.length fs k.toNat-k)|_=>.none) (λd hd=>?_)).trans rfl);obtain⟨k,_,rfl⟩:=jx.mp hd;exact hc k
 have ea:EF (lx lJ (pj (iV (mI (.int 0)) mf)) (pj (lY (zT sq (mI (.int 1)) (lx lJ (mI (.int 5)) (mI (.int 1)))) (λ_=>Ga true) (lx nV (un ma (pj (rL Ai (iV (lA CY (iV (gv 1) (iV (gv 0) mf))) mf)))) (gv 0)) [0]))) [.val R]=Ga ([0,cnt ns.length fs 1-1,cnt ns.length fs 2-2,cnt ns.length fs 3-3,cnt ns.length fs 4-4,cnt ns.length fs 5-5].map jb) :=
  WM ((wc (a:=.list [.int 0]) (b:=.list ([cnt ns.length fs 1-1,cnt ns.length fs 2-2,cnt ns.length fs 3-3,cnt ns.length fs 4-4,cnt ns.length fs 5-5].map jb)) rfl (Cy ec)).trans rfl)
 refine(congrArg lq (tX (d:=.int (Df (cnt ns.length fs))) ((Sk ea).trans ?_))).trans rfl;unfold sN;rw[zd9,jp];rfl
theorem ZW (ns:List D)(fs:List Fl)(bd:Nat)(h1:bd+2<=ns.length)(h2:fs.length<=bd):Ph [rd ns fs,.int bd]=Ga (.bool true):=by
 show lq (PN [.val (rd ns fs),.val (.int bd)])=_;unfold PN;rw[rT ((zR (NR (b:=true) (Ao ((pK (ds:=[.int bd]) rfl).trans rfl) rfl))).trans rfl)];have c1:Bg sT sT (mI (.int 0)) (gv 1) (lx nV (lA si (iV (gv 0) mf)) (mI (.int 2))) [.val (rd ns fs),.val (.int bd)]=Ga (.bool true):=by
  refine zAq (a:=0) (b:=bd) (c:=(ns.length:Int)-2) rfl rfl rfl (by omega) (by omega)
 have c2:lx sT (un ma (lx iY (gv 0) (mI (.int 1)))) (gv 1) [.val (rd ns fs),.val (.int bd)]=Ga (.bool true):=by
  show Ga (kh (decide (((fs.map fd).length:Int)<=(bd:Int))))=_;rw[jc,Gc (by omega)]
 refine(congrArg lq (tX (d:=.bool true) ?_)).trans rfl;exact(Rb c1).trans c2
theorem zv0 (ns:List D)(fs:List Fl)(G:ph ns.length fs)(bd:Nat)(h1:bd+2<=ns.length)(h2:fs.length<=bd):Pj [rd ns fs,.int bd]=Ga (.int ((bd:Int)+1-Df (cnt ns.length fs))):=by
 have hk:=ZW ns fs bd h1 h2;have hw:=zAt ns fs G;show lq (Ku [.val (rd ns fs),.val (.int bd)])=_;generalize rd ns fs=R at hk hw;unfold Ku;rw[rT ((zR (NR (b:=true) (Ao ((pK (ds:=[R,.int bd]) rfl).trans hk) rfl))).trans rfl)];exact(congrArg lq (tX ((wc (a:=.int ((bd:Int)+1)) rfl ((pK (ds:=[R]) rfl).trans hw)).trans rfl))).trans rfl
theorem Ss (ns:List D)(fs:List Fl)(G:ph ns.length fs)(bd:Nat)(h1:bd+2<=ns.length)(h2:fs.length<=bd)(r:Int):wW [rd ns fs,.int bd,.int r]=Ga (.bool (decide (r<(bd:Int)+1-Df (cnt ns.length fs)))):=by
 have hc:=zv0 ns fs G bd h1 h2;show lq (KD [.val (rd ns fs),.val (.int bd),.val (.int r)])=_;generalize rd ns fs=R at hc;unfold KD;exact(congrArg lq (tX ((wc (a:=.int r) rfl ((pK (ds:=[R,.int bd]) rfl).trans hc)).trans rfl))).trans rfl
abbrev Fs:=Nat->Option (Int×Nat)
def nk (E:Fs)(h:Nat)(r:Int):Bool:=match E h with
 | some (a,_)=>decide (r<a)
 | none=>true
def og (E:Fs)(b t:Nat)(r:Int):Bool:=match E b with
 | some (a,m)=>decide (r<a)||(decide (a=r)&&bt m t)
 | none=>true
def ox (n:Nat)(ns:Nat->D)(E:Fs):Nat->Nat->D
 | 0,h=>.tuple [.int h,ns h]
 | r+1,h=>if nk E h ((r:Int)+1)=true then .tuple [.int h,.tuple ((jd n).map λb=>if (b==h||og E b h ((r:Int)+1))=true then ox n ns E r b else .none)] else .none
structure EO (n:Nat)(ns1 ns2:Nat->D)(E1 E2:Fs)(S:Nat->Bool)(r0 k:Nat):Prop where
 up:∀ i r,i<n->S i=false->r<=k->nk E1 i (r:Int)=nk E2 i (r:Int)
 cm:∀ b t r,t<n->S b=false->S t=false->1<=r->r<=k->nk E1 t (r:Int)=true->og E1 b t (r:Int)=og E2 b t (r:Int)
 cmS:∀ b t r,t<n->S b=true->S t=false->1<=r->r<=r0->r<=k->nk E1 t (r:Int)=true->og E1 b t (r:Int)=og E2 b t (r:Int)
 no1:∀ b t r,t<n->S b=true->S t=false->r0<r->r<=k->nk E1 t (r:Int)=true->og E1 b t (r:Int)=false
 no2:∀ b t r,t<n->S b=true->S t=false->r0<r->r<=k->nk E1 t (r:Int)=true->og E2 b t (r:Int)=false
 upS:∀ i r,i<n->S i=true->r<r0->nk E1 i (r:Int)=nk E2 i (r:Int)
 cmT:∀ b t r,t<n->S t=true->1<=r->r<r0->og E1 b t (r:Int)=og E2 b t (r:Int)
 num:∀ i,S i=false\/0<r0->ns1 i=ns2 i
theorem Am {n:Nat}{ns1 ns2:Nat->D}{E1 E2:Fs}{S:Nat->Bool}{r0 k:Nat}(H:EO n ns1 ns2 E1 E2 S r0 k) :
  ∀ r,r<=k->(∀ i,i<n->S i=false->ox n ns1 E1 r i=ox n ns2 E2 r i)/\(r<r0->∀ i,i<n->ox n ns1 E1 r i=ox n ns2 E2 r i)
 | 0,_=>⟨λi _ hi=>by unfold ox;rw[H.num i (.inl hi)],λh i _=>by unfold ox;rw[H.num i (.inr h)]⟩
 | r+1,hk=>by
  obtain⟨ih1,ih2⟩:=Am H r (by omega);have ec:((r+1:Nat):Int)=(r:Int)+1:=by omega
  have part:∀ i,(∀ b,b<n->(b==i)=false->nk E1 i ((r:Int)+1)=true->(if (b==i||og E1 b i ((r:Int)+1))=true then ox n ns1 E1 r b else .none)=(if (b==i||og E2 b i ((r:Int)+1))=true then ox n ns2 E2 r b else .none)) ->
    ox n ns1 E1 r i=ox n ns2 E2 r i->nk E1 i ((r:Int)+1)=nk E2 i ((r:Int)+1)->ox n ns1 E1 (r+1) i=ox n ns2 E2 (r+1) i:=λi h1 h2 h3=>by
   unfold ox;rw[<- h3];cases hu:nk E1 i ((r:Int)+1) with
   | false=>rfl
   | true =>
    rw[Ge rfl,Ge rfl];refine congrArg (λl=>jZ [jb (i:Int),jZ l]) (jN λb hbn=>?_);cases hb:(b==i) with
    | true =>
     rw[k9,k9,Ge rfl,Ge rfl];rw[beq_iff_eq] at hb;subst hb;exact h2
    | false =>
     have:=h1 b (jn.mp hbn) hb hu;rw[hb] at this;exact this
  have go:∀ i b,(b==i)=false->nk E1 i ((r:Int)+1)=true->og E1 b i ((r:Int)+1)=og E2 b i ((r:Int)+1)->(og E1 b i ((r:Int)+1)=true->ox n ns1 E1 r b=ox n ns2 E2 r b) ->
    (if (b==i||og E1 b i ((r:Int)+1))=true then ox n ns1 E1 r b else .none)=(if (b==i||og E2 b i ((r:Int)+1))=true then ox n ns2 E2 r b else .none):=λi b hb hu he hv=>by
   rw[hb,<- he,vg];cases hc:og E1 b i ((r:Int)+1) with
   | false=>rfl
   | true=>rw[Ge rfl,Ge rfl];exact hv hc
  refine⟨λi hin hi=>part i (λb hbn hb hu=>?_) (ih1 i hin hi) ?_,λhr i hin=>part i (λb hbn hb hu=>?_) (ih2 (by omega) i hin) ?_⟩
  .rw[<- ec] at hu;cases hs:S b with
   | false=>exact go i b hb (by rw[<- ec];exact hu) (by rw[<- ec];exact H.cm b i (r+1) hin hs hi (by omega) hk hu) λ_=>ih1 b hbn hs
   | true =>
    by_cases hr:r+1<=r0
    .exact go i b hb (by rw[<- ec];exact hu) (by rw[<- ec];exact H.cmS b i (r+1) hin hs hi (by omega) hr hk hu) λ_=>ih2 (by omega) b hbn
    .have n1:=H.no1 b i (r+1) hin hs hi (by omega) hk hu;have n2:=H.no2 b i (r+1) hin hs hi (by omega) hk hu;rw[ec] at n1 n2;exact go i b hb (by rw[<- ec];exact hu) (n1.trans n2.symm) λz=>by rw[n1] at z;cases z
  .rw[<- ec];exact H.up i (r+1) hin hi hk
  .cases hs:S i with
   | true=>exact go i b hb hu (by rw[<- ec];exact H.cmT b i (r+1) hin hs (by omega) hr) λ_=>ih2 (by omega) b hbn
   | false =>
    rw[<- ec] at hu;cases hs2:S b with
    | false=>exact go i b hb (by rw[<- ec];exact hu) (by rw[<- ec];exact H.cm b i (r+1) hin hs2 hs (by omega) hk hu) λ_=>ih2 (by omega) b hbn
    | true=>exact go i b hb (by rw[<- ec];exact hu) (by rw[<- ec];exact H.cmS b i (r+1) hin hs2 hs (by omega) (by omega) hk hu) λ_=>ih2 (by omega) b hbn
  .rw[<- ec];cases hs:S i with
   | true=>exact H.upS i (r+1) hin hs hr
   | false=>exact H.up i (r+1) hin hs hk
def iW (E:Fs)(h:Nat)(v:Option (Int×Nat)):Fs:=λi=>if i=h then v else E i
theorem nE {E:Fs}{h:Nat}{v:Option (Int×Nat)}:iW E h v h=v:=Ge rfl
theorem mD {E:Fs}{h i:Nat}{v:Option (Int×Nat)}(e:i≠h):iW E h v i=E i:=Gf e
theorem An {E E':Fs}{i:Nat}(e:E i=E' i)(r:Int):nk E i r=nk E' i r:=by unfold nk;rw[e]
theorem Eu {E E':Fs}{b:Nat}(e:E b=E' b)(t:Nat)(r:Int):og E b t r=og E' b t r:=by unfold og;rw[e]
theorem xz {E:Fs}{i:Nat}{a:Int}{m:Nat}(e:E i=Ga (a,m))(r:Int):nk E i r=decide (r<a):=by unfold nk;rw[e]
theorem yB {E:Fs}{b:Nat}{a:Int}{m:Nat}(e:E b=Ga (a,m))(t:Nat)(r:Int):og E b t r=(decide (r<a)||(decide (a=r)&&bt m t)):=by unfold og;rw[e]
theorem xB {E:Fs}{i:Nat}(e:E i=Gb)(r:Int):nk E i r=true:=by unfold nk;rw[e]
theorem GM {E:Fs}{b:Nat}(e:E b=Gb)(t:Nat)(r:Int):og E b t r=true:=by unfold og;rw[e]
theorem Vz (t:Nat):bt 0 t=false:=by unfold bt;rw[J4,Int.zero_ediv];rfl
def nW (k at_:Nat):Option (Int×Nat):=if at_<k then Ga ((at_:Int)+1,0) else Gb
theorem Oy {E:Fs}{h k at_:Nat}(e:E h=nW k at_)(r:Nat)(hr:r<=at_):nk E h (r:Int)=true:=by
 unfold nW at e;split at e
 .rw[xz e];exact Gc (by omega)
 .exact xB e _
theorem CV {E:Fs}{h k at_:Nat}(e:E h=nW k at_)(t r:Nat)(hr:r<=at_):og E h t (r:Int)=true:=by
 unfold nW at e;split at e
 .rw[yB e,Gc (by omega),k9]
 .exact GM e _ _
theorem Ep {E:Fs}{h k at_:Nat}(e:E h=nW k at_)(t r:Nat)(hr:at_<r)(hk:r<=k):og E h t (r:Int)=false:=by
 unfold nW at e;rw[Ge (by omega)] at e;rw[yB e,Vz,vV,uS];exact Gd (by omega)
theorem MN {n:Nat}{ns:Nat->D}{E1 E2:Fs}{k at_:Nat}(S:Nat->Bool)(hS1:∀ h,S h=true->E1 h=nW k at_)(hS2:∀ h,S h=true->∃ m,E2 h=Ga ((at_:Int),m)/\∀ t,t<n->S t=false->nk E1 t (at_:Int)=true->bt m t=true)
  (same:∀ i,S i=false->E1 i=E2 i):EO n ns ns E1 E2 S at_ k where
 up:=λi r _ hi _=>An (same i hi) _
 cm:=λb t r _ hb _ _ _ _=>Eu (same b hb) _ _
 cmS:=λb t r htn hb ht h1 h2 h3 hu=>by
  rw[CV (hS1 b hb) t r h2];obtain⟨m,e,hm⟩:=hS2 b hb;rw[yB e];by_cases c:(r:Int)<(at_:Int)
  .rw[Gc c,k9]
  .have:r=at_:=by omega
   subst this;rw[Gc rfl,hm t htn ht hu,Bool.and_self,qV]
 no1:=λb t r _ hb _ h1 h2 _=>Ep (hS1 b hb) t r h1 h2
 no2:=λb t r _ hb _ h1 h2 _=>by
  obtain⟨m,e,_⟩:=hS2 b hb;rw[yB e,Gd (by omega),Gd (by omega),vn,uS]
 upS:=λi r _ hi hr=>by
  obtain⟨m,e,_⟩:=hS2 i hi;rw[Oy (hS1 i hi) r (by omega),xz e,Gc (by omega)]
 cmT:=λb t r _ ht h1 h2=>by
  cases hb:S b with
  | false=>exact Eu (same b hb) _ _
  | true =>
   obtain⟨m,e,_⟩:=hS2 b hb;rw[CV (hS1 b hb) t r (by omega),yB e,Gc (by omega),k9]
 num:=λ_ _=>rfl
theorem TB {n:Nat}{ns:Nat->D}{E1 E2:Fs}{k at_ h to:Nat}{m1 m2:Nat}(hne:h≠to)(h1:E1 h=Ga ((at_:Int),m1))(h2:E2 h=Ga ((at_:Int),m2))(hm:∀ t,t≠to->bt m1 t=bt m2 t)(t1:E1 to=nW k at_)(t2:E2 to=nW k at_)
  (same:∀ i,i≠h->i≠to->E1 i=E2 i):EO n ns ns E1 E2 (λi=>i==to) at_ k:=by
 have sm:∀ i,(i==to)=false->∀ r,nk E1 i r=nk E2 i r:=λi hi r=>by
  rw[beq_eq_false_iff_ne] at hi;by_cases e:i=h
  .subst e;rw[xz h1,xz h2]
  .exact An (same i e hi) _
 have sc:∀ b,(b==to)=false->∀ t r,t≠to->og E1 b t r=og E2 b t r:=λb hb t r ht=>by
  rw[beq_eq_false_iff_ne] at hb;by_cases e:b=h
  .subst e;rw[yB h1,yB h2,hm t ht]
  .exact Eu (same b e hb) _ _
 refine⟨λi r _ hi _=>sm i hi _,λb t r _ hb ht _ _ _=>sc b hb t _ (beq_eq_false_iff_ne.mp ht),λb t r _ hb ht _ h _ _=>?_,λb t r _ hb ht h h' _=>?_,λb t r _ hb ht h h' _=>?_,λi r _ hi hr=>?_,λb t r _ ht hh h'=>?_,λ_ _=>rfl⟩
 .rw[beq_iff_eq] at hb;subst hb;rw[CV t1 t r h,CV t2 t r h]
 .rw[beq_iff_eq] at hb;subst hb;exact Ep t1 t r h h'
 .rw[beq_iff_eq] at hb;subst hb;exact Ep t2 t r h h'
 .rw[beq_iff_eq] at hi;subst hi;rw[Oy t1 r (by omega),Oy t2 r (by omega)]
 .rw[beq_iff_eq] at ht;subst ht;by_cases e:b=t
  .subst e;rw[CV t1 b r (by omega),CV t2 b r (by omega)]
  .by_cases e2:b=h
   .subst e2;rw[yB h1,yB h2,Gc (by omega),k9,k9]
   .exact Eu (same b e2 e) _ _
theorem zGt {n:Nat}{ns1 ns2:Nat->D}{E:Fs}{k h:Nat}(hn:∀ i,i≠h->ns1 i=ns2 i)(t1:E h=nW k 0):EO n ns1 ns2 E E (λi=>i==h) 0 k where
 up:=λ_ _ _ _ _=>rfl
 cm:=λ_ _ _ _ _ _ _ _ _=>rfl
 cmS:=λ_ _ _ _ _ _ h1 h2 _ _=>by omega
 no1:=λb t r _ hb _ h1 h2 _=>by rw[beq_iff_eq] at hb;subst hb;exact Ep t1 t r h1 h2
 no2:=λb t r _ hb _ h1 h2 _=>by rw[beq_iff_eq] at hb;subst hb;exact Ep t1 t r h1 h2
 upS:=λ_ _ _ _ h=>by omega
 cmT:=λ_ _ _ _ _ _ h=>by omega
 num:=λi h=>hn i (h.elim (λz=>beq_eq_false_iff_ne.mp z) λz=>absurd z (jU 0))
def sW {α:Type}(R:α->α->Prop):List α->Prop
 | []=>True
 | [_]=>True
 | a::b::r=>R a b/\sW R (b::r)
theorem Bc {α:Type}{R:α->α->Prop}:∀ {l m:List α},sW R l->sW R m->(∀ a b,l.getLast?=Ga a->m.head?=Ga b->R a b)->sW R (l++m)
 | [],_,_,h,_=>h
 | [a],[],_,_,_=>trivial
 | [a],b::m,_,h,j=>⟨j a b rfl rfl,h⟩
 | a::b::l,m,h1,h2,j=>⟨h1.1,Bc (l:=b::l) h1.2 h2 λx y hx hy=>j x y (by rw[qL];exact hx) hy⟩
theorem Yc {α:Type}{R:α->α->Prop}:∀ {l:List α},sW R l->sW R l.tail
 | [],_=>trivial
 | [_],_=>trivial
 | _::_::_,h=>h.2
theorem GN {α:Type}{R:α->α->Prop}(sy:∀ a b,R a b->R b a):∀ {l:List α},sW R l->sW R l.reverse
 | [],_=>trivial
 | [_],_=>trivial
 | a::b::r,h=>by
  have ih:=GN sy (l:=b::r) h.2;rw[uJ];refine Bc ih trivial λx y hx hy=>?_;rw[vj] at hx;cases hx;cases hy;exact sy _ _ h.1
def lj (n:Nat)(E:Fs):Nat:=((jd n).filter λi=>(E i).isSome).length
theorem BL {n:Nat}{E:Fs}(hc:lj n E+2<=n)(h:Nat):∃ i,i<n/\i≠h/\E i=Gb:=by
 refine ky λno=>?_;have all:∀ i,i<n->i≠h->(E i).isSome=true:=λi hi hn=>by
  cases e:E i with
  | none=>exact absurd ⟨i,hi,hn,e⟩ no
  | some v=>rfl
 have key:∀ m,m<=n->m<=((jd m).filter λi=>(E i).isSome).length+(if h<m then 1 else 0):=by
  intro m;induction m with
  | zero=>exact λ_=>j5 _
  | succ m ih =>
   intro hm;have ih:=ih (by omega);rw[kr,kC,jg];by_cases e:m=h
   .subst e;rw[Gf (jU m)] at ih;rw[Ge (kR m)];omega
   .have:([m].filter λi=>(E i).isSome)=[m]:=by rw[jY (p:=λi=>(E i).isSome) (all m (by omega) e)];rfl
    rw[this,j4];split at ih<;>split<;>omega
 have:=key n (jj n);unfold lj at hc;split at this<;>omega
theorem HQ {n:Nat}{E:Fs}{h:Nat}(v:Option (Int×Nat)):lj n (iW E h v)<=lj n E+1:=by
 unfold lj;induction n with
 | zero=>exact j5 _
 | succ n ih =>
  rw[kr,kC,kC,jg,jg];by_cases e:n=h
  .subst e;have:((jd n).filter λi=>(iW E n v i).isSome)=(jd n).filter λi=>(E i).isSome:=kM λi hi=>by
    rw[mD (jJ (jn.mp hi))]
   rw[this];have:([n].filter λi=>(iW E n v i).isSome).length<=1:=jW _ _;omega
  .have:([n].filter λi=>(iW E h v i).isSome)=[n].filter λi=>(E i).isSome:=kM λi hi=>by
    rw[jo.mp hi,mD e]
   rw[this];omega
theorem zx3 {n:Nat}{E E':Fs}(h:∀ i,i<n->(E i).isSome=(E' i).isSome):lj n E=lj n E':=by
 unfold lj;rw[kM λi hi=>h i (jn.mp hi)]
theorem OB {n:Nat}{E:Fs}{h:Nat}{u v:Int×Nat}(e:E h=Ga u):lj n (iW E h (Ga v))=lj n E:=by
 refine zx3 λi _=>?_;by_cases c:i=h
 .subst c;rw[nE,e];rfl
 .rw[mD c]
structure Ok (n:Nat)(E:Fs)(at_:Nat):Prop where
 rnd:∀ i a m,E i=Ga (a,m)->1<=a/\a<=(at_:Int)
 hnd:∀ i a m,E i=Ga (a,m)->i<n
 msk:∀ i a m,E i=Ga (a,m)->m<2^n/\bt m i=false
theorem Ok.mono {n:Nat}{E:Fs}{a b:Nat}(h:Ok n E a)(e:a<=b):Ok n E b:=⟨λi x m z=>by have:=h.rnd i x m z;omega,h.hnd,h.msk⟩
theorem Ok.upd {n:Nat}{E:Fs}{a h:Nat}{x:Int}{m:Nat}(o:Ok n E a)(hh:h<n)(x1:1<=x)(x2:x<=(a:Int))(hm:m<2^n)(hb:bt m h=false):Ok n (iW E h (Ga (x,m))) a:=by
 refine⟨λi y l z=>?_,λi y l z=>?_,λi y l z=>?_⟩<;>(by_cases c:i=h)
 .subst c;rw[nE] at z;cases z;exact⟨x1,x2⟩
 .rw[mD c] at z;exact o.rnd i y l z
 .subst c;exact hh
 .rw[mD c] at z;exact o.hnd i y l z
 .subst c;rw[nE] at z;cases z;exact⟨hm,hb⟩
 .rw[mD c] at z;exact o.msk i y l z
def CQ (n:Nat)(ns:Nat->D)(k:Nat)(E1 E2:Fs):Prop:=∃ i,i<n/\E1 i=Gb/\E2 i=Gb/\ox n ns E1 k i=ox n ns E2 k i
theorem CQ.symm {n:Nat}{ns:Nat->D}{k:Nat}{E1 E2:Fs}(h:CQ n ns k E1 E2):CQ n ns k E2 E1:=by
 obtain⟨i,h1,h2,h3,h4⟩:=h;exact⟨i,h1,h3,h2,h4.symm⟩
theorem Bs {n:Nat}{F E:Fs}(h:∀ i,(F i).isSome=true->(E i).isSome=true):lj n F<=lj n E:=by
 unfold lj;have key:∀ l:List Nat,(l.filter λi=>(F i).isSome).length<=(l.filter λi=>(E i).isSome).length:=by
  intro l;induction l with
  | nil=>exact jj _
  | cons x l ih =>
   by_cases c:(F x).isSome=true
   .rw[jY (p:=λi=>(F i).isSome) c,jY (p:=λi=>(E i).isSome) (h x c),jM,jM];omega
   .rw[kf (p:=λi=>(F i).isSome) c];by_cases d:(E x).isSome=true
    .rw[jY (p:=λi=>(E i).isSome) d,jM];omega
    .rw[kf (p:=λi=>(E i).isSome) d];exact ih
 exact key _
theorem SZ {n:Nat}{F E:Fs}{h:Nat}(hn:h<n)(m:∀ i,(F i).isSome=true->(E i).isSome=true)(e1:(E h).isSome=true)(e2:F h=Gb):lj n F+1<=lj n E:=by
 have key:∀ k,k<=n->((jd k).filter λi=>(F i).isSome).length+(if h<k then 1 else 0)<=((jd k).filter λi=>(E i).isSome).length:=by
  intro k;induction k with
  | zero=>exact λ_=>jj _
  | succ k ih =>
   intro hk;have ih:=ih (by omega);rw[kr,kC,kC,jg,jg];have one:∀ (G:Fs),([k].filter λi=>(G i).isSome).length=if (G k).isSome=true then 1 else 0:=λG=>by
    cases c:(G k).isSome with
    | true=>rw[jY (p:=λi=>(G i).isSome) c];rfl
    | false=>rw[kf (p:=λi=>(G i).isSome) (by rw[c];exact jw)];rfl
   rw[one F,one E];by_cases e:k=h
   .subst e;rw[e1,e2,Ge rfl,Ge (kR k)];rw[Gf (jU k)] at ih;rw[Gf (by show ¬(Gb:Option (Int×Nat)).isSome=true;exact jw)];omega
   .have:(if (F k).isSome=true then 1 else 0)<=(if (E k).isSome=true then 1 else 0:Nat):=by
     by_cases c:(F k).isSome=true
     .rw[Ge c,Ge (m k c)];exact jj _
     .rw[Gf c];exact j5 _
    by_cases y:h<k
    .rw[Ge y] at ih;rw[Ge (show h<k+1 by omega)];omega
    .rw[Gf y] at ih;rw[Gf (show ¬h<k+1 by omega)];omega
 have:=key n (jj n);rw[Ge hn] at this;exact this
def mN (b0 b1 b2 b3 b4:Bool):Nat:=(if b0 then 1 else 0)+(if b1 then 2 else 0)+(if b2 then 4 else 0)+(if b3 then 8 else 0)+(if b4 then 16 else 0)
def mj (l:List Nat):Nat:=mN (l.contains 0) (l.contains 1) (l.contains 2) (l.contains 3) (l.contains 4)
def nR (m b:Nat):Nat:=m ^^^ 2^b
theorem Yw:∀ (b0 b1 b2 b3 b4:Bool),bt (mN b0 b1 b2 b3 b4) 0=b0/\bt (mN b0 b1 b2 b3 b4) 1=b1/\bt (mN b0 b1 b2 b3 b4) 2=b2/\bt (mN b0 b1 b2 b3 b4) 3=b3/\bt (mN b0 b1 b2 b3 b4) 4=b4:=by nofun
theorem VR {P:Nat->Prop}(h0:P 0)(h1:P 1)(h2:P 2)(h3:P 3)(h4:P 4):∀ i,i<5->P i
 | 0,_=>h0
 | 1,_=>h1
 | 2,_=>h2
 | 3,_=>h3
 | 4,_=>h4
 | n+5,h=>by omega
theorem zF (l:List Nat):∀ i,i<5->bt (mj l) i=l.contains i:=by
 obtain⟨h0,h1,h2,h3,h4⟩:=Yw (l.contains 0) (l.contains 1) (l.contains 2) (l.contains 3) (l.contains 4);exact VR h0 h1 h2 h3 h4
theorem Pd:∀ (b0 b1 b2 b3 b4:Bool),mN b0 b1 b2 b3 b4<32:=by decide
theorem zFa:∀ (b0 b1 b2 b3:Bool),mN b0 b1 b2 b3 false<16:=by decide
theorem zFb:∀ (b0 b1 b2:Bool),mN b0 b1 b2 false false<8:=by decide
theorem zFc:∀ (b0 b1:Bool),mN b0 b1 false false false<4:=by decide
theorem CP {n:Nat}(h2:2<=n)(h5:n<=5)(l:List Nat)(hl:∀ i∈l,i<n):mj l<2^n:=by
 have no:∀ i,n<=i->l.contains i=false:=λi hi=>by
  rw[<- jT,jC];exact λz=>by have:=hl i z;omega
 unfold mj;have:n=2\/n=3\/n=4\/n=5:=by omega
 rcases this with rfl|rfl|rfl|rfl
 .rw[no 2 (by omega),no 3 (by omega),no 4 (by omega)];exact zFc _ _
 .rw[no 3 (by omega),no 4 (by omega)];exact zFb _ _ _
 .rw[no 4 (by omega)];exact zFa _ _ _ _
 .exact Pd _ _ _ _ _
theorem zFd:∀ (b0 b1 b2 b3 b4:Bool),nR (mN b0 b1 b2 b3 b4) 0=mN (!b0) b1 b2 b3 b4/\nR (mN b0 b1 b2 b3 b4) 1=mN b0 (!b1) b2 b3 b4/\nR (mN b0 b1 b2 b3 b4) 2=mN b0 b1 (!b2) b3 b4/\nR (mN b0 b1 b2 b3 b4) 3=mN b0 b1 b2 (!b3) b4/\nR (mN b0 b1 b2 b3 b4) 4=mN b0 b1 b2 b3 (!b4):=by nofun
theorem VJ {o:Nat}{l:List Nat}(ho:o<5)(nd:o∉l):nR (mj (o::l)) o=mj l:=by
 have c1:l.contains o=false:=by rw[<- jT,jC];exact nd
 have c2:∀ i,(o::l).contains i=(i==o||l.contains i):=λi=>qu;unfold mj;simp only[c2];obtain⟨h0,h1,h2,h3,h4⟩:=zFd (0==o||l.contains 0) (1==o||l.contains 1) (2==o||l.contains 2) (3==o||l.contains 3) (4==o||l.contains 4);have:o=0\/o=1\/o=2\/o=3\/o=4:=by omega
 rcases this with rfl|rfl|rfl|rfl|rfl
 .rw[h0,c1];rfl
 .rw[h1,c1];rfl
 .rw[h2,c1];rfl
 .rw[h3,c1];rfl
 .rw[h4,c1];rfl
def nw (n:Nat)(E:Fs)(h at_:Nat):List Nat:=(jd n).filter λi=>nk E i (at_:Int)&&!(i==h)
def rf (E:Fs)(h b:Nat):Fs:=match E h with
 | some (a,m)=>iW E h (Ga (a,nR m b))
 | none=>E
def pY (H:Fs->Nat->List Fs)(E:Fs)(h:Nat)(p:List Fs)(o:Nat):List Fs:=p++(H (p.getLastD E) o++(H (rf (p.getLastD E) h o) o).reverse).tail
def mT (n k:Nat):Nat->Fs->Nat->List Fs
 | 0,E,_=>[E]
 | d+1,E,h=>(nw n E h (k-d)).foldl (pY (mT n k d) E h) (mT n k d E h++[iW E h (Ga (((k-d:Nat):Int),mj (nw n E h (k-d))))])
def mG:Nat->Nat
 | 0=>1
 | d+1=>mG d+1+4*(2*mG d-1)
theorem RN:∀ d,1<=mG d
 | 0=>jj _
 | d+1=>by unfold mG;have:=RN d;omega
structure zg (n:Nat)(ns:Nat->D)(k d:Nat)(E:Fs)(T:Fs)(P:List Fs):Prop where
 hd:P.head?=Ga E
 lst:P.getLast?=Ga T
 ok:∀ F∈P,Ok n F (k+1)
 cnt:∀ F∈P,lj n F<=lj n E+d
 chn:sW (CQ n ns k) P
theorem ZL {E:Fs}{h:Nat}(e:E h=Gb):iW E h Gb=E:=by
 funext i
 by_cases c:i=h
 .subst c;rw[nE,e]
 .rw[mD c]
theorem Eh {E:Fs}{h:Nat}{u v:Option (Int×Nat)}:iW (iW E h u) h v=iW E h v:=by
 funext i
 by_cases c:i=h
 .subst c;rw[nE,nE]
 .rw[mD c,mD c,mD c]
theorem Nu {α:Type}{p q:List α}{g t:α}(hp:p.getLast?=Ga g)(hq:q.head?=Ga g)(ht:q.getLast?=Ga t):(p++q.tail).getLast?=Ga t:=by
 cases q with
 | nil=>cases hq
 | cons a r =>
  cases hq;cases r with
  | nil=>cases ht;rw[Js,kz];exact hp
  | cons b r=>rw[Js,uP,<- qL,ht];rfl
theorem Le {α:Type}{R:α->α->Prop}{p q:List α}{g:α}(hp:p.getLast?=Ga g)(hq:q.head?=Ga g)(c1:sW R p)(c2:sW R q):sW R (p++q.tail):=by
 cases q with
 | nil=>cases hq
 | cons a r =>
  cases hq;refine Bc c1 (Yc c2) λx y hx hy=>?_;rw[hp] at hx;cases hx;cases r with
  | nil=>cases hy
  | cons b r=>cases hy;exact c2.1
theorem Bi {α:Type}{p q:List α}{a:α}(h:p.head?=Ga a):(p++q).head?=Ga a:=by
 cases p with
 | nil=>cases h
 | cons b r=>exact h
theorem yw {α:Type}{p:List α}{a d:α}(h:p.getLast?=Ga a):p.getLastD d=a:=by
 rw[List.getLastD_eq_getLast?,h];rfl
theorem EC {n:Nat}{E:Fs}{at_ i:Nat}(o:Ok n E at_)(h:nk E i (at_:Int)=true):E i=Gb:=by
 cases e:E i with
 | none=>rfl
 | some v =>
  obtain⟨a,m⟩:=v;rw[xz e,decide_eq_true_eq] at h;have:=(o.rnd i a m e).2;omega
theorem UY {n:Nat}{ns:Nat->D}{k d at_ h:Nat}{E:Fs}(h2:2<=n)(h5:n<=5)(IH:∀ (F:Fs) (i:Nat),i<n->F i=Gb->Ok n F (k+1-d)->lj n F+d+2<=n->zg n ns k d F (iW F i (nW k at_)) (mT n k d F i)/\(mT n k d F i).length<=mG d)
  (hat:at_=k-d) (hk:d+1<=k) (hh:h<n) (ho:Ok n E at_) (hc:lj n E+(d+1)+2<=n) {x:Nat} {l:List Nat} (nd:(x::l).Nodup) (hl:∀ i∈x::l,i<n/\i≠h/\E i=Gb) {p:List Fs} (H:zg n ns k (d+1) E (iW E h (Ga ((at_:Int),mj (x::l)))) p) :
  zg n ns k (d+1) E (iW E h (Ga ((at_:Int),mj l))) (pY (mT n k d) E h p x)/\(pY (mT n k d) E h p x).length<=p.length+(2*mG d-1):=by
 have okG:∀ m,m<2^n->bt m h=false->Ok n (iW E h (Ga ((at_:Int),m))) at_:=λm h1 h2=>ho.upd hh (by omega) (kZ _) h1 h2;have cntG:∀ m,lj n (iW E h (Ga ((at_:Int),m)))<=lj n E+1:=λm=>HQ _;obtain⟨hx1,hx2,hx3⟩:=hl x jf;have nd':=kg.mp nd;have m1:mj (x::l)<2^n:=CP h2 h5 _ λi hi=>(hl i hi).1;have m2:mj l<2^n:=CP h2 h5 _ λi hi=>(hl i (jh _ hi)).1;have b1:bt (mj (x::l)) h=false:=by
  rw[zF _ h (by omega),<- jT,jC];exact λz=>(hl h z).2.1 rfl
 have b2:bt (mj l) h=false:=by
  rw[zF _ h (by omega),<- jT,jC];exact λz=>(hl h (jh _ z)).2.1 rfl
 have eg:p.getLastD E=iW E h (Ga ((at_:Int),mj (x::l))):=yw H.lst;have ef:rf (iW E h (Ga ((at_:Int),mj (x::l)))) h x=iW E h (Ga ((at_:Int),mj l)):=by
  unfold rf;rw[nE];dsimp only;rw[Eh,VJ (by omega) nd'.1]
 have g0:iW E h (Ga ((at_:Int),mj (x::l))) x=Gb:=by rw[mD hx2];exact hx3
 have f0:iW E h (Ga ((at_:Int),mj l)) x=Gb:=by rw[mD hx2];exact hx3
 have A1:=IH (iW E h (Ga ((at_:Int),mj (x::l)))) x hx1 g0 ((okG _ m1 b1).mono (by omega)) (by have:=cntG (mj (x::l));omega);have A2:=IH (iW E h (Ga ((at_:Int),mj l))) x hx1 f0 ((okG _ m2 b2).mono (by omega)) (by have:=cntG (mj l);omega);obtain⟨A1,l1⟩:=A1;obtain⟨A2,l2⟩:=A2;have cG:=cntG (mj (x::l));have cF:=cntG (mj l);have step:pY (mT n k d) E h p x=p++(mT n k d (iW E h (Ga ((at_:Int),mj (x::l)))) x++(mT n k d (iW E h (Ga ((at_:Int),mj l))) x).reverse).tail:=by
  unfold pY;rw[eg,ef]
 rw[step];generalize mT n k d (iW E h (Ga ((at_:Int),mj (x::l)))) x=P1 at A1 l1;generalize mT n k d (iW E h (Ga ((at_:Int),mj l))) x=P2 at A2 l2;have hq:(P1++P2.reverse).head?=Ga (iW E h (Ga ((at_:Int),mj (x::l)))):=Bi A1.hd;have hql:(P1++P2.reverse).getLast?=Ga (iW E h (Ga ((at_:Int),mj l))):=by
  rw[uP,vj,A2.hd];rfl
 have hqc:sW (CQ n ns k) (P1++P2.reverse):=by
  refine Bc A1.chn (GN (λ_ _=>CQ.symm) A2.chn) λa b ha hb=>?_;rw[A1.lst] at ha;cases ha;rw[qw,A2.lst] at hb;cases hb;have c2:lj n (iW (iW E h (Ga ((at_:Int),mj l))) x (nW k at_))<=_:=A2.cnt _ (vo A2.lst);obtain⟨i,i1,i2,i3⟩:=BL (n:=n) (E:=iW (iW E h (Ga ((at_:Int),mj l))) x (nW k at_)) (by omega) x;rw[mD i2] at i3;have i4:i≠h:=λz=>by subst z;rw[nE] at i3;cases i3
  rw[mD i4] at i3;refine⟨i,i1,by rw[mD i2,mD i4];exact i3,by rw[mD i2,mD i4];exact i3,?_⟩;have B:=TB (n:=n) (ns:=ns) (E1:=iW (iW E h (Ga ((at_:Int),mj (x::l)))) x (nW k at_)) (E2:=iW (iW E h (Ga ((at_:Int),mj l))) x (nW k at_)) (k:=k) (at_:=at_) (h:=h) (to:=x) (m1:=mj (x::l)) (m2:=mj l) (ug hx2)
   (by rw[mD (ug hx2),nE]) (by rw[mD (ug hx2),nE]) (λt ht=>?_) nE nE (λj j1 j2=>by rw[mD j2,mD j1,mD j2,mD j1])
  .exact(Am B k (jj _)).1 i i1 (beq_eq_false_iff_ne.mpr i2)
  .by_cases t5:t<5
   .rw[zF _ t t5,zF _ t t5,qu,beq_eq_false_iff_ne.mpr ht,vg]
   .have big:∀ m:Nat,m<32->bt m t=false:=λm hm=>by
     unfold bt;have:(m:Int)/2^t=0:=by
      refine qW (by omega) ?_;have e1:(2:Nat)^5<=2^t:=uv (by decide) (by omega);have e2:((2^t:Nat):Int)=(2:Int)^t:=Int.natCast_pow 2 t;rw[<- e2];omega
     rw[this];rfl
    rw[big (mj (x::l)) (Pd _ _ _ _ _),big (mj l) (Pd _ _ _ _ _)]
 refine⟨⟨Bi H.hd,Nu H.lst hq hql,λF hF=>?_,λF hF=>?_,Le H.lst hq H.chn hqc⟩,?_⟩
 .rcases jV.mp hF with z|z
  .exact H.ok F z
  .rcases jV.mp (kQ z) with z|z
   .exact A1.ok F z
   .exact A2.ok F (uk.mp z)
 .rcases jV.mp hF with z|z
  .exact H.cnt F z
  .rcases jV.mp (kQ z) with z|z
   .have:=A1.cnt F z;omega
   .have:=A2.cnt F (uk.mp z);omega
 .have lt:(P1++P2.reverse).tail.length<=2*mG d-1:=by
   rw[ko,jg,kJ];omega
  rw[jg];omega
theorem zo {n:Nat}{ns:Nat->D}{k:Nat}(h2:2<=n)(h5:n<=5):∀ (d:Nat) (E:Fs) (h:Nat),d<=k->h<n->E h=Gb->Ok n E (k+1-d)->lj n E+d+2<=n ->
  zg n ns k d E (iW E h (if d=0 then Gb else Ga ((k+1-d:Nat),0))) (mT n k d E h)/\(mT n k d E h).length<=mG d
 | 0,E,h,_,hh,e0,o,hc=>by
  refine⟨⟨rfl,?_,λF hF=>?_,λF hF=>?_,trivial⟩,jj _⟩
  .rw[Ge rfl,ZL e0];rfl
  .rw[jo.mp hF];exact o
  .rw[jo.mp hF];exact jj _
 | d+1,E,h,hk,hh,e0,o,hc=>by
  obtain⟨at_,hat⟩:∃ at_,at_=k-d:=⟨_,rfl⟩;have ho:Ok n E at_:=by rw[hat,<- (show k+1-(d+1)=k-d by omega)];exact o
  have enx:∀ F:Fs,∀ i,iW F i (if d=0 then Gb else Ga (((k+1-d:Nat):Int),0))=iW F i (nW k at_):=λF i=>by
   unfold nW;by_cases c:d=0
   .rw[Ge c,Gf (by omega)]
   .rw[Gf c,Ge (by omega)];have:((k+1-d:Nat):Int)=(at_:Int)+1:=by omega
    rw[this]
  have IH:=zo (ns:=ns) (k:=k) h2 h5 d;have okG:∀ m,m<2^n->bt m h=false->Ok n (iW E h (Ga ((at_:Int),m))) at_:=λm h1 h2=>ho.upd hh (by omega) (kZ _) h1 h2;have cntG:∀ m,lj n (iW E h (Ga ((at_:Int),m)))<=lj n E+1:=λm=>HQ _;have othM:∀ i,i∈nw n E h at_->i<n/\i≠h/\E i=Gb:=λi hi=>by
   obtain⟨x1,x2⟩:=jD.mp hi;rw[jG,kB,beq_eq_false_iff_ne] at x2;exact⟨jn.mp x1,x2.2,EC ho x2.1⟩
  have L:∀ (l:List Nat),l.Nodup->(∀ i∈l,i<n/\i≠h/\E i=Gb)->∀ (p:List Fs),zg n ns k (d+1) E (iW E h (Ga ((at_:Int),mj l))) p ->
    zg n ns k (d+1) E (iW E h (Ga ((at_:Int),0))) (l.foldl (pY (mT n k d) E h) p)/\(l.foldl (pY (mT n k d) E h) p).length<=p.length+l.length*(2*mG d-1):=by
   intro l;induction l with
   | nil=>exact λ_ _ p H=>⟨H,by rw[uw,qf];omega⟩
   | cons x l ih =>
    intro nd hl p H;have nd':=kg.mp nd;obtain⟨s1,s2⟩:=UY h2 h5 (λF i i1 i2 i3 i4=>by
     have:=IH F i (by omega) i1 i2 i3 i4;rw[enx] at this;exact this) hat hk hh ho hc nd hl H
    obtain⟨r1,r2⟩:=ih nd'.2 (λi hi=>hl i (jh _ hi)) _ s1;rw[kW];refine⟨r1,jk r2 ?_⟩;rw[jM,uZ];omega
  have P0:=IH E h (by omega) hh e0 (ho.mono (by omega)) (by omega);rw[enx] at P0;obtain⟨P0,l0⟩:=P0;have ndO:(nw n E h at_).Nodup:=kX (kD) uo;have mO:mj (nw n E h at_)<2^n:=CP h2 h5 _ λi hi=>(othM i hi).1;have bO:bt (mj (nw n E h at_)) h=false:=by
   rw[zF _ h (by omega),<- jT,jC];exact λz=>(othM h z).2.1 rfl
  have S0:zg n ns k (d+1) E (iW E h (Ga ((at_:Int),mj (nw n E h at_)))) (mT n k d E h++[iW E h (Ga ((at_:Int),mj (nw n E h at_)))]):=by
   refine⟨Bi P0.hd,by rw[uP];rfl,λF hF=>?_,λF hF=>?_,Bc P0.chn trivial λa b ha hb=>?_⟩
   .rcases jV.mp hF with z|z
    .exact P0.ok F z
    .rw[jo.mp z];exact(okG _ mO bO).mono (by omega)
   .rcases jV.mp hF with z|z
    .have:=P0.cnt F z;omega
    .rw[jo.mp z];have:=cntG (mj (nw n E h at_));omega
   .rw[P0.lst] at ha;cases ha;cases hb;obtain⟨i,i1,i2,i3⟩:=BL (n:=n) (E:=E) (by omega) h;refine⟨i,i1,by rw[mD i2];exact i3,by rw[mD i2];exact i3,?_⟩;have A:=MN (n:=n) (ns:=ns) (E1:=iW E h (nW k at_)) (E2:=iW E h (Ga ((at_:Int),mj (nw n E h at_)))) (k:=k) (at_:=at_) (λj=>j==h)
     (λj hj=>by rw[beq_iff_eq] at hj;subst hj;exact nE) (λj hj=>⟨_,by rw[beq_iff_eq] at hj;subst hj;exact nE,λt ht t1 t2=>?_⟩) (λj hj=>by rw[beq_eq_false_iff_ne] at hj;rw[mD hj,mD hj])
    .exact(Am A k (jj _)).1 i i1 (beq_eq_false_iff_ne.mpr i2)
    .rw[zF _ t (by omega),jC];refine jD.mpr ⟨jn.mpr ht,?_⟩;rw[An (mD (beq_eq_false_iff_ne.mp t1)) _] at t2;rw[t2,t1];rfl
  have R:=L (nw n E h at_) ndO othM _ S0;have e1:mT n k (d+1) E h=(nw n E h at_).foldl (pY (mT n k d) E h) (mT n k d E h++[iW E h (Ga ((at_:Int),mj (nw n E h at_)))]):=by rw[hat];rfl
  have e2:((k+1-(d+1):Nat):Int)=(at_:Int):=by omega
  rw[e1,Gf (J3 d),e2];refine⟨R.1,jk R.2 ?_⟩;have lo:(nw n E h at_).length<=4:=by
   have a1:(nw n E h at_).length<=n:=by unfold nw;exact jk (jW _ _) (by rw[jE];exact jj _)
   by_cases c:(nw n E h at_).length=n
   .exfalso;have:∀ i∈jd n,(nk E i (at_:Int)&&!(i==h))=true:=List.length_filter_eq_length_iff.mp (by rw[jE];exact c);have:=this h (jn.mpr hh);rw[beq_self_eq_true,Bool.not_true,vV] at this;cases this
   .omega
  rw[jg,j4];have:(nw n E h at_).length*(2*mG d-1)<=4*(2*mG d-1):=ux _ lo;show _<=mG d+1+4*(2*mG d-1);omega
theorem zAw {α:Type}{P:List α->Prop}(h0:P [])(h1:∀ l x,P l->P (l++[x]))(l:List α):P l:=by
 have z:∀ r:List α,P r.reverse:=λr=>by
  induction r with
  | nil=>exact h0
  | cons x r ih=>rw[uJ];exact h1 _ _ ih
 have:=z l.reverse;rw[List.reverse_reverse] at this;exact this
theorem zAx {n:Nat}{ns:Nat->D}{k d h:Nat}{E:Fs}(h2:2<=n)(h5:n<=5)(hk:d+1<=k)(hh:h<n)(e0:E h=Gb)(ho:Ok n E (k-d))(hc:lj n E+(d+1)+2<=n) :
  ∀ (pre suf:List Nat),nw n E h (k-d)=pre++suf->zg n ns k (d+1) E (iW E h (Ga (((k-d:Nat):Int),mj suf))) (pre.foldl (pY (mT n k d) E h) (mT n k d E h++[iW E h (Ga (((k-d:Nat):Int),mj (nw n E h (k-d))))])) /\
   (pre.foldl (pY (mT n k d) E h) (mT n k d E h++[iW E h (Ga (((k-d:Nat):Int),mj (nw n E h (k-d))))])).length<=mG d+1+pre.length*(2*mG d-1):=by
 obtain⟨at_,hat⟩:∃ at_,at_=k-d:=⟨_,rfl⟩;rw[<- hat] at ho ⊢;have enx:∀ F:Fs,∀ i,iW F i (if d=0 then Gb else Ga (((k+1-d:Nat):Int),0))=iW F i (nW k at_):=λF i=>by
  unfold nW;by_cases c:d=0
  .rw[Ge c,Gf (by omega)]
  .rw[Gf c,Ge (by omega)];have:((k+1-d:Nat):Int)=(at_:Int)+1:=by omega
   rw[this]
 have IH:=zo (ns:=ns) (k:=k) h2 h5 d;have okG:∀ m,m<2^n->bt m h=false->Ok n (iW E h (Ga ((at_:Int),m))) at_:=λm h1 h2=>ho.upd hh (by omega) (kZ _) h1 h2;have cntG:∀ m,lj n (iW E h (Ga ((at_:Int),m)))<=lj n E+1:=λm=>HQ _;have othM:∀ i,i∈nw n E h at_->i<n/\i≠h/\E i=Gb:=λi hi=>by
  obtain⟨x1,x2⟩:=jD.mp hi;rw[jG,kB,beq_eq_false_iff_ne] at x2;exact⟨jn.mp x1,x2.2,EC ho x2.1⟩
 have P0:=IH E h (by omega) hh e0 (ho.mono (by omega)) (by omega);rw[enx] at P0;obtain⟨P0,l0⟩:=P0;have ndO:(nw n E h at_).Nodup:=kX (kD) uo;have mO:mj (nw n E h at_)<2^n:=CP h2 h5 _ λi hi=>(othM i hi).1;have bO:bt (mj (nw n E h at_)) h=false:=by
  rw[zF _ h (by omega),<- jT,jC];exact λz=>(othM h z).2.1 rfl
 have S0:zg n ns k (d+1) E (iW E h (Ga ((at_:Int),mj (nw n E h at_)))) (mT n k d E h++[iW E h (Ga ((at_:Int),mj (nw n E h at_)))]):=by
  refine⟨Bi P0.hd,by rw[uP];rfl,λF hF=>?_,λF hF=>?_,Bc P0.chn trivial λa b ha hb=>?_⟩
  .rcases jV.mp hF with z|z
   .exact P0.ok F z
   .rw[jo.mp z];exact(okG _ mO bO).mono (by omega)
  .rcases jV.mp hF with z|z
   .have:=P0.cnt F z;omega
   .rw[jo.mp z];have:=cntG (mj (nw n E h at_));omega
  .rw[P0.lst] at ha;cases ha;cases hb;obtain⟨i,i1,i2,i3⟩:=BL (n:=n) (E:=E) (by omega) h;refine⟨i,i1,by rw[mD i2];exact i3,by rw[mD i2];exact i3,?_⟩;have A:=MN (n:=n) (ns:=ns) (E1:=iW E h (nW k at_)) (E2:=iW E h (Ga ((at_:Int),mj (nw n E h at_)))) (k:=k) (at_:=at_) (λj=>j==h)
    (λj hj=>by rw[beq_iff_eq] at hj;subst hj;exact nE) (λj hj=>⟨_,by rw[beq_iff_eq] at hj;subst hj;exact nE,λt ht t1 t2=>?_⟩) (λj hj=>by rw[beq_eq_false_iff_ne] at hj;rw[mD hj,mD hj])
   .exact(Am A k (jj _)).1 i i1 (beq_eq_false_iff_ne.mpr i2)
   .rw[zF _ t (by omega),jC];refine jD.mpr ⟨jn.mpr ht,?_⟩;rw[An (mD (beq_eq_false_iff_ne.mp t1)) _] at t2;rw[t2,t1];rfl
 intro pre;induction pre using zAw with
 | h0 =>
  intro suf e;rw[J9] at e;rw[<- e,uw];exact⟨S0,by rw[jg,j4,qf];omega⟩
 | h1 pre x ih =>
  intro suf e;rw[uM,Jk] at e;obtain⟨r1,r2⟩:=ih (x::suf) e;rw[uQ,kW,uw];have nd:(x::suf).Nodup:=by rw[e] at ndO;exact(uO.mp ndO).2.1
  have hl:∀ i∈x::suf,i<n/\i≠h/\E i=Gb:=λi hi=>othM i (by rw[e];exact jR _ hi);obtain⟨s1,s2⟩:=UY h2 h5 (λF i i1 i2 i3 i4=>by
   have:=IH F i (by omega) i1 i2 i3 i4;rw[enx] at this;exact this) hat hk hh ho hc nd hl r1
  refine⟨s1,jk s2 ?_⟩;rw[jg,j4,uZ];omega
theorem Ou {α β:Type}{f g:α->Option β}:∀ {l:List α},(∀ x∈l,f x=g x)->l.filterMap f=l.filterMap g
 | [],_=>rfl
 | x::l,h=>by
  have ih:=Ou (l:=l) λy hy=>h y (jh _ hy);have e:=h x jf;cases w:g x with
  | none=>rw[jX (f:=f) (e.trans w),jX (f:=g) w,ih]
  | some y=>rw[km (f:=f) (e.trans w),km (f:=g) w,ih]
def lG (n:Nat)(E:Fs):List Fl:=(jd n).filterMap λi=>(E i).map λp=>⟨i,p.1,p.2⟩
theorem rD {n:Nat}{E:Fs}{f:Fl}:f∈lG n E↔f.h<n/\E f.h=Ga (f.a,f.m):=by
 unfold lG;rw[u6];constructor
 .rintro⟨i,hi,e⟩;obtain⟨p,hp,rfl⟩:=qU.mp e;exact⟨jn.mp hi,hp⟩
 .rintro⟨h1,h2⟩;exact⟨f.h,jn.mpr h1,by rw[h2];rfl⟩
theorem CS (n:Nat)(E:Fs):(lG n E).map Fl.h=(jd n).filter λi=>(E i).isSome:=by
 unfold lG;induction n with
 | zero=>rfl
 | succ n ih =>
  rw[kr,vm,jI,ih,kC];refine congrArg _ ?_;cases e:E n with
  | none=>rw[jX (by rw[e];rfl),kf (by rw[e];exact jw)];rfl
  | some p=>rw[km (by rw[e];rfl),jY (by rw[e];rfl)];rfl
theorem GI (n:Nat)(E:Fs):((lG n E).map Fl.h).Nodup:=by
 rw[CS];exact kX kD uo
theorem xE (n:Nat)(E:Fs):(lG n E).length=lj n E:=by
 unfold lj;rw[<- CS,jc]
theorem GO {fs:List Fl}(nd:(fs.map Fl.h).Nodup){f:Fl}(hf:f∈fs):nY fs f.h=Ga f:=by
 unfold nY;induction fs with
 | nil=>cases hf
 | cons g fs ih =>
  rw[jK,kg] at nd;rcases ju.mp hf with rfl|hf
  .rw[kF (by exact beq_self_eq_true _)]
  .rw[kA,ih nd.2 hf];intro z;rw[beq_iff_eq] at z;exact nd.1 (by rw[z];exact vD hf)
theorem Au {n:Nat}{E:Fs}{h:Nat}(hn:h<n):nY (lG n E) h=(E h).map λp=>⟨h,p.1,p.2⟩:=by
 cases e:E h with
 | some p =>
  have:=GO (GI n E) (f:=⟨h,p.1,p.2⟩) (rD.mpr ⟨hn,e⟩);exact this
 | none =>
  unfold nY;rw[vb.mpr]
  .rfl
  .intro f hf z;rw[beq_iff_eq] at z;obtain⟨_,h2⟩:=rD.mp hf;rw[z,e] at h2;cases h2
theorem Ko {n:Nat}{E:Fs}{h:Nat}(hn:h<n)(r:Int):up (lG n E) h r=nk E h r:=by
 unfold up nk;rw[Au hn];cases E h with
 | none=>rfl
 | some p=>rfl
theorem ztN (n:Nat)(E:Fs)(h:Nat):(lG n E).filter (λf=>!(f.h==h))=lG n (iW E h Gb):=by
 unfold lG;induction n with
 | zero=>rfl
 | succ n ih =>
  rw[kr,vm,vm,kC,ih];refine congrArg _ ?_;by_cases c:n=h
  .subst c;cases e:E n with
   | none=>rw[jX (by rw[e];rfl),jX (by rw[nE];rfl)];rfl
   | some p =>
    rw[km (by rw[e];rfl),jX (by rw[nE];rfl)];rw[kf (by rw[beq_self_eq_true];decide)];rfl
  .cases e:E n with
   | none=>rw[jX (by rw[e];rfl),jX (by rw[mD c,e];rfl)];rfl
   | some p =>
    rw[km (by rw[e];rfl),km (by rw[mD c,e];rfl)];rw[jY (by rw[beq_eq_false_iff_ne.mpr c];rfl)];rfl
def vv (X:List Fl):List Fl:=(jd 5).filterMap λi=>nY X i
theorem Ke {X Y:List Fl}(nd:(X.map Fl.h).Nodup)(hY:∀ y∈Y,y∈X)(hs:Y.map Fl.h=(jd 5).filter λi=>(X.map Fl.h).contains i):Y=vv X:=by
 have e1:∀ Y:List Fl,(∀ y∈Y,y∈X)->Y=(Y.map Fl.h).filterMap λi=>nY X i:=by
  intro Y;induction Y with
  | nil=>exact λ_=>rfl
  | cons y Y ih =>
   intro h;rw[jK,km (GO nd (h y jf)),<- ih λz hz=>h z (jh _ hz)]
 rw[e1 Y hY,hs];unfold vv;have e2:∀ l:List Nat,(l.filter λi=>(X.map Fl.h).contains i).filterMap (λi=>nY X i)=l.filterMap λi=>nY X i:=by
  intro l;induction l with
  | nil=>rfl
  | cons i l ih =>
   by_cases c:(X.map Fl.h).contains i=true
   .rw[jY c];cases e:nY X i with
    | none=>rw[jX e,jX e];exact ih
    | some f=>rw[km e,km e,ih]
   .rw[kf c,ih];have:nY X i=Gb:=by
     unfold nY;refine vb.mpr λf hf z=>c ?_;rw[beq_iff_eq] at z;rw[jC,<- z];exact vD hf
    rw[jX this]
 exact e2 _
theorem zv1 {n:Nat}{E:Fs}{h:Nat}{a:Int}{m:Nat}(h5:n<=5)(hn:h<n):vv (lG n (iW E h Gb)++[⟨h,a,m⟩])=lG n (iW E h (Ga (a,m))):=by
 have hlook:∀ i,nY (lG n (iW E h Gb)++[⟨h,a,m⟩]) i=if i<n then(iW E h (Ga (a,m)) i).map (λp=>(⟨i,p.1,p.2⟩:Fl)) else Gb:=λi=>by
  unfold nY;rw[List.find?_append];by_cases c:i<n
  .rw[Ge c];have:=Au (E:=iW E h Gb) c;unfold nY at this;rw[this];by_cases e:i=h
   .subst e;rw[nE,nE];rw[kF (by exact beq_self_eq_true _)];rfl
   .rw[mD e,mD e];cases E i with
    | some p=>rfl
    | none=>rw[kA (by intro z;rw[beq_iff_eq] at z;exact e z.symm)];rfl
  .rw[Gf c];rw[vb.mpr,kA (by intro z;rw[beq_iff_eq] at z;have z:h=i:=z;omega)]
   .rfl
   .intro f hf z;rw[beq_iff_eq] at z;have:=(rD.mp hf).1;omega
 unfold vv;rw[show(λi=>nY (lG n (iW E h Gb)++[⟨h,a,m⟩]) i)=λi=>if i<n then(iW E h (Ga (a,m)) i).map (λp=>(⟨i,p.1,p.2⟩:Fl)) else Gb from funext hlook];unfold lG;have key:∀ k,n<=k->(jd k).filterMap (λi=>if i<n then(iW E h (Ga (a,m)) i).map (λp=>(⟨i,p.1,p.2⟩:Fl)) else Gb)=(jd n).filterMap λi=>(iW E h (Ga (a,m)) i).map λp=>(⟨i,p.1,p.2⟩:Fl):=by
  intro k;induction k with
  | zero =>
   intro hk;obtain rfl:n=0:=by omega
   rfl
  | succ k ih =>
   intro hk;by_cases c:n=k+1
   .subst c;exact Ou λi hi=>Ge (jn.mp hi)
   .rw[kr,vm,ih (by omega),jX (by rw[Gf (by omega)])];exact kz _
 exact key 5 h5
abbrev Rn:=(Nat->Int)×Fs
def Aw (n:Nat)(r:Rn)(k i:Nat):D:=ox n (λj=>.int (r.1 j)) r.2 k i
def sK (n k:Nat)(r1 r2:Rn):Prop:=∃ i,i<n/\r1.2 i=Gb/\r2.2 i=Gb/\Aw n r1 k i=Aw n r2 k i
theorem sK.symm {n k:Nat}{r1 r2:Rn}(h:sK n k r1 r2):sK n k r2 r1:=by
 obtain⟨i,h1,h2,h3,h4⟩:=h;exact⟨i,h1,h3,h2,h4.symm⟩
theorem GG {α β:Type}{R:α->α->Prop}{Q:β->β->Prop}(f:α->β)(h:∀ a b,R a b->Q (f a) (f b)):∀ {l:List α},sW R l->sW Q (l.map f)
 | [],_=>trivial
 | [_],_=>trivial
 | a::b::r,c=>⟨h a b c.1,GG f h (l:=b::r) c.2⟩
def mZ:Fs:=λ_=>Gb
def rN (v:Nat->Int)(h:Nat)(x:Int):Nat->Int:=λi=>if i=h then x else v i
def wj (n k d:Nat)(v v':Nat->Int)(E E':Fs)(h:Nat):List Rn:=(mT n k d E h).map (λF=>(v,F))++((mT n k d E' h).map λF=>(v',F)).reverse
def sJ (n k:Nat)(new:Nat->Int)(p:List Rn)(h:Nat):List Rn :=
 if (p.getLastD (new,mZ)).1 h=new h then p else p++(wj n k k (p.getLastD (new,mZ)).1 (rN (p.getLastD (new,mZ)).1 h (new h)) (p.getLastD (new,mZ)).2 (p.getLastD (new,mZ)).2 h).tail
structure oo (n k t:Nat)(a b:Rn)(P:List Rn):Prop where
 hd:P.head?=Ga a
 lst:P.getLast?=Ga b
 ok:∀ r∈P,Ok n r.2 5
 cnt:∀ r∈P,lj n r.2<=t
 chn:sW (sK n k) P
 num:∀ r∈P,∀ i,r.1 i=a.1 i\/r.1 i=b.1 i
theorem AB (n:Nat):lj n mZ=0:=by
 unfold lj;rw[vN];exact ub.mpr λi _=>by unfold mZ;exact jw
theorem Cw (n a:Nat):Ok n mZ a:=⟨λ_ _ _ z=>(by cases z),λ_ _ _ z=>(by cases z),λ_ _ _ z=>(by cases z)⟩
theorem UI {n k d:Nat}(h2:2<=n)(h5:n<=5)(k4:k<=4){v v':Nat->Int}{E E':Fs}{h:Nat}(hd:d<=k)(hh:h<n)(e1:E h=Gb)(e2:E' h=Gb)(o1:Ok n E (k+1-d))(o2:Ok n E' (k+1-d))(c1:lj n E+d+2<=n)(c2:lj n E'+d+2<=n){t:Nat}(t1:lj n E+d<=t)(t2:lj n E'+d<=t)
  (mid:∀ i,i≠h->Aw n (v,iW E h (nW k (k-d))) k i=Aw n (v',iW E' h (nW k (k-d))) k i\/n<=i) (non:∀ i,E i=Gb↔E' i=Gb):oo n k t (v,E) (v',E') (wj n k d v v' E E' h)/\(wj n k d v v' E E' h).length<=2*mG d:=by
 have enx:∀ F:Fs,iW F h (if d=0 then Gb else Ga (((k+1-d:Nat):Int),0))=iW F h (nW k (k-d)):=λF=>by
  unfold nW;by_cases c:d=0
  .rw[Ge c,Gf (by omega)]
  .rw[Gf c,Ge (by omega)];have:((k+1-d:Nat):Int)=((k-d:Nat):Int)+1:=by omega
   rw[this]
 obtain⟨A1,l1⟩:=zo (ns:=λj=>.int (v j)) (k:=k) h2 h5 d E h hd hh e1 o1 c1;obtain⟨A2,l2⟩:=zo (ns:=λj=>.int (v' j)) (k:=k) h2 h5 d E' h hd hh e2 o2 c2;rw[enx] at A1 A2;unfold wj;refine⟨⟨?_,?_,λr hr=>?_,λr hr=>?_,?_,λr hr i=>?_⟩,?_⟩
 .exact Bi (by rw[Jt,A1.hd];rfl)
 .rw[uP,vj,Jt,A2.hd];rfl
 .rcases jV.mp hr with z|z
  .obtain⟨F,hF,rfl⟩:=jx.mp z;exact(A1.ok F hF).mono (by omega)
  .obtain⟨F,hF,rfl⟩:=jx.mp (uk.mp z);exact(A2.ok F hF).mono (by omega)
 .rcases jV.mp hr with z|z
  .obtain⟨F,hF,rfl⟩:=jx.mp z;exact jk (A1.cnt F hF) t1
  .obtain⟨F,hF,rfl⟩:=jx.mp (uk.mp z);exact jk (A2.cnt F hF) t2
 .refine Bc (GG (Q:=sK n k) (λF=>(v,F)) (λa b ab=>ab) A1.chn) (GN (R:=sK n k) (λ_ _=>sK.symm) (GG (Q:=sK n k) (λF=>(v',F)) (λa b ab=>ab) A2.chn)) λa b ha hb=>?_;rw[ku,A1.lst] at ha;cases ha;rw[qw,ku,A2.lst] at hb;cases hb;have c3:=A1.cnt _ (vo A1.lst);obtain⟨i,i1,i2,i3⟩:=BL (n:=n) (E:=iW E h (nW k (k-d))) (by omega) h;rw[mD i2] at i3;exact⟨i,i1,by show iW E h _ i=Gb;rw[mD i2];exact i3,by show iW E' h _ i=Gb;rw[mD i2];exact(non i).mp i3,(mid i i2).resolve_right (by omega)⟩
 .rcases jV.mp hr with z|z
  .obtain⟨F,hF,rfl⟩:=jx.mp z;exact .inl rfl
  .obtain⟨F,hF,rfl⟩:=jx.mp (uk.mp z);exact .inr rfl
 .rw[jg,kJ,jc,jc];omega
theorem Pp {n k:Nat}(h2:2<=n)(h5:n<=5)(hk:k+2<=n)(v new:Nat->Int):∀ m,m<=n->∃ w,(∀ i,w i=if i<m then new i else v i)/\oo n k k (v,mZ) (w,mZ) ((jd m).foldl (sJ n k new) [(v,mZ)])/\((jd m).foldl (sJ n k new) [(v,mZ)]).length<=1+m*(2*mG k)
 | 0,_=>⟨v,λi=>by rw[Gf (vf i)],⟨rfl,rfl,λr hr=>(by rw[jo.mp hr];exact Cw n _),λr hr=>(by rw[jo.mp hr];show lj n mZ<=k;rw[AB];exact j5 _),trivial,λr hr i=>(by rw[jo.mp hr];exact .inl rfl)⟩,by show 1<=1+0*(2*mG k);omega⟩
 | m+1,hm=>by
  obtain⟨w,hw,H,hl⟩:=Pp h2 h5 hk v new m (by omega);rw[kr,uQ];show ∃ w',_/\oo n k k (v,mZ) (w',mZ) (sJ n k new ((jd m).foldl (sJ n k new) [(v,mZ)]) m)/\(sJ n k new ((jd m).foldl (sJ n k new) [(v,mZ)]) m).length<=_;generalize (jd m).foldl (sJ n k new) [(v,mZ)]=p at H hl;have el:p.getLastD (new,mZ)=(w,mZ):=yw H.lst;unfold sJ;rw[el];dsimp only;by_cases c:w m=new m
  .rw[Ge c];refine⟨w,λi=>?_,H,by rw[uZ];omega⟩;by_cases e:i=m
   .subst e;rw[c,Ge (kR i)]
   .rw[hw i];by_cases e2:i<m
    .rw[Ge e2,Ge (by omega)]
    .rw[Gf e2,Gf (by omega)]
  .rw[Gf c];have S:=UI (n:=n) (k:=k) (d:=k) h2 h5 (by omega) (v:=w) (v':=rN w m (new m)) (E:=mZ) (E':=mZ) (h:=m) (jj _) (by omega) rfl rfl (Cw _ _) (Cw _ _) (by rw[AB];omega) (by rw[AB];omega) (t:=k) (by rw[AB];omega) (by rw[AB];omega) (λi hi=>by
    by_cases hn:i<n
    .refine .inl ?_;have C:=zGt (n:=n) (ns1:=λj=>jb (w j)) (ns2:=λj=>jb (rN w m (new m) j)) (E:=iW mZ m (nW k (k-k))) (k:=k) (h:=m) (λj hj=>by unfold rN;rw[Gf hj]) (by rw[nE,Nat.sub_self]);exact(Am C k (jj _)).1 i hn (beq_eq_false_iff_ne.mpr hi)
    .exact .inr (by omega)) (λ_=>Iff.rfl)
   obtain⟨S,sl⟩:=S;generalize wj n k k w (rN w m (new m)) mZ mZ m=q at S sl;refine⟨rN w m (new m),λi=>?_,⟨Bi H.hd,Nu H.lst S.hd S.lst,λr hr=>?_,λr hr=>?_,Le H.lst S.hd H.chn S.chn,λr hr i=>?_⟩,?_⟩
   .unfold rN;by_cases e:i=m
    .subst e;rw[Ge rfl,Ge (kR i)]
    .rw[Gf e,hw i];by_cases e2:i<m
     .rw[Ge e2,Ge (by omega)]
     .rw[Gf e2,Gf (by omega)]
   .rcases jV.mp hr with z|z
    .exact H.ok r z
    .exact S.ok r (kQ z)
   .rcases jV.mp hr with z|z
    .exact H.cnt r z
    .exact S.cnt r (kQ z)
   .have W:∀ j,w j=v j\/w j=rN w m (new m) j:=λj=>by
     by_cases e:j=m
     .left;subst e;rw[hw j,Gf (jU j)]
     .right;unfold rN;rw[Gf e]
    rcases jV.mp hr with z|z
    .rcases H.num r z i with z|z
     .exact .inl z
     .rcases W i with y|y
      .exact .inl (z.trans y)
      .exact .inr (z.trans y)
    .rcases S.num r (kQ z) i with z|z
     .rcases W i with y|y
      .exact .inl (z.trans y)
      .exact .inr (z.trans y)
     .exact .inr z
   .rw[jg,ko,uZ];omega
theorem oo.one {n k t:Nat}{r:Rn}(o:Ok n r.2 5)(c:lj n r.2<=t):oo n k t r r [r] :=
 ⟨rfl,rfl,λx hx=>(by rw[jo.mp hx];exact o),λx hx=>(by rw[jo.mp hx];exact c),trivial,λx hx i=>(by rw[jo.mp hx];exact .inl rfl)⟩
theorem oo.join {n k t:Nat}{a b c:Rn}{p q:List Rn}(A:oo n k t a b p)(B:oo n k t b c q)(hv:a.1=b.1\/b.1=c.1):oo n k t a c (p++q.tail):=by
 refine⟨Bi A.hd,Nu A.lst B.hd B.lst,λr hr=>?_,λr hr=>?_,Le A.lst B.hd A.chn B.chn,λr hr i=>?_⟩
 .rcases jV.mp hr with z|z
  .exact A.ok r z
  .exact B.ok r (kQ z)
 .rcases jV.mp hr with z|z
  .exact A.cnt r z
  .exact B.cnt r (kQ z)
 .rcases jV.mp hr with z|z
  .rcases A.num r z i with y|y
   .exact .inl y
   .rcases hv with e|e
    .exact .inl (y.trans (congrFun e i).symm)
    .exact .inr (y.trans (congrFun e i))
  .rcases B.num r (kQ z) i with y|y
   .rcases hv with e|e
    .exact .inl (y.trans (congrFun e i).symm)
    .exact .inr (y.trans (congrFun e i))
   .exact .inr y
theorem oo.snoc {n k t:Nat}{a b c:Rn}{p:List Rn}(A:oo n k t a b p)(l:sK n k b c)(o:Ok n c.2 5)(h:lj n c.2<=t)(hv:b.1=c.1):oo n k t a c (p++[c]):=by
 have B:oo n k t b c [b,c]:=⟨rfl,rfl,λr hr=>?_,λr hr=>?_,⟨l,trivial⟩,λr hr i=>?_⟩
 .exact A.join B (.inr hv)
 .rcases ju.mp hr with rfl|hr
  .exact A.ok _ (vo A.lst)
  .rw[jo.mp hr];exact o
 .rcases ju.mp hr with rfl|hr
  .exact A.cnt _ (vo A.lst)
  .rw[jo.mp hr];exact h
 .rcases ju.mp hr with rfl|hr
  .exact .inl rfl
  .rw[jo.mp hr];exact .inr rfl
def mV (n:Nat)(E:Fs)(at_ i:Nat):Bool:=match E i with
 | some (a,m)=>decide (a=(at_:Int))&&((jd n).filter λj=>nk E j (at_:Int)).all λj=>bt m j
 | none=>false
def oq (n:Nat)(E:Fs)(at_:Nat):List Nat:=(jd n).filter (mV n E at_)
def wd (k at_:Nat)(E:Fs)(l:List Nat):Fs:=l.foldl (λF h=>iW F h (nW k at_)) E
theorem RI (k at_:Nat):∀ (l:List Nat) (E:Fs) (i:Nat),wd k at_ E l i=if i∈l then nW k at_ else E i
 | [],E,i=>by rw[Gf kH];rfl
 | h::l,E,i=>by
  show wd k at_ (iW E h (nW k at_)) l i=_;rw[RI k at_ l];by_cases c:i∈l
  .rw[Ge c,Ge (jh _ c)]
  .rw[Gf c];by_cases e:i=h
   .subst e;rw[nE,Ge jf]
   .rw[mD e,Gf λz=>(ju.mp z).elim e c]
def wA (n k at_:Nat)(v:Nat->Int)(F:Fs)(h:Nat):List Rn:=((mT n k (k-at_) (iW F h Gb) h).map λG=>(v,G)).reverse
def CZ (n k at_:Nat)(v:Nat->Int)(E:Fs)(p:List Rn)(h:Nat):List Rn:=p++(wA n k at_ v (p.getLastD (v,E)).2 h).tail
def wn (n k at_:Nat)(v:Nat->Int)(E:Fs):List Rn:=(oq n E at_).foldl (CZ n k at_ v E) (if (oq n E at_).length>0 then[(v,E)]++[(v,wd k at_ E (oq n E at_))] else[(v,E)])
theorem zY {n:Nat}{E:Fs}{at_ i:Nat}(h:mV n E at_ i=true):∃ m,E i=Ga ((at_:Int),m)/\∀ j,j<n->nk E j (at_:Int)=true->bt m j=true:=by
 unfold mV at h;split at h
 .rename_i a m e;rw[jG,decide_eq_true_eq,jH] at h;obtain⟨rfl,h⟩:=h;exact⟨m,e,λj hj hu=>h j (jD.mpr ⟨jn.mpr hj,hu⟩)⟩
 .cases h
theorem RA {k at_:Nat}{a:Int}{m:Nat}(h:nW k at_=Ga (a,m)):a=(at_:Int)+1/\m=0:=by
 unfold nW at h;split at h<;>cases h;exact⟨rfl,rfl⟩
theorem zFe {n k at_ t:Nat}(h2:2<=n)(h5:n<=5)(k4:k<=4)(hat:at_<=k){v:Nat->Int}{F:Fs}{h:Nat}(hh:h<n)(e:F h=nW k at_)(o:Ok n (iW F h Gb) (at_+1))(c:lj n (iW F h Gb)+(k-at_)<=t)(ht:t+2<=n) :
  oo n k t (v,F) (v,iW F h Gb) (wA n k at_ v F h)/\(wA n k at_ v F h).length<=mG (k-at_):=by
 obtain⟨A,l⟩:=zo (ns:=λj=>.int (v j)) (k:=k) h2 h5 (k-at_) (iW F h Gb) h (by omega) hh nE (o.mono (by omega)) (by omega);have eT:iW (iW F h Gb) h (if k-at_=0 then Gb else Ga (((k+1-(k-at_):Nat):Int),0))=F:=by
  rw[Eh]
  funext i
  by_cases z:i=h
  .subst z;rw[nE,e];unfold nW;by_cases y:k-at_=0
   .rw[Ge y,Gf (by omega)]
   .rw[Gf y,Ge (by omega)];have:((k+1-(k-at_):Nat):Int)=(at_:Int)+1:=by omega
    rw[this]
  .rw[mD z]
 rw[eT] at A;unfold wA;refine⟨⟨?_,?_,λr hr=>?_,λr hr=>?_,?_,λr hr i=>?_⟩,?_⟩
 .rw[qw,ku,A.lst];rfl
 .rw[vj,Jt,A.hd];rfl
 .obtain⟨G,hG,rfl⟩:=jx.mp (uk.mp hr);exact(A.ok G hG).mono (by omega)
 .obtain⟨G,hG,rfl⟩:=jx.mp (uk.mp hr);exact jk (A.cnt G hG) c
 .exact GN (R:=sK n k) (λ_ _=>sK.symm) (GG (Q:=sK n k) (λF=>(v,F)) (λa b ab=>ab) A.chn)
 .obtain⟨G,hG,rfl⟩:=jx.mp (uk.mp hr);exact .inl rfl
 .rw[kJ,jc];exact l
def pi {α:Type}(Step:α->Nat->α->Prop):List Nat->α->α->Prop
 | [],p,q=>q=p
 | h::l,p,q=>∃ p',Step p h p'/\pi Step l p' q
structure Di (n k at_:Nat)(v:Nat->Int)(t:Nat)(p:List Rn)(h:Nat)(p':List Rn):Prop where
 w:∃ F:Fs,p.getLast?=Ga (v,F)/\h<n/\F h=nW k at_/\Ok n (iW F h Gb) (at_+1)/\lj n (iW F h Gb)+(k-at_)<=t/\p'=p++(wA n k at_ v F h).tail
def lV (n:Nat)(E:Fs)(at_:Nat):Fs:=λi=>if mV n E at_ i=true then Gb else E i
theorem Gx {n k at_ t:Nat}(h2:2<=n)(h5:n<=5)(k4:k<=4)(h1:1<=at_)(hat:at_<=k){v:Nat->Int}{E:Fs}(o:Ok n E at_)(c:lj n E<=t)(ht:t+2<=n)(hc:(∃ i,mV n E at_ i=true)->lj n E+(k-at_)<=t+1) :
  (oo n k t (v,E) (v,lV n E at_) (wn n k at_ v E)/\(wn n k at_ v E).length<=2+5*mG (k-at_))/\pi (Di n k at_ v t) (oq n E at_) (if (oq n E at_).length>0 then[(v,E)]++[(v,wd k at_ E (oq n E at_))] else[(v,E)]) (wn n k at_ v E):=by
 have hM:∀ i,i∈oq n E at_->i<n/\mV n E at_ i=true:=λi hi=>⟨jn.mp (jD.mp hi).1,(jD.mp hi).2⟩;have hI:∀ i,mV n E at_ i=true->i∈oq n E at_:=λi hi=>by
  obtain⟨m,e,_⟩:=zY hi;exact jD.mpr ⟨jn.mpr (o.hnd i _ _ e),hi⟩
 have hN:(oq n E at_).Nodup:=kX kD uo;have hL:(oq n E at_).length<=5:=by
  unfold oq;exact jk (jW _ _) (by rw[jE];exact h5)
 unfold wn;generalize oq n E at_=hs at hM hI hN hL;by_cases h0:hs=[]
 .subst h0;have eE:lV n E at_=E:=by
   funext i
   unfold lV;rw[Gf λz=>by cases hI i z]
  rw[eE];exact⟨⟨oo.one (o.mono (by omega)) c,by show 1<=_;omega⟩,rfl⟩
 .have hl0:hs.length>0:=Jw.mpr h0;rw[Ge hl0];have hc:=hc (by
   cases hs with
   | nil=>exact absurd rfl h0
   | cons a r=>exact⟨a,(hM a jf).2⟩)
  have hx:=RI k at_ hs E;generalize wd k at_ E hs=X at hx;have hxS:∀ i,(X i).isSome=true->(E i).isSome=true:=λi hi=>by
   rw[hx i] at hi;by_cases z:i∈hs
   .obtain⟨m,e,_⟩:=zY (hM i z).2;rw[e];rfl
   .rw[Gf z] at hi;exact hi
  have okX:∀ F:Fs,(∀ i,F i=Gb\/F i=E i\/F i=nW k at_/\i<n)->Ok n F (at_+1):=λF hF=>by
   refine⟨λi a m e=>?_,λi a m e=>?_,λi a m e=>?_⟩<;>rcases hF i with z|z|⟨z,y⟩<;>rw[e] at z
   .cases z
   .have:=o.rnd i a m z.symm;omega
   .obtain⟨rfl,_⟩:=RA z.symm;omega
   .cases z
   .exact o.hnd i a m z.symm
   .exact y
   .cases z
   .exact o.msk i a m z.symm
   .obtain⟨_,rfl⟩:=RA z.symm;exact⟨Nat.two_pow_pos n,Vz i⟩
  have lnk:sK n k (v,E) (v,X):=by
   obtain⟨i,i1,i2,i3⟩:=BL (n:=n) (E:=E) (by omega) n;have ni:i∉hs:=λz=>by
    obtain⟨m,e,_⟩:=zY (hM i z).2;rw[i3] at e;cases e
   have eX:X i=Gb:=by rw[hx i,Gf ni];exact i3
   refine⟨i,i1,i3,eX,?_⟩;have A:=MN (n:=n) (ns:=λj=>jb (v j)) (E1:=X) (E2:=E) (k:=k) (at_:=at_) (λj=>hs.contains j)
    (λj hj=>by rw[jC] at hj;rw[hx j,Ge hj]) (λj hj=>by
     rw[jC] at hj;obtain⟨m,e,hm⟩:=zY (hM j hj).2;refine⟨m,e,λy hy y1 y2=>hm y hy ?_⟩;have ny:y∉hs:=λz=>by rw[<- jC,y1] at z;cases z
     rw[<- An (E:=X) (by rw[hx y,Gf ny])];exact y2) (λj hj=>by
     have nj:j∉hs:=λz=>by rw[<- jC,hj] at z;cases z
     rw[hx j,Gf nj])
   exact((Am A k (jj _)).1 i i1 (by rw[<- jT,jC];exact ni)).symm
  have P0:oo n k t (v,E) (v,X) ([(v,E)]++[(v,X)]):=(oo.one (r:=(v,E)) (o.mono (by omega)) c).snoc lnk ((okX X λi=>by
   by_cases z:i∈hs
   .exact .inr (.inr ⟨by rw[hx i,Ge z],(hM i z).1⟩)
   .exact .inr (.inl (by rw[hx i,Gf z]))).mono (by omega)) (jk (Bs hxS) c) rfl
  have L:∀ (l:List Nat) (F:Fs) (p:List Rn),l.Nodup->(∀ i∈l,i∈hs)->(∀ i,F i=if i∈hs/\i∉l then Gb else X i)->oo n k t (v,E) (v,F) p ->
    oo n k t (v,E) (v,lV n E at_) (l.foldl (CZ n k at_ v E) p)/\(l.foldl (CZ n k at_ v E) p).length<=p.length+l.length*mG (k-at_)/\pi (Di n k at_ v t) l p (l.foldl (CZ n k at_ v E) p):=by
   intro l;induction l with
   | nil =>
    intro F p _ _ hF H;have eF:F=lV n E at_:=by
     funext i
     rw[hF i];unfold lV;by_cases z:mV n E at_ i=true
     .rw[Ge ⟨hI i z,kH⟩,Ge z]
     .rw[Gf (λy=>z (hM i y.1).2),Gf z,hx i,Gf λy=>z (hM i y).2]
    rw[<- eF];exact⟨H,by rw[uw];omega,rfl⟩
   | cons h l ih =>
    intro F p nd hl hF H;have hh:=hl h jf;have nd':=kg.mp nd;have eh:F h=nW k at_:=by rw[hF h,Gf λz=>z.2 jf,hx h,Ge hh]
    have hFX:∀ i,F i=Gb\/F i=E i\/F i=nW k at_/\i<n:=λi=>by
     rw[hF i];by_cases z:i∈hs/\i∉h::l
     .rw[Ge z];exact .inl rfl
     .rw[Gf z,hx i];by_cases y:i∈hs
      .rw[Ge y];exact .inr (.inr ⟨rfl,(hM i y).1⟩)
      .rw[Gf y];exact .inr (.inl rfl)
    have hF0:∀ i,iW F h Gb i=Gb\/iW F h Gb i=E i\/iW F h Gb i=nW k at_/\i<n:=λi=>by
     by_cases z:i=h
     .subst z;rw[nE];exact .inl rfl
     .rw[mD z];exact hFX i
    have cl:lj n (iW F h Gb)+1<=lj n E:=by
     obtain⟨m,e,_⟩:=zY (hM h hh).2;refine SZ (h:=h) (hM h hh).1 (λi hi=>?_) (by rw[e];rfl) nE;by_cases z:i=h
     .subst z;rw[e];rfl
     .rw[mD z,hF i] at hi;by_cases y:i∈hs/\i∉h::l
      .rw[Ge y] at hi;cases hi
      .rw[Gf y] at hi;exact hxS i hi
    have cS:lj n (iW F h Gb)+(k-at_)<=t:=by omega
    have hst:Di n k at_ v t p h (p++(wA n k at_ v F h).tail):=⟨F,H.lst,(hM h hh).1,eh,okX _ hF0,cS,rfl⟩;obtain⟨R,rl⟩:=zFe (t:=t) h2 h5 k4 hat (v:=v) (F:=F) (hM h hh).1 eh (okX _ hF0) (by omega) ht;have el:p.getLastD (v,E)=(v,F):=yw H.lst;have step:CZ n k at_ v E p h=p++(wA n k at_ v F h).tail:=by unfold CZ;rw[el]
    rw[kW,step];generalize wA n k at_ v F h=q at R rl hst;have N:=ih (iW F h Gb) (p++q.tail) nd'.2 (λi hi=>hl i (jh _ hi)) (λi=>by
     by_cases z:i=h
     .subst z;rw[nE,Ge ⟨hh,nd'.1⟩]
     .rw[mD z,hF i];by_cases y:i∈hs/\i∉l
      .rw[Ge y,Ge ⟨y.1,λw=>(ju.mp w).elim z y.2⟩]
      .rw[Gf y,Gf λw=>y ⟨w.1,λu=>w.2 (jh _ u)⟩]) (H.join R (.inl rfl))
    refine⟨N.1,jk N.2.1 ?_,_,hst,N.2.2⟩;rw[jg,ko,jM,uZ];omega
  obtain⟨r1,r2,r3⟩:=L hs X _ hN (λ_ h=>h) (λi=>by rw[Gf λz=>z.2 z.1]) P0;refine⟨⟨r1,jk r2 ?_⟩,r3⟩;have:hs.length*mG (k-at_)<=5*mG (k-at_):=ux _ hL;show 2+_<=_;omega
def oG (n:Nat)(E:Fs)(at_:Nat):List Nat:=(jd n).filter λj=>nk E j (at_:Int)
def Ck (n k at_:Nat)(v:Nat->Int)(E:Fs)(h:Nat)(p:List Rn)(to:Nat):List Rn:=match (p.getLastD (v,E)).2 h with
 | some (_,m)=>if bt m to=true then p else p++(wj n k (k-at_) v v (p.getLastD (v,E)).2 (rf (p.getLastD (v,E)).2 h to) to).tail
 | none=>p
def wR (n k at_:Nat)(v:Nat->Int)(E:Fs)(h:Nat):List Rn:=(oG n E at_).foldl (Ck n k at_ v E h) [(v,E)]
theorem Ug:∀ (m:Fin 32) (b t:Fin 5),bt (nR m.val b.val) t.val=if t.val=b.val then !bt m.val t.val else bt m.val t.val:=by nofun
theorem Fm:∀ (m:Fin 32) (b:Fin 5),nR m.val b.val<32/\(b.val<4->m.val<16->nR m.val b.val<16)/\(b.val<3->m.val<8->nR m.val b.val<8)/\(b.val<2->m.val<4->nR m.val b.val<4):=by nofun
theorem Xc {n m b:Nat}(h2:2<=n)(h5:n<=5)(hm:m<2^n)(hb:b<n):nR m b<2^n:=by
 have:n=2\/n=3\/n=4\/n=5:=by omega
 rcases this with rfl|rfl|rfl|rfl
 .exact(Fm ⟨m,by omega⟩ ⟨b,by omega⟩).2.2.2 hb hm
 .exact(Fm ⟨m,by omega⟩ ⟨b,by omega⟩).2.2.1 hb hm
 .exact(Fm ⟨m,by omega⟩ ⟨b,by omega⟩).2.1 hb hm
 .exact(Fm ⟨m,by omega⟩ ⟨b,by omega⟩).1
theorem Gq {n:Nat}(h5:n<=5):2^n<=32:=uv (by decide) h5
theorem Tq {m t:Nat}(hm:m<32)(ht:5<=t):bt m t=false:=by
 unfold bt;have:(m:Int)/2^t=0:=by
  refine qW (by omega) ?_;have e1:(2:Nat)^5<=2^t:=uv (by decide) ht;have e2:((2^t:Nat):Int)=(2:Int)^t:=Int.natCast_pow 2 t;rw[<- e2];omega
 rw[this];rfl
theorem Ov {m b t:Nat}(hm:m<32)(hb:b<5)(ht:t≠b):bt (nR m b) t=bt m t:=by
 by_cases t5:t<5
 .have:=Ug ⟨m,hm⟩ ⟨b,hb⟩ ⟨t,t5⟩;rw[Gf ht] at this;exact this
 .rw[Tq hm (by omega),Tq (Fm ⟨m,hm⟩ ⟨b,hb⟩).1 (by omega)]
theorem VB {m b:Nat}(hm:m<32)(hb:b<5):bt (nR m b) b=!bt m b:=by
 have:=Ug ⟨m,hm⟩ ⟨b,hb⟩ ⟨b,hb⟩;rw[Ge rfl] at this;exact this
structure Dn (n k at_:Nat)(v:Nat->Int)(E:Fs)(h:Nat)(p:List Rn)(x:Nat)(p':List Rn):Prop where
 w:∃ m,p.getLast?=Ga (v,iW E h (Ga ((at_:Int),m)))/\m<2^n/\bt m h=false/\x<n/\x≠h/\E x=Gb/\((bt m x=true/\p'=p)\/(bt m x=false/\nR m x<2^n/\bt (nR m x) h=false/\p'=p++(wj n k (k-at_) v v (iW E h (Ga ((at_:Int),m))) (iW E h (Ga ((at_:Int),nR m x))) x).tail))
theorem Ul {n k at_ t:Nat}(h2:2<=n)(h5:n<=5)(k4:k<=4)(h1:1<=at_)(hat:at_<=k){v:Nat->Int}{E:Fs}(o:Ok n E at_)(ht:t+2<=n)(hc:lj n E+(k-at_)<=t){h m0:Nat}(e0:E h=Ga ((at_:Int),m0)) :
  ∃ m,m<2^n/\bt m h=false/\(∀ j,j<n->nk E j (at_:Int)=true->bt m j=true)/\oo n k t (v,E) (v,iW E h (Ga ((at_:Int),m))) (wR n k at_ v E h)/\(wR n k at_ v E h).length<=1+5*(2*mG (k-at_))/\pi (Dn n k at_ v E h) (oG n E at_) [(v,E)] (wR n k at_ v E h):=by
 have hh:=o.hnd _ _ _ e0;obtain⟨b0,n0⟩:=o.msk _ _ _ e0;have p32:=Gq h5;have hM:∀ i,i∈oG n E at_->i<n/\nk E i (at_:Int)=true:=λi hi=>⟨jn.mp (jD.mp hi).1,(jD.mp hi).2⟩;have hI:∀ i,i<n->nk E i (at_:Int)=true->i∈oG n E at_:=λi hi hu=>jD.mpr ⟨jn.mpr hi,hu⟩;have hN:(oG n E at_).Nodup:=kX kD uo;have hL:(oG n E at_).length<=5:=by
  unfold oG;exact jk (jW _ _) (by rw[jE];exact h5)
 have cU:∀ m,lj n (iW E h (Ga ((at_:Int),m)))=lj n E:=λm=>OB e0;have L:∀ (l:List Nat),(∀ i∈l,i<n/\nk E i (at_:Int)=true)->∀ (m:Nat) (p:List Rn),m<2^n->bt m h=false->oo n k t (v,E) (v,iW E h (Ga ((at_:Int),m))) p ->
   ∃ m',m'<2^n/\bt m' h=false/\(∀ j,bt m j=true->bt m' j=true)/\(∀ j∈l,bt m' j=true)/\oo n k t (v,E) (v,iW E h (Ga ((at_:Int),m'))) (l.foldl (Ck n k at_ v E h) p)/\(l.foldl (Ck n k at_ v E h) p).length<=p.length+l.length*(2*mG (k-at_))/\pi (Dn n k at_ v E h) l p (l.foldl (Ck n k at_ v E h) p):=by
  intro l;induction l with
  | nil=>exact λ_ m p h1 h2 H=>⟨m,h1,h2,λ_ z=>z,λ_ z=>(by cases z),H,by rw[uw];omega,rfl⟩
  | cons x l ih =>
   intro hl m p hm hb H;obtain⟨x1,x2⟩:=hl x jf;have xh:x≠h:=λz=>by
    subst z;rw[xz e0,decide_eq_true_eq] at x2;omega
   have ex:E x=Gb:=EC o x2;have el:p.getLastD (v,E)=(v,iW E h (Ga ((at_:Int),m))):=yw H.lst;have step:Ck n k at_ v E h p x=if bt m x=true then p else p++(wj n k (k-at_) v v (iW E h (Ga ((at_:Int),m))) (iW E h (Ga ((at_:Int),nR m x))) x).tail:=by
    unfold Ck;rw[el];have eT:rf (iW E h (Ga ((at_:Int),m))) h x=iW E h (Ga ((at_:Int),nR m x)):=by
     unfold rf;rw[nE];dsimp only;rw[Eh]
    dsimp only;rw[nE,eT]
   rw[kW,step];by_cases c:bt m x=true
   .rw[Ge c];obtain⟨m',a1,a2,a3,a4,a5,a6,a7⟩:=ih (λi hi=>hl i (jh _ hi)) m p hm hb H;refine⟨m',a1,a2,a3,λj hj=>?_,a5,by rw[jM,uZ];omega,_,⟨m,H.lst,hm,hb,x1,xh,ex,.inl ⟨c,rfl⟩⟩,a7⟩;rcases ju.mp hj with rfl|hj
    .exact a3 j c
    .exact a4 j hj
   .rw[Gf c];rw[jT] at c;have tm:=Xc h2 h5 hm x1;have tb:bt (nR m x) h=false:=by rw[Ov (by omega) (by omega) (ug xh)];exact hb
    have okU:∀ m,m<2^n->bt m h=false->Ok n (iW E h (Ga ((at_:Int),m))) at_:=λm a b=>o.upd hh (by omega) (kZ _) a b;have S:=UI (n:=n) (k:=k) (d:=k-at_) h2 h5 k4 (v:=v) (v':=v) (E:=iW E h (Ga ((at_:Int),m))) (E':=iW E h (Ga ((at_:Int),nR m x))) (h:=x) (by omega) x1 (by rw[mD xh];exact ex) (by rw[mD xh];exact ex)
     ((okU m hm hb).mono (by omega)) ((okU _ tm tb).mono (by omega)) (by rw[cU];omega) (by rw[cU];omega) (t:=t) (by rw[cU];omega) (by rw[cU];omega) (λi hi=>by
      by_cases hn:i<n
      .refine .inl ?_;have ek:k-(k-at_)=at_:=by omega
       rw[ek];have B:=TB (n:=n) (ns:=λj=>jb (v j)) (E1:=iW (iW E h (Ga ((at_:Int),m))) x (nW k at_)) (E2:=iW (iW E h (Ga ((at_:Int),nR m x))) x (nW k at_)) (k:=k) (at_:=at_) (h:=h) (to:=x) (m1:=m) (m2:=nR m x) (ug xh)
        (by rw[mD (ug xh),nE]) (by rw[mD (ug xh),nE]) (λt ht=>(Ov (by omega) (by omega) ht).symm) nE nE (λj j1 j2=>by rw[mD j2,mD j1,mD j2,mD j1])
       exact(Am B k (jj _)).1 i hn (beq_eq_false_iff_ne.mpr hi)
      .exact .inr (by omega)) (λi=>by
      by_cases z:i=h
      .subst z;rw[nE,nE];constructor<;>(intro y;cases y)
      .rw[mD z,mD z])
    obtain⟨S,sl⟩:=S;have mst:Dn n k at_ v E h p x (p++(wj n k (k-at_) v v (iW E h (Ga ((at_:Int),m))) (iW E h (Ga ((at_:Int),nR m x))) x).tail):=⟨m,H.lst,hm,hb,x1,xh,ex,.inr ⟨c,tm,tb,rfl⟩⟩;generalize wj n k (k-at_) v v (iW E h (Ga ((at_:Int),m))) (iW E h (Ga ((at_:Int),nR m x))) x=q at S sl mst;obtain⟨m',a1,a2,a3,a4,a5,a6,a7⟩:=ih (λi hi=>hl i (jh _ hi)) (nR m x) (p++q.tail) tm tb (H.join S (.inl rfl));refine⟨m',a1,a2,λj hj=>a3 j ?_,λj hj=>?_,a5,jk a6 ?_,_,mst,a7⟩
    .by_cases z:j=x
     .subst z;rw[VB (by omega) (by omega),c];rfl
     .rw[Ov (by omega) (by omega) z];exact hj
    .rcases ju.mp hj with rfl|hj
     .exact a3 j (by rw[VB (by omega) (by omega),c];rfl)
     .exact a4 j hj
    .rw[jg,ko,jM,uZ];omega
 have eE:iW E h (Ga ((at_:Int),m0))=E:=by
  funext i
  by_cases z:i=h
  .subst z;rw[nE,e0]
  .rw[mD z]
 obtain⟨m,a1,a2,a3,a4,a5,a6,a7⟩:=L (oG n E at_) hM m0 [(v,E)] b0 n0 (by rw[eE];exact oo.one (o.mono (by omega)) (by show lj n E<=t;omega));refine⟨m,a1,a2,λj hj hu=>a4 j (hI j hj hu),a5,jk a6 ?_,a7⟩;have:(oG n E at_).length*(2*mG (k-at_))<=5*(2*mG (k-at_)):=ux _ hL;show 1+_<=_;omega
def CD (n k at_:Nat)(v:Nat->Int)(E:Fs)(p:List Rn)(h:Nat):List Rn :=
 (p++(wR n k at_ v (p.getLastD (v,E)).2 h).tail)++(wn n k at_ v ((p++(wR n k at_ v (p.getLastD (v,E)).2 h).tail).getLastD (v,E)).2).tail
def wb (n:Nat)(E:Fs)(at_:Nat):List Nat:=(jd n).filter λi=>match E i with
 | some (a,_)=>decide (a=(at_:Int))
 | none=>false
def Af (n k at_:Nat)(v:Nat->Int)(E:Fs):List Rn:=(wb n ((wn n k at_ v E).getLastD (v,E)).2 at_).foldl (CD n k at_ v E) (wn n k at_ v E)
def lL (E:Fs)(at_:Nat):Fs:=λi=>match E i with
 | some (a,m)=>if a<(at_:Int) then Ga (a,m) else Gb
 | none=>Gb
structure Dy (n k at_:Nat)(v:Nat->Int)(t:Nat)(p:List Rn)(h:Nat)(p':List Rn):Prop where
 w:∃ (F:Fs) (m0 m:Nat),p.getLast?=Ga (v,F)/\Ok n F at_/\lj n F+(k-at_)<=t/\F h=Ga ((at_:Int),m0)/\(p++(wR n k at_ v F h).tail).getLast?=Ga (v,iW F h (Ga ((at_:Int),m)))/\Ok n (iW F h (Ga ((at_:Int),m))) at_/\lj n (iW F h (Ga ((at_:Int),m)))=lj n F/\p'=(p++(wR n k at_ v F h).tail)++(wn n k at_ v (iW F h (Ga ((at_:Int),m)))).tail
theorem SG {n k at_ t:Nat}(h2:2<=n)(h5:n<=5)(k4:k<=4)(h1:1<=at_)(hat:at_<=k){v:Nat->Int}{E:Fs}(o:Ok n E at_)(c:lj n E<=t)(ht:t+2<=n)(hc:(∃ i,mV n E at_ i=true)->lj n E+(k-at_)<=t+1)
  (hu:lj n (lV n E at_)+(k-at_)<=t\/∀ i,lV n E at_ i=lL E at_ i):(oo n k t (v,E) (v,lL E at_) (Af n k at_ v E)/\(Af n k at_ v E).length<=100*mG (k-at_))/\pi (Dy n k at_ v t) (wb n (lV n E at_) at_) (wn n k at_ v E) (Af n k at_ v E):=by
 obtain⟨⟨A,al⟩,_⟩:=Gx h2 h5 k4 h1 hat (v:=v) o c ht hc;have el0:(wn n k at_ v E).getLastD (v,E)=(v,lV n E at_):=yw A.lst;unfold Af;rw[el0];dsimp only;have hp:=RN (k-at_);have hM:∀ i,i∈wb n (lV n E at_) at_->∃ m j,lV n E at_ i=Ga ((at_:Int),m)/\E i=Ga ((at_:Int),m)/\j<n/\E j=Gb/\bt m j=false:=λi hi=>by
  obtain⟨x1,x2⟩:=jD.mp hi;have x1:=jn.mp x1;cases e:lV n E at_ i with
  | none=>rw[e] at x2;cases x2
  | some w =>
   obtain⟨a,m⟩:=w;rw[e] at x2;have ea:a=(at_:Int):=of_decide_eq_true x2;subst ea;have nh:mV n E at_ i=false:=by
    cases z:mV n E at_ i with
    | false=>rfl
    | true=>unfold lV at e;rw[Ge z] at e;cases e
   have eE:E i=Ga ((at_:Int),m):=by
    unfold lV at e;rw[nh,Gf jw] at e;exact e
   refine⟨m,?_⟩;have:∃ j,j<n/\nk E j (at_:Int)=true/\bt m j=false:=by
    refine ky λno=>?_;have:mV n E at_ i=true:=by
     unfold mV;rw[eE];dsimp only;rw[jG,decide_eq_true_eq,jH];refine⟨rfl,λj hj=>?_⟩;obtain⟨y1,y2⟩:=jD.mp hj;cases z:bt m j with
     | true=>rfl
     | false=>exact absurd ⟨j,jn.mp y1,y2,z⟩ no
    rw[nh] at this;cases this
   obtain⟨j,j1,j2,j3⟩:=this;exact⟨j,rfl,eE,j1,EC o j2,j3⟩
 have hN:(wb n (lV n E at_) at_).Nodup:=kX kD uo;have hL5:(wb n (lV n E at_) at_).length<=5:=by
  unfold wb;exact jk (jW _ _) (by rw[jE];exact h5)
 have hA:∀ i,i∉wb n (lV n E at_) at_->lV n E at_ i=lL E at_ i:=λi hi=>by
  unfold lL;cases e:E i with
  | none =>
   unfold lV;rw[e];split<;>rfl
  | some w =>
   obtain⟨a,m⟩:=w;dsimp only;have rb:=o.rnd i a m e;by_cases z:a<(at_:Int)
   .rw[Ge z];unfold lV;rw[Gf,e];intro y;obtain⟨m',e',_⟩:=zY y;rw[e] at e';cases e';omega
   .rw[Gf z];have ea:a=(at_:Int):=by omega
    cases y:mV n E at_ i with
    | true=>unfold lV;rw[Ge y]
    | false =>
     refine absurd (jD.mpr ⟨jn.mpr (o.hnd i a m e),?_⟩) hi;have:lV n E at_ i=Ga (a,m):=by unfold lV;rw[y,Gf jw,e]
     rw[this];exact Gc ea
 have yE:∀ F:Fs,(∀ i,F i=Gb\/F i=E i)->Ok n F at_:=λF hF=>by
  refine⟨λi a m e=>?_,λi a m e=>?_,λi a m e=>?_⟩<;>rcases hF i with z|z<;>rw[e] at z
  .cases z
  .exact o.rnd i a m z.symm
  .cases z
  .exact o.hnd i a m z.symm
  .cases z
  .exact o.msk i a m z.symm
 have hHE:∀ i,lV n E at_ i=Gb\/lV n E at_ i=E i:=λi=>by
  unfold lV;split
  .exact .inl rfl
  .exact .inr rfl
 have hcF:wb n (lV n E at_) at_≠[]->lj n (lV n E at_)+(k-at_)<=t:=λne=>by
  rcases hu with z|z
  .exact z
  .exfalso;cases e:wb n (lV n E at_) at_ with
   | nil=>exact ne e
   | cons i r =>
    have hi:i∈wb n (lV n E at_) at_:=by rw[e];exact jf
    obtain⟨m,j,e1,e2,_⟩:=hM i hi;have:=z i;rw[e1] at this;unfold lL at this;rw[e2] at this;dsimp only at this;rw[Gf (Jz _)] at this;cases this
 generalize wb n (lV n E at_) at_=hs at hM hN hL5 hA hcF;have L:∀ (l:List Nat) (F:Fs) (p:List Rn),l.Nodup->(∀ i∈l,i∈hs)->(∀ i,F i=if i∈hs/\i∉l then Gb else lV n E at_ i)->oo n k t (v,E) (v,F) p ->
   oo n k t (v,E) (v,lL E at_) (l.foldl (CD n k at_ v E) p)/\(l.foldl (CD n k at_ v E) p).length<=p.length+l.length*(18*mG (k-at_))/\pi (Dy n k at_ v t) l p (l.foldl (CD n k at_ v E) p):=by
  intro l;induction l with
  | nil =>
   intro F p _ _ hF H;have eF:F=lL E at_:=by
    funext i
    rw[hF i];by_cases z:i∈hs
    .rw[Ge ⟨z,kH⟩];obtain⟨m,j,_,e2,_⟩:=hM i z;unfold lL;rw[e2];dsimp only;rw[Gf (Jz _)]
    .rw[Gf λy=>z y.1];exact hA i z
   rw[<- eF];exact⟨H,by rw[uw];omega,rfl⟩
  | cons h l ih =>
   intro F p nd hl hF H;have hh:=hl h jf;have nd':=kg.mp nd;obtain⟨m0,w0,e1,e2,_,_,_⟩:=hM h hh;have eh:F h=Ga ((at_:Int),m0):=by rw[hF h,Gf λz=>z.2 jf];exact e1
   have hFE:∀ i,F i=Gb\/F i=E i:=λi=>by
    rw[hF i];split
    .exact .inl rfl
    .exact hHE i
   have oF:=yE F hFE;have cF:lj n F+(k-at_)<=t:=by
    have a:=hcF λz=>by rw[z] at hh;cases hh
    have b:lj n F<=lj n (lV n E at_):=Bs λi hi=>by
     rw[hF i] at hi;split at hi
     .cases hi
     .exact hi
    omega
   obtain⟨m,m1,m2,m3,B,bl,_⟩:=Ul h2 h5 k4 h1 hat (v:=v) oF ht cF eh;have o2:Ok n (iW F h (Ga ((at_:Int),m))) at_:=oF.upd (oF.hnd _ _ _ eh) (by omega) (kZ _) m1 m2;have c2:lj n (iW F h (Ga ((at_:Int),m)))=lj n F:=OB eh;have upS:∀ j,nk (iW F h (Ga ((at_:Int),m))) j (at_:Int)=nk F j (at_:Int):=λj=>by
    by_cases z:j=h
    .subst z;rw[xz nE,xz eh]
    .exact An (mD z) _
   have hrd:∀ i,mV n (iW F h (Ga ((at_:Int),m))) at_ i=true↔i=h:=λi=>by
    constructor
    .intro y;refine ky λz=>?_;obtain⟨m',e',y2⟩:=zY y;rw[mD z] at e';have ih2:i∈hs/\E i=Ga ((at_:Int),m'):=by
      have e3:E i=Ga ((at_:Int),m'):=by
       rcases hFE i with w|w
       .rw[e'] at w;cases w
       .rw[<- w];exact e'
      refine⟨ky λw=>?_,e3⟩;have:=hA i w;rw[hF i,Gf λq=>w q.1,this] at e';unfold lL at e';rw[e3] at e';dsimp only at e';rw[Gf (Jz _)] at e';cases e'
     obtain⟨m'',j,_,e4,j1,j2,j3⟩:=hM i ih2.1;rw[ih2.2] at e4;cases e4;have fj:F j=Gb:=by
      rcases hFE j with w|w
      .exact w
      .rw[w];exact j2
     have:=y2 j j1 (by rw[upS j];exact xB fj _);rw[j3] at this;cases this
    .rintro rfl;unfold mV;rw[nE];dsimp only;rw[jG,decide_eq_true_eq,jH];refine⟨rfl,λj hj=>?_⟩;obtain⟨y1,y2⟩:=jD.mp hj;exact m3 j (jn.mp y1) (by rw[<- upS j];exact y2)
   obtain⟨⟨C,cl⟩,_⟩:=Gx h2 h5 k4 h1 hat (v:=v) o2 (by omega) ht (λ_=>by omega);have eHl:lV n (iW F h (Ga ((at_:Int),m))) at_=iW F h Gb:=by
    funext i
    unfold lV;by_cases z:i=h
    .rw[Ge ((hrd i).mpr z)];subst z;rw[nE]
    .rw[Gf λy=>z ((hrd i).mp y),mD z,mD z]
   rw[eHl] at C;have el:p.getLastD (v,E)=(v,F):=yw H.lst;have J1:=H.join B (.inl rfl);have el2:(p++(wR n k at_ v F h).tail).getLastD (v,E)=(v,iW F h (Ga ((at_:Int),m))):=yw J1.lst;have step:CD n k at_ v E p h=(p++(wR n k at_ v F h).tail)++(wn n k at_ v (iW F h (Ga ((at_:Int),m)))).tail:=by
    unfold CD;rw[el];dsimp only;rw[el2]
   have rst:Dy n k at_ v t p h ((p++(wR n k at_ v F h).tail)++(wn n k at_ v (iW F h (Ga ((at_:Int),m)))).tail):=⟨F,m0,m,H.lst,oF,cF,eh,J1.lst,o2,c2,rfl⟩;rw[kW,step];generalize wn n k at_ v (iW F h (Ga ((at_:Int),m)))=q2 at C cl rst;generalize wR n k at_ v F h=q1 at B bl J1 rst;have N:=ih (iW F h Gb) _ nd'.2 (λi hi=>hl i (jh _ hi)) (λi=>by
    by_cases z:i=h
    .subst z;rw[nE,Ge ⟨hh,nd'.1⟩]
    .rw[mD z,hF i];by_cases y:i∈hs/\i∉l
     .rw[Ge y,Ge ⟨y.1,λw=>(ju.mp w).elim z y.2⟩]
     .rw[Gf y,Gf λw=>y ⟨w.1,λu=>w.2 (jh _ u)⟩]) (J1.join C (.inl rfl))
   refine⟨N.1,jk N.2.1 ?_,_,rst,N.2.2⟩;rw[jg,jg,ko,ko,jM,uZ];omega
 obtain⟨r1,r2,r3⟩:=L hs (lV n E at_) _ hN (λ_ h=>h) (λi=>by rw[Gf λz=>z.2 z.1]) A;refine⟨⟨r1,jk r2 ?_⟩,r3⟩;have:hs.length*(18*mG (k-at_))<=5*(18*mG (k-at_)):=ux _ hL5;omega
def pZ (n:Nat)(E F:Fs):Bool:=(jd n).all λi=>E i==F i
def tB (n k:Nat)(v:Nat->Int)(E:Fs)(p:List Rn)(s:Nat):List Rn:=p++(Af n k (k-s) v (p.getLastD (v,E)).2).tail
def zp (n k:Nat)(v:Nat->Int)(E:Fs):List Rn:=(jd k).foldl (tB n k v E) (if pZ n (lL E (k+1)) E=true then[(v,E)] else[(v,E)]++[(v,lL E (k+1))])
theorem zC6 {E:Fs}{a b:Nat}(h:b<=a):lL (lL E a) b=lL E b:=by
 funext i
 unfold lL;cases e:E i with
 | none=>rfl
 | some w =>
  obtain⟨x,m⟩:=w;dsimp only;by_cases z:x<(a:Int)
  .rw[Ge z]
  .rw[Gf z,Gf (by omega)]
theorem Oa {n:Nat}{E:Fs}{a:Nat}(o:Ok n E 5):Ok n (lL E (a+1)) a:=by
 have key:∀ i x m,lL E (a+1) i=Ga (x,m)->E i=Ga (x,m)/\x<((a+1:Nat):Int):=λi x m e=>by
  unfold lL at e;cases h:E i with
  | none=>rw[h] at e;cases e
  | some w =>
   obtain⟨y,l⟩:=w;rw[h] at e;dsimp only at e;by_cases z:y<((a+1:Nat):Int)
   .rw[Ge z] at e;cases e;exact⟨rfl,z⟩
   .rw[Gf z] at e;cases e
 exact⟨λi x m e=>⟨(o.rnd i x m (key i x m e).1).1,by have:=(key i x m e).2;omega⟩,λi x m e=>o.hnd i x m (key i x m e).1,λi x m e=>o.msk i x m (key i x m e).1⟩
theorem MU {n:Nat}{E:Fs}{a:Nat}:lj n (lL E a)<=lj n E:=Bs λi hi=>by
 unfold lL at hi;cases h:E i with
 | none=>rw[h] at hi;exact hi
 | some w=>rfl
structure AU (n k:Nat)(v:Nat->Int)(t:Nat)(p:List Rn)(s:Nat)(p':List Rn):Prop where
 w:∃ F:Fs,p.getLast?=Ga (v,F)/\1<=k-s/\k-s<=k/\Ok n F (k-s)/\lj n F<=t/\lj n F+(k-(k-s))<=t+1/\lj n (lV n F (k-s))+(k-(k-s))<=t/\p'=p++(Af n k (k-s) v F).tail
theorem Sa {α:Type}{Step:α->Nat->α->Prop}:∀ {l:List Nat} {p q r:α} {x:Nat},pi Step l p q->Step q x r->pi Step (l++[x]) p r
 | [],p,q,r,x,h,s=>by cases h;exact⟨r,s,rfl⟩
 | y::l,p,q,r,x,⟨p',h1,h2⟩,s=>⟨p',h1,Sa h2 s⟩
theorem Rp {n k t:Nat}(h2:2<=n)(h5:n<=5)(k4:k<=4){v:Nat->Int}{E:Fs}(o:Ok n E 5)(c:lj n E<=t)(ht:t+2<=n)(H1:∀ a,1<=a->a<=k->lj n (lL E (a+1))+(k-a)<=t+1)
  (H2:∀ a,1<=a->a<=k->lj n (lV n (lL E (a+1)) a)+(k-a)<=t):(oo n k t (v,E) (v,mZ) (zp n k v E)/\(zp n k v E).length<=2+k*(100*mG (k-1)))/\pi (AU n k v t) (jd k) (if pZ n (lL E (k+1)) E=true then[(v,E)] else[(v,E)]++[(v,lL E (k+1))]) (zp n k v E):=by
 have mono:∀ d e,d<=e->mG d<=mG e:=by
  intro d e h;induction e with
  | zero=>rw[Nat.le_zero.mp h];exact jj _
  | succ e ih =>
   by_cases z:d=e+1
   .rw[z];exact jj _
   .have:=ih (by omega);have q:mG (e+1)=mG e+1+4*(2*mG e-1):=rfl;omega
 have P0:oo n k t (v,E) (v,lL E (k+1)) (if pZ n (lL E (k+1)) E=true then[(v,E)] else[(v,E)]++[(v,lL E (k+1))]):=by
  by_cases z:pZ n (lL E (k+1)) E=true
  .rw[Ge z];have e:lL E (k+1)=E:=by
    funext i
    by_cases y:i<n
    .unfold pZ at z;rw[jH] at z;exact eq_of_beq (z i (jn.mpr y))
    .have:E i=Gb:=by
      cases w:E i with
      | none=>rfl
      | some u=>obtain⟨a,m⟩:=u;exact absurd (o.hnd i a m w) y
     unfold lL;rw[this]
   rw[e];exact oo.one o c
  .rw[Gf z];refine(oo.one (r:=(v,E)) o c).snoc ?_ ((Oa o).mono (by omega)) (jk MU c) rfl;obtain⟨i,i1,i2,i3⟩:=BL (n:=n) (E:=E) (by omega) n;have e0:lL E (k+1) i=Gb:=by unfold lL;rw[i3]
   refine⟨i,i1,i3,e0,?_⟩;have rS:∀ j r,r<=k->nk E j (r:Int)=nk (lL E (k+1)) j (r:Int):=λj r hr=>by
    cases w:E j with
    | none=>rw[xB w,xB (by unfold lL;rw[w])]
    | some u =>
     obtain⟨a,m⟩:=u;by_cases y:a<((k+1:Nat):Int)
     .exact An (by unfold lL;rw[w];dsimp only;rw[Ge y]) _
     .rw[xz w,xB (by unfold lL;rw[w];dsimp only;rw[Gf y])];exact Gc (by omega)
   have cms:∀ b t r,r<=k->og E b t (r:Int)=og (lL E (k+1)) b t (r:Int):=λj t r hr=>by
    cases w:E j with
    | none=>rw[GM w,GM (by unfold lL;rw[w])]
    | some u =>
     obtain⟨a,m⟩:=u;by_cases y:a<((k+1:Nat):Int)
     .exact Eu (by unfold lL;rw[w];dsimp only;rw[Ge y]) _ _
     .rw[yB w,GM (by unfold lL;rw[w];dsimp only;rw[Gf y]),Gc (by omega),k9]
   have A:EO n (λj=>jb (v j)) (λj=>jb (v j)) E (lL E (k+1)) (λ_=>false) 0 k :=
    ⟨λi r _ _ hr=>rS i r hr,λb t r _ _ _ _ hr _=>cms b t r hr,λ_ _ _ _ z=>(by cases z),λ_ _ _ _ z=>(by cases z),λ_ _ _ _ z=>(by cases z),λ_ _ _ z=>(by cases z),λ_ _ _ _ z=>(by cases z),λ_ _=>rfl⟩
   exact(Am A k (jj _)).1 i i1 rfl
 have L:∀ s,s<=k->oo n k t (v,E) (v,lL E (k-s+1)) ((jd s).foldl (tB n k v E) (if pZ n (lL E (k+1)) E=true then[(v,E)] else[(v,E)]++[(v,lL E (k+1))]))/\((jd s).foldl (tB n k v E) (if pZ n (lL E (k+1)) E=true then[(v,E)] else[(v,E)]++[(v,lL E (k+1))])).length<=2+s*(100*mG (k-1))/\pi (AU n k v t) (jd s) (if pZ n (lL E (k+1)) E=true then[(v,E)] else[(v,E)]++[(v,lL E (k+1))]) ((jd s).foldl (tB n k v E) (if pZ n (lL E (k+1)) E=true then[(v,E)] else[(v,E)]++[(v,lL E (k+1))])):=by
  intro s;induction s with
  | zero =>
   intro _;refine⟨P0,?_,rfl⟩;show(if _ then _ else _:List Rn).length<=_;split
   .show 1<=_;omega
   .show 2<=_;omega
  | succ s ih =>
   intro hs;obtain⟨H,hl,hR⟩:=ih (by omega);rw[kr,uQ];show oo n k t (v,E) _ (tB n k v E _ s)/\(tB n k v E _ s).length<=_/\pi (AU n k v t) (jd s++[s]) _ (tB n k v E _ s);generalize (jd s).foldl (tB n k v E) (if pZ n (lL E (k+1)) E=true then[(v,E)] else[(v,E)]++[(v,lL E (k+1))])=p at H hl hR;have el:p.getLastD (v,E)=(v,lL E (k-s+1)):=yw H.lst;unfold tB;rw[el];dsimp only;have gst:AU n k v t p s (p++(Af n k (k-s) v (lL E (k-s+1))).tail):=⟨_,H.lst,by omega,by omega,Oa o,jk MU c,H1 (k-s) (by omega) (by omega),H2 (k-s) (by omega) (by omega),rfl⟩;obtain⟨⟨R,rl⟩,_⟩:=SG (at_:=k-s) (t:=t) h2 h5 k4 (by omega) (by omega) (v:=v) (Oa o) (jk MU c) ht (λ_=>H1 (k-s) (by omega) (by omega)) (.inl (H2 (k-s) (by omega) (by omega)));rw[zC6 (by omega)] at R;have e:k-(s+1)+1=k-s:=by omega
   rw[e];refine⟨H.join R (.inl rfl),?_,Sa hR gst⟩;have:=mono (k-(k-s)) (k-1) (by omega);rw[jg,ko,uZ];omega
 obtain⟨r1,r2,r3⟩:=L k (jj k);have e:lL E (k-k+1)=mZ:=by
  funext i
  unfold lL mZ;cases w:E i with
  | none=>rfl
  | some u =>
   obtain⟨a,m⟩:=u;dsimp only;rw[Gf];have:=(o.rnd i a m w).1;omega
 rw[e] at r1;exact⟨⟨r1,r2⟩,r3⟩
def yO (hs:List Nat):Bool:=match tZ (λi j=>Ga (decide (hs.getD i 0<hs.getD j 0))) (vt hs.length) with
 | some p=>decide (p.size<=64)&&decide (p.toList.map (λi=>hs.getD i 0)=(jd 5).filter λi=>hs.contains i)&&p.toList.all λi=>decide (i<hs.length)
 | none=>false
theorem Wn:∀ a b:Fin 5,[a.val,b.val].Nodup->yO [a.val,b.val]=true:=by nofun
theorem WD:∀ a b c:Fin 5,[a.val,b.val,c.val].Nodup->yO [a.val,b.val,c.val]=true:=by nofun
theorem WJ:∀ a b c d:Fin 5,[a.val,b.val,c.val,d.val].Nodup->yO [a.val,b.val,c.val,d.val]=true:=by nofun
theorem VU:∀ a b c d e:Fin 5,[a.val,b.val,c.val,d.val,e.val].Nodup->yO [a.val,b.val,c.val,d.val,e.val]=true:=by nofun
theorem zC7 {hs:List Nat}(h2:2<=hs.length)(h5:hs.length<=5)(nd:hs.Nodup)(hb:∀ h∈hs,h<5):yO hs=true:=by
 match hs,h2,h5,nd,hb with
 | [a,b],_,_,nd,hb=>exact Wn ⟨a,hb a (by simp only[ju,true_or])⟩ ⟨b,hb b (by simp only[ju,true_or,or_true])⟩ nd
 | [a,b,c],_,_,nd,hb=>exact WD ⟨a,hb a (by simp only[ju,true_or])⟩ ⟨b,hb b (by simp only[ju,true_or,or_true])⟩ ⟨c,hb c (by simp only[ju,true_or,or_true])⟩ nd
 | [a,b,c,d],_,_,nd,hb=>exact WJ ⟨a,hb a (by simp only[ju,true_or])⟩ ⟨b,hb b (by simp only[ju,true_or,or_true])⟩ ⟨c,hb c (by simp only[ju,true_or,or_true])⟩ ⟨d,hb d (by simp only[ju,true_or,or_true])⟩ nd
 | [a,b,c,d,e],_,_,nd,hb=>exact VU ⟨a,hb a (by simp only[ju,true_or])⟩ ⟨b,hb b (by simp only[ju,true_or,or_true])⟩ ⟨c,hb c (by simp only[ju,true_or,or_true])⟩ ⟨d,hb d (by simp only[ju,true_or,or_true])⟩ ⟨e,hb e (by simp only[ju,true_or,or_true])⟩ nd
 | a::b::c::d::e::f::r,_,h5,_,_=>simp only[jM] at h5;omega
theorem Qn {n:Nat}{lt lt':Nat->Nat->Option Bool}(h:∀ i j,i<n->j<n->lt i j=lt' i j):∀ {t:qR (Array Nat)},BJ n t=true->tZ lt t=tZ lt' t
 | .ret p,_=>rfl
 | .ask i j k,c=>by
  unfold BJ at c;rw[jG,jG,jG,decide_eq_true_eq,decide_eq_true_eq] at c;obtain⟨⟨⟨h1,h2⟩,h3⟩,h4⟩:=c;show(lt i j).bind _=(lt' i j).bind _;rw[h i j h1 h2];cases lt' i j with
  | none=>rfl
  | some b =>
   show tZ lt (k b)=tZ lt' (k b);cases b with
   | true=>exact Qn h h3
   | false=>exact Qn h h4
def f0:Fl:=⟨0,0,0⟩
theorem zGv {f g:Fl}(h:f=g\/f.h≠g.h):CK (fd f) (fd g)=Ga (decide (f.h<g.h)):=by
 have e:CK (fd f) (fd g)=Ga (wv [(f.h:Int),f.a,(f.m:Int)] [(g.h:Int),g.a,(g.m:Int)]):=Sb [(f.h:Int),f.a,(f.m:Int)] [(g.h:Int),g.a,(g.m:Int)];rw[e];refine congrArg Ga ?_;rcases h with rfl|h
 .rw[Gd (jU _)];unfold wv;rw[Ge (beq_self_eq_true _)];unfold wv;rw[Ge (beq_self_eq_true _)];unfold wv;rw[Ge (beq_self_eq_true _)];rfl
 .unfold wv;rw[Gf (by rw[beq_iff_eq];omega)];by_cases c:f.h<g.h
  .rw[Gc c,Gc (by omega)]
  .rw[Gd c,Gd (by omega)]
theorem Sr (g:Fl->D)(hlt:∀ f f':Fl,f=f'\/f.h≠f'.h->CK (g f) (g f')=Ga (decide (f.h<f'.h)))(hok:∀ X:List Fl,tM (X.map g)=true){X:List Fl}(hl:X.length<=5)(nd:(X.map Fl.h).Nodup)(hb:∀ f∈X,f.h<5):pr (X.map g)=Ga ((vv X).map g):=by
 by_cases h2:X.length<2
 .have e:pr (X.map g)=Ga (X.map g):=by unfold pr;rw[Ge (by rw[jc];exact h2)]
  rw[e,<- Ke nd (λ_ h=>h)]
  match X,h2,hb with
  | [],_,_=>rfl
  | [f],_,hb =>
   have:f.h<5:=hb f jf;have key:∀ a:Fin 5,[a.val]=(jd 5).filter λi=>[a.val].contains i:=by nofun
   exact key ⟨f.h,this⟩
  | _::_::_,h,_=>simp only[jM] at h;omega
 .have hs:yO (X.map Fl.h)=true:=zC7 (by rw[jc];omega) (by rw[jc];exact hl) nd λh hh=>by
   obtain⟨f,hf,rfl⟩:=jx.mp hh;exact hb f hf
  unfold yO at hs;split at hs;rotate_left
  .cases hs
  rename_i p hp;rw[jG,jG,decide_eq_true_eq,decide_eq_true_eq,jH] at hs;obtain⟨⟨p1,p2⟩,p3⟩:=hs;rw[jc] at hp p3;have getX:∀ i,i<X.length->∃ f,X[i]?=Ga f/\f∈X/\(X.map Fl.h).getD i 0=f.h/\(X.map g)[i]?=Ga (g f):=λi hi=>⟨X[i],ji hi,uB hi,by rw[jq,jA,ji hi];rfl,by rw[jA,ji hi];rfl⟩;have cg:tZ (AY (X.map g)) (vt X.length)=Ga p:=by
   rw[<- hp];refine Qn (n:=X.length) (λi j hi hj=>?_) (zzH _ (by omega));obtain⟨f,f1,f2,f3,f4⟩:=getX i hi;obtain⟨f',g1,g2,g3,g4⟩:=getX j hj;unfold AY;rw[f4,g4,f3,g3];refine hlt _ _ ?_;by_cases e:f.h=f'.h
   .left;have a:=GO nd f2;have b:=GO nd g2;rw[e,b] at a;cases a;rfl
   .exact .inr e
  unfold pr;have ok:tM (X.map g)=true:=hok X;rw[Gf (by rw[jc];exact h2),Ge (by rw[ok,Bool.and_true,decide_eq_true_eq,jc];omega),jc,cg,jp,Ge p1];refine congrArg Ga ?_;have eY:p.toList.map (λi=>(X.map g).getD i .none)=(p.toList.map λi=>X.getD i f0).map g:=by
   rw[jL];refine jN λi hi=>?_;obtain⟨f,f1,f2,f3,f4⟩:=getX i (of_decide_eq_true (p3 i hi));show(X.map g).getD i .none=g (X.getD i f0);rw[jq,jq,f4,f1];rfl
  rw[eY];refine congrArg (v9 g) (Ke nd (λy hy=>?_) ?_)
  .obtain⟨i,hi,rfl⟩:=jx.mp hy;obtain⟨f,f1,f2,f3,f4⟩:=getX i (of_decide_eq_true (p3 i hi));rw[jq,f1];exact f2
  .rw[<- p2,jL];refine jN λi hi=>?_;obtain⟨f,f1,f2,f3,f4⟩:=getX i (of_decide_eq_true (p3 i hi));show(X.getD i f0).h=_;rw[f3,jq,f1];rfl
theorem ZF {X:List Fl}(hl:X.length<=5)(nd:(X.map Fl.h).Nodup)(hb:∀ f∈X,f.h<5):pr (X.map fd)=Ga ((vv X).map fd) :=
 Sr fd (λ_ _ h=>zGv h) (λX=>by
   unfold tM;rw[uI];right;rw[jH];intro d hd;obtain⟨f,_,rfl⟩:=jx.mp hd;rfl) hl nd hb
theorem zv3 {X:List Fl}(hl:X.length<=5)(nd:(X.map Fl.h).Nodup)(hb:∀ f∈X,f.h<5):pr (X.map λf=>.int (f.h:Int))=Ga ((vv X).map λf=>.int (f.h:Int)) :=
 Sr (λf=>.int (f.h:Int)) (λf g _=>by
   show Ga (decide ((f.h:Int)<(g.h:Int)))=_;refine congrArg Ga ?_;rw[kq,decide_eq_true_eq,decide_eq_true_eq];omega) (λX=>by
   unfold tM;rw[uI];left;rw[jH];intro d hd;obtain⟨f,_,rfl⟩:=jx.mp hd;rfl) hl nd hb
abbrev mW (ns:List D)(E:Fs):D:=rd ns (lG ns.length E)
theorem QT (ns:List D)(fs:List Fl):iY (rd ns fs) (.int 0)=Ga (.tuple ns):=rfl
theorem Ur (ns:List D)(fs:List Fl):iY (rd ns fs) (.int 1)=Ga (.tuple (fs.map fd)):=rfl
theorem TR (f:Fl):iY (fd f) (.int 0)=Ga (.int f.h):=rfl
theorem za (f:Fl):iY (fd f) (.int 1)=Ga (.int f.a):=rfl
theorem RM (f:Fl):iY (fd f) (.int 2)=Ga (.int f.m):=rfl
theorem EG (n:Nat)(E:Fs):lj n E<=n:=by unfold lj;exact jk (jW _ _) (by rw[jE];exact jj _)
theorem Fi {n:Nat}(E:Fs)(h5:n<=5):((lG n E).map fd).length<=1000000:=by rw[jc,xE];have:=EG n E;omega
theorem wN {α:Type}{fc:FB}{fe:FV}{base:En}(f:α->D)(p:α->Bool)(F:α->D):∀ {l:List α},(∀ a∈l,fc (.val (f a)::base)=Ga (p a))->(∀ a∈l,p a=true->fe (.val (f a)::base)=Ga (F a))->mv fc fe base (l.map f)=Ga ((l.filter p).map F)
 | [],_,_=>rfl
 | x::r,h1,h2=>by
  have ih:=wN (fc:=fc) (fe:=fe) (base:=base) f p F (l:=r) (λa ha=>h1 a (jh _ ha)) (λa ha=>h2 a (jh _ ha));rw[jK];unfold mv;rw[h1 x jf,jp];cases c:p x with
  | true=>rw[Ge rfl,h2 x jf c,jp,ih,jY c];rfl
  | false=>rw[Gf jw,ih,kf (by rw[c];exact jw)]
theorem yC {α:Type}{fe:FV}{base:En}(f:α->D)(F:α->D){l:List α}(h2:∀ a∈l,fe (.val (f a)::base)=Ga (F a)):mv (λ_=>Ga true) fe base (l.map f)=Ga (l.map F):=by
 rw[wN (fc:=λ_=>Ga true) f (λ_=>true) F (λ_ _=>rfl) (λa ha _=>h2 a ha)];rw[List.filter_eq_self.mpr (λ_ _=>rfl)]
theorem Vt (a b:Nat):decide (¬(a:Int)=(b:Int))=!(a==b):=by
 by_cases c:a=b
 .subst c;rw[beq_self_eq_true,Gd (λz=>z rfl)];rfl
 .rw[beq_eq_false_iff_ne.mpr c,Gc (by omega)];rfl
theorem Td (a b:Nat):decide ((a:Int)=(b:Int))=(a==b):=by
 by_cases c:a=b
 .subst c;rw[beq_self_eq_true,Gc rfl]
 .rw[beq_eq_false_iff_ne.mpr c,Gd (by omega)]
theorem PM (ns:List D)(E:Fs)(h:Nat)(h5:ns.length<=5):yJ [mW ns E,.int h]=Ga (mW ns (iW E h Gb)):=by
 have cp:mv cK iA [.val (.int (h:Int))] ((lG ns.length E).map fd)=Ga ((lG ns.length (iW E h Gb)).map fd):=by
  rw[<- ztN];refine wN fd (λf=>!(f.h==h)) fd (λf _=>?_) λf _ _=>rfl;simp_arith[TR,Vt]
 rw[zmI];unfold Ma;simp_arith[QT,Ur,oV,Ge (Fi E h5),cp];rfl
theorem MJ {xs ys:List D}(h:xs.length+ys.length<=1000):lJ (.tuple xs) (.tuple ys)=Ga (.tuple (xs++ys)):=by
 show(if xs.length+ys.length<=sizeLine then _ else _)=_;rw[Ge (jk h (by rw[sizeLine_eq];decide))]
theorem MT (ns:List D)(E:Fs)(h:Nat)(a:Int)(m:Nat)(h5:ns.length<=5)(hh:h<ns.length):xW [mW ns E,.int h,.int a,.int m]=Ga (mW ns (iW E h (Ga (a,m)))):=by
 have hw:=PM ns E h h5;have hl:(lG ns.length (iW E h Gb)).length+1<=5:=by
  rw[xE];have:lj ns.length (iW E h Gb)+1<=lj ns.length (iW E h (Ga (a,m))):=SZ hh (λi hi=>by
   by_cases e:i=h
   .subst e;rw[nE];rfl
   .rw[mD e] at hi ⊢;exact hi) (by rw[nE];rfl) nE
  have:=EG ns.length (iW E h (Ga (a,m)));omega
 have ad:lJ (.tuple ((lG ns.length (iW E h Gb)).map fd)) (.tuple [.tuple [.int (h:Int),.int a,.int (m:Int)]])=Ga (.tuple ((lG ns.length (iW E h Gb)++[(⟨h,a,m⟩:Fl)]).map fd)):=by
  rw[MJ (by rw[jc,j4];omega),jI];rfl
 have st:pr ((lG ns.length (iW E h Gb)++[(⟨h,a,m⟩:Fl)]).map fd)=Ga ((lG ns.length (iW E h (Ga (a,m)))).map fd):=by
  rw[ZF,zv1 h5 hh]
  .rw[jg,j4];exact hl
  .rw[jI,uO];refine⟨GI _ _,kg.mpr ⟨kH,vW⟩,λx hx y hy=>?_⟩;rw[jo.mp hy];intro z;obtain⟨f,hf,e⟩:=jx.mp hx;have:=(rD.mp hf).2;rw[show f.h=h from e.trans z,nE] at this;cases this
  .intro f hf;rcases jV.mp hf with z|z
   .have:=(rD.mp z).1;omega
   .rw[jo.mp z];show h<5;omega
 rw[zpG];unfold OV;simp_arith[hw,QT,Ur,ad,st];rfl
theorem zC8:∀ (m:Fin 32) (b:Fin 5),vO (m.val:Int) (2^b.val)=((nR m.val b.val:Nat):Int):=by nofun
theorem XG (R R2:D)(h to a m T B:Int)(hf:so [R,.int h]=Ga (.tuple [.int h,.int a,.int m]))(hb:zr [.int to]=Ga (.int B))(hx:vO m B=T)(hw:xW [R,.int h,.int a,.int T]=Ga R2):sQ [R,.int h,.int to]=Ga R2:=by
 rw[ziR];unfold No;simp_arith[hf,hb,hx,hw]
theorem Vq (ns:List D)(E:Fs)(h to:Nat)(a:Int)(m:Nat)(h5:ns.length<=5)(hh:h<ns.length)(ht:to<5)(hm:m<32)(e:E h=Ga (a,m)):sQ [mW ns E,.int h,.int to]=Ga (mW ns (rf E h to)):=by
 have hf:so [mW ns E,.int h]=Ga (.tuple [.int (h:Int),.int a,.int (m:Int)]):=by
  rw[Ib];unfold yb;rw[Au hh,e];rfl
 have hb:zr [.int (to:Int)]=Ga (.int (2^to)):=by rw[NV _ (by omega) (by omega)];rfl
 have et:rf E h to=iW E h (Ga (a,nR m to)):=by unfold rf;rw[e]
 rw[et];exact XG _ _ _ _ _ _ _ _ hf hb (zC8 ⟨m,hm⟩ ⟨to,ht⟩) (MT ns E h a (nR m to) h5 hh)
theorem zyA (ns:List D)(E:Fs)(h at_:Nat)(h5:ns.length<=5):∃ U:List D,tR [mW ns E,.int (at_:Int)]=Ga U/\U.length<=5/\mv fZ iA [.val (.int (h:Int))] U=Ga ((nw ns.length E h at_).map λ(i:Nat)=>.int (i:Int)):=by
 refine⟨_,ES ns _ _ h5,?_,?_⟩
 .rw[jc];exact jk (jW _ _) (by rw[jE];exact h5)
 .rw[wN (λ(i:Nat)=>jb (i:Int)) (λi=>!(i==h)) (λ(i:Nat)=>jb (i:Int)) (λi _=>by simp_arith[Vt]) (λi _ _=>rfl)];refine congrArg Ga (congrArg _ ?_);unfold nw;rw[JI];refine kM λi hi=>?_;rw[Ko (jn.mp hi),Bool.and_comm]
theorem WS (l:List Nat)(hl:∀ i∈l,i<5):Aa [.list (l.map λ(i:Nat)=>.int (i:Int))]=Ga (.int (mj l:Nat)):=by
 have e:=To (l.map λ(i:Nat)=>(i:Int)) (λh hh=>by
  obtain⟨i,hi,rfl⟩:=jx.mp hh;have:=hl i hi;omega)
 rw[jL] at e;have c:∀ k:Nat,(l.map λ(i:Nat)=>(i:Int)).contains (k:Int)=l.contains k:=λk=>by
  rw[kq,jC,jC];constructor
  .intro z;obtain⟨i,hi,e⟩:=jx.mp z;have:i=k:=by omega
   rw[<- this];exact hi
  .exact λz=>vD z
 rw[show(l.map λ(i:Nat)=>(i:Int)).contains 0=l.contains 0 from c 0,show(l.map λ(i:Nat)=>(i:Int)).contains 1=l.contains 1 from c 1,show(l.map λ(i:Nat)=>(i:Int)).contains 2=l.contains 2 from c 2,show(l.map λ(i:Nat)=>(i:Int)).contains 3=l.contains 3 from c 3,show(l.map λ(i:Nat)=>(i:Int)).contains 4=l.contains 4 from c 4] at e;refine Eq.trans e (congrArg (λx=>Ga (jb x)) ?_);unfold mj;have key:∀ b0 b1 b2 b3 b4:Bool,mB b0 b1 b2 b3 b4=((mN b0 b1 b2 b3 b4:Nat):Int):=by decide
 exact key _ _ _ _ _
theorem BW (xs:List D):wk (.list xs) (Ga 1) Gb=Ga (.list xs.tail):=by
 show Ga (kU (tN xs (Ga 1) Gb))=_;refine congrArg (λl=>Ga (kU l)) ?_;unfold tN;rw[HT.sIx_none,show(Ga (1:Int))=Ga ((1:Nat):Int) from rfl,HT.sIx_nat];cases xs with
 | nil=>rfl
 | cons x r =>
  rw[jM,Je (by omega),List.drop_one,Js];exact qX (by omega)
theorem xp {p:List D}{l:D}(h:p.getLast?=Ga l):L2.atI p (-1)=Ga l:=by
 obtain⟨q,rfl⟩:∃ q,p=q++[l]:=List.getLast?_eq_some_iff.mp h;exact L2.atI_last q l
theorem Si (H:List D->Option (List D))(r1 r2 h a k:D)(p q:List D)(h1:H [r1,h,a,k]=Ga p)(h2:H [r2,h,a,k]=Ga q)(hl:p.length+q.length<=1000000):lq (NL H [.val r1,.val r2,.val h,.val a,.val k])=Ga (.list (p++q.reverse)):=by
 have ad:lJ (.list p) (.list q.reverse)=Ga (.list (p++q.reverse)):=by
  show(if p.length+q.reverse.length<=sizeLine then _ else _)=_;rw[Ge (jk (by rw[kJ];exact hl) (by rw[sizeLine_eq];decide))]
 unfold NL;simp_arith[h1,h2,ad]
theorem Yg (H:List D->Option (List D))(C:List D->Option D)(R h:D)(a k:Int)(ha:k<a):sG (EI H C [.val R,.val h,.val (.int a),.val (.int k),.no,.no,.no,.no,.no])=Ga [R]:=by
 unfold EI;simp_arith[Gc ha]
theorem zyB (H:List D->Option (List D))(C:List D->Option D)(R:D)(h a k mk:Int)(ha:¬k<a)(U:List D)(O:List Nat)(hU:tR [R,.int a]=Ga U)(hUl:U.length<=1000000)(hO:mv fZ iA [.val (.int h)] U=Ga (O.map λ(i:Nat)=>.int (i:Int)))
  (P0:List D) (h0:H [R,.int h,.int (a+1),.int k]=Ga P0) (hl0:P0.length<1000000) (hm:Aa [.list (O.map λ(i:Nat)=>.int (i:Int))]=Ga (.int mk)) (R1:D) (hw:xW [R,.int h,.int a,.int mk]=Ga R1)
  (W:List Nat->List D) (hW:W []=P0++[R1]) (hS:∀ (pre:List Nat) (o:Nat) (suf:List Nat),O=pre++o::suf->∃ l f q,(W pre).getLast?=Ga l/\sQ [l,.int h,.int (o:Int)]=Ga f/\C [l,f,.int (o:Int),.int (a+1),.int k]=Ga (.list q)/\W (pre++[o])=W pre++q.tail/\(W pre).length+q.tail.length<=1000000) :
  sG (EI H C [.val R,.val (.int h),.val (.int a),.val (.int k),.no,.no,.no,.no,.no])=Ga (W O):=by
 unfold EI;simp_arith[Gd ha,hU,oV,Ge hUl,hO,h0,hm,hw,Ge hl0];refine(congrArg sG (CN (R:=Ga (.ro (W O))) (λ(i:Nat)=>jb (i:Int)) (λpre ψ=>∃ x4 x7 x8,ψ=[.val R,.val (.int h),.val (.int a),.val (.int k),x4,.val (.list (O.map λ(i:Nat)=>.int (i:Int))),.own (W pre),x7,x8]) O ⟨_,_,_,by rw[hW]⟩ ?_ ?_)).trans rfl
 .rintro pre o suf e _ ⟨x4,x7,x8,rfl⟩;obtain⟨l,f,q,q1,q2,q3,q4,q5⟩:=hS pre o suf e;rw[q4];have q1:=xp q1;have q6:tS (W pre) q.tail=Ga (W pre++q.tail):=by unfold tS;rw[Ge q5]
  generalize W pre=p at q1 q6;simp_arith[q1,q2,q3,BW,q6];exact nJ ⟨_,_,_,rfl⟩
 .rintro _ ⟨x4,x7,x8,rfl⟩;simp_arith[]
theorem Gs:∀ d,d<=3->mG d<=456
 | 0,_=>by decide
 | 1,_=>by decide
 | 2,_=>by decide
 | 3,_=>by decide
theorem GF (ns:List D)(h2:2<=ns.length)(h5:ns.length<=5)(k:Nat):∀ (d N:Nat) (E:Fs) (h:Nat),d<N->d<=k->h<ns.length->E h=Gb->Ok ns.length E (k+1-d)->lj ns.length E+d+2<=ns.length ->
  rA N [mW ns E,.int (h:Int),.int ((k+1-d:Nat):Int),.int (k:Int)]=Ga ((mT ns.length k d E h).map (mW ns))
 | _,0,_,_,hN,_,_,_,_,_=>by omega
 | 0,N+1,E,h,_,_,_,_,_,_=>by
  rw[RK];exact Yg _ _ _ _ _ _ (by omega)
 | d+1,N+1,E,h,hN,hk,hh,e0,ho,hc=>by
  have ea:k+1-(d+1)=k-d:=by omega
  rw[ea] at ho ⊢;have IH:=GF ns h2 h5 k d N;have eb:((k-d:Nat):Int)+1=((k+1-d:Nat):Int):=by omega
  have hl:=Gs d (by omega);have PR:=zAx (ns:=λi=>ns.getD i .none) h2 h5 hk hh e0 ho hc;obtain⟨U,u1,u2,u3⟩:=zyA ns E h (k-d) h5;have othM:∀ i,i∈nw ns.length E h (k-d)->i<ns.length/\i≠h/\E i=Gb:=λi hi=>by
   obtain⟨x1,x2⟩:=jD.mp hi;rw[jG,kB,beq_eq_false_iff_ne] at x2;exact⟨jn.mp x1,x2.2,EC ho x2.1⟩
  have okG:∀ m,m<2^ns.length->bt m h=false->Ok ns.length (iW E h (Ga (((k-d:Nat):Int),m))) (k+1-d):=λm h1 h2=>(ho.upd hh (by omega) (kZ _) h1 h2).mono (by omega);have cntG:∀ m,lj ns.length (iW E h (Ga (((k-d:Nat):Int),m)))<=lj ns.length E+1:=λm=>HQ _;have HO:=λF o a b c e=>(zo (ns:=λi=>ns.getD i .none) (k:=k) h2 h5 d F o (by omega) a b c e).2;rw[RK];have l4:(nw ns.length E h (k-d)).length<=5:=by unfold nw;exact jk (jW _ _) (by rw[jE];exact h5)
  refine zyB (rA N) (pF N) (mW ns E) h ((k-d:Nat):Int) k _ (by omega) U (nw ns.length E h (k-d)) u1 (by omega) u3 _ (by rw[eb];exact IH E h (by omega) (by omega) hh e0 (ho.mono (by omega)) (by omega)) ?_ (WS _ λi hi=>by have:=(othM i hi).1;omega) _ (MT ns E h _ _ h5 hh)
   (λpre=>(pre.foldl (pY (mT ns.length k d) E h) (mT ns.length k d E h++[iW E h (Ga (((k-d:Nat):Int),mj (nw ns.length E h (k-d))))])).map (mW ns)) (by rw[uw,jI];rfl) ?_
  .rw[jc];have:=HO E h hh e0 (ho.mono (by omega)) (by omega);omega
  .intro pre o suf e;obtain⟨P,pl⟩:=PR pre (o::suf) e;generalize eP:pre.foldl (pY (mT ns.length k d) E h) (mT ns.length k d E h++[iW E h (Ga (((k-d:Nat):Int),mj (nw ns.length E h (k-d))))])=p at P pl;have hl':∀ i∈o::suf,i<ns.length/\i≠h/\E i=Gb:=λi hi=>othM i (by rw[e];exact jR _ hi);obtain⟨o1,o2,o3⟩:=hl' o jf;have nd:(o::suf).Nodup:=by
    have ndO:(nw ns.length E h (k-d)).Nodup:=kX (kD) uo;rw[e] at ndO;exact(uO.mp ndO).2.1
   have bb:∀ l:List Nat,(∀ i∈l,i≠h)->bt (mj l) h=false:=λl hl=>by
    rw[zF _ h (by omega),<- jT,jC];exact λz=>hl h z rfl
   have m1:mj (o::suf)<2^ns.length:=CP h2 h5 _ λi hi=>(hl' i hi).1;have m2:mj suf<2^ns.length:=CP h2 h5 _ λi hi=>(hl' i (jh _ hi)).1;have b1:=bb (o::suf) λi hi=>(hl' i hi).2.1;have b2:=bb suf λi hi=>(hl' i (jh _ hi)).2.1;have et:rf (iW E h (Ga (((k-d:Nat):Int),mj (o::suf)))) h o=iW E h (Ga (((k-d:Nat):Int),mj suf)):=by
    unfold rf;rw[nE];show iW _ h (Ga (_,nR (mj (o::suf)) o))=_;rw[Eh,VJ (by omega) (kg.mp nd).1]
   have c1:=cntG (mj (o::suf));have c2:=cntG (mj suf);have n1:iW E h (Ga (((k-d:Nat):Int),mj (o::suf))) o=Gb:=by rw[mD o2];exact o3
   have n2:iW E h (Ga (((k-d:Nat):Int),mj suf)) o=Gb:=by rw[mD o2];exact o3
   have l1:=HO _ o o1 n1 (okG _ m1 b1) (by omega);have l2:=HO _ o o1 n2 (okG _ m2 b2) (by omega);have i1:=IH _ o (by omega) (by omega) o1 n1 (okG _ m1 b1) (by omega);have i2:=IH _ o (by omega) (by omega) o1 n2 (okG _ m2 b2) (by omega);have pw:2^ns.length<=32:=uv (by omega) h5 (n:=2);refine⟨mW ns (iW E h (Ga (((k-d:Nat):Int),mj (o::suf)))),mW ns (iW E h (Ga (((k-d:Nat):Int),mj suf))),
    (mT ns.length k d (iW E h (Ga (((k-d:Nat):Int),mj (o::suf)))) o).map (mW ns)++((mT ns.length k d (iW E h (Ga (((k-d:Nat):Int),mj suf))) o).map (mW ns)).reverse,?_,?_,?_,?_,?_⟩
   .rw[ku,P.lst];rfl
   .rw[<- et];exact Vq ns _ h o _ _ h5 hh (by omega) (by omega) nE
   .rw[SA,eb];exact Si _ _ _ _ _ _ _ _ i1 i2 (by rw[jc,jc];omega)
   .rw[uQ,kW,uw,eP];unfold pY;rw[yw P.lst,et,jI,uq,jI,qM]
   .rw[jc,ko,jg,kJ,jc,jc];have pl5:pre.length<=5:=by rw[e,jg] at l4;omega
    have:pre.length*(2*mG d-1)<=5*(2*mG d-1):=ux _ pl5;omega
theorem CB (i:Int){j:Int}(h1:-(2^64)<j)(h2:j<2^64):mM (.int i) (.int j)=Ga (.int (i*j)):=HJ (by unfold tP;rw[Gc h1,Gc h2];exact qV _)
theorem Ts {i:Int}(j:Int)(h1:-(2^64)<i)(h2:i<2^64):mM (.int i) (.int j)=Ga (.int (i*j)):=HJ (by unfold tP;rw[Gc h1,Gc h2];rfl)
def oC (g:Fl->D)(X:List Fl):List (Int×D):=X.map λf=>((f.h:Int),g f)
theorem NQ (g:Fl->D)(h:Nat):∀ X:List Fl,oM (oC g X) (h:Int)=(nY X h).map g
 | []=>rfl
 | f::X=>by
  have ih:=NQ g h X;unfold oM oC nY at ih ⊢;rw[jK];by_cases c:f.h=h
  .rw[kF (p:=λ(p:Int×D)=>decide (p.1=(h:Int))) (Gc (by show((f.h:Nat):Int)=_;rw[c])),kF (p:=λ(f:Fl)=>f.h==h) (by rw[beq_iff_eq];exact c)];rfl
  .rw[kA (p:=λ(p:Int×D)=>decide (p.1=(h:Int))) (by rw[decide_eq_true_eq];intro z;exact c (by have z:((f.h:Nat):Int)=(h:Int):=z;omega)),kA (p:=λ(f:Fl)=>f.h==h) (by rw[beq_iff_eq];exact c)];exact ih
def rO (X:List Fl)(f:Fl):List Fl:=if (X.any λx=>x.h==f.h)=true then X.map (λx=>if x.h=f.h then f else x) else X++[f]
theorem RP (g:Fl->D)(X:List Fl)(f:Fl):rY (oC g X) (f.h:Int) (g f)=oC g (rO X f):=by
 unfold rY rO;have e:((oC g X).any λkv=>decide (kv.1=(f.h:Int)))=X.any λx=>x.h==f.h:=by
  unfold oC;rw[List.any_map]
  congr 1
  funext x
  show decide ((x.h:Int)=(f.h:Int))=_;rw[Td]
 rw[e];split
 .unfold oC;rw[jL,jL];refine jN λx hx=>?_;show(if (x.h:Int)=(f.h:Int) then((x.h:Int),g f) else((x.h:Int),g x))=(((if x.h=f.h then f else x).h:Int),g (if x.h=f.h then f else x));by_cases c:x.h=f.h
  .rw[Ge c,Ge (by rw[c]),c]
  .rw[Gf c,Gf (by omega)]
 .unfold oC;rw[jI];rfl
theorem zAA {X:List Fl}{f x:Fl}(h:x∈rO X f):x=f\/x∈X:=by
 unfold rO at h;split at h
 .obtain⟨y,hy,e⟩:=jx.mp h;split at e
  .exact .inl e.symm
  .subst e;exact .inr hy
 .rcases jV.mp h with z|z
  .exact .inr z
  .exact .inl (jo.mp z)
theorem Zl (X:List Fl)(f:Fl):(rO X f).length<=X.length+1:=by
 unfold rO;split
 .rw[jc];omega
 .rw[jg];exact jj _
theorem zC9 {X:List Fl}{f:Fl}(nd:(X.map Fl.h).Nodup):((rO X f).map Fl.h).Nodup:=by
 unfold rO;split
 .rw[jL,show(X.map (Fl.h∘λx=>if x.h=f.h then f else x))=X.map Fl.h from jN λx _=>by
   show(if x.h=f.h then f else x).h=x.h;split
   .rename_i c;exact c.symm
   .rfl]
  exact nd
 .rename_i c;rw[jI,uO];refine⟨nd,kg.mpr ⟨kH,vW⟩,λa ha b hb=>?_⟩;intro e;apply c;obtain⟨x,hx,rfl⟩:=jx.mp ha;rw[jK,qP,jo] at hb;rw[vZ];exact⟨x,hx,by rw[beq_iff_eq,e,hb]⟩
def tab (X:List Fl):Fs:=λi=>(nY X i).map λf=>(f.a,f.m)
theorem Zq {n N:Nat}(h:n<=N)(p:Nat->Bool)(hp:∀ i,n<=i->p i=false):(jd N).filter p=(jd n).filter p:=by
 obtain⟨k,rfl⟩:=Nat.exists_eq_add_of_le h;rw[List.range_add,kC];have:((jd k).map λx=>n+x).filter p=[]:=by
  rw[ub];intro a ha;obtain⟨i,_,rfl⟩:=jx.mp ha;rw[hp _ (by omega)];exact jw
 rw[this,kz]
theorem HV {X:List Fl}{h:Nat}{f:Fl}(e:nY X h=Ga f):f.h=h/\f∈X:=by
 unfold nY at e;exact⟨by have:=Va e;rw[beq_iff_eq] at this;exact this,qy e⟩
theorem zyC {X:List Fl}{n:Nat}(h5:n<=5)(nd:(X.map Fl.h).Nodup)(hb:∀ f∈X,f.h<n):vv X=lG n (tab X):=by
 refine(Ke nd (λy hy=>?_) ?_).symm
 .obtain⟨_,e⟩:=rD.mp hy;unfold tab at e;cases ef:nY X y.h with
  | none=>rw[ef] at e;cases e
  | some g =>
   rw[ef] at e;obtain⟨g1,g2⟩:=HV ef;have:y=g:=by
    cases y;cases g;cases e;cases g1;rfl
   rw[this];exact g2
 .rw[CS];have ec:(λi=>(tab X i).isSome)=λi=>(X.map Fl.h).contains i:=by
   funext i
   unfold tab;rw[JQ,kq,jC];unfold nY;rw[List.find?_isSome];constructor
   .rintro⟨x,hx,e⟩;rw[beq_iff_eq] at e;rw[<- e];exact vD hx
   .intro z;obtain⟨x,hx,e⟩:=jx.mp z;exact⟨x,hx,by rw[beq_iff_eq];exact e⟩
  rw[ec,Zq h5];intro i hi;rw[<- jT,jC];intro z;obtain⟨x,hx,e⟩:=jx.mp z;have:=hb x hx;omega
theorem zAD (a k m1:Int)(h0:-(2^64)<k)(h1:k<2^64)(e1:(a*48271+k*k*7919)%2147483647=m1)(h2:-(2^64)<m1)(h3:m1<2^64):zG [.int a,.int k]=Ga (.int (m1*m1%2147483629)):=by
 rw[Yt];unfold Lg;simp_arith[CB a (show -(2^64)<(48271:Int) by decide) (by decide),CB k h0 h1,CB (k*k) (show -(2^64)<(7919:Int) by decide) (by decide),pB (show(0:Int)<2147483647 by decide),pB (show(0:Int)<2147483629 by decide),e1,CB m1 h2 h3]
theorem zAE (a:Int)(k:Nat)(hk:k<=1000):∃ M:Nat,M<2147483629/\zG [.int a,.int k]=Ga (.int (M:Int)):=by
 have e:=zAD a k _ (by omega) (by omega) rfl (by omega) (by omega);generalize (a*48271+(k:Int)*k*7919)%2147483647=y at e;generalize y*y=z at e;refine⟨(z%2147483629).toNat,by omega,?_⟩;rw[e];refine congrArg (λx=>Ga (jb x)) ?_;omega
theorem Ae {n:Nat}(h:n<1000000):mr (.int (n:Int))=Ga ((jd n).map λ(k:Nat)=>.int (k:Int)):=by
 rw[zH h];unfold oi;simp
theorem Ik:∀ h:Fin 5,L2.atI [jb 1,.int 2,.int 4,.int 8,.int 16] (h.val:Int)=Ga (.int (2^h.val)):=by
 intro h
 match h with
 | ⟨0,_⟩=>rfl
 | ⟨1,_⟩=>rfl
 | ⟨2,_⟩=>rfl
 | ⟨3,_⟩=>rfl
 | ⟨4,_⟩=>rfl
theorem Iv:∀ h:Fin 5,(0:Int)<2^h.val/\(2:Int)^h.val<1073741824:=by decide
theorem Hu:∃ T:Int,(10:Int)^59=T/\0<2*T/\(10:Int)^60=10*T/\10<=T:=⟨10^59,rfl,by decide,by decide,by decide⟩
structure FI (n most last:Nat)(X:List Fl):Prop where
 nd:(X.map Fl.h).Nodup
 ln:X.length<=most
 ok:∀ f∈X,f.h<n/\1<=f.a/\f.a<=(last:Int)/\f.m<2^n/\bt f.m f.h=false
theorem FI.put {n most last:Nat}{X:List Fl}{f:Fl}(h:FI n most last X)(hl:X.length<most)(hf:f.h<n/\1<=f.a/\f.a<=(last:Int)/\f.m<2^n/\bt f.m f.h=false):FI n most last (rO X f) :=
 ⟨zC9 h.nd,jk (Zl X f) hl,λx hx=>by rcases zAA hx with rfl|z;exact hf;exact h.ok x z⟩
theorem zDa:∀ (m:Fin 32) (h:Fin 5),∃ m':Nat,((m':Int)=if (m.val:Int)/2^h.val%2=1 then(m.val:Int)-2^h.val else(m.val:Int))/\m'<=m.val/\decide ((m':Int)/2^h.val%2=1)=false:=by
 intro m h;by_cases c:(m.val:Int)/2^h.val%2=1
 .have key:∀ (m:Fin 32) (h:Fin 5),(m.val:Int)/2^h.val%2=1->2^h.val<=m.val/\((m.val-2^h.val:Nat):Int)=(m.val:Int)-2^h.val/\decide (((m.val-2^h.val:Nat):Int)/2^h.val%2=1)=false:=by nofun
  obtain⟨k1,k2,k3⟩:=key m h c;exact⟨m.val-2^h.val,by rw[Ge c];exact k2,Nat.sub_le _ _,k3⟩
 .exact⟨m.val,by rw[Gf c],jj _,Gd c⟩
theorem XC (mixed n most last whole number j hand r2:Int)(X:List Fl)(x7 x8 x9:Sl)(m':Nat)(h:Nat)(eh:(mixed+j)%n=(h:Int))(hn:0<n)(hl:0<last)(hl2:X.length<1000000)(hw:0<whole+1)(P:Int)(hP:L2.atI [jb 1,.int 2,.int 4,.int 8,.int 16] (h:Int)=Ga (.int P))(hP0:0<P)(hP1:P<1073741824)
  (hb0:-(2^64)<number) (hb1:number<2^64) (n2:Int) (en:(number*number+48271*number+7919)%2147483647=n2)
  (er:(if n2/4%4=0 then whole else n2/16%(whole+1))=r2) (em:(m':Int)=if r2/P%2=1 then r2-P else r2) :
  mP (λψ=>∃ X',(X'=X\/((X.length:Int)<most/\X'=rO X ⟨h,1+n2/512%last,m'⟩))/\∃ x7 x8 x9,ψ=[.val (.int mixed),.val (.int n),.val (.int most),.val (.int last),.val (.int whole),.dki Gb (oC fd X'),.val (.int n2),x7,x8,x9])
   ((nO 7 (.int j) [.val (.int mixed),.val (.int n),.val (.int most),.val (.int last),.val (.int whole),.dki Gb (oC fd X),.val (.int number),x7,x8,x9]).bind aa):=by
 have a1:mM (.int number) (.int number)=Ga (.int (number*number)):=CB _ hb0 hb1;have a2:mM (.int 48271) (.int number)=Ga (.int (48271*number)):=Ts _ (by decide) (by decide);have a3:∀ x:Int,lM (.int x) (.int 2147483647)=Ga (.int (x%2147483647)):=λx=>pB (by decide);have a4:lM (.int (mixed+j)) (.int n)=Ga (.int (h:Int)):=by rw[<- eh];exact pB hn
 have a5:∀ x:Int,mS (.int x) (.int 16)=Ga (.int (x/16)):=λx=>sV (by decide) (by decide);have a6:∀ x:Int,lM (.int x) (.int (whole+1))=Ga (.int (x%(whole+1))):=λx=>pB hw;have a7:∀ x:Int,mS (.int x) (.int 4)=Ga (.int (x/4)):=λx=>sV (by decide) (by decide);have a8:∀ x:Int,lM (.int x) (.int 4)=Ga (.int (x%4)):=λx=>pB (by decide);have a9:∀ x:Int,mS (.int x) (.int P)=Ga (.int (x/P)):=λx=>sV hP0 hP1;have b1:∀ x:Int,lM (.int x) (.int 2)=Ga (.int (x%2)):=λx=>pB (by decide);have b2:∀ x:Int,mS (.int x) (.int 512)=Ga (.int (x/512)):=λx=>sV (by decide) (by decide);have b3:∀ x:Int,lM (.int x) (.int last)=Ga (.int (x%last)):=λx=>pB hl;have kl:(oC fd X).length=X.length:=by unfold oC;rw[jc]
 have pd:rY (oC fd X) (h:Int) (.tuple [.int (h:Int),.int (1+n2/512%last),.int (m':Int)])=oC fd (rO X ⟨h,1+n2/512%last,m'⟩):=RP fd X ⟨h,1+n2/512%last,m'⟩;have kk:(oC fd X).length<1000000:=by rw[kl];exact hl2
 by_cases c1:n2/4%4=0
 .rw[Ge c1] at er;subst er;by_cases c2:whole/P%2=1
  .rw[Ge c2] at em;rw[em] at pd;by_cases c3:0<n2%4
   .by_cases c4:(X.length:Int)<most
    .simp_arith[a1,a2,a3,en,a4,a5,a6,a7,a8,a9,b1,b2,b3,hP,Gc c1,Gc c2,Gc c3,Gc c4,kl,pd,Ge hl2,ss];exact nJ ⟨_,.inr ⟨c4,rfl⟩,_,_,_,rfl⟩
    .simp_arith[a1,a2,a3,en,a4,a5,a6,a7,a8,a9,b1,b2,b3,hP,Gc c1,Gc c2,Gc c3,Gd c4,kl,pd,Ge hl2,ss];exact nJ ⟨_,.inl rfl,_,_,_,rfl⟩
   .simp_arith[a1,a2,a3,en,a4,a5,a6,a7,a8,a9,b1,b2,b3,hP,Gc c1,Gc c2,Gd c3,kl,pd,Ge hl2,ss];exact nJ ⟨_,.inl rfl,_,_,_,rfl⟩
  .rw[Gf c2] at em;rw[em] at pd;by_cases c3:0<n2%4
   .by_cases c4:(X.length:Int)<most
    .simp_arith[a1,a2,a3,en,a4,a5,a6,a7,a8,a9,b1,b2,b3,hP,Gc c1,Gd c2,Gc c3,Gc c4,kl,pd,Ge hl2,ss];exact nJ ⟨_,.inr ⟨c4,rfl⟩,_,_,_,rfl⟩
    .simp_arith[a1,a2,a3,en,a4,a5,a6,a7,a8,a9,b1,b2,b3,hP,Gc c1,Gd c2,Gc c3,Gd c4,kl,pd,Ge hl2,ss];exact nJ ⟨_,.inl rfl,_,_,_,rfl⟩
   .simp_arith[a1,a2,a3,en,a4,a5,a6,a7,a8,a9,b1,b2,b3,hP,Gc c1,Gd c2,Gd c3,kl,pd,Ge hl2,ss];exact nJ ⟨_,.inl rfl,_,_,_,rfl⟩
 .rw[Gf c1] at er;subst er;by_cases c2:n2/16%(whole+1)/P%2=1
  .rw[Ge c2] at em;rw[em] at pd;by_cases c3:0<n2%4
   .by_cases c4:(X.length:Int)<most
    .simp_arith[a1,a2,a3,en,a4,a5,a6,a7,a8,a9,b1,b2,b3,hP,Gd c1,Gc c2,Gc c3,Gc c4,kl,pd,Ge hl2,ss];exact nJ ⟨_,.inr ⟨c4,rfl⟩,_,_,_,rfl⟩
    .simp_arith[a1,a2,a3,en,a4,a5,a6,a7,a8,a9,b1,b2,b3,hP,Gd c1,Gc c2,Gc c3,Gd c4,kl,pd,Ge hl2,ss];exact nJ ⟨_,.inl rfl,_,_,_,rfl⟩
   .simp_arith[a1,a2,a3,en,a4,a5,a6,a7,a8,a9,b1,b2,b3,hP,Gd c1,Gc c2,Gd c3,kl,pd,Ge hl2,ss];exact nJ ⟨_,.inl rfl,_,_,_,rfl⟩
  .rw[Gf c2] at em;rw[em] at pd;by_cases c3:0<n2%4
   .by_cases c4:(X.length:Int)<most
    .simp_arith[a1,a2,a3,en,a4,a5,a6,a7,a8,a9,b1,b2,b3,hP,Gd c1,Gd c2,Gc c3,Gc c4,kl,pd,Ge hl2,ss];exact nJ ⟨_,.inr ⟨c4,rfl⟩,_,_,_,rfl⟩
    .simp_arith[a1,a2,a3,en,a4,a5,a6,a7,a8,a9,b1,b2,b3,hP,Gd c1,Gd c2,Gc c3,Gd c4,kl,pd,Ge hl2,ss];exact nJ ⟨_,.inl rfl,_,_,_,rfl⟩
   .simp_arith[a1,a2,a3,en,a4,a5,a6,a7,a8,a9,b1,b2,b3,hP,Gd c1,Gd c2,Gd c3,kl,pd,Ge hl2,ss];exact nJ ⟨_,.inl rfl,_,_,_,rfl⟩
theorem zGw {t:FT}{g k:FS}{f:Nat->D}{ψ:En}(Q:Option tu->Prop)(n:Nat)(I:Nat->En->Prop)(h0:I 0 ψ)(st:∀ k,k<n->∀ ψ,I k ψ->mP (I (k+1)) ((t (f k) ψ).bind g))(q:∀ e,I n e->Q (k e)):Q (mU (lS t g ((jd n).map f) ψ) k):=by
 have G:=Bo I n st n 0 ψ (vy n) h0;rw[<- kP] at G;obtain⟨e,e1,e2⟩:=G;rw[e1];exact q e e2
theorem Rg:∀ n:Nat,2<=n->n<=5->L2.atI [jb 3,.int 7,.int 15,.int 31] ((n:Int)-2)=Ga (.int ((2^n-1:Nat):Int))
 | 2,_,_=>rfl
 | 3,_,_=>rfl
 | 4,_,_=>rfl
 | 5,_,_=>rfl
theorem zyD (mixed n most last whole num:Int)(x7 x8 x9:Sl)(kv:List (Int×D))(ks ds:List D)(hs:pr (kv.map λp=>.int p.1)=Ga ks)(hl:ks.length<=1000000)(hc:mv (λ_=>Ga true) fV [.val (sw kv)] ks=Ga ds) :
  lq (Az 5 (mR (pN rM (lY dU (λ_=>Ga true) fV [5]))) [.val (.int mixed),.val (.int n),.val (.int most),.val (.int last),.val (.int whole),.dki Gb kv,.val (.int num),x7,x8,x9])=Ga (.tuple ds):=by
 simp_arith[ss,hs,oV,Ge hl,hc]
theorem zyE (mixed n most last whole:Int)(N:Nat)(hw:L2.atI [jb 3,.int 7,.int 15,.int 31] (n-2)=Ga (.int whole))(hr:mr (.int n)=Ga ((jd N).map λ(k:Nat)=>.int (k:Int)))(I:List Fl->Int->Prop)(Q:D->Prop)(h0:I [] mixed)
  (st:∀ (k:Nat),k<N->∀ X num,I X num->∀ x7 x8 x9,mP (λψ=>∃ X' n2,I X' n2/\∃ x7 x8 x9,ψ=[.val (.int mixed),.val (.int n),.val (.int most),.val (.int last),.val (.int whole),.dki Gb (oC fd X'),.val (.int n2),x7,x8,x9])
   ((nO 7 (.int (k:Int)) [.val (.int mixed),.val (.int n),.val (.int most),.val (.int last),.val (.int whole),.dki Gb (oC fd X),.val (.int num),x7,x8,x9]).bind aa))
  (fin:∀ X num,I X num->∃ ks ds,pr ((oC fd X).map λp=>.int p.1)=Ga ks/\ks.length<=1000000/\mv (λ_=>Ga true) fV [.val (sw (oC fd X))] ks=Ga ds/\Q (.tuple ds)) :
  ∃ d,wM [.int mixed,.int n,.int most,.int last]=Ga d/\Q d:=by
 rw[zpM];unfold Qi;simp_arith[hw,hr];refine zGw (λo=>∃ d,lq o=Ga d/\Q d) N (λk ψ=>∃ X num,I X num/\∃ x7 x8 x9,ψ=[.val (.int mixed),.val (.int n),.val (.int most),.val (.int last),.val (.int whole),.dki Gb (oC fd X),.val (.int num),x7,x8,x9]) ⟨[],_,h0,_,_,_,rfl⟩ ?_ ?_
 .rintro k hk _ ⟨X,num,F,x7,x8,x9,rfl⟩;exact st k hk X num F x7 x8 x9
 .rintro _ ⟨X,num,F,x7,x8,x9,rfl⟩;obtain⟨ks,ds,f1,f2,f3,f4⟩:=fin X num F;exact⟨_,zyD _ _ _ _ _ _ x7 x8 x9 _ _ _ f1 f2 f3,f4⟩
theorem zFh (kv:List (Int×D))(h:Int)(v:D)(e:oM kv h=Ga v):fV [.val (.int h),.val (sw kv)]=Ga v:=by
 simp_arith[ss,e]
theorem UD {α:Type}[BEq α][LawfulBEq α]:∀ {l m:List α},l.Nodup->(∀ i∈l,i∈m)->l.length<=m.length
 | [],_,_,_=>j5 _
 | x::l,m,nd,h=>by
  obtain⟨n1,n2⟩:=kg.mp nd;have hx:x∈m:=h x jf;have:=UD (m:=m.erase x) n2 λi hi=>(List.mem_erase_of_ne (λe=>n1 (by rw[<- e];exact hi))).mpr (h i (jh _ hi));rw[qF hx] at this;have:=ua hx;rw[jM];omega
theorem zAG (mixed n most last:Nat)(hm:mixed<2^62)(h2:2<=n)(h5:n<=5)(hl:1<=last)(hmo:most<=5):∃ X,FI n most last X/\wM [.int (mixed:Int),.int (n:Int),.int (most:Int),.int (last:Int)]=Ga (.tuple ((lG n (tab X)).map fd)):=by
 have hw:=Rg n h2 h5;have hr:=Ae (n:=n) (by omega);have pw:2^n<=32:=uv (by omega) h5 (n:=2);have pw0:1<=2^n:=JJ;have key:∃ d,wM [.int (mixed:Int),.int (n:Int),.int (most:Int),.int (last:Int)]=Ga d/\∃ X,FI n most last X/\d=jZ ((lG n (tab X)).map fd):=by
  refine zyE (mixed:Int) (n:Int) (most:Int) (last:Int) ((2^n-1:Nat):Int) n hw hr (λX num=>FI n most last X/\-(2^64)<num/\num<2^64) (λd=>∃ X,FI n most last X/\d=jZ ((lG n (tab X)).map fd)) ⟨⟨vW,j5 _,λf hf=>absurd hf kH⟩,by omega,by omega⟩ ?_ ?_
  .rintro k hk X num ⟨F,n1,n2⟩ x7 x8 x9;obtain⟨h,eh⟩:∃ h:Nat,((mixed:Int)+(k:Int))%(n:Int)=(h:Int):=⟨(((mixed:Int)+(k:Int))%(n:Int)).toNat,by have:=kG ((mixed:Int)+(k:Int)) (show(n:Int)≠0 by omega);omega⟩;have hh:h<n:=by have:=kw ((mixed:Int)+(k:Int)) (show(0:Int)<n by omega);omega
   have hp:=Iv ⟨h,by omega⟩;obtain⟨m2,e2⟩:∃ m2:Int,(num*num+48271*num+7919)%2147483647=m2:=⟨_,rfl⟩;have m20:0<=m2:=by rw[<- e2];exact kG _ (by decide)
   have m21:m2<2147483647:=by rw[<- e2];exact kw _ (by decide)
   obtain⟨r2,er⟩:∃ r2:Nat,(if m2/4%4=0 then((2^n-1:Nat):Int) else m2/16%(((2^n-1:Nat):Int)+1))=(r2:Int)/\r2<2^n:=by
    split
    .exact⟨2^n-1,rfl,by omega⟩
    .have a:=kG (m2/16) (show((2^n-1:Nat):Int)+1≠0 by omega);have b:=kw (m2/16) (show(0:Int)<((2^n-1:Nat):Int)+1 by omega);generalize m2/16%(((2^n-1:Nat):Int)+1)=z at a b;exact⟨z.toNat,by omega,by omega⟩
   obtain⟨m',o1,o2,o3⟩:=zDa ⟨r2,by omega⟩ ⟨h,by omega⟩;have ST:=XC (mixed:Int) (n:Int) (most:Int) (last:Int) ((2^n-1:Nat):Int) num (k:Int) 0 (r2:Int) X x7 x8 x9 m' h eh (by omega) (by omega) (by have:=F.ln;omega) (by omega) _ (Ik ⟨h,by omega⟩) hp.1 hp.2 n1 n2 m2 e2 er.1 o1;refine Hv ST ?_;rintro _ ⟨X',hX,y7,y8,y9,rfl⟩;refine⟨X',m2,⟨?_,by omega,by omega⟩,_,_,_,rfl⟩;rcases hX with rfl|⟨hlt,rfl⟩
   .exact F
   .refine F.put (by omega) ⟨hh,?_,?_,?_,o3⟩
    .have:=kG (m2/512) (show(last:Int)≠0 by omega);show 1<=1+m2/512%(last:Int);omega
    .have:=kw (m2/512) (show(0:Int)<last by omega);show 1+m2/512%(last:Int)<=last;omega
    .have:m'<=r2:=o2;have:=er.2;show m'<_;omega
  .rintro X num ⟨F,n1,n2⟩;have hb:∀ f∈X,f.h<n:=λf hf=>(F.ok f hf).1;have l5:X.length<=5:=jk F.ln hmo;have e1:(oC fd X).map (λp=>jb p.1)=X.map λf=>.int (f.h:Int):=by unfold oC;rw[jL];rfl
   have sr:=zv3 l5 F.nd (λf hf=>by have:=hb f hf;omega);rw[<- e1,zyC h5 F.nd hb] at sr;refine⟨_,_,sr,?_,?_,X,F,rfl⟩
   .rw[jc,xE];have:=EG n (tab X);omega
   .refine yC (λf=>jb (Fl.h f:Int)) fd λf hf=>?_;obtain⟨_,ef⟩:=rD.mp hf;have at1:oM (oC fd X) (f.h:Int)=Ga (fd f):=by
     rw[NQ];unfold tab at ef;cases z:nY X f.h with
     | none=>rw[z] at ef;cases ef
     | some g =>
      rw[z] at ef;obtain⟨g1,_⟩:=HV z;have:g=f:=by cases f;cases g;cases ef;cases g1;rfl
      rw[this];rfl
    exact zFh _ _ _ at1
 obtain⟨d,d1,X,d2,d3⟩:=key;exact⟨X,d2,by rw[d1,d3]⟩
theorem zFi {n most last:Nat}{X:List Fl}(F:FI n most last X):Ok n (tab X) last/\lj n (tab X)<=X.length:=by
 have mem:∀ i a m,tab X i=Ga (a,m)->∃ f∈X,f.h=i/\f.a=a/\f.m=m:=λi a m e=>by
  unfold tab at e;cases z:nY X i with
  | none=>rw[z] at e;cases e
  | some g =>
   rw[z] at e;cases e;exact⟨g,(HV z).2,(HV z).1,rfl,rfl⟩
 refine⟨⟨λi a m e=>?_,λi a m e=>?_,λi a m e=>?_⟩,?_⟩
 .obtain⟨f,hf,rfl,rfl,rfl⟩:=mem i a m e;exact⟨(F.ok f hf).2.1,(F.ok f hf).2.2.1⟩
 .obtain⟨f,hf,rfl,rfl,rfl⟩:=mem i a m e;exact(F.ok f hf).1
 .obtain⟨f,hf,rfl,rfl,rfl⟩:=mem i a m e;exact⟨(F.ok f hf).2.2.2.1,(F.ok f hf).2.2.2.2⟩
 .unfold lj;have sub:∀ i∈(jd n).filter (λi=>(tab X i).isSome),i∈X.map Fl.h:=λi hi=>by
   obtain⟨_,z⟩:=jD.mp hi;obtain⟨⟨a,m⟩,e⟩:=vE.mp z;obtain⟨f,hf,e,_⟩:=mem i a m e;exact jx.mpr ⟨f,hf,e⟩
  have nd:((jd n).filter λi=>(tab X i).isSome).Nodup:=kX kD uo;have:=UD nd sub;rw[jc] at this;exact this
def gE (f:Fl):D:=.tuple [.int f.a,.int (f.m:Int)]
def xM (E:Fs)(h:Nat):Int×Nat:=(E h).getD (9,0)
theorem Mn {n:Nat}{E:Fs}{h:Nat}(hh:h<n):(oM (oC gE (lG n E)) (h:Int)).getD (.tuple [.int 9,.int 0])=.tuple [.int (xM E h).1,.int ((xM E h).2:Int)]:=by
 rw[NQ,Au hh];unfold xM;cases E h with
 | none=>rfl
 | some p=>rfl
theorem zFj {E:Fs}{h r:Nat}(hr:r<9):decide ((xM E h).1<=(r:Int))=!nk E h (r:Int):=by
 unfold xM nk;cases E h with
 | none=>show decide ((9:Int)<=(r:Int))=false;exact Gd (by omega)
 | some p =>
  show decide (p.1<=(r:Int))=!decide ((r:Int)<p.1);by_cases c:p.1<=(r:Int)
  .rw[Gc c,Gd (by omega)];rfl
  .rw[Gd c,Gc (by omega)];rfl
theorem zFk {E:Fs}{b t r:Nat}(hr:r<9):(decide ((r:Int)<(xM E b).1)||(decide ((xM E b).1=(r:Int))&&decide (((xM E b).2:Int)/2^t%2=1)))=og E b t (r:Int):=by
 unfold xM og;cases E b with
 | none=>show(decide ((r:Int)<9)||_)=true;rw[Gc (by omega)];rfl
 | some p=>rfl
theorem zyF (row T v:D)(h at_ b e m P:Int)(parts:List D)(x5 x6 x7:Sl)(hP:L2.atI [jb 1,.int 2,.int 4,.int 8,.int 16] h=Ga (.int P))(hm:∀ x:Int,mS (.int x) (.int P)=Ga (.int (x/P)))(hm2:∀ x:Int,lM (.int x) (.int 2)=Ga (.int (x%2)))(hv:iY row (.int b)=Ga v)(kv:List (Int×D))(hT:rq T=Ga kv)(hg:(oM kv b).getD (.tuple [.int 9,.int 0])=.tuple [.int e,.int m])(hl:parts.length<1000000)(c:Bool)(hc:(decide (b=h)||(decide (at_<e)||(decide (e=at_)&&decide (m/P%2=1))))=c) :
  mP (λψ=>∃ x5 x6 x7,ψ=[.val row,.val T,.val (.int h),.val (.int at_),.own (parts++[if c=true then v else .none]),x5,x6,x7])
   ((nO 5 (.int b) [.val row,.val T,.val (.int h),.val (.int at_),.own parts,x5,x6,x7]).bind ag):=by
 subst hc;by_cases c1:b=h
 .rw[Gc c1,k9,Ge rfl];simp_arith[hT,hg,Gc c1,hv,Ge hl];exact nJ ⟨_,_,_,rfl⟩
 .rw[Gd c1,vg];by_cases c2:at_<e
  .rw[Gc c2,k9,Ge rfl];simp_arith[hT,hg,Gd c1,Gc c2,hv,Ge hl];exact nJ ⟨_,_,_,rfl⟩
  .rw[Gd c2,vg];by_cases c3:e=at_
   .rw[Gc c3,uU];by_cases c4:m/P%2=1
    .rw[Gc c4,Ge rfl];simp_arith[hT,hg,Gd c1,Gd c2,Gc c3,hP,hm,hm2,Gc c4,hv,Ge hl];exact nJ ⟨_,_,_,rfl⟩
    .rw[Gd c4,Gf jw];simp_arith[hT,hg,Gd c1,Gd c2,Gc c3,hP,hm,hm2,Gd c4,hv,Ge hl];exact nJ ⟨_,_,_,rfl⟩
   .rw[Gd c3,vn,Gf jw];simp_arith[hT,hg,Gd c1,Gd c2,Gd c3,hv,Ge hl];exact nJ ⟨_,_,_,rfl⟩
theorem zDb (rs:List D)(T:D)(h at_ e0 m0:Int)(kv:List (Int×D))(hT:rq T=Ga kv)(hg0:(oM kv h).getD (.tuple [.int 9,.int 0])=.tuple [.int e0,.int m0])(hu:e0<=at_):AF [.list rs,T,.int h,.int at_]=Ga .none:=by
 rw[SC];unfold GJ;simp_arith[hT,hg0,Gc hu]
theorem zAH (rs:List D)(T:D)(h at_ P:Int)(N:Nat)(e m:Nat->Int)(v:Nat->D)(c:Nat->Bool)(e0 m0 n:Int)(hrl:(rs.length:Int)=n)(hN:N<=5)(hr:mr (.int n)=Ga ((jd N).map λ(k:Nat)=>.int (k:Int)))(hP:L2.atI [jb 1,.int 2,.int 4,.int 8,.int 16] h=Ga (.int P))(hm:∀ x:Int,mS (.int x) (.int P)=Ga (.int (x/P)))(hm2:∀ x:Int,lM (.int x) (.int 2)=Ga (.int (x%2)))
  (kv:List (Int×D)) (hT:rq T=Ga kv) (hg0:(oM kv h).getD (.tuple [.int 9,.int 0])=.tuple [.int e0,.int m0]) (hv:∀ b,b<N->iY (.list rs) (.int (b:Int))=Ga (v b)) (hg:∀ b:Nat,b<N->(oM kv (b:Int)).getD (.tuple [.int 9,.int 0])=.tuple [.int (e b),.int (m b)]) (hc:∀ b,b<N->(decide ((b:Int)=h)||(decide (at_<e b)||(decide (e b=at_)&&decide (m b/P%2=1))))=c b) (hu:¬e0<=at_)
  (W:Nat->List D) (hW:W 0=[]) (hW1:∀ b,b<N->W b++[if c b=true then v b else .none]=W (b+1)) (hWl:∀ b,b<N->(W b).length<1000000) :
  AF [.list rs,T,.int h,.int at_]=Ga (.tuple [.int h,.tuple (W N)]):=by
 rw[SC];unfold GJ;simp_arith[hT,hg0,Gd hu,hrl,hr];refine(congrArg lq (Cu (R:=Ga (.rt (.tuple [.int h,.tuple (W N)]))) N (λk ψ=>∃ x5 x6 x7,ψ=[.val (.list rs),.val T,.val (.int h),.val (.int at_),.own (W k),x5,x6,x7]) ⟨_,_,_,by rw[hW]⟩ ?_ ?_)).trans rfl
 .rintro k hk _ ⟨x5,x6,x7,rfl⟩;refine Hv (zyF _ T (v k) h at_ k (e k) (m k) P _ x5 x6 x7 hP hm hm2 (hv k hk) kv hT (hg k hk) (hWl k hk) (c k) (hc k hk)) ?_;rintro _ ⟨y5,y6,y7,rfl⟩;exact⟨y5,y6,y7,by rw[hW1 k hk]⟩
 .rintro _ ⟨x5,x6,x7,rfl⟩;simp_arith[]
def xk (ns:List D):Nat->D:=λi=>ns.getD i .none
def tF (ns:List D)(E:Fs)(r:Nat):List D:=(jd ns.length).map (ox ns.length (xk ns) E r)
theorem zDc {ns:List D}{E:Fs}{r b:Nat}(h:b<ns.length):L2.atI (tF ns E r) (b:Int)=Ga (ox ns.length (xk ns) E r b):=by
 refine L2.atI_nat ?_;unfold tF;rw[jA,ud h];rfl
theorem zDd (ns:List D)(E:Fs)(r h:Nat)(h5:ns.length<=5)(hh:h<ns.length)(hr:r+1<9):AF [.list (tF ns E r),sw (oC gE (lG ns.length E)),.int (h:Int),.int ((r:Int)+1)]=Ga (ox ns.length (xk ns) E (r+1) h):=by
 have rl:(tF ns E r).length=ns.length:=by unfold tF;rw[jc,jE]
 have ec:((r:Int)+1)=((r+1:Nat):Int):=by omega
 have hp:=Iv ⟨h,by omega⟩;have T:=ss (oC gE (lG ns.length E));show _=Ga (if nk E h ((r:Int)+1)=true then jZ [.int (h:Int),.tuple ((jd ns.length).map λb=>if (b==h||og E b h ((r:Int)+1))=true then ox ns.length (xk ns) E r b else uN)] else uN);have hu:=zFj (E:=E) (h:=h) (r:=r+1) (by omega);rw[<- ec] at hu;cases u:nk E h ((r:Int)+1) with
 | false =>
  rw[u] at hu;rw[Gf jw];exact zDb _ _ _ _ _ _ _ T (Mn hh) (of_decide_eq_true hu)
 | true =>
  rw[u] at hu;rw[Ge rfl];exact zAH (tF ns E r) _ h ((r:Int)+1) _ ns.length (λb=>(xM E b).1) (λb=>((xM E b).2:Int)) (ox ns.length (xk ns) E r) (λb=>b==h||og E b h ((r:Int)+1)) _ _ _ (by rw[rl]) h5 (Ae (by omega)) (Ik ⟨h,by omega⟩) (λx=>sV hp.1 hp.2) (λx=>pB (by decide)) _ T (Mn hh) (λb hb=>zDc hb) (λb hb=>Mn hb)
   (λb hb=>by rw[Td,ec];exact congrArg _ (zFk (by omega))) (of_decide_eq_false hu) (λk=>(jd k).map λb=>if (b==h||og E b h ((r:Int)+1))=true then ox ns.length (xk ns) E r b else uN) rfl (λb hb=>by rw[kr,jI];rfl) (λb hb=>by rw[jc,jE];omega)
theorem zAI {X:List Fl}{f:Fl}(h:f.h∉X.map Fl.h):rO X f=X++[f]:=by
 unfold rO;rw[Gf];intro z;obtain⟨x,hx,e⟩:=vZ.mp z;rw[beq_iff_eq] at e;exact h (jx.mpr ⟨x,hx,e⟩)
theorem zAJ (Rn Rd:D)(X:List Fl)(f:Fl)(x3 x4 x5 x6:Sl)(hf:f.h∉X.map Fl.h)(hl:X.length<1000000) :
  mP (λψ=>∃ x3 x4 x5,ψ=[.val Rn,.val Rd,.dki Gb (oC gE (X++[f])),x3,x4,x5,x6])
   ((Cb cN (fd f) [.val Rn,.val Rd,.dki Gb (oC gE X),x3,x4,x5,x6]).bind cu):=by
 have pd:rY (oC gE X) (f.h:Int) (.tuple [.int f.a,.int (f.m:Int)])=oC gE (X++[f]):=by rw[<- zAI hf];exact RP gE X f
 have kl:(oC gE X).length<1000000:=by unfold oC;rw[jc];exact hl
 unfold fd;simp_arith[Ge kl,pd];exact nJ ⟨_,_,_,rfl⟩
theorem zv7 (C:List D->Option D)(Rn N0:D)(R at_ n:Int)(h0:iY Rn (.int 0)=Ga N0)(hn:ma N0=Ga (.int n))(l:List D)(T:List (Int×D))(W w:List D)(y x3 x4 x5:Sl)(hy:y=.dki Gb T\/y=.val (sw T))(hr:mr (.int n)=Ga l)(hll:l.length<=1000000)(h1:mv (λ_=>Ga true) (lw C aV) [.val (.int at_),.val (sw T),.own W] l=Ga w)(h2:W.length<1000000) :
  mP (λψ=>∃ y x3 x4 x5,(y=.dki Gb T\/y=.val (sw T))/\ψ=[.val Rn,.val (.int R),y,x3,x4,x5,.own (W++[.list w])]) ((nO 4 (.int at_) [.val Rn,.val (.int R),y,x3,x4,x5,.own W]).bind (Az 2 (zh 6 (pf (lY cn (λ_=>Ga true) (lw C aV) [4,2,6]))))):=by
 rcases hy with rfl|rfl
 .simp_arith[h0,hn,hr,oV,Ge hll,h1,Ge h2];exact nJ ⟨_,_,_,_,.inr rfl,rfl⟩
 .simp_arith[h0,hn,hr,oV,Ge hll,h1,Ge h2];exact nJ ⟨_,_,_,_,.inr rfl,rfl⟩
theorem zAK (ns fs:List D)(R n:Int)(hn:(ns.length:Int)=n)(m:Nat)(l:List D)(T:List (Int×D))(row:Nat->List D)(W:Nat->List D)(hW0:W 0=[.list (row 0)])(hW:∀ r,r<m->W (r+1)=W r++[.list (row (r+1))])(hWl:∀ r,r<m->(W r).length<1000000)(hr:mr (.int n)=Ga l)(hll:l.length<=1000000)(hr2:sq (.int 1) (.int (R+1))=Ga ((jd m).map λ(k:Nat)=>.int ((k:Int)+1)))
  (hd:∀ ψ k r,(∃ x3 x4 x5,ψ=[.val (.tuple [.tuple ns,.tuple fs]),.val (.int R),.dki Gb [],x3,x4,x5,.no])->(∀ e,(∃ x3 x4 x5,e=[.val (.tuple [.tuple ns,.tuple fs]),.val (.int R),.dki Gb T,x3,x4,x5,.no])->k e=r)->mU (lS bZ cu fs ψ) k=r)
  (hf:mv (λ_=>Ga true) be [.val (.tuple [.tuple ns,.tuple fs])] l=Ga (row 0))
  (hs:∀ r,r<m->mv (λ_=>Ga true) aL [.val (.int ((r:Int)+1)),.val (sw T),.own (W r)] l=Ga (row (r+1))) :
  AD [.tuple [.tuple ns,.tuple fs],.int R]=Ga (.list (W m)):=by
 rw[Yb];unfold Oo;simp_arith[];refine(congrArg lq (hd _ _ (Ga (.ro (W m))) ⟨_,_,_,rfl⟩ ?_)).trans rfl;rintro _ ⟨x3,x4,x5,rfl⟩;simp_arith[hn,hr,oV,Ge hll,hf,hr2];refine Cu (R:=Ga (.ro (W m))) m (λk ψ=>∃ y x3 x4 x5,(y=.dki Gb T\/y=.val (sw T))/\ψ=[.val (.tuple [.tuple ns,.tuple fs]),.val (.int R),y,x3,x4,x5,.own (W k)]) ⟨_,_,_,_,.inl rfl,by rw[hW0]⟩ ?_ ?_
 .rintro k hk _ ⟨y,x3,x4,x5,hy,rfl⟩;rw[hW k hk];exact zv7 AF (.tuple [.tuple ns,.tuple fs]) (.tuple ns) R _ n rfl (by show Ga (jb (ns.length:Int))=_;rw[hn]) l T _ _ y x3 x4 x5 hy hr hll (hs k hk) (hWl k hk)
 .rintro _ ⟨y,x3,x4,x5,hy,rfl⟩;rcases hy with rfl|rfl
  .simp_arith[]
  .simp_arith[]
theorem XE (ns fs:List D)(i:Int)(v:D)(h:L2.atI ns i=Ga v):be [.val (.int i),.val (.tuple [.tuple ns,.tuple fs])]=Ga (.tuple [.int i,v]):=by
 simp_arith[h]
theorem zDe (W:List D)(T d v:D)(h at_:Int)(hl:L2.atI W (-1)=Ga d)(hv:AF [d,T,.int h,.int at_]=Ga v):aL [.val (.int h),.val (.int at_),.val T,.own W]=Ga v:=by
 simp_arith[hl,hv]
theorem UB {m:Nat}(h:m<1000):sq (.int 1) (.int ((m:Int)+1))=Ga ((jd m).map λ(k:Nat)=>.int ((k:Int)+1)):=by
 unfold sq;dsimp only;rw[Ge ⟨by decide,by decide,by omega,by omega⟩];unfold oi;rw[show((m:Int)+1-1).toNat=m by omega];refine congrArg Ga (jN λk _=>?_);rw[Int.add_comm]
theorem zAM (ns:List D)(E:Fs)(m:Nat)(h5:ns.length<=5)(hm:m<9):AD [mW ns E,.int (m:Int)]=Ga (.list ((jd (m+1)).map λr=>.list (tF ns E r))):=by
 refine zAK ns ((lG ns.length E).map fd) m _ rfl m _ (oC gE (lG ns.length E)) (tF ns E) (λk=>(jd (k+1)).map λr=>.list (tF ns E r)) rfl (λr _=>by rw[kr,jI];rfl) (λr hr=>by rw[jc,jE];omega) (Ae (by omega)) (by rw[jc,jE];omega) (UB (by omega)) ?_ ?_ ?_
 .intro ψ k r h0 hk;refine CN fd (λpre ψ=>∃ x3 x4 x5,ψ=[.val (.tuple [.tuple ns,.tuple ((lG ns.length E).map fd)]),.val (.int (m:Int)),.dki Gb (oC gE pre),x3,x4,x5,.no]) (lG ns.length E) h0 ?_ hk;rintro pre f suf e _ ⟨x3,x4,x5,rfl⟩;refine zAJ _ _ pre f x3 x4 x5 _ ?_ ?_
  .have nd:=GI ns.length E;rw[e,jI,jK] at nd;exact λz=>(uO.mp nd).2.2 _ z _ jf rfl
  .have l:=xE ns.length E;rw[e,jg] at l;have:=EG ns.length E;omega
 .refine yC _ _ λi hi=>?_;have:=jn.mp hi;refine XE ns _ _ _ (L2.atI_nat ?_);unfold xk;rw[ji this,jq,ji this];rfl
 .intro r hr;refine yC _ _ λi hi=>?_;have:=jn.mp hi;exact zDe _ _ _ _ _ _ (by show L2.atI (v9 _ (jd (r+1))) _=_;rw[kr,jI];exact L2.atI_last _ _) (zDd ns E r i h5 this (by omega))
theorem Fb (i:Int):pQ [.int i]=Ga (.bool true):=by
 rw[zpK];unfold Mk;simp_arith[]
theorem XZ (pw:D->D->Option D)(R:D)(n mo x T:Int)(x3 x4 x5 x6 x7 x8:Sl)(hq:pw (.int 10) (.int 60)=Ga (.int T))(h:¬T<=(if x<0 then -x else x)) :
  mP (λψ=>∃ x3,ψ=[.val R,.val (.int n),.val (.int mo),x3,x4,x5,x6,x7,x8]) ((nO 3 (.int x) [.val R,.val (.int n),.val (.int mo),x3,x4,x5,x6,x7,x8]).bind (lD (nU (ol (mK (lw pQ gw))) (mw ET (pz DL iF) (iU pw gI gJ))) fS lI)):=by
 have ha:DL (.int x)=Ga (.int (if x<0 then -x else x)):=rfl;generalize (if x<0 then -x else x)=y at *;have hw:=Fb x;simp_arith[hw,ha,hq,Gd h];exact nJ ⟨_,rfl⟩
theorem YO (R:D)(n mo L h a m w P:Int)(x3 x5 x6 x7 x8:Sl)(h1:¬h<=L)(h2:¬n<=h)(h3:¬a<1)(h4:¬5<a)(h5:¬m<0)(h6:¬w<m)(hw:L2.atI [jb 3,.int 7,.int 15,.int 31] (n-2)=Ga (.int w))(hP:L2.atI [jb 1,.int 2,.int 4,.int 8,.int 16] h=Ga (.int P))(hd:mS (.int m) (.int P)=Ga (.int (m/P)))(hm:lM (.int (m/P)) (.int 2)=Ga (.int (m/P%2)))(h7:¬m/P%2=1)(f:D)(hf:f=.tuple [.int h,.int a,.int m]) :
  mP (λψ=>∃ x3 x5 x6 x7 x8,ψ=[.val R,.val (.int n),.val (.int mo),x3,.val (.int h),x5,x6,x7,x8]) ((nO 5 f [.val R,.val (.int n),.val (.int mo),x3,.val (.int L),x5,x6,x7,x8]).bind (iX az (iX bw (iX (lD (nU (ol (mK (lw pQ gB))) (nU (ol (mK (lw pQ gC))) (ol (mK (lw pQ gD))))) fS lI) af)))):=by
 subst hf;have l3:ma (.tuple [.int h,.int a,.int m])=Ga (.int 3):=rfl;have n3:nG (.int 3) (.int 3)=Ga (.bool false):=rfl;have w1:=Fb h;have w2:=Fb a;have w3:=Fb m;have l4:((([jb h,.int a,.int m]:List D).length:Nat):Int)=3:=rfl;have d3:decide (¬(3:Int)=3)=false:=rfl;simp_arith[l4,not_true_eq_false,w1,w2,w3,Gd h1,Gd h2,Gd h3,Gd h4,Gd h5,hw,Gd h6,hP,hd,hm,Gd h7];exact nJ ⟨_,_,_,_,_,rfl⟩
theorem zDf (is:List Int)(X:List Fl)(n mo w T:Int)(hn:ma (.tuple (is.map jb))=Ga (.int n))(lf:Int)(hl:ma (.tuple (X.map fd))=Ga (.int lf))(hlf:¬mo<lf)(hq:pO (.int 10) (.int 60)=Ga (.int T))(hi:∀ x∈is,¬T<=(if x<0 then -x else x))(N F:List D)(eN:is.map jb=N)(eF:X.map fd=F)
  (pw:JA (λf g:Fl=>f.h<g.h) X) (hf:∀ f∈X,∀ L:Int,L<(f.h:Int)->∀ x3 x5 x6 x7 x8,∀ R,mP (λψ=>∃ x3 x5 x6 x7 x8,ψ=[.val R,.val (.int n),.val (.int mo),x3,.val (.int (f.h:Int)),x5,x6,x7,x8]) ((nO 5 (fd f) [.val R,.val (.int n),.val (.int mo),x3,.val (.int L),x5,x6,x7,x8]).bind (iX az (iX bw (iX (lD (nU (ol (mK (lw pQ gB))) (nU (ol (mK (lw pQ gC))) (ol (mK (lw pQ gD))))) fS lI) af))))) :
  zf [.tuple [.tuple N,.tuple F],.int n,.int mo]=Ga (.bool true):=by
 have l2:((([jZ N,.tuple F]:List D).length:Nat):Int)=2:=rfl;have hn2:((N.length:Nat):Int)=n:=by rw[eN] at hn;injection hn with hn;injection hn
 have hl2:((F.length:Nat):Int)=lf:=by rw[eF] at hl;injection hl with hl;injection hl
 have d1:¬¬n=n:=λz=>z rfl;rw[ZO];unfold Ky;simp_arith[l2,not_true_eq_false,hn2,hl2,Gd hlf];rw[<- eN];refine(congrArg lq (CN (R:=Ga (.rt (.bool true))) jb (λpre ψ=>∃ x3,ψ=[.val (.tuple [.tuple (is.map jb),.tuple F]),.val (.int n),.val (.int mo),x3,.no,.no,.no,.no,.no]) is ⟨_,rfl⟩ ?_ ?_)).trans rfl
 .rintro pre x suf e _ ⟨x3,rfl⟩;exact XZ pO _ n mo x T x3 _ _ _ _ _ hq (hi x (by rw[e];exact jR _ jf))
 .rintro _ ⟨x3,rfl⟩;simp_arith[];rw[<- eF];refine CN (R:=Ga (.rt (.bool true))) fd (λpre ψ=>∃ (L:Int) (x3 x5 x6 x7 x8:Sl),(∀ suf,X=pre++suf->∀ f∈suf,L<(f.h:Int))/\ψ=[.val (.tuple [.tuple (is.map jb),.tuple (X.map fd)]),.val (.int n),.val (.int mo),x3,.val (.int L),x5,x6,x7,x8]) X ⟨_,_,_,_,_,_,λ_ _ f _=>by omega,rfl⟩ ?_ ?_
  .rintro pre f suf e _ ⟨L,x3,x5,x6,x7,x8,hL,rfl⟩;refine Hv (hf f (by rw[e];exact jR _ jf) L (hL (f::suf) e f jf) x3 x5 x6 x7 x8 _) ?_;rintro _ ⟨y3,y5,y6,y7,y8,rfl⟩;refine⟨_,y3,y5,y6,y7,y8,λsuf' e' g hg=>?_,rfl⟩;have es:suf'=suf:=by
    rw[e,uM] at e';have:=List.append_cancel_left e';exact(List.cons.inj this).2.symm
   subst es;rw[e] at pw;have:=(JK.mp (Ju.mp pw).2.1).1 g hg;omega
  .rintro _ ⟨L,x3,x5,x6,x7,x8,hL,rfl⟩;simp_arith[]
theorem DC:pO (.int 10) (.int 60)=Ga (.int ((10:Int)^60)):=by
 show(if (decide ((0:Int)<=60)&&decide ((60:Int)<=1000000)&&decide ((10:Int).natAbs<2^64))=true then Ga (jb ((10:Int)^(60:Int).toNat)) else Gb)=_;rw[Ge (by decide)];rfl
theorem zFl (n:Nat)(E:Fs):JA (λf g:Fl=>f.h<g.h) (lG n E):=by
 have h:=CS n E;have p:JA (·<·) ((lG n E).map Fl.h):=by rw[h];exact List.Pairwise.sublist kD qY
 exact List.pairwise_map.mp p
theorem ZX (is:List Int)(E:Fs)(mo:Nat)(h2:2<=is.length)(h5:is.length<=5)(hi:∀ x∈is,¬(10:Int)^60<=(if x<0 then -x else x))(ho:Ok is.length E 5)(hc:lj is.length E<=mo):zf [mW (is.map jb) E,.int (is.length:Int),.int (mo:Int)]=Ga (.bool true):=by
 have e1:(is.map jb).length=is.length:=jc _;unfold mW rd;rw[e1];have pw:2^is.length<=32:=uv (by omega) h5 (n:=2);have pw0:1<=2^is.length:=JJ;refine zDf is (lG is.length E) (is.length:Int) (mo:Int) ((2^is.length-1:Nat):Int) _ (by show Ga (jb (((is.map jb).length:Nat):Int))=_;rw[e1]) ((lj is.length E:Nat):Int) (by show Ga (jb ((((lG is.length E).map fd).length:Nat):Int))=_;rw[jc,xE]) (by omega) DC hi _ _ rfl rfl (zFl _ _) ?_;intro f hf L hL x3 x5 x6 x7 x8 R;obtain⟨f1,f2⟩:=rD.mp hf;have r:=ho.rnd _ _ _ f2;have m:=ho.msk _ _ _ f2;have hp:=Iv ⟨f.h,by omega⟩;have mb:¬(f.m:Int)/2^f.h%2=1:=of_decide_eq_false m.2;exact YO R _ _ L f.h f.a f.m _ _ x3 x5 x6 x7 x8 (by omega) (by omega) (by omega) (by omega) (by omega) (by omega) (Rg _ h2 h5) (Ik ⟨f.h,by omega⟩) (sV hp.1 hp.2) (pB (by decide)) mb _ rfl
theorem Rx {n:Nat}{ns ns':Nat->D}{E:Fs}(h:∀ i,i<n->ns i=ns' i):∀ r i,i<n->ox n ns E r i=ox n ns' E r i
 | 0,i,hi=>by unfold ox;rw[h i hi]
 | r+1,i,hi=>by
  unfold ox;have:(jd n).map (λb=>if (b==i||og E b i ((r:Int)+1))=true then ox n ns E r b else .none)=(jd n).map (λb=>if (b==i||og E b i ((r:Int)+1))=true then ox n ns' E r b else .none):=jN λb hb=>by rw[Rx h r b (jn.mp hb)]
  rw[this]
def me (n:Nat)(v:Nat->Int):List D:=(jd n).map λi=>.int (v i)
theorem nu (n:Nat)(v:Nat->Int):(me n v).length=n:=by unfold me;rw[jc,jE]
theorem Ca {n:Nat}{v:Nat->Int}{i:Nat}(h:i<n):(me n v)[i]?=Ga (.int (v i)):=by unfold me;rw[jA,ud h];rfl
theorem Xo {n:Nat}{v w:Nat->Int}(h:∀ i,i<n->v i=w i):me n v=me n w:=jN λi hi=>by rw[h i (jn.mp hi)]
theorem zAO (is:List Int):me is.length (λi=>is.getD i 0)=is.map jb:=by
 refine qA λi=>?_;by_cases h:i<is.length
 .rw[Ca h,jA,jq,ji h];rfl
 .rw[kx (by rw[nu];omega),kx (by rw[jc];omega)]
theorem BC (n:Nat)(v:Nat->Int):me n v=((jd n).map v).map jb:=by unfold me;rw[jL];rfl
def lU (n:Nat)(r:Rn):D:=mW (me n r.1) r.2
theorem zFm {n:Nat}{v:Nat->Int}(i:Nat)(h:i<n):xk (me n v) i=.int (v i):=by unfold xk;rw[jq,Ca h];rfl
theorem Zr (R N F a b c N' x:D)(h:Int)(h0:iY R (.int 0)=Ga N)(h1:iY R (.int 1)=Ga F)(ha:wk N Gb (Ga h)=Ga a)(hb:lJ a (.tuple [x])=Ga b)(hc:wk N (Ga (h+1)) Gb=Ga c)(hd:lJ b c=Ga N'):xO [R,.int h,x]=Ga (.tuple [N',F]):=by
 rw[znG];unfold Np;simp_arith[h0,h1,ha,hb,hc,hd]
theorem zFn (xs:List D)(h:Nat)(hh:h<xs.length):wk (.tuple xs) Gb (Ga (h:Int))=Ga (.tuple (xs.take h)):=by
 show(if HT.sIx xs.length 0 Gb=0/\HT.sIx xs.length xs.length (Ga (h:Int))=xs.length then Gb else Ga (jZ (tN xs Gb (Ga (h:Int)))))=_;rw[HT.sIx_nat,Gf (by omega)];unfold tN;rw[HT.sIx_none,HT.sIx_nat,List.drop_zero,Nat.sub_zero,Je (by omega)]
theorem zFo (xs:List D)(h:Nat)(hh:h<xs.length):wk (.tuple xs) (Ga ((h:Int)+1)) Gb=Ga (.tuple (xs.drop (h+1))):=by
 rw[show(h:Int)+1=((h+1:Nat):Int) by omega];show(if HT.sIx xs.length 0 (Ga ((h+1:Nat):Int))=0/\HT.sIx xs.length xs.length Gb=xs.length then Gb else Ga (jZ (tN xs (Ga ((h+1:Nat):Int)) Gb)))=_;rw[HT.sIx_nat,Gf (by omega)];unfold tN;rw[HT.sIx_none,HT.sIx_nat,Je (by omega),qX (by rw[vY];exact jj _)]
theorem Yz (n:Nat)(v:Nat->Int)(E:Fs)(h:Nat)(x:Int)(h5:n<=5)(hh:h<n):xO [lU n (v,E),.int (h:Int),.int x]=Ga (lU n (rN v h x,E)):=by
 have ln:=nu n v;have es:(me n v).take h++[jb x]++(me n v).drop (h+1)=me n (rN v h x):=by
  rw[uM,Jk];have:=List.set_eq_take_append_cons_drop (l:=me n v) (i:=h) (a:=jb x);rw[Ge (by omega)] at this;rw[<- this];refine qA λi=>?_;by_cases c:i<n
  .rw[Ca c,List.getElem?_set];unfold rN;by_cases d:h=i
   .rw[Ge d,Ge (by omega),Ge d.symm]
   .rw[Gf d,Gf (λz=>d z.symm),Ca c]
  .rw[kx (by rw[Jb,ln];omega),kx (by rw[nu];omega)]
 have e:=Zr (lU n (v,E)) (.tuple (me n v)) (.tuple ((lG n E).map fd)) _ _ _ (.tuple (me n (rN v h x))) (.int x) (h:Int) rfl (by unfold lU mW;rw[nu];rfl) (zFn _ h (by omega)) (MJ (by rw[vq,j4];omega)) (zFo _ h (by omega)) (by rw[MJ (by rw[jg,vq,j4,vY];omega),es]);rw[e];unfold lU mW rd;rw[nu]
theorem zAP (R Nw l N0 a b:D)(h k:Int)(p p':List D)(x4 x5 x6:Sl)(h1:L2.atI p (-1)=Ga l)(h2:iY l (.int 0)=Ga N0)(h3:iY N0 (.int h)=Ga a)(h4:iY Nw (.int h)=Ga b)(hc:(nG a b=Ga (.bool false)/\p'=p)\/(nG a b=Ga (.bool true)/\∃ o q,xO [l,.int h,b]=Ga o/\pF 12 [l,o,.int h,.int 1,.int k]=Ga (.list q)/\tS p q.tail=Ga p')) :
  mP (λψ=>∃ x4 x5 x6,ψ=[.val R,.val Nw,.val (.int k),.own p',x4,x5,x6]) ((nO 4 (.int h) [.val R,.val Nw,.val (.int k),.own p,x4,x5,x6]).bind (iX cY (lD aZ (iX (lF 6 (lw xO bL)) (pW 3 (om (lw (pF 12) bf) gj ot))) lI))):=by
 generalize xO=A1 at *;generalize pF 12=A2 at *;rcases hc with ⟨c,rfl⟩|⟨c,o,q,c1,c2,c3⟩
 .simp_arith[h1,h2,h3,h4,c];exact nJ ⟨_,_,_,rfl⟩
 .simp_arith[h1,h2,h3,h4,c,c1,c2,BW,c3];exact nJ ⟨_,_,_,rfl⟩
theorem zFp (R Nw:D)(k n:Int)(N:Nat)(W:Nat->List D)(hm:si [R]=Ga (.int n))(hr:mr (.int n)=Ga ((jd N).map λ(k:Nat)=>.int (k:Int)))(h0:W 0=[R])(st:∀ h:Nat,h<N->∀ x4 x5 x6,mP (λψ=>∃ x4 x5 x6,ψ=[.val R,.val Nw,.val (.int k),.own (W (h+1)),x4,x5,x6]) ((nO 4 (.int (h:Int)) [.val R,.val Nw,.val (.int k),.own (W h),x4,x5,x6]).bind (iX cY (lD aZ (iX (lF 6 (lw xO bL)) (pW 3 (om (lw (pF 12) bf) gj ot))) lI)))):Bm [R,Nw,.int k]=Ga (.list (W N)):=by
 have fin:∀ o,o=mU (lS ip (iX cY (lD aZ (iX (lF 6 (lw xO bL)) (pW 3 (om (lw (pF 12) bf) gj ot))) lI)) ((jd N).map λ(k:Nat)=>.int (k:Int)) [.val R,.val Nw,.val (.int k),.own [R],.no,.no,.no]) ii->lq o=Ga (.list (W N)):=by
  rintro _ rfl;refine(congrArg lq (Cu (R:=Ga (.ro (W N))) N (λh ψ=>∃ x4 x5 x6,ψ=[.val R,.val Nw,.val (.int k),.own (W h),x4,x5,x6]) ⟨_,_,_,by rw[h0]⟩ ?_ ?_)).trans rfl
  .rintro h hh _ ⟨x4,x5,x6,rfl⟩;exact st h hh x4 x5 x6
  .rintro _ ⟨x4,x5,x6,rfl⟩;simp_arith[]
 rw[zoG];refine fin _ ?_;clear fin st;unfold OU;generalize xO=A1 at *;generalize pF 12=A2 at *;generalize si=A3 at *;simp_arith[hm,hr]
theorem UX (n k d N:Nat)(v v':Nat->Int)(E E':Fs)(h:Nat)(h2:2<=n)(h5:n<=5)(hN:d<N)(hd:d<=k)(hh:h<n)(e1:E h=Gb)(e2:E' h=Gb)(o1:Ok n E (k+1-d))(o2:Ok n E' (k+1-d))(c1:lj n E+d+2<=n)(c2:lj n E'+d+2<=n) :
  pF N [lU n (v,E),lU n (v',E'),.int (h:Int),.int ((k+1-d:Nat):Int),.int (k:Int)]=Ga (.list ((wj n k d v v' E E' h).map (lU n))):=by
 have i1:=GF (me n v) (by rw[nu];exact h2) (by rw[nu];exact h5) k d N E h hN hd (by rw[nu];exact hh) e1 (by rw[nu];exact o1) (by rw[nu];exact c1);have i2:=GF (me n v') (by rw[nu];exact h2) (by rw[nu];exact h5) k d N E' h hN hd (by rw[nu];exact hh) e2 (by rw[nu];exact o2) (by rw[nu];exact c2);have l1:=(zo (ns:=λ_=>.none) (k:=k) h2 h5 d E h hd hh e1 o1 c1).2;have l2:=(zo (ns:=λ_=>.none) (k:=k) h2 h5 d E' h hd hh e2 o2 c2).2;have hl:=Gs d (by omega);rw[nu] at i1 i2;rw[SA];have e:=Si _ (lU n (v,E)) (lU n (v',E')) _ _ _ _ _ i1 i2 (by rw[jc,jc];omega);rw[e];unfold wj;rw[jI,qM,jL,jL];rfl
theorem zq7 (n k:Nat)(h2:2<=n)(h5:n<=5)(hk:k+2<=n)(v new:Nat->Int):Bm [lU n (v,mZ),.tuple (me n new),.int (k:Int)]=Ga (.list (((jd n).foldl (sJ n k new) [(v,mZ)]).map (lU n))):=by
 refine zFp _ _ _ (n:Int) n (λm=>((jd m).foldl (sJ n k new) [(v,mZ)]).map (lU n)) ?_ (Ae (by omega)) rfl ?_
 .have:=ER (me n v) (lG n mZ);unfold lU mW;rw[nu] at this ⊢;exact this
 .intro h hh x4 x5 x6;obtain⟨w,hw,H,hl⟩:=Pp h2 h5 hk v new h (by omega);have hkl:=Gs k (by omega);rw[kr,uQ,kW,uw];generalize (jd h).foldl (sJ n k new) [(v,mZ)]=p at H hl;have el:p.getLastD (new,mZ)=(w,mZ):=yw H.lst;have e0:w h=v h:=by rw[hw h,Gf (jU h)]
  refine zAP _ _ (lU n (w,mZ)) (.tuple (me n w)) (.int (w h)) (.int (new h)) (h:Int) (k:Int) _ _ x4 x5 x6 (xp (by rw[ku,H.lst];rfl)) rfl (L2.atI_nat (Ca hh)) (L2.atI_nat (Ca hh)) ?_;unfold sJ;rw[el];dsimp only;by_cases c:w h=new h
  .refine .inl ⟨?_,by rw[Ge c]⟩;rw[c,LZ,Gd (λz=>z rfl)]
  .refine .inr ⟨by rw[LZ,Gc c],?_⟩;have C:=UX n k k 12 w (rN w h (new h)) mZ mZ h h2 h5 (by omega) (jj _) hh rfl rfl (Cw _ _) (Cw _ _) (by rw[AB];omega) (by rw[AB];omega);rw[show((k+1-k:Nat):Int)=1 by omega] at C;have SL:(wj n k k w (rN w h (new h)) mZ mZ h).length<=2*mG k:=by
    unfold wj;rw[jg,kJ,jc,jc];have:=(zo (ns:=λ_=>.none) (k:=k) h2 h5 k mZ h (jj _) hh rfl (Cw _ _) (by rw[AB];omega)).2;omega
   refine⟨_,_,Yz n w mZ h (new h) h5 hh,C,?_⟩;rw[Gf c,jI,uq];unfold tS;rw[Ge];rw[jc,ko,jc];have:h*(2*mG k)<=5*(2*456):=vX (by omega) (by omega);omega
theorem TF {α:Type}{S:α->Nat->α->Prop}(len:α->Nat)(mono:∀ p h p',S p h p'->len p<=len p'):∀ {l:List Nat} {p q:α},pi S l p q->len p<=len q
 | [],p,q,h=>by cases h;exact jj _
 | h::l,p,q,⟨p',h1,h2⟩=>jk (mono _ _ _ h1) (TF len mono h2)
theorem Ea {α β:Type}{S:α->Nat->α->Prop}{T:β->Nat->β->Prop}(f:α->β)(B:Nat)(len:α->Nat)(mono:∀ p h p',S p h p'->len p<=len p')(st:∀ p h p',S p h p'->len p'<=B->T (f p) h (f p')):∀ {l:List Nat} {p q:α},pi S l p q->len q<=B->pi T l (f p) (f q)
 | [],p,q,h,_=>by cases h;exact rfl
 | h::l,p,q,⟨p',h1,h2⟩,hq=>⟨f p',st _ _ _ h1 (jk (TF len mono h2) hq),Ea f B len mono st h2 hq⟩
theorem Rc {t:FT}{g:FS}(f:Nat->D){T:List D->Nat->List D->Prop}(I:List D->En->Prop)(st:∀ p h p',T p h p'->∀ ψ,I p ψ->mP (I p') ((t (f h) ψ).bind g)):∀ {l:List Nat} {p q:List D},pi T l p q->∀ {ψ:En},I p ψ->mP (I q) (lS t g (l.map f) ψ)
 | [],p,q,h,ψ,he=>by cases h;exact⟨ψ,rfl,he⟩
 | h::l,p,q,⟨p',h1,h2⟩,ψ,he=>by
  obtain⟨e2,y1,y2⟩:=st _ _ _ h1 ψ he;obtain⟨e1,x1,x2⟩:=uX.mp y1;obtain⟨z,z1,z2⟩:=Rc f I st h2 y2;refine⟨z,?_,z2⟩;rw[jK];unfold lS;rw[x1,jp,x2];exact z1
theorem Hn {t:FT}{g k:FS}(f:Nat->D){T:List D->Nat->List D->Prop}(I:List D->En->Prop)(st:∀ p h p',T p h p'->∀ ψ,I p ψ->mP (I p') ((t (f h) ψ).bind g)){l:List Nat}{p q:List D}(hr:pi T l p q){ψ:En}{R:Option tu}(h0:I p ψ)(hq:∀ e,I q e->k e=R):mU (lS t g (l.map f) ψ) k=R:=by
 obtain⟨e,h1,h2⟩:=Rc f I st hr h0;rw[h1];exact hq e h2
theorem GP (n:Nat)(E:Fs)(p:Fl->Bool):(lG n E).filter p=lG n (λi=>(E i).bind λw=>if p ⟨i,w.1,w.2⟩=true then Ga w else Gb):=by
 unfold lG;rw[List.filter_filterMap];refine Ou λi _=>?_;dsimp only;cases E i with
 | none=>rfl
 | some w =>
  show Option.filter p (Ga _)=_;rw[jp];by_cases c:p ⟨i,w.1,w.2⟩=true
  .rw[Ge c,JL,Ge c];rfl
  .rw[Gf c,JL,Gf c];rfl
theorem ZJ (R N F:D)(fs fs':List D)(k:Int)(h0:iY R (.int 0)=Ga N)(h1:iY R (.int 1)=Ga F)(hs:toS F=Ga fs)(hl:fs.length<=1000000)(hc:mv cL iA [.val (.int k)] fs=Ga fs'):Bh [R,.int k]=Ga (.tuple [N,.tuple fs']):=by
 rw[ziE];unfold NM;simp_arith[h0,h1,hs,oV,Ge hl,hc]
theorem UT (ns:List D)(E:Fs):iY (mW ns E) (.int 0)=Ga (.tuple ns):=rfl
theorem EW (ns:List D)(E:Fs):iY (mW ns E) (.int 1)=Ga (.tuple ((lG ns.length E).map fd)):=rfl
theorem zDi (ns:List D)(E:Fs)(k:Nat)(h5:ns.length<=5):Bh [mW ns E,.int (k:Int)]=Ga (mW ns (lL E (k+1))):=by
 rw[ZJ (mW ns E) _ _ _ (((lG ns.length E).filter λf=>decide (f.a<=(k:Int))).map fd) (k:Int) (UT _ _) (EW _ _) rfl (Fi E h5) (wN fd (λf=>decide (f.a<=(k:Int))) fd (λf _=>by simp_arith[za]) (λf _ _=>rfl)),GP];have:(λi=>(E i).bind λ(w:Int×Nat)=>if decide ((⟨i,w.1,w.2⟩:Fl).a<=(k:Int))=true then Ga w else Gb)=lL E (k+1):=by
  funext i
  unfold lL;cases E i with
  | none=>rfl
  | some w =>
   obtain⟨a,m⟩:=w;dsimp only;rw[jp];by_cases c:a<=(k:Int)
   .rw[Ge (Gc c),Ge (by omega)]
   .rw[Gf (λz=>c (of_decide_eq_true z)),Gf (by omega)]
 rw[this];rfl
theorem ZH (R F:D)(a:Int)(U fs out:List D)(hU:tR [R,.int a]=Ga U)(h1:iY R (.int 1)=Ga F)(hs:toS F=Ga fs)(hl:fs.length<=1000000)(hc:mv (xo cM (mK (lw zb fA))) iA [.val (.int a),.val (.list U)] fs=Ga out):zj [R,.int a]=Ga (.list out):=by
 rw[WX];unfold NC;generalize zb=A1 at *;simp_arith[hU,h1,hs,oV,Ge hl,hc]
theorem Ut (ns:List D)(E:Fs)(a:Nat)(h5:ns.length<=5):tR [mW ns E,.int (a:Int)]=Ga (il (oG ns.length E a)):=by
 rw[show mW ns E=rd ns (lG ns.length E) from rfl,ES ns _ _ h5];unfold il oG;refine congrArg Ga (congrArg _ (kM λi hi=>Ko (jn.mp hi) _))
theorem Rt {n:Nat}{E:Fs}{a i:Nat}(h:i∈oG n E a):i<n:=jn.mp (jD.mp h).1
theorem RU (n:Nat)(E:Fs)(a:Nat):(oG n E a).length<=n:=jk (jW _ _) (by rw[jE];exact jj _)
theorem zAR (A:List D->Option D)(f:Fl)(U:D)(a:Int)(b:Bool)(hA:A [fd f,U]=Ga (.bool b)):(xo cM (mK (lw A fA))) [.val (fd f),.val (.int a),.val U]=Ga (decide (f.a=a)&&b):=by
 by_cases c:f.a=a
 .simp_arith[za,Gc c,hA];rw[uU]
 .simp_arith[za,Gd c];rw[vn]
theorem VF (ns:List D)(E:Fs)(a b:Nat)(h5:ns.length<=5)(o:Ok ns.length E b):zj [mW ns E,.int (a:Int)]=Ga (.list (((lG ns.length E).filter λf=>mV ns.length E a f.h).map fd)):=by
 have p32:=Gq h5;have H:=wN (l:=lG ns.length E) (fc:=xo cM (mK (lw zb fA))) (fe:=gv 0) (base:=[.val (.int (a:Int)),.val (.list (il (oG ns.length E a)))]) fd (λf=>decide (f.a=(a:Int))&&(oG ns.length E a).all λh=>bt f.m h) fd (λf hf=>zAR _ f _ _ _ (UZ f (by
   have:=(o.msk _ _ _ (rD.mp hf).2).1;omega) _ (λx hx=>by have:=Rt hx;omega) (jk (RU _ _ _) h5))) (λf _ _=>rfl)
 rw[ZH _ _ _ _ _ _ (Ut ns E a h5) (EW ns E) rfl (Fi E h5) H];refine congrArg (λl=>Ga (kU (v9 fd l))) (kM λf hf=>?_);unfold mV;rw[(rD.mp hf).2];rfl
theorem UW (n:Nat)(E:Fs)(a:Nat):((lG n E).filter λf=>mV n E a f.h).map Fl.h=oq n E a:=by
 have:(λf:Fl=>mV n E a f.h)=(λi=>mV n E a i)∘Fl.h:=rfl;rw[this,<- vI,CS,JI];unfold oq;refine kM λi _=>?_;cases e:mV n E a i with
 | false=>rfl
 | true =>
  obtain⟨m,e2,_⟩:=zY e;rw[e2];rfl
theorem zyM (R R1 R2:D)(h a k:Int)(h1:xW [R,.int h,.int (a+1),.int 0]=Ga R1)(h2:yJ [R,.int h]=Ga R2):ze [R,.int h,.int a,.int k]=Ga (if a<k then R1 else R2):=by
 rw[znI];unfold LN;generalize xW=A1 at *;generalize yJ=A2 at *;by_cases c:a<k
 .simp_arith[h1,h2,Gc c,Ge c]
 .simp_arith[h1,h2,Gd c,Gf c]
theorem zyN (ns:List D)(E:Fs)(h a k:Nat)(h5:ns.length<=5)(hh:h<ns.length):ze [mW ns E,.int (h:Int),.int (a:Int),.int (k:Int)]=Ga (mW ns (iW E h (nW k a))):=by
 rw[zyM _ _ _ _ _ _ (MT ns E h ((a:Int)+1) 0 h5 hh) (PM ns E h h5)];unfold nW;by_cases c:a<k
 .rw[Ge (by omega),Ge c]
 .rw[Gf (by omega),Gf c]
theorem zDj (R:D)(a k:Int)(X:List Fl)(W:List Fl->D)(h0:W []=R)(hf:zj [R,.int a]=Ga (.list (X.map fd)))(st:∀ pre f suf,X=pre++f::suf->ze [W pre,.int (f.h:Int),.int a,.int k]=Ga (W (pre++[f]))):BV [R,.int a,.int k]=Ga (W X):=by
 have fin:∀ o,o=mU (lS ip (lF 3 (lw ze bc)) (X.map fd) [.val R,.val (.int a),.val (.int k),.val R,.no]) (mR iF)->lq o=Ga (W X):=by
  rintro _ rfl;refine(congrArg lq (CN (R:=Ga (.rt (W X))) fd (λpre ψ=>∃ x4,ψ=[.val R,.val (.int a),.val (.int k),.val (W pre),x4]) X ⟨_,by rw[h0]⟩ ?_ ?_)).trans rfl
  .rintro pre f suf e _ ⟨x4,rfl⟩;have s:=st pre f suf e;generalize ze=A1 at *;simp_arith[TR,s];exact nJ ⟨_,rfl⟩
  .rintro _ ⟨x4,rfl⟩;simp_arith[]
 rw[zj7];refine fin _ ?_;clear fin st;unfold Oi;generalize ze=A1 at *;simp_arith[hf]
theorem Xr (ns:List D)(E:Fs)(a b k:Nat)(h5:ns.length<=5)(o:Ok ns.length E b):BV [mW ns E,.int (a:Int),.int (k:Int)]=Ga (mW ns (wd k a E (oq ns.length E a))):=by
 have:=zDj (mW ns E) (a:Int) (k:Int) ((lG ns.length E).filter λf=>mV ns.length E a f.h) (λpre=>mW ns (wd k a E (pre.map Fl.h))) rfl (VF ns E a b h5 o) (λpre f suf e=>by
  have hf:f∈(lG ns.length E).filter λf=>mV ns.length E a f.h:=by rw[e];exact jR _ jf
  rw[zyN _ _ _ _ _ h5 (rD.mp (jD.mp hf).1).1,jI];unfold wd;rw[uQ];rfl)
 rw[this,UW]
theorem YY (R R1:D)(h a k:Int)(P:List D)(h1:yJ [R,.int h]=Ga R1)(h2:rA 12 [R1,.int h,.int a,.int k]=Ga P):yr [R,.int h,.int a,.int k]=Ga (.list P.reverse):=by
 rw[zvY];unfold OL;generalize yJ=A1 at *;generalize rA 12=A2 at *;simp_arith[h1,h2]
theorem zAT (n k a:Nat)(v:Nat->Int)(F:Fs)(h:Nat)(h2:2<=n)(h5:n<=5)(hat:a<=k)(k12:k<12)(hh:h<n)(o:Ok n (iW F h Gb) (a+1))(c:lj n (iW F h Gb)+(k-a)+2<=n):yr [lU n (v,F),.int (h:Int),.int ((a:Int)+1),.int (k:Int)]=Ga (.list ((wA n k a v F h).map (lU n))):=by
 have i1:=GF (me n v) (by rw[nu];exact h2) (by rw[nu];exact h5) k (k-a) 12 (iW F h Gb) h (by omega) (by omega) (by rw[nu];exact hh) nE (by rw[nu];exact o.mono (by omega)) (by rw[nu];exact c);rw[show((k+1-(k-a):Nat):Int)=(a:Int)+1 by omega,nu] at i1;have e:=YY (lU n (v,F)) _ (h:Int) ((a:Int)+1) (k:Int) _ (PM (me n v) F h (by rw[nu];exact h5)) i1;rw[e];unfold wA;rw[qM,jL];rfl
theorem DY {p q:List D}(h:(p++q).length<=1000000):tS p q=Ga (p++q):=by
 unfold tS;rw[Ge (by rw[<- jg];exact h)]
def Kj (a k:Int)(p:List D)(h:Nat)(p':List D):Prop:=∃ l q,p.getLast?=Ga l/\yr [l,.int (h:Int),.int (a+1),.int k]=Ga (.list q)/\p'=p++q.tail/\p'.length<=1000000
theorem Yq (R HS:D)(a k:Int)(p:List D)(h:Nat)(p':List D)(x5:Sl)(T:Kj a k p h p'):mP (λψ=>∃ x5,ψ=[.val R,.val (.int a),.val (.int k),.val HS,.own p',x5]) ((nO 5 (.int (h:Int)) [.val R,.val (.int a),.val (.int k),.val HS,.own p,x5]).bind (pW 4 (om (lw yr aF) gj ot))):=by
 obtain⟨l,q,h1,h2,rfl,h3⟩:=T;have h1:=xp h1;have h3:=DY h3;generalize yr=A1 at *;simp_arith[h1,h2,BW,h3];exact nJ ⟨_,rfl⟩
theorem zGx (R:D)(a k nl:Int)(fl:List D)(hs:List Nat)(P0 P:List D)(hf:zj [R,.int a]=Ga (.list fl))(hl:fl.length<=1000000)(hc:mv (λ_=>Ga true) eC [] fl=Ga (hs.map λ(i:Nat)=>.int (i:Int)))(hn:((hs.map λ(i:Nat)=>jb (i:Int)).length:Int)=nl)
  (h0:(0<nl/\∃ X,BV [R,.int a,.int k]=Ga X/\P0=[R]++[X])\/(¬0<nl/\P0=[R])) (hr:pi (Kj a k) hs P0 P):wX [R,.int a,.int k]=Ga P:=by
 have fin:∀ o,o=mU (lS iq (pW 4 (om (lw yr aF) gj ot)) (hs.map λ(i:Nat)=>.int (i:Int)) [.val R,.val (.int a),.val (.int k),.val (.list (hs.map λ(i:Nat)=>.int (i:Int))),.own P0,.no]) ig->sG o=Ga P:=by
  rintro _ rfl;refine(congrArg sG (Hn (R:=Ga (.ro P)) (λ(i:Nat)=>jb (i:Int)) (λp ψ=>∃ x5,ψ=[.val R,.val (.int a),.val (.int k),.val (.list (hs.map λ(i:Nat)=>.int (i:Int))),.own p,x5]) ?_ hr ⟨_,rfl⟩ ?_)).trans rfl
  .rintro p h p' T _ ⟨x5,rfl⟩;exact Yq _ _ _ _ p h p' x5 T
  .rintro _ ⟨x5,rfl⟩;simp_arith[]
 rw[zmJ];refine fin _ ?_;clear fin hr;unfold Mj;generalize yr=A1 at *;generalize BV=A2 at *;generalize zj=A3 at *;have q1:([R]:List D).length<1000000:=by rw[j4];decide
 rcases h0 with ⟨c,X,c1,rfl⟩|⟨c,rfl⟩
 .simp_arith[hf,oV,Ge hl,hc,hn,Gc c,c1,Ge q1]
 .simp_arith[hf,oV,Ge hl,hc,hn,Gd c]
theorem Nl:∀ d,d<=4->mG d<=5000
 | 0,_=>by decide
 | 1,_=>by decide
 | 2,_=>by decide
 | 3,_=>by decide
 | 4,_=>by decide
theorem Se (n k a t:Nat)(v:Nat->Int)(E:Fs)(h2:2<=n)(h5:n<=5)(k4:k<=4)(h1:1<=a)(hat:a<=k)(o:Ok n E a)(c:lj n E<=t)(ht:t+2<=n)(hc:(∃ i,mV n E a i=true)->lj n E+(k-a)<=t+1):wX [lU n (v,E),.int (a:Int),.int (k:Int)]=Ga ((wn n k a v E).map (lU n)):=by
 obtain⟨⟨_,hl⟩,HR⟩:=Gx h2 h5 k4 h1 hat (v:=v) o c ht hc;have hb:=Nl (k-a) (by omega);have ln:=nu n v;have HF:=VF (me n v) E a a (by rw[ln];exact h5) (by rw[ln];exact o);have HN:=Xr (me n v) E a a k (by rw[ln];exact h5) (by rw[ln];exact o);rw[ln] at HF HN;refine zGx (lU n (v,E)) (a:Int) (k:Int) ((oq n E a).length:Int) _ (oq n E a) _ _ HF ?_ ?_ (by rw[jc]) ?_ (Ea (T:=Kj (a:Int) (k:Int)) (v9 (lU n)) 1000000 v8 ?_ ?_ HR (by omega))
 .rw[jc];exact jk (jW _ _) (by rw[xE];have:=EG n E;omega)
 .rw[<- UW,jL];exact yC fd _ λf _=>rfl
 .by_cases z:(oq n E a).length>0
  .rw[Ge z];exact .inl ⟨by omega,_,HN,rfl⟩
  .rw[Gf z];exact .inr ⟨by omega,rfl⟩
 .rintro p h p' ⟨F,_,_,_,_,_,rfl⟩;rw[jg];omega
 .rintro p h p' ⟨F,f1,f2,f3,f4,f5,rfl⟩ hb;refine⟨lU n (v,F),_,by rw[ku,f1];rfl,zAT n k a v F h h2 h5 hat (by omega) f2 f4 (by omega),by rw[jI,uq],by rw[jc];exact hb⟩
def MY (hd a k:Int)(p:List D)(x:Nat)(p':List D):Prop:=∃ l f mk b,p.getLast?=Ga l/\so [l,.int hd]=Ga f/\iY f (.int 2)=Ga mk/\rG [mk,.int (x:Int)]=Ga (.bool b)/\((b=true/\p'=p)\/(b=false/\∃ r q,sQ [l,.int hd,.int (x:Int)]=Ga r/\pF 12 [l,r,.int (x:Int),.int (a+1),.int k]=Ga (.list q)/\p'=p++q.tail/\p'.length<=1000000))
theorem zGy (R l f mk:D)(hd a k x:Int)(p:List D)(x5 x6 x7:Sl)(h1:L2.atI p (-1)=Ga l)(h2:so [l,.int hd]=Ga f)(h3:iY f (.int 2)=Ga mk)(h4:rG [mk,.int x]=Ga (.bool true)):mP (λψ=>∃ x5 x6 x7,ψ=[.val R,.val (.int hd),.val (.int a),.val (.int k),.own p,x5,x6,x7]) ((nO 5 (.int x) [.val R,.val (.int hd),.val (.int a),.val (.int k),.own p,x5,x6,x7]).bind (iX cX (lD (ol (mK (lw rG (lh (iU iY (lw so fC) gN) gz)))) (iX (lF 7 (lw sQ dm)) (pW 4 (om (lw (pF 12) aM) gj ot))) lI))):=by
 generalize so=A1 at *;generalize rG=A2 at *;generalize sQ=A3 at *;generalize pF 12=A4 at *;simp_arith[h1,h2,h3,h4];exact nJ ⟨_,_,_,rfl⟩
theorem zGz (R l f mk r:D)(hd a k x:Int)(p q p':List D)(x5 x6 x7:Sl)(h1:L2.atI p (-1)=Ga l)(h2:so [l,.int hd]=Ga f)(h3:iY f (.int 2)=Ga mk)(h4:rG [mk,.int x]=Ga (.bool false))(h5:sQ [l,.int hd,.int x]=Ga r)(h6:pF 12 [l,r,.int x,.int (a+1),.int k]=Ga (.list q))(q':List D)(h8:wk (.list q) (Ga 1) Gb=Ga (.list q'))(h7:tS p q'=Ga p'):mP (λψ=>∃ x5 x6 x7,ψ=[.val R,.val (.int hd),.val (.int a),.val (.int k),.own p',x5,x6,x7]) ((nO 5 (.int x) [.val R,.val (.int hd),.val (.int a),.val (.int k),.own p,x5,x6,x7]).bind (iX cX (lD (ol (mK (lw rG (lh (iU iY (lw so fC) gN) gz)))) (iX (lF 7 (lw sQ dm)) (pW 4 (om (lw (pF 12) aM) gj ot))) lI))):=by
 generalize so=A1 at *;generalize rG=A2 at *;generalize sQ=A3 at *;generalize pF 12=A4 at *;simp_arith[h1,h2,h3,h4,h5,h6,h8,h7];exact nJ ⟨_,_,_,rfl⟩
theorem zDm (R:D)(hd a k:Int)(p:List D)(x:Nat)(p':List D)(x5 x6 x7:Sl)(T:MY hd a k p x p'):mP (λψ=>∃ x5 x6 x7,ψ=[.val R,.val (.int hd),.val (.int a),.val (.int k),.own p',x5,x6,x7]) ((nO 5 (.int (x:Int)) [.val R,.val (.int hd),.val (.int a),.val (.int k),.own p,x5,x6,x7]).bind (iX cX (lD (ol (mK (lw rG (lh (iU iY (lw so fC) gN) gz)))) (iX (lF 7 (lw sQ dm)) (pW 4 (om (lw (pF 12) aM) gj ot))) lI))):=by
 obtain⟨l,f,mk,b,h1,h2,h3,h4,⟨rfl,rfl⟩|⟨rfl,r,q,h5,h6,rfl,h7⟩⟩:=T
 .exact zGy R l f mk hd a k x p' x5 x6 x7 (xp h1) h2 h3 h4
 .exact zGz R l f mk r hd a k x p q _ x5 x6 x7 (xp h1) h2 h3 h4 h5 h6 _ (BW q) (DY h7)
theorem zGA (R:D)(hd a k:Int)(U:List Nat)(P:List D)(hU:tR [R,.int a]=Ga (U.map λ(i:Nat)=>.int (i:Int)))(hr:pi (MY hd a k) U [R] P):yF [R,.int hd,.int a,.int k]=Ga (.list P):=by
 have fin:∀ o,o=mU (lS iq (iX cX (lD (ol (mK (lw rG (lh (iU iY (lw so fC) gN) gz)))) (iX (lF 7 (lw sQ dm)) (pW 4 (om (lw (pF 12) aM) gj ot))) lI)) (U.map λ(i:Nat)=>.int (i:Int)) [.val R,.val (.int hd),.val (.int a),.val (.int k),.own [R],.no,.no,.no]) ig->lq o=Ga (.list P):=by
  rintro _ rfl;refine(congrArg lq (Hn (R:=Ga (.ro P)) (λ(i:Nat)=>jb (i:Int)) (λp ψ=>∃ x5 x6 x7,ψ=[.val R,.val (.int hd),.val (.int a),.val (.int k),.own p,x5,x6,x7]) ?_ hr ⟨_,_,_,rfl⟩ ?_)).trans rfl
  .rintro p h p' T _ ⟨x5,x6,x7,rfl⟩;exact zDm _ _ _ _ p h p' x5 x6 x7 T
  .rintro _ ⟨x5,x6,x7,rfl⟩;simp_arith[]
 rw[zoF];refine fin _ ?_;clear fin hr;unfold KJ;generalize so=A1 at *;generalize rG=A2 at *;generalize sQ=A3 at *;generalize pF 12=A4 at *;simp_arith[hU]
theorem zGB (n k a t:Nat)(v:Nat->Int)(E:Fs)(h m0:Nat)(h2:2<=n)(h5:n<=5)(k4:k<=4)(h1:1<=a)(hat:a<=k)(o:Ok n E a)(ht:t+2<=n)(hc:lj n E+(k-a)<=t)(e0:E h=Ga ((a:Int),m0)):yF [lU n (v,E),.int (h:Int),.int (a:Int),.int (k:Int)]=Ga (.list ((wR n k a v E h).map (lU n))):=by
 obtain⟨_,_,_,_,_,hl,HR⟩:=Ul h2 h5 k4 h1 hat (v:=v) o ht hc e0;have hb:=Nl (k-a) (by omega);have hh:=o.hnd _ _ _ e0;have p32:=Gq h5;have ln:=nu n v;have HU:=Ut (me n v) E a (by rw[ln];exact h5);rw[ln] at HU;refine zGA (lU n (v,E)) (h:Int) (a:Int) (k:Int) _ _ HU (Ea (T:=MY (h:Int) (a:Int) (k:Int)) (v9 (lU n)) 1000000 v8 ?_ ?_ HR (by omega))
 .rintro p x p' ⟨m,_,_,_,_,_,_,⟨_,rfl⟩|⟨_,_,_,rfl⟩⟩
  .exact jj _
  .rw[jg];omega
 .rintro p x p' ⟨m,f1,f2,f3,f4,f5,f6,fc⟩ hb;have FO:so [lU n (v,iW E h (Ga ((a:Int),m))),.int (h:Int)]=Ga (fd ⟨h,(a:Int),m⟩):=by
   unfold lU mW;rw[ln,Ib];unfold yb;rw[Au hh];show Ga (match Option.map _ (iW E h (Ga ((a:Int),m)) h) with|some f=>fd f|none=>uN)=_;rw[nE];rfl
  have HH:=PH m x (by omega) (by omega);refine⟨lU n (v,iW E h (Ga ((a:Int),m))),_,_,_,by rw[ku,f1];rfl,FO,RM _,HH,?_⟩;rcases fc with ⟨c1,rfl⟩|⟨c1,c2,c3,rfl⟩
  .exact .inl ⟨c1,rfl⟩
  .refine .inr ⟨c1,lU n (v,iW E h (Ga ((a:Int),nR m x))),_,?_,?_,by rw[jI,uq],by rw[jc];exact hb⟩
   .have T:=Vq (me n v) (iW E h (Ga ((a:Int),m))) h x (a:Int) m (by rw[ln];exact h5) (by rw[ln];exact hh) (by omega) (by omega) nE;have eT:rf (iW E h (Ga ((a:Int),m))) h x=iW E h (Ga ((a:Int),nR m x)):=by
     unfold rf;rw[nE];dsimp only;rw[Eh]
    rw[eT] at T;exact T
   .have cU:∀ m,lj n (iW E h (Ga ((a:Int),m)))=lj n E:=λm=>OB e0;have okU:∀ m,m<2^n->bt m h=false->Ok n (iW E h (Ga ((a:Int),m))) a:=λm a b=>o.upd hh (by omega) (kZ _) a b;have C:=UX n k (k-a) 12 v v (iW E h (Ga ((a:Int),m))) (iW E h (Ga ((a:Int),nR m x))) x h2 h5 (by omega) (by omega) f4 (by rw[mD f5];exact f6) (by rw[mD f5];exact f6) ((okU m f2 f3).mono (by omega)) ((okU _ c2 c3).mono (by omega)) (by rw[cU];omega) (by rw[cU];omega);rw[show((k+1-(k-a):Nat):Int)=(a:Int)+1 by omega] at C;exact C
def OZ (a k:Int)(p:List D)(h:Nat)(p':List D):Prop:=∃ l q l2 q2,p.getLast?=Ga l/\yF [l,.int (h:Int),.int a,.int k]=Ga (.list q)/\(p++q.tail).length<=1000000/\(p++q.tail).getLast?=Ga l2/\wX [l2,.int a,.int k]=Ga q2/\p'=(p++q.tail)++q2.tail/\p'.length<=1000000
theorem zDn (R HS:D)(a k:Int)(p:List D)(h:Nat)(p':List D)(x5:Sl)(T:OZ a k p h p'):mP (λψ=>∃ x5,ψ=[.val R,.val (.int a),.val (.int k),.own p',.val HS,x5]) ((nO 5 (.int (h:Int)) [.val R,.val (.int a),.val (.int k),.own p,.val HS,x5]).bind (iX (pW 3 (om (lw yF aR) gj ot)) (pW 3 (om (pf (tW wX bg)) gj ot)))):=by
 obtain⟨l,q,l2,q2,h1,h2,h3,h4,h5,rfl,h6⟩:=T;have h1:=xp h1;have h3:=DY h3;have h4:=xp h4;have h6:=DY h6;generalize yF=A1 at *;generalize wX=A2 at *;generalize p++q.tail=p1 at *;simp_arith[h1,h2,BW,h3,h4,h5,h6];exact nJ ⟨_,rfl⟩
theorem ZD (R l F:D)(a k:Int)(fl:List D)(hs:List Nat)(P0 P:List D)(hh:wX [R,.int a,.int k]=Ga P0)(h1:L2.atI P0 (-1)=Ga l)(h2:iY l (.int 1)=Ga F)(h3:toS F=Ga fl)(hl:fl.length<=1000000)(hc:mv cM eC [.val (.int a)] fl=Ga (hs.map λ(i:Nat)=>.int (i:Int)))(hr:pi (OZ a k) hs P0 P):yI [R,.int a,.int k]=Ga (.list P):=by
 have fin:∀ o,o=mU (lS iq (iX (pW 3 (om (lw yF aR) gj ot)) (pW 3 (om (pf (tW wX bg)) gj ot))) (hs.map λ(i:Nat)=>.int (i:Int)) [.val R,.val (.int a),.val (.int k),.own P0,.val (.list (hs.map λ(i:Nat)=>.int (i:Int))),.no]) ii->lq o=Ga (.list P):=by
  rintro _ rfl;refine(congrArg lq (Hn (R:=Ga (.ro P)) (λ(i:Nat)=>jb (i:Int)) (λp ψ=>∃ x5,ψ=[.val R,.val (.int a),.val (.int k),.own p,.val (.list (hs.map λ(i:Nat)=>.int (i:Int))),x5]) ?_ hr ⟨_,rfl⟩ ?_)).trans rfl
  .rintro p h p' T _ ⟨x5,rfl⟩;exact zDn _ _ _ _ p h p' x5 T
  .rintro _ ⟨x5,rfl⟩;simp_arith[]
 rw[YI];refine fin _ ?_;clear fin hr;unfold Kb;generalize yF=A1 at *;generalize wX=A2 at *;simp_arith[hh,h1,h2,h3,oV,Ge hl,hc]
theorem zGD (f:Fl)(a:Int):cM [.val (fd f),.val (.int a)]=Ga (decide (f.a=a)):=by
 simp_arith[za]
theorem XO (n k a t:Nat)(v:Nat->Int)(E:Fs)(h2:2<=n)(h5:n<=5)(k4:k<=4)(h1:1<=a)(hat:a<=k)(o:Ok n E a)(c:lj n E<=t)(ht:t+2<=n)(hc:(∃ i,mV n E a i=true)->lj n E+(k-a)<=t+1)(hu:lj n (lV n E a)+(k-a)<=t):yI [lU n (v,E),.int (a:Int),.int (k:Int)]=Ga (.list ((Af n k a v E).map (lU n))):=by
 obtain⟨⟨_,hl⟩,HR⟩:=SG h2 h5 k4 h1 hat (v:=v) o c ht hc (.inl hu);obtain⟨⟨HP,_⟩,_⟩:=Gx h2 h5 k4 h1 hat (v:=v) o c ht hc;have HE:=Se n k a t v E h2 h5 k4 h1 hat o c ht hc;have hb:=Nl (k-a) (by omega);have ln:=nu n v;refine ZD (lU n (v,E)) (lU n (v,lV n E a)) _ (a:Int) (k:Int) _ (wb n (lV n E a) a) _ _ HE (xp (by rw[ku,HP.lst];rfl)) (EW _ _) rfl (Fi _ (by rw[ln];exact h5)) ?_ (Ea (T:=OZ (a:Int) (k:Int)) (v9 (lU n)) 1000000 v8 ?_ ?_ HR (by omega))
 .rw[ln,wN fd (λf=>decide (f.a=(a:Int))) (λf=>.int (f.h:Int)) (λf _=>zGD f _) (λf _ _=>rfl)];refine congrArg Ga ?_;have:((lG n (lV n E a)).filter λf=>decide (f.a=(a:Int))).map Fl.h=wb n (lV n E a) a:=by
   rw[GP,CS];unfold wb;refine kM λi _=>?_;cases lV n E a i with
   | none=>rfl
   | some w =>
    dsimp only;rw[jp];by_cases z:w.1=(a:Int)
    .rw[Ge (Gc z),Gc z];rfl
    .rw[Gf (λy=>z (of_decide_eq_true y)),Gd z];rfl
  rw[<- this,jL];rfl
 .rintro p h p' ⟨F,m0,m,_,_,_,_,_,_,_,rfl⟩;rw[jg,jg];omega
 .rintro p h p' ⟨F,m0,m,f1,f2,f3,f4,f5,f6,f7,rfl⟩ hb;have ME:=zGB n k a t v F h m0 h2 h5 k4 h1 hat f2 ht f3 f4;have H2:=Se n k a t v (iW F h (Ga ((a:Int),m))) h2 h5 k4 h1 hat f6 (by omega) ht (λ_=>by omega);have hb2:(p++(wR n k a v F h).tail).length<=1000000:=by
   rw[jg] at hb;omega
  refine⟨lU n (v,F),_,_,_,by rw[ku,f1];rfl,ME,by rw[<- uq,<- jI,jc];exact hb2,by rw[<- uq,<- jI,ku,f5];rfl,H2,by rw[jI,uq,jI,uq],by rw[jc];exact hb⟩
def Nv (k:Int)(p:List D)(s:Nat)(p':List D):Prop:=∃ l q,p.getLast?=Ga l/\yI [l,.int (k-(s:Int)),.int k]=Ga (.list q)/\p'=p++q.tail/\p'.length<=1000000
theorem zDo (R b S:D)(k:Int)(p:List D)(h:Nat)(p':List D)(x5:Sl)(T:Nv k p h p'):mP (λψ=>∃ x5,ψ=[.val R,.val b,.val (.int k),.own p',.val S,x5]) ((nO 5 (.int (h:Int)) [.val R,.val b,.val (.int k),.own p,.val S,x5]).bind (pW 3 (om (lw yI aN) gj ot))):=by
 obtain⟨l,q,h1,h2,rfl,h3⟩:=T;have h1:=xp h1;have h3:=DY h3;generalize yI=A1 at *;simp_arith[h1,h2,BW,h3];exact nJ ⟨_,rfl⟩
theorem zGF (R b S:D)(k:Int)(K:Nat)(P0 P:List D)(hS:Bh [R,.int k]=Ga S)(h0:(nG S R=Ga (.bool true)/\P0=[R]++[S])\/(nG S R=Ga (.bool false)/\P0=[R]))(hk:mr (.int k)=Ga ((jd K).map λ(i:Nat)=>.int (i:Int)))(hr:pi (Nv k) (jd K) P0 P):AV [R,b,.int k]=Ga (.list P):=by
 have fin:∀ o,o=mU (lS iq (pW 3 (om (lw yI aN) gj ot)) ((jd K).map λ(i:Nat)=>.int (i:Int)) [.val R,.val b,.val (.int k),.own P0,.val S,.no]) ii->lq o=Ga (.list P):=by
  rintro _ rfl;refine(congrArg lq (Hn (R:=Ga (.ro P)) (λ(i:Nat)=>jb (i:Int)) (λp ψ=>∃ x5,ψ=[.val R,.val b,.val (.int k),.own p,.val S,x5]) ?_ hr ⟨_,rfl⟩ ?_)).trans rfl
  .rintro p h p' T _ ⟨x5,rfl⟩;exact zDo _ _ _ _ p h p' x5 T
  .rintro _ ⟨x5,rfl⟩;simp_arith[]
 rw[ztG];refine fin _ ?_;clear fin hr;unfold LX;generalize yI=A1 at *;generalize Bh=A2 at *;have q1:([R]:List D).length<1000000:=by rw[j4];decide
 rcases h0 with ⟨c,rfl⟩|⟨c,rfl⟩
 .simp_arith[hS,c,hk,Ge q1]
 .simp_arith[hS,c,hk]
theorem GR {n:Nat}:∀ {xs:List D},(∀ x∈xs,nq x n=true)->sj xs n=true
 | [],_=>rfl
 | x::xs,h=>by rw[sj,h x jf,GR λy hy=>h y (jh _ hy)];rfl
theorem TU (is:List Int)(E:Fs):nq (mW (is.map jb) E) 3=true:=by
 unfold mW rd;rw[nq];refine GR λx hx=>?_;rcases ju.mp hx with rfl|hx
 .rw[nq];refine GR λy hy=>?_;obtain⟨i,_,rfl⟩:=jx.mp hy;rfl
 .rw[jo.mp hx,nq];refine GR λy hy=>?_;obtain⟨f,_,rfl⟩:=jx.mp hy;rfl
theorem Ze {a b:D}(ha:nq a 3=true)(hb:nq b 3=true)(h:a≠b):nG a b=Ga (.bool true):=by
 have la:=Gk a 3 ha;have lb:=Gk b 3 hb;unfold nG tq;rw[la.1,lb.1,Gc (jk (Nat.min_le_left _ _) (by omega))];cases e:kN a b with
 | true=>exact absurd (Sj a b 3 3 ha hb e) h
 | false=>rfl
theorem zFt {f g:Fl}(h:fd f=fd g):f=g:=by
 unfold fd at h
 injection h with h
 injection h with h1 h
 injection h with h2 h
 injection h with h3 h
 injection h1 with h1
 injection h2 with h2
 injection h3 with h3
 cases f;cases g;simp only at h1 h2 h3;cases h2;have e1:=Vd h1;have e3:=Vd h3;subst e1;subst e3;rfl
theorem XV {ns:List D}{E F:Fs}(h:mW ns E=mW ns F):∀ i,i<ns.length->E i=F i:=by
 unfold mW rd at h
 injection h with h
 injection h with _ h
 injection h with h _
 injection h with h
 have e:lG ns.length E=lG ns.length F:=(List.map_inj_right λ_ _=>zFt).mp h;intro i hi;have a:=Au (E:=E) hi;rw[e,Au (E:=F) hi] at a;cases x:E i with
 | none =>
  rw[x] at a;cases y:F i with
  | none=>rfl
  | some w=>rw[y] at a;cases a
 | some w =>
  rw[x] at a;cases y:F i with
  | none=>rw[y] at a;cases a
  | some u =>
   rw[y] at a;obtain⟨p,q⟩:=w;obtain⟨p',q'⟩:=u;have:=jF a;simp only[Fl.mk.injEq] at this;rw[this.2.1,this.2.2]
theorem zyO (n k t:Nat)(v:Nat->Int)(E:Fs)(b:D)(h2:2<=n)(h5:n<=5)(hk3:k<=3)(o:Ok n E 5)(c:lj n E<=t)(ht:t+2<=n)(H1:∀ a,1<=a->a<=k->lj n (lL E (a+1))+(k-a)<=t+1)(H2:∀ a,1<=a->a<=k->lj n (lV n (lL E (a+1)) a)+(k-a)<=t):AV [lU n (v,E),b,.int (k:Int)]=Ga (.list ((zp n k v E).map (lU n))):=by
 have k4:k<=4:=by omega
 obtain⟨⟨_,hl⟩,HR⟩:=Rp h2 h5 k4 (v:=v) o c ht H1 H2;have ln:=nu n v;have hb3:=Gs (k-1) (by omega);have hb4:k*(100*mG (k-1))<=3*(100*456):=vX hk3 (by omega);refine zGF (lU n (v,E)) b (lU n (v,lL E (k+1))) (k:Int) k _ _ (zDi (me n v) E k (by rw[ln];exact h5)) ?_ (Ae (by omega)) (Ea (T:=Nv (k:Int)) (v9 (lU n)) 1000000 v8 ?_ ?_ HR (by omega))
 .by_cases z:pZ n (lL E (k+1)) E=true
  .rw[Ge z];refine .inr ⟨?_,rfl⟩;have:lL E (k+1)=E:=by
    funext i
    by_cases y:i<n
    .unfold pZ at z;rw[jH] at z;exact eq_of_beq (z i (jn.mpr y))
    .have:E i=Gb:=by
      cases w:E i with
      | none=>rfl
      | some u=>obtain⟨a,m⟩:=u;exact absurd (o.hnd i a m w) y
     unfold lL;rw[this]
   rw[this];unfold lU;rw[BC];have L:=Gk _ 3 (TU ((jd n).map (v,E).1) (v,E).2);exact KL L.1 (by omega)
  .rw[Gf z];refine .inl ⟨?_,rfl⟩;have kk:∀ F,nq (lU n (v,F)) 3=true:=λF=>by unfold lU;rw[BC];exact TU _ _
   refine Ze (kk _) (kk _) λe=>z ?_;unfold pZ;rw[jH];intro i hi;have:=XV e i (by show i<(me n v).length;rw[ln];exact jn.mp hi);exact beq_iff_eq.mpr this
 .rintro p h p' ⟨F,_,_,_,_,_,_,_,rfl⟩;rw[jg];omega
 .rintro p h p' ⟨F,f1,f2,f3,f4,f5,f6,f7,rfl⟩ hb;have RE:=XO n k (k-h) t v F h2 h5 k4 f2 f3 f4 f5 ht (λ_=>f6) f7;rw[show((k-h:Nat):Int)=(k:Int)-(h:Int) by omega] at RE;exact⟨lU n (v,F),_,by rw[ku,f1];rfl,RE,by rw[jI,uq],by rw[jc];exact hb⟩
def wf (n:Nat)(E:Fs)(k:Nat)(f:Fl):Bool:=decide (f.a<(k:Int))||(decide (f.a=(k:Int))&&!(oG n E k).all λh=>bt f.m h)
def cE (n:Nat)(E:Fs)(k:Nat):Fs:=λi=>(E i).bind λw=>if wf n E k ⟨i,w.1,w.2⟩=true then Ga w else Gb
theorem zFv (f:Fl)(h P:Int)(hP:L2.atI [jb 1,.int 2,.int 4,.int 8,.int 16] h=Ga (.int P))(hd:mS (.int (f.m:Int)) (.int P)=Ga (.int ((f.m:Int)/P)))(hm:∀ x:Int,lM (.int x) (.int 2)=Ga (.int (x%2))):aj [.val (.int h),.val (fd f)]=Ga (decide ((f.m:Int)/P%2=0)):=by
 simp_arith[RM,hP,hd,hm]
theorem zFw (f:Fl)(h:Nat)(hh:h<5):aj [.val (.int (h:Int)),.val (fd f)]=Ga (!bt f.m h):=by
 have p:=Iv ⟨h,hh⟩;rw[zFv f (h:Int) (2^h) (Ik ⟨h,hh⟩) (sV p.1 p.2) (λx=>pB (by decide))];refine congrArg Ga ?_;unfold bt;generalize (f.m:Int)/2^h=y;by_cases c:y%2=1
 .rw[Gc c,Gd (by omega)];rfl
 .rw[Gd c,Gc (by omega)];rfl
theorem zFx (l:List Int):nG (.list (l.map jb)) (.list [])=Ga (.bool (!l.isEmpty)):=by
 cases l with
 | nil=>exact KL rfl (by decide)
 | cons i l =>
  have L:(kU ((i::l).map jb)).canLay0=true:=MF λx hx=>by obtain⟨i,_,rfl⟩:=jx.mp hx;rfl
  unfold nG tq;rw[L,Gc (jk (JZ _ _) (by decide))];rfl
theorem zGG (R U W:D)(b w k c c':Int)(f:Fl)(us ms:List D)(bm:Bool)(x4 x7:Sl)(hU:toS U=Ga us)(hl:us.length<=1000000)(hc:mv aj iA [.val (fd f)] us=Ga ms)(hn:nG (.list ms) (.list [])=Ga (.bool bm))(h:c'=if (decide (f.a<k)||(decide (f.a=k)&&bm))=true then c+1 else c) :
  mP (λψ=>∃ x4 x7,ψ=[.val R,.val (.int b),.val (.int w),.val (.int k),x4,.val U,.val (.int c'),x7]) ((nO 4 (fd f) [.val R,.val (.int b),.val (.int w),.val (.int k),x4,.val U,.val (.int c),x7]).bind ah):=by
 subst h;by_cases h1:f.a<k
 .have e:(if (decide (f.a<k)||(decide (f.a=k)&&bm))=true then c+1 else c)=c+1:=by rw[Gc h1,k9,Ge rfl]
  rw[e];simp_arith[hU,oV,Ge hl,hc,za,Gc h1];exact nJ ⟨_,_,rfl⟩
 .by_cases h2:f.a=k
  .cases bm with
   | true =>
    have e:(if (decide (f.a<k)||(decide (f.a=k)&&true))=true then c+1 else c)=c+1:=by rw[Gc h2,uU,qV,Ge rfl]
    rw[e];simp_arith[hU,oV,Ge hl,hc,za,Gd h1,Gc h2,hn];exact nJ ⟨_,_,rfl⟩
   | false =>
    have e:(if (decide (f.a<k)||(decide (f.a=k)&&false))=true then c+1 else c)=c:=by rw[Gd h1,vV,uS,Gf jw]
    rw[e];simp_arith[hU,oV,Ge hl,hc,za,Gd h1,Gc h2,hn];exact nJ ⟨_,_,rfl⟩
  .have e:(if (decide (f.a<k)||(decide (f.a=k)&&bm))=true then c+1 else c)=c:=by rw[Gd h1,Gd h2,vn,uS,Gf jw]
   rw[e];simp_arith[hU,oV,Ge hl,hc,za,Gd h1,Gd h2];exact nJ ⟨_,_,rfl⟩
theorem zFy (R F:D)(i k:Int)(fs hs:List D)(bb:Bool)(h1:iY R (.int 1)=Ga F)(h2:toS F=Ga fs)(hl:fs.length<=1000000)(hc:mv cL eC [.val (.int k)] fs=Ga hs)(hn:yR (.int i) (.list hs)=Ga (.bool bb)):aq [.val (.int i),.val (.int k),.val R]=Ga bb:=by
 simp_arith[h1,h2,oV,Ge hl,hc,hn]
theorem YJ (f:Fl)(k:Int):cL [.val (fd f),.val (.int k)]=Ga (decide (f.a<=k)):=by
 simp_arith[za]
theorem zyP (a:Int)(ns:List Int):yR (.int a) (.list (ns.map jb))=Ga (.bool (!ns.contains a)):=by
 have h:=Vj a ns;unfold Ak at h;unfold yR
 rw[OF,jp] at h ⊢;by_cases c:xV (.int a) (ns.map jb)=true
 .rw[Ge c] at h ⊢
  injection h with h
  injection h with h
  rw[h]
 .rw[Gf c] at h;cases h
theorem Xm (ns:List D)(E:Fs)(k i:Nat)(h5:ns.length<=5)(hi:i<ns.length):aq [.val (.int (i:Int)),.val (.int (k:Int)),.val (mW ns E)]=Ga (nk E i (k:Int)):=by
 refine zFy (mW ns E) _ (i:Int) (k:Int) _ ((((lG ns.length E).filter λf=>decide (f.a<=(k:Int))).map λf=>(f.h:Int)).map jb) _ (EW ns E) rfl (Fi E h5) ?_ ?_
 .rw[jL];exact wN fd (λf=>decide (f.a<=(k:Int))) _ (λf _=>YJ f _) (λf _ _=>rfl)
 .rw[zyP];refine congrArg (λb=>Ga (kh b)) ?_;cases e:E i with
  | none =>
   rw[xB e,kB,<- jT,jC];intro z;obtain⟨f,hf,ef⟩:=jx.mp z;have:=(rD.mp (jD.mp hf).1).2;rw[show f.h=i by omega,e] at this;cases this
  | some w =>
   obtain⟨a,m⟩:=w;rw[xz e];by_cases c:(k:Int)<a
   .rw[Gc c,kB,<- jT,jC];intro z;obtain⟨f,hf,ef⟩:=jx.mp z;obtain⟨y1,y2⟩:=jD.mp hf;have:=(rD.mp y1).2;rw[show f.h=i by omega,e] at this;cases this;have:=of_decide_eq_true y2;omega
   .rw[Gd c,JM,jC];exact jx.mpr ⟨⟨i,a,m⟩,jD.mpr ⟨rD.mpr ⟨hi,e⟩,Gc (by show a<=_;omega)⟩,rfl⟩
theorem zGH (R N F:D)(b w k c w' n:Int)(l us:List D)(fs:List D)(x3 x4 x5 x6 x7:Sl)(h0:iY R (.int 0)=Ga N)(hn:ma N=Ga (.int n))(hr:mr (.int n)=Ga l)(hl:l.length<=1000000)(hu:mv aq iA [.val (.int k),.val R] l=Ga us)(h1:iY R (.int 1)=Ga F)(h2:toS F=Ga fs)
  (hc:∀ x4 x7,∃ y4 y7,lS ip ah fs [.val R,.val (.int b),.val (.int w),.val (.int k),x4,.val (.list us),.val (.int 0),x7]=Ga (.nx [.val R,.val (.int b),.val (.int w),.val (.int k),y4,.val (.list us),.val (.int c),y7])) (hw:w'=if c-k>w then c-k else w) :
  mP (λψ=>∃ x3 x4 x5 x6 x7,ψ=[.val R,.val (.int b),.val (.int w'),x3,x4,x5,x6,x7]) ((nO 3 (.int k) [.val R,.val (.int b),.val (.int w),x3,x4,x5,x6,x7]).bind ae):=by
 obtain⟨y4,y7,hc⟩:=hc x4 x7;subst hw;simp_arith[h0,hn,hr,oV,Ge hl,hu,h1,h2,hc];exact nJ ⟨_,_,_,_,_,rfl⟩
theorem zFB (R:D)(b:Int)(N:Nat)(W:Nat->Int)(hr:sq (.int 1) (.int 4)=Ga ((jd N).map λ(k:Nat)=>.int ((k:Int)+1)))(h0:W 0=0)(st:∀ k,k<N->∀ x3 x4 x5 x6 x7,mP (λψ=>∃ x3 x4 x5 x6 x7,ψ=[.val R,.val (.int b),.val (.int (W (k+1))),x3,x4,x5,x6,x7]) ((nO 3 (.int ((k:Int)+1)) [.val R,.val (.int b),.val (.int (W k)),x3,x4,x5,x6,x7]).bind ae)):xy [R,.int b]=Ga (.int (b+1-W N)):=by
 rw[Zh];unfold NK;simp_arith[hr];refine(congrArg lq (Cu (R:=Ga (.rt (.int (b+1-W N)))) N (λk ψ=>∃ x3 x4 x5 x6 x7,ψ=[.val R,.val (.int b),.val (.int (W k)),x3,x4,x5,x6,x7]) ⟨_,_,_,_,_,by rw[h0]⟩ ?_ ?_)).trans rfl
 .rintro k hk _ ⟨x3,x4,x5,x6,x7,rfl⟩;exact st k hk x3 x4 x5 x6 x7
 .rintro _ ⟨x3,x4,x5,x6,x7,rfl⟩;simp_arith[]
def pp (n:Nat)(E:Fs):Nat->Int
 | 0=>0
 | k+1=>if (lj n (cE n E (k+1)):Int)-((k:Int)+1)>pp n E k then(lj n (cE n E (k+1)):Int)-((k:Int)+1) else pp n E k
theorem zFC (ns:List D)(E:Fs)(b:Int)(h5:ns.length<=5)(o:Ok ns.length E 5):xy [mW ns E,.int b]=Ga (.int (b+1-pp ns.length E 3)):=by
 refine zFB (mW ns E) b 3 (pp ns.length E) (UB (m:=3) (by decide)) rfl ?_;intro k hk x3 x4 x5 x6 x7;have ek:(k:Int)+1=((k+1:Nat):Int):=by omega
 refine zGH (mW ns E) _ _ b _ ((k:Int)+1) ((lj ns.length (cE ns.length E (k+1)):Nat):Int) _ (ns.length:Int) _ (il (oG ns.length E (k+1))) _ x3 x4 x5 x6 x7 (UT ns E) rfl (Ae (by omega)) (by rw[jc,jE];omega) ?_ (EW ns E) rfl ?_ (by rw[pp])
 .rw[ek];exact wN (λ(i:Nat)=>jb (i:Int)) (λi=>nk E i ((k+1:Nat):Int)) (λ(i:Nat)=>jb (i:Int)) (λi hi=>Xm ns E (k+1) i h5 (jn.mp hi)) (λi _ _=>rfl)
 .intro y4 y7;have L:=ZY (t:=nO 4) (g:=ah) (ψ:=[.val (mW ns E),.val (.int b),.val (.int (pp ns.length E k)),.val (.int ((k:Int)+1)),y4,.val (.list (il (oG ns.length E (k+1)))),.val (.int 0),y7]) fd (λpre ψ=>∃ x4 x7,ψ=[.val (mW ns E),.val (.int b),.val (.int (pp ns.length E k)),.val (.int ((k:Int)+1)),x4,.val (.list (il (oG ns.length E (k+1)))),.val (.int ((pre.filter (wf ns.length E (k+1))).length:Nat)),x7]) (lG ns.length E) ⟨_,_,rfl⟩ (by
   rintro pre f suf e _ ⟨z4,z7,rfl⟩;refine Hv (zGG (mW ns E) (.list (il (oG ns.length E (k+1)))) (.int 0) b _ ((k:Int)+1) _ _ f _ ((((oG ns.length E (k+1)).filter λh=>!bt f.m h).map λ(i:Nat)=>(i:Int)).map jb) _ z4 z7 rfl ?_ ?_ (zFx _) rfl) ?_
   .unfold il;rw[jc];have:=RU ns.length E (k+1);omega
   .unfold il;rw[jL];exact wN (λ(i:Nat)=>jb (i:Int)) (λh=>!bt f.m h) _ (λi hi=>zFw f i (by have:=Rt hi;omega)) (λi _ _=>rfl)
   .rintro _ ⟨u4,u7,rfl⟩;refine⟨u4,u7,?_⟩;have:(decide (f.a<(k:Int)+1)||(decide (f.a=(k:Int)+1)&&!(((oG ns.length E (k+1)).filter λh=>!bt f.m h).map λ(i:Nat)=>(i:Int)).isEmpty))=wf ns.length E (k+1) f:=by
     unfold wf;rw[<- ek,List.isEmpty_map];refine congrArg (λq=>_||(_&&!q)) ?_;rw[kq,List.isEmpty_iff,ub,jH];constructor
     .intro z x hx;have:=z x hx;rw[jT,JM] at this;exact this
     .intro z x hx y;rw[z x hx] at y;cases y
    rw[this,kC];by_cases z:wf ns.length E (k+1) f=true
    .rw[Ge z,jY z,jg];rfl
    .rw[Gf z,kf z,Jf,kz])
  obtain⟨_,q,u4,u7,rfl⟩:=L;refine⟨u4,u7,?_⟩;rw[q,GP,xE];rfl
theorem GC (n:Nat)(E:Fs):0<=pp n E 3/\(∀ k,1<=k->k<=3->(lj n (cE n E k):Int)-(k:Int)<=pp n E 3)/\∀ t:Nat,lj n E<=t->pp n E 3<=(t:Int):=by
 have c:∀ k,lj n (cE n E k)<=lj n E:=λk=>Bs λi hi=>by
  unfold cE at hi;cases e:E i with
  | none=>rw[e] at hi;cases hi
  | some w=>rfl
 have c1:=c 1;have c2:=c 2;have c3:=c 3;have e1:pp n E 1=if (lj n (cE n E 1):Int)-1>0 then(lj n (cE n E 1):Int)-1 else 0:=rfl;have e2:pp n E 2=if (lj n (cE n E 2):Int)-2>pp n E 1 then(lj n (cE n E 2):Int)-2 else pp n E 1:=rfl;have e3:pp n E 3=if (lj n (cE n E 3):Int)-3>pp n E 2 then(lj n (cE n E 3):Int)-3 else pp n E 2:=rfl;generalize pp n E 1=w1 at *;generalize pp n E 2=w2 at *;generalize pp n E 3=w3 at *;split at e1<;>split at e2<;>split at e3<;>(refine⟨by omega,λk h1 h3=>?_,λt ht=>by omega⟩)<;>(have:k=1\/k=2\/k=3:=by omega)<;>(rcases this with rfl|rfl|rfl)<;>omega
theorem zGI (n:Nat)(E:Fs)(k t:Nat)(hk:k<=2)(h:(k:Int)<(t:Int)+1-pp n E 3):(∀ a,1<=a->a<=k->lj n (lL E (a+1))+(k-a)<=t+1)/\∀ a,1<=a->a<=k->lj n (lV n (lL E (a+1)) a)+(k-a)<=t:=by
 obtain⟨_,W,_⟩:=GC n E;refine⟨λa a1 a2=>?_,λa a1 a2=>?_⟩
 .have w:=W (a+1) (by omega) (by omega);have:lj n (lL E (a+1))<=lj n (cE n E (a+1)):=Bs λi hi=>by
   unfold lL at hi;unfold cE;cases e:E i with
   | none=>rw[e] at hi;cases hi
   | some u =>
    obtain⟨x,m⟩:=u;rw[e] at hi;dsimp only at hi;by_cases z:x<((a+1:Nat):Int)
    .rw[jp,Ge];rfl;unfold wf;rw[Gc z];rfl
    .rw[Gf z] at hi;cases hi
  omega
 .have w:=W a a1 (by omega);have:lj n (lV n (lL E (a+1)) a)<=lj n (cE n E a):=Bs λi hi=>by
   unfold lV at hi;by_cases z:mV n (lL E (a+1)) a i=true
   .rw[Ge z] at hi;cases hi
   .rw[Gf z] at hi;unfold lL at hi;unfold cE;cases e:E i with
    | none=>rw[e] at hi;cases hi
    | some u =>
     obtain⟨x,m⟩:=u;rw[e] at hi;dsimp only at hi;by_cases y:x<((a+1:Nat):Int)
     .rw[jp,Ge];rfl;unfold wf;by_cases q:x<(a:Int)
      .rw[Gc q];rfl
      .have xa:x=(a:Int):=by omega
       rw[Gc xa,uI];refine .inr ?_;rw[uU,kB];cases r:(oG n E a).all λh=>bt m h with
       | false=>rfl
       | true =>
        refine absurd ?_ z;unfold mV;have eb:lL E (a+1) i=Ga (x,m):=by unfold lL;rw[e];dsimp only;rw[Ge y]
        rw[eb];dsimp only;rw[Gc xa,uU];have rS:∀ j,nk (lL E (a+1)) j (a:Int)=nk E j (a:Int):=λj=>by
         cases ej:E j with
         | none=>rw[xB ej,xB (by unfold lL;rw[ej])]
         | some u =>
          obtain⟨b,l⟩:=u;by_cases yy:b<((a+1:Nat):Int)
          .exact An (by unfold lL;rw[ej];dsimp only;rw[Ge yy]) _
          .rw[xz ej,xB (by unfold lL;rw[ej];dsimp only;rw[Gf yy])];exact(Gc (by omega)).symm
        rw[kM λj _=>rS j];exact r
     .rw[Gf y] at hi;cases hi
  omega
theorem zFD (pw:D->D->Option D)(x T:Int)(hw:AJ [.int x]=Ga (.bool true))(hq:pw (.int 10) (.int 60)=Ga (.int T))(h1:-T<x)(h2:x<T):lq ((mR (Aq (lw AJ gr) (Nd rJ rJ (pz yS (iU pw gI gJ)) iA (iU pw gI gJ)))) [.val (.int x)])=Ga (.bool true):=by
 generalize AJ=A1 at *;simp_arith[hw,hq,Gc h1,Gc h2]
theorem zFE (x:Int)(h:¬(10:Int)^60<=(if x<0 then -x else x)):Dc [.int x]=Ga (.bool true):=by
 have hw:AJ [.int x]=Ga (.bool true):=by
  rw[zqT];unfold Kh;simp_arith[]
 obtain⟨T,hT,_,hT2,_⟩:=Hu;rw[hT2] at h;rw[Xg];unfold Pq;exact zFD pO x (10*T) hw (by rw[DC,hT2]) (by split at h<;>omega) (by split at h<;>omega)
theorem zDq (xs bs:List D)(n:Int)(hn:ma (.tuple xs)=Ga (.int n))(h1:2<=n)(h2:n<=5)(hl:xs.length<=1000000)(hc:mv (λ_=>Ga true) (lw Dc gr) [] xs=Ga bs)(hb:wy bs=Ga (.bool true)):CG [.tuple xs]=Ga (.bool true):=by
 rw[znF];unfold Nk;generalize Dc=A1 at *;simp_arith[hn,Gc h1,Gc h2,QU,oV,Ge hl,hc,hb]
theorem WP (R Nw:D)(n:Int)(h1:CG [Nw]=Ga (.bool true))(h2:ma Nw=Ga (.int n))(h3:si [R]=Ga (.int n)):Br [R,Nw]=Ga (.bool true):=by
 rw[zj8];unfold MQ;generalize CG=A1 at *;generalize si=A2 at *;simp_arith[h1,h2,h3]
theorem zAU (l:List Int):wy (l.map λ_=>kh true)=Ga (.bool true):=by
 unfold wy;have:(l.map λ_=>kh true)=(l.map λ_=>true).map kh:=by rw[jL];rfl
 rw[this,GX,jp,JW];refine congrArg (λb=>Ga (kh b)) ?_;exact jH.mpr λ_ _=>rfl
theorem ZP (n:Nat)(v w:Nat->Int)(E:Fs)(h2:2<=n)(h5:n<=5)(hv:∀ i,i<n->¬(10:Int)^60<=(if v i<0 then -(v i) else v i)):Br [lU n (w,E),.tuple (me n v)]=Ga (.bool true):=by
 have ln:ma (.tuple (me n v))=Ga (.int (n:Int)):=by show Ga (jb (((me n v).length:Nat):Int))=_;rw[nu]
 refine WP _ _ (n:Int) ?_ ln ?_
 .refine zDq (me n v) (((jd n).map v).map λ_=>kh true) (n:Int) ln (by omega) (by omega) (by rw[nu];omega) ?_ (zAU _);rw[BC];refine yC jb _ λx hx=>?_;obtain⟨i,hi,rfl⟩:=jx.mp hx;have:=zFE (v i) (hv i (jn.mp hi));simp_arith[this]
 .have:=ER (me n w) (lG n E);unfold lU mW;rw[nu] at this ⊢;exact this
theorem zAV (R Nw l:D)(b k:Int)(P Q P2:List D)(h1:wW [R,.int b,.int k]=Ga (.bool true))(h2:Br [R,Nw]=Ga (.bool true))(h3:AV [R,.int b,.int k]=Ga (.list P))(h4:L2.atI P (-1)=Ga l)(h5:Bm [l,Nw,.int k]=Ga (.list Q))(h6:lJ (.list P) (.list Q.tail)=Ga (.list P2)):Ap [R,.int b,.int k,Nw]=Ga (.list P2):=by
 rw[zqU];unfold Kl;generalize wW=A1 at *;generalize Br=A2 at *;generalize AV=A3 at *;generalize Bm=A4 at *;simp_arith[h1,h2,h3,h4,h5,BW,h6]
theorem oo.mono {n k t t':Nat}{a b:Rn}{P:List Rn}(H:oo n k t a b P)(h:t<=t'):oo n k t' a b P:=⟨H.hd,H.lst,H.ok,λr hr=>jk (H.cnt r hr) h,H.chn,H.num⟩
theorem EB {n:Nat}{E:Fs}{a:Nat}(h2:2<=n)(h5:n<=5)(ha:a<=5)(o:Ok n E a):ph n (lG n E):=by
 have p32:=Gq h5;exact⟨h2,h5,λf hf=>(rD.mp hf).1,λf hf=>jz (o.msk _ _ _ (rD.mp hf).2).1 p32,GI n E,λf hf=>(o.rnd _ _ _ (rD.mp hf).2).1,λf hf=>by have:=(o.rnd _ _ _ (rD.mp hf).2).2;omega⟩
theorem UM (n:Nat)(E:Fs)(h:lj n E<=3):Df (cnt n (lG n E))<=pp n E 3:=by
 obtain⟨w0,w1,_⟩:=GC n E;have c:∀ k,(cnt n (lG n E) k:Int)<=(lj n (cE n E k):Int):=λk=>by
  unfold cnt HI;have eU:upL n (lG n E) k=oG n E k:=kM λi hi=>Ko (jn.mp hi) _;rw[eU];split
  .exact Int.natCast_nonneg _
  .have:(lG n E).filter (wg (oG n E k) k)=(lG n E).filter (wf n E k):=rfl;rw[this,GP,xE];exact kZ _
 have c0:∀ k,(cnt n (lG n E) k:Int)<=3:=λk=>by
  refine va (c k) ?_;have:lj n (cE n E k)<=lj n E:=Bs λi hi=>by
   unfold cE at hi;cases e:E i with
   | none=>rw[e] at hi;cases hi
   | some w=>rfl
  omega
 have a1:=va (qa (c 1) 1) (w1 1 (by omega) (by omega));have a2:=va (qa (c 2) 2) (w1 2 (by omega) (by omega));have a3:=va (qa (c 3) 3) (w1 3 (by omega) (by omega));have a4:=c0 4;have a5:=c0 5;have m:∀ x y z:Int,x<=z->y<=z->mx x y<=z:=λx y z h1 h2=>by unfold mx;split<;>assumption
 unfold Df;exact m _ _ _ (m _ _ _ (m _ _ _ (m _ _ _ (m _ _ _ w0 a1) a2) a3) (by omega)) (by omega)
theorem QC (T:Int)(hT:(10:Int)^59=T):pO (.int 10) (.int 59)=Ga (.int T):=by
 subst hT;show(if (decide ((0:Int)<=59)&&decide ((59:Int)<=1000000)&&decide ((10:Int).natAbs<2^64))=true then Ga (jb ((10:Int)^(59:Int).toNat)) else Gb)=_;rw[Ge (by decide)];rfl
theorem zFG (x:Int)(n:Nat)(hn:n<=5):mv (λ_=>Ga true) aI [.val (.int x)] ((jd n).map λ(k:Nat)=>jb (k:Int))=Ga ((jd n).map λ(j:Nat)=>.int (x/((j:Int)+1)%4-1)) :=
 yC _ _ (λj hj=>by
   have:j<5:=by have:=jn.mp hj;omega
   have a1:mS (.int x) (.int ((j:Int)+1))=Ga (.int (x/((j:Int)+1))):=sV (by omega) (by omega);have a2:lM (.int (x/((j:Int)+1))) (.int 4)=Ga (.int (x/((j:Int)+1)%4)):=pB (by decide);simp_arith[a1,a2])
theorem zGJ (pw:D->D->Option D)(x z w T:Int)(hq:pw (.int 10) (.int 59)=Ga (.int T))(a1:mM (.int z) (.int z)=Ga (.int w))(a2:mM (.int x) (.int (w+1))=Ga (.int (x*(w+1))))(h2:mM (.int 2) (.int T)=Ga (.int (2*T)))(hm2:∀ x:Int,lM (.int x) (.int (2*T))=Ga (.int (x%(2*T)))):(iU nV (iU lM aU (iU mM gN (iU pw gI gK))) (iU pw gI gK)) [.val (.int z),.val (.int x)]=Ga (.int ((x*(w+1)+z)%(2*T)-T)):=by
 simp_arith[a1,a2,hq,h2,hm2]
theorem zAW {j:Nat}(h:j<5):0<=(j:Int)*j/\(j:Int)*j<20:=by
 match j,h with
 | 0,_=>decide
 | 1,_=>decide
 | 2,_=>decide
 | 3,_=>decide
 | 4,_=>decide
theorem VH (i:Int){j:Int}(h1:-100<j)(h2:j<100):mM (.int i) (.int j)=Ga (.int (i*j)):=CB i (Int.lt_trans (by decide) h1) (Int.lt_trans h2 (by decide))
theorem zFH (pw:D->D->Option D)(x:Int)(n:Nat)(hn:n<=5)(T:Int)(hq:pw (.int 10) (.int 59)=Ga (.int T))(hp:0<2*T):mv (λ_=>Ga true) (iU nV (iU lM aU (iU mM gN (iU pw gI gK))) (iU pw gI gK)) [.val (.int x)] ((jd n).map λ(k:Nat)=>jb (k:Int))=Ga ((jd n).map λ(j:Nat)=>.int ((x*((j:Int)*j+1)+j)%(2*T)-T)) :=
 yC _ _ (λj hj=>by
   have h5:j<5:=by have:=jn.mp hj;omega
   obtain⟨s1,s2⟩:=zAW h5;exact zGJ pw x _ _ T hq (VH _ (by omega) (by omega)) (VH _ (by omega) (by omega)) (Ts T (by decide) (by decide)) (λx=>pB hp))
theorem zyQ (a x y n:Int)(l r1 r2:List D)(hr:mr (.int n)=Ga l)(hl:l.length<=1000000)(hd:mS (.int a) (.int 3)=Ga (.int x))(hm:lM (.int a) (.int 3)=Ga (.int y))(e1:mv (λ_=>Ga true) aI [.val (.int x)] l=Ga r1)(e2:mv (λ_=>Ga true) (iU nV (iU lM aU (iU mM gN (iU pO gI gK))) (iU pO gI gK)) [.val (.int x)] l=Ga r2):wY [.int a,.int n]=Ga (.tuple (if y=0 then r1 else r2)):=by
 rw[znK];unfold Ml;generalize pO=pw at *;by_cases c:y=0
 .rw[Ge c];simp_arith[hd,hm,Gc c,hr,oV,Ge hl,e1]
 .rw[Gf c];simp_arith[hd,hm,Gd c,hr,oV,Ge hl,e2]
theorem zv8 (a:Int)(n:Nat)(hn:n<=5)(T:Int)(hT:(10:Int)^59=T)(hp:0<2*T):wY [.int a,.int (n:Int)]=Ga (.tuple (if a%3=0 then((jd n).map λ(j:Nat)=>.int (a/3/((j:Int)+1)%4-1)) else((jd n).map λ(j:Nat)=>.int ((a/3*((j:Int)*j+1)+j)%(2*T)-T)))) :=
 zyQ a (a/3) (a%3) n _ _ _ (Ae (by omega)) (by rw[jc,jE];omega) (sV (by decide) (by decide)) (pB (by decide)) (zFG _ n hn) (zFH pO _ n hn T (QC T hT) hp)
theorem zv9 (a:Int)(n:Nat)(hn:n<=5):∃ is:List Int,is.length=n/\(∀ x∈is,¬(10:Int)^60<=(if x<0 then -x else x))/\wY [.int a,.int (n:Int)]=Ga (.tuple (is.map jb)):=by
 obtain⟨T,t1,t2,t3,t4⟩:=Hu;refine⟨(jd n).map λ(j:Nat)=>if a%3=0 then(a/3/((j:Int)+1)%4-1) else((a/3*((j:Int)*j+1)+j)%(2*T)-T),by rw[jc,jE],?_,?_⟩
 .intro x hx;obtain⟨j,hj,rfl⟩:=jx.mp hx;rw[t3];by_cases c:a%3=0
  .rw[Ge c];have:=kG (a/3/((j:Int)+1)) (show(4:Int)≠0 by decide);have:=kw (a/3/((j:Int)+1)) (show(0:Int)<4 by decide);split<;>omega
  .rw[Gf c];have:=kG (a/3*((j:Int)*j+1)+j) (show 2*T≠0 by omega);have:=kw (a/3*((j:Int)*j+1)+j) t2;split<;>omega
 .rw[zv8 a n hn T t1 t2,jL];refine congrArg (λl=>Ga (jZ l)) ?_;by_cases c:a%3=0
  .rw[Ge c];exact jN λj _=>by show _=jb (if a%3=0 then _ else _);rw[Ge c]
  .rw[Gf c];exact jN λj _=>by show _=jb (if a%3=0 then _ else _);rw[Gf c]
theorem zDs (ns:List Int)(lo hi:Option Int):∃ (cut:List D) (s:Int),wk (.list (ns.map jb)) lo hi=Ga (.list cut)/\yP cut=Ga (.int s):=by
 refine⟨_,((ns.drop (HT.sIx ns.length 0 lo)).take (HT.sIx ns.length ns.length hi-HT.sIx ns.length 0 lo)).sum,rfl,?_⟩;unfold tN;rw[jc,<- List.map_drop,<- List.map_take];unfold yP;rw[zd9];rfl
theorem Wk (L:Nat)(hL:L<=63):∃ K,xC (.int 0) (.int (L:Int)) (.int 9)=Ga ((jd K).map λ(k:Nat)=>.int ((9*k:Nat):Int))/\∀ k,k<K->9*k<L:=by
 have f:∀ j:Fin 64,(qh 0 (j.val:Int) 9&&decide ((0:Int)<9)&&decide ((9:Int)<1000000))=true/\∀ k:Fin 64,k.val<(jP 0 (j.val:Int) 9).toNat->9*k.val<j.val:=by nofun
 have g:∀ j:Fin 64,(jP 0 (j.val:Int) 9).toNat<=63:=by nofun
 refine⟨(jP 0 (L:Int) 9).toNat,?_,λk hk=>?_⟩
 .have:=(f ⟨L,by omega⟩).1;unfold xC;dsimp only;rw[Ge this];refine congrArg Ga (jN λk _=>?_);refine congrArg jb ?_;rw[Int.natCast_mul,Int.mul_comm,qj];rfl
 .have h1:=g ⟨L,by omega⟩;exact(f ⟨L,by omega⟩).2 ⟨k,by have h2:k<(jP 0 (L:Int) 9).toNat:=hk;exact jz h2 (jk h1 (by decide))⟩ hk
theorem IE (n k b:Nat)(v new:Nat->Int)(E:Fs)(h2:2<=n)(h5:n<=5)(k1:k<=2)(o:Ok n E 3)(c:lj n E<=b)(ht:b+2<=n)(hk:(k:Int)<(b:Int)+1-pp n E 3)(hv:∀ i,i<n->¬(10:Int)^60<=(if new i<0 then -(new i) else new i)) :
  ∃ Ps:List Rn,∃ w:Nat->Int,(∀ i,i<n->w i=new i)/\Ap [lU n (v,E),.int (b:Int),.int (k:Int),.tuple (me n new)]=Ga (.list (Ps.map (lU n)))/\oo n k b (v,E) (w,mZ) Ps/\Ps.length<=6000:=by
 obtain⟨w0,_,_⟩:=GC n E;obtain⟨H1,H2⟩:=zGI n E k b (by omega) hk;obtain⟨⟨HP,hl⟩,_⟩:=Rp (n:=n) (k:=k) (t:=b) h2 h5 (by omega) (v:=v) (E:=E) (o.mono (by omega)) c ht H1 H2;have HE:=zyO n k b v E (.int (b:Int)) h2 h5 (by omega) (o.mono (by omega)) c ht H1 H2;obtain⟨w,hw,HR,rl⟩:=Pp (n:=n) (k:=k) h2 h5 (by omega) v new n (jj _);have RE:=zq7 n k h2 h5 (by omega) v new;generalize (jd n).foldl (sJ n k new) [(v,mZ)]=Q at HR rl RE;generalize zp n k v E=P at HP hl HE;have J:=HP.join (HR.mono (show k<=b by omega)) (.inl rfl);have kc:k=0\/k=1\/k=2:=by omega
 have l1:P.length<=1300:=by
  rcases kc with rfl|rfl|rfl
  .omega
  .have:mG (1-1)=1:=rfl;rw[this] at hl;omega
  .have:mG (2-1)=6:=rfl;rw[this] at hl;omega
 have l2:Q.length<=600:=by
  have:n*(2*mG k)<=5*(2*51):=vX h5 (vX (jj _) (by rcases kc with rfl|rfl|rfl<;>decide));omega
 have lp:(P++Q.tail).length<=6000:=by rw[jg,ko];omega
 refine⟨P++Q.tail,w,λi hi=>by rw[hw i,Ge hi],?_,J,lp⟩;have G:=EB h2 h5 (by omega) o;have ln:=nu n v;have OP:=Ss (me n v) (lG n E) (by rw[ln];exact G) b (by rw[ln];exact ht) (by rw[xE];exact c) (k:Int);have wl:=UM n E (by omega);rw[ln,Gc (by omega)] at OP;have er:lU n (v,E)=rd (me n v) (lG n E):=by unfold lU mW;rw[ln]
 refine zAV (lU n (v,E)) _ (lU n (v,mZ)) (b:Int) (k:Int) _ _ _ (by rw[er];exact OP) (ZP n new v E h2 h5 hv) HE (xp (by rw[ku,HP.lst];rfl)) RE ?_;rw[jI,uq];show(if _+_<=sizeLine then _ else _)=_;rw[Ge (jk (by rw[jc,ko,jc];omega:_<=6000) (by rw[sizeLine_eq];decide))]
open Classical in
noncomputable def fr (Φ:Nat->D):Nat->Nat->D
 | _,0=>.none
 | a,m+1=>if Φ a=.none then fr Φ (a+1) m else .tuple [.int (a:Int),Φ a]
theorem TH (f:FV)(e0 e1:Sl)(Φ:Nat->D)(n:Nat)(hΦ:∀ k,k<n->Φ k=.none\/∃ i:Int,Φ k=.int i)(hf:∀ k:Nat,k<n->∀ y3,f [e0,e1,.val (.int (k:Int)),y3]=Ga (Φ k)) :
  ∀ (m a:Nat) (y2 y3:Sl),a+m=n->mU (lS iy (iX (lF 3 f) aX) ((qB a m).map λ(k:Nat)=>.int (k:Int)) [e0,e1,y2,y3]) gA=Ga (.rt (fr Φ a m))
 | 0,a,y2,y3,_=>rfl
 | m+1,a,y2,y3,e=>by
  rw[qK,jK];have ih:=TH f e0 e1 Φ n hΦ hf m (a+1) (.val (.int (a:Int))) (.val (Φ a)) (by omega);have ha:=hf a (by omega);rcases hΦ a (by omega) with z|⟨i,z⟩
  .rw[z] at ha ih;unfold fr;rw[Ge z,<- ih]
   conv=>lhs;unfold lS
   simp_arith[ha]
  .rw[z] at ha;unfold fr;rw[Gf (by rw[z];exact λz=>by cases z),z];unfold lS;simp_arith[ha]
theorem zAX (P:List D->Option D)(c:lN)(φ:D->Option D)(v k d X:D)(y3:Sl)(h:P [v,k]=Ga d)(h2:φ d=Ga X):(rK 0 c φ (lw P fB)) [.fn c,.val v,.val k,y3]=Ga X:=by
 simp_arith[h];exact h2
theorem XF (R P:List D->Option D)(c:lN)(φ:D->Option D)(v X:D)(ri:Int)(Ks:List D)(hR:R [v]=Ga (.int ri))(h0:mr (.int (ri+1))=Ga Ks)(q:mU (lS iy (iX (lF 3 (rK 0 c φ (lw P fB))) aX) Ks [.fn c,.val v,.no,.no]) gA=Ga (.rt X)) :
  lq ((iX (oK (wP mr (iU lJ (lw R gu) gQ)) iy (iX (lF 3 (rK 0 c φ (lw P fB))) aX)) gA) [.fn c,.val v,.no,.no])=Ga X:=by
 simp_arith[hR,h0];rw[q,VC]
theorem zGK {n:Nat}(h:n<1000):mr (.int (n:Int))=Ga ((qB 0 n).map λ(k:Nat)=>.int (k:Int)):=by
 rw[<- kP,<- xN];exact zH (Nat.lt_trans h (by decide))
theorem zyS (ns:List D)(fs:List Fl)(hi:∀ d∈ns,∃ i:Int,d=.int i)(r h:Nat)(hh:h<ns.length)(hr:r<=90)(Φ:Nat->D)(hΦ:∀ k,k<r+1->Φ k=.none\/∃ i:Int,Φ k=.int i)(c:lN)(φ:D->Option D)(hφ:∀ k,k<r+1->φ (vw ns fs k h)=Ga (Φ k)) :
  Cr c φ [vw ns fs r h]=Ga (fr Φ 0 (r+1)):=by
 rw[zpH];unfold UL;exact XF Bq DX c φ (vw ns fs r h) _ r _ (Sz ns fs hi r h hh (by omega)) (zGK (n:=r+1) (by omega)) (TH _ _ _ Φ (r+1) hΦ (λk hk y3=>zAX _ c φ _ _ _ _ y3 (OM ns fs hi r k h hh (by omega) (by omega)) (hφ k hk)) (r+1) 0 .no .no (by omega))
theorem zAZ {it:Nat}{P:Gj}{mk:(D->Option D)->lN}{fb:FV}{fm:lN->(D->Option D)->List D->Option D}{ix:List Nat}{g:FL}{ψ:En}{cs as:List D}{X:D}(h1:ψ[it]?=Ga (.tab P))(h2:yX ψ ix=Ga cs)(h3:g ψ=Ga as)(h4:∀ c,fm c (λd=>fb (.val d::cs.map .val)) as=Ga X):re it P mk fb fm ix g ψ=Ga X:=by
 unfold re;rw[Ge h1,h2,jp,h3,jp];exact h4 _
theorem EU {n:Nat}{E:Fs}{h:Nat}(hn:h<n)(r:Int):up (lG n E) h r=nk E h r:=by
 unfold up nk;rw[Au hn];cases E h with
 | none=>rfl
 | some p=>rfl
theorem zGL {n l:Nat}{E:Fs}(O:Ok n E l)(G:ph n (lG n E)){b h:Nat}{r:Int}(hb:b<n)(hh:h<n)(u:nk E h r=true):og E b h r=cm (lG n E) b h r:=by
 rw[kq,Lc G];have uh:=(HM G h r).mp ((EU hh r).trans u);unfold og;cases e:E b with
 | none =>
  refine⟨λ_ f hf=>⟨uh f hf,λz=>?_⟩,λ_=>rfl⟩;have:=(rD.mp hf).2;rw[z,e] at this;cases this
 | some p =>
  obtain⟨a,m⟩:=p;have mem:(⟨b,a,m⟩:Fl)∈lG n E:=rD.mpr ⟨hb,e⟩;dsimp only;rw[uI,jG,decide_eq_true_eq,decide_eq_true_eq];constructor
  .intro z f hf;refine⟨uh f hf,λw=>?_⟩;have q:=(rD.mp hf).2;rw[w,e] at q;have q:=jF q;have q1:a=f.a:=congrArg Prod.fst q;have q2:m=f.m:=congrArg Prod.snd q;rw[<- q1,<- q2];refine⟨by rcases z with z|⟨z,_⟩<;>omega,λw=>?_⟩;rcases z with z|⟨_,z⟩
   .omega
   .exact z
  .intro z;have z:=(z _ mem).2 rfl;dsimp only at z;by_cases c:r<a
   .exact .inl c
   .exact .inr ⟨by omega,z.2 (by omega)⟩
theorem LV (ns:List D){l:Nat}{E:Fs}(O:Ok ns.length E l)(G:ph ns.length (lG ns.length E)):∀ r h:Nat,h<ns.length->ox ns.length (xk ns) E r h=sE ns (lG ns.length E) r h
 | 0,h,hh=>by
  unfold sE;rw[Ge ((HM G h _).mpr λf hf _=>by have:=G.ab f hf;omega)];rfl
 | r+1,h,hh=>by
  have ec:((r:Int)+1)=((r+1:Nat):Int):=by omega
  unfold sE;rw[EU hh];show(if nk E h ((r:Int)+1)=true then jZ [.int (h:Int),.tuple ((jd ns.length).map λb=>if (b==h||og E b h ((r:Int)+1))=true then ox ns.length (xk ns) E r b else uN)] else uN)=_;rw[ec];cases u:nk E h ((r+1:Nat):Int) with
  | false=>rw[Gf (by decide),Gf (by decide)]
  | true =>
   rw[Ge rfl,Ge rfl];refine congrArg (λl=>jZ [.int (h:Int),.tuple l]) (jN λb hb=>?_);have hb:=jn.mp hb;have uh:=(EU (E:=E) hh ((r+1:Nat):Int)).trans u;rw[zGL O G hb hh u,LV ns O G r b hb];by_cases c:b=h\/cm (lG ns.length E) b h ((r+1:Nat):Int)=true
   .rw[Ge (by rw[uI,beq_iff_eq];exact c),Ge c];unfold sE;refine Ge ?_;rcases c with rfl|c
    .exact NZ (by omega) uh
    .exact QZ G c
   .rw[Gf (by rw[uI,beq_iff_eq];exact c),Gf c]
theorem Xh (ns:List D){l:Nat}{E:Fs}(O:Ok ns.length E l)(G:ph ns.length (lG ns.length E))(r:Nat):tF ns E r=vL ns (lG ns.length E) r:=by
 unfold tF vL;exact jN λh hh=>LV ns O G r h (jn.mp hh)
theorem zFI (Dp:List D->Option D)(v:D)(x:Int)(h1:iY v (.int 1)=Ga (.int x)):lq (Eg Dp [.val v])=Ga (.int 0):=by
 unfold Eg;simp_arith[h1]
theorem zFJ (Dp:List D->Option D)(v W p:D)(h k:Int)(h0:iY v (.int 0)=Ga (.int h))(h1:iY v (.int 1)=Ga W)(hT:sk "tuple" W=Ga (.bool true))(h2:iY W (.int h)=Ga p)(h3:Dp [p]=Ga (.int k)):lq (Eg Dp [.val v])=Ga (.int (1+k)):=by
 unfold Eg;simp_arith[h0,h1,hT,h2,h3]
abbrev xn (ns:List D)(fs:List Fl)(r h b:Nat):D:=if b=h\/cm fs b h ((r+1:Nat):Int)=true then vw ns fs r b else .none
theorem Pu (ns:List D)(fs:List Fl)(r h:Nat){b:Nat}(hb:b<ns.length):iY (.tuple ((jd ns.length).map (xn ns fs r h))) (.int (b:Int))=Ga (xn ns fs r h b) :=
 L2.atI_nat (by rw[jA,ud hb];rfl)
theorem Tb (ns:List D)(fs:List Fl)(hi:∀ d∈ns,∃ i:Int,d=.int i):∀ (r h fuel:Nat),h<ns.length->r<fuel->xj fuel [vw ns fs r h]=Ga (.int (r:Int))
 | 0,h,fuel+1,hh,_=>by
  obtain⟨x,hx⟩:=Lk hi hh;rw[RO];exact zFI _ _ x (by rw[<- hx];rfl)
 | r+1,h,fuel+1,hh,hf=>by
  rw[RO];refine(zFJ (xj fuel) _ (.tuple ((jd ns.length).map (xn ns fs r h))) (vw ns fs r h) h r rfl rfl rfl ?_ (Tb ns fs hi r h fuel hh (by omega))).trans ?_
  .exact(Pu ns fs r h hh).trans (congrArg Ga (Ge (.inl rfl)))
  .rw[Int.add_comm];rfl
 | r,h,0,_,hf=>absurd hf (vf _)
theorem zDu (Hd:List D->Option D)(v:D)(x:Int)(h1:iY v (.int 1)=Ga (.int x)):lq (EX Hd [.val v,.no,.no])=Ga (.list [.int x]):=by
 unfold EX;simp_arith[h1]
theorem zDv (Hd:List D->Option D)(v W X:D)(ps:List D)(h1:iY v (.int 1)=Ga W)(hT:sk "tuple" W=Ga (.bool true))(hs:toS W=Ga ps)
  (q:lq (mU (lS iy (lD fL (lF 1 (iU lJ iB (lw Hd gy))) lI) ps [.val v,.val (.list []),.no]) (mR iB))=Ga X):lq (EX Hd [.val v,.no,.no])=Ga X:=by
 unfold EX;simp_arith[h1,hT,hs];exact q
theorem Ud (Hd:List D->Option D)(v p L N:D)(y:Sl)(I:En->Prop)(q:(p=.none/\I [.val v,.val L,.val p])\/(nA p .none=Ga (.bool true)/\(∃ M,Hd [p]=Ga M/\lJ L M=Ga N)/\I [.val v,.val N,.val p])) :
  mP I ((iy p [.val v,.val L,y]).bind (lD fL (lF 1 (iU lJ iB (lw Hd gy))) lI)):=by
 rcases q with ⟨rfl,i⟩|⟨h1,⟨M,h2,h3⟩,i⟩
 .simp_arith[];exact nJ i
 .simp_arith[h1,h2,h3];exact nJ i
theorem zA0 (a b:List Int)(h:a.length+b.length<=100000):lJ (.list (a.map jb)) (.list (b.map jb))=Ga (.list ((a++b).map jb)):=by
 have z:(100000:Nat)<=sizeLine:=by decide
 show(if (a.map jb).length+(b.map jb).length<=sizeLine then Ga (kU (a.map jb++b.map jb)) else Gb)=_;rw[Ge (by rw[jc,jc];omega),jI]
theorem p5:∀ r:Fin 5,5^r.val<=625:=by decide
theorem KW (ns:List D)(fs:List Fl)(r h:Nat):nA (vw ns fs r h) .none=Ga (.bool true):=by
 obtain⟨ds,z⟩:=zGp ns fs r h;rw[z];rfl
theorem UV (ns:List D)(fs:List Fl)(n5:ns.length<=5)(hi:∀ d∈ns,∃ i:Int,d=.int i):∀ (r h fuel:Nat),r<=4->h<ns.length->r<fuel->∃ xs:List Int,xs≠[]/\xs.length<=5^r/\tY fuel [vw ns fs r h]=Ga (.list (xs.map jb))
 | 0,h,fuel+1,_,hh,_=>by
  obtain⟨x,hx⟩:=Lk hi hh;rw[Uo];exact⟨[x],J7 _ _,jj _,zDu _ _ x (by rw[<- hx];rfl)⟩
 | r+1,h,fuel+1,hr,hh,hf=>by
  have e5:=p5 ⟨r,by omega⟩;dsimp only at e5;have step:=Bo (t:=nO 2) (g:=lD fL (lF 1 (iU lJ iB (lw (tY fuel) gy))) lI) (f:=xn ns fs r h) (λk ψ=>∃ (ys:List Int) (y:Sl),ψ=[.val (vw ns fs (r+1) h),.val (.list (ys.map jb)),y]/\ys.length<=k*5^r/\(h<k->ys≠[])) ns.length ?_ ns.length 0 [.val (vw ns fs (r+1) h),.val (.list []),.no] (vy _) ⟨[],_,rfl,j5 _,λz=>absurd z (vf _)⟩
  .obtain⟨e,e1,ys,y,rfl,l1,l2⟩:=step;rw[<- kP] at e1;refine⟨ys,l2 hh,?_,?_⟩
   .rw[Nat.pow_succ,JV];exact jk l1 (ux _ n5)
   .rw[Uo];refine zDv (tY fuel) _ (.tuple ((jd ns.length).map (xn ns fs r h))) _ _ rfl rfl rfl ?_;rw[e1];rfl
  .rintro k hk _ ⟨ys,y,rfl,l1,l2⟩;have l3:ys.length<=5*625:=jk l1 (vX (by omega) e5);by_cases c:k=h\/cm fs k h ((r+1:Nat):Int)=true
   .obtain⟨xs,x1,x2,x3⟩:=UV ns fs n5 hi r k fuel (by omega) hk (by omega);have ep:xn ns fs r h k=vw ns fs r k:=Ge c;refine Ud (tY fuel) _ _ _ (.list ((ys++xs).map jb)) y _ (.inr ⟨?_,⟨_,?_,zA0 ys xs (by omega)⟩,ys++xs,_,rfl,?_,λ_ z=>x1 (List.append_eq_nil_iff.mp z).2⟩)
    .rw[ep];exact KW ns fs r k
    .rw[ep];exact x3
    .rw[jg,JP];exact Nat.add_le_add l1 x2
   .have ep:xn ns fs r h k=.none:=Gf c;refine Ud (tY fuel) _ _ _ .none y _ (.inl ⟨ep,ys,_,rfl,?_,λz=>l2 ?_⟩)
    .rw[JP];exact jk l1 (Nat.le_add_right _ _)
    .by_cases w:h=k
     .exact absurd (.inl w.symm) c
     .omega
 | r,h,0,_,_,hf=>absurd hf (vf _)
theorem Xf (Sc:List D->Option D)(v C:D)(x h c0 c1 c2 m1 m2 s:Int)(h0:iY v (.int 0)=Ga (.int h))(h1:iY v (.int 1)=Ga (.int x))(k0:iY C (.int 0)=Ga (.int c0))(k1:iY C (.int 1)=Ga (.int c1))(k2:iY C (.int 2)=Ga (.int c2))
  (a1:mM (.int (x%1000003)) (.int c0)=Ga (.int m1)) (a2:mM (.int h) (.int c1)=Ga (.int m2)) (a3:lM (.int (m1+m2+c2)) (.int 1000003)=Ga (.int s)):lq (Et Sc [.val v,.val C,.no,.no])=Ga (.int s):=by
 have mx:lM (.int x) (.int 1000003)=Ga (.int (x%1000003)):=pB (by decide);unfold Et;simp_arith[h0,h1,k0,k1,k2,mx,a1,a2,a3]
theorem zDx (Sc:List D->Option D)(v C W X:D)(h c3 m n:Int)(Ks:List D)(h0:iY v (.int 0)=Ga (.int h))(h1:iY v (.int 1)=Ga W)(hT:sk "tuple" W=Ga (.bool true))(hl:ma W=Ga (.int n))(hr:mr (.int n)=Ga Ks)(k3:iY C (.int 3)=Ga (.int c3))(a1:mM (.int h) (.int c3)=Ga (.int m))
  (q:lq (mU (lS iw (iX aJ (iX (lD bi (lF 2 (iU lJ iD (lw Sc bj))) lI) da)) Ks [.val v,.val C,.val (.int (m+1)),.no]) (mR iD))=Ga X):lq (Et Sc [.val v,.val C,.no,.no])=Ga X:=by
 unfold Et;simp_arith[h0,h1,hT,hl,hr,k3,a1];exact q
theorem Tu (Sc:List D->Option D)(v C W p:D)(k k4 t ck m s:Int)(y:Sl)(I:En->Prop)(h1:iY v (.int 1)=Ga W)(e4:4+k=k4)(kk:iY C (.int k4)=Ga (.int ck))(a1:mM (.int t) (.int ck)=Ga (.int m))(h2:iY W (.int k)=Ga p)
  (q:(p=.none/\lM (.int (m+1)) (.int 1000003)=Ga (.int s))\/(nA p .none=Ga (.bool true)/\∃ z:Int,Sc [p,C]=Ga (.int z)/\lM (.int (m+1+z)) (.int 1000003)=Ga (.int s))) (i:I [.val v,.val C,.val (.int s),.val (.int k)]) :
  mP I ((iw (.int k) [.val v,.val C,.val (.int t),y]).bind (iX aJ (iX (lD bi (lF 2 (iU lJ iD (lw Sc bj))) lI) da))):=by
 rcases q with ⟨rfl,a2⟩|⟨h3,z,h4,a2⟩
 .simp_arith[h1,e4,kk,a1,h2,a2];exact nJ i
 .simp_arith[h1,e4,kk,a1,h2,h3,h4,a2];exact nJ i
structure nK (cs:List Int):Prop where
 len:cs.length=9
 bd:∀ c∈cs,0<=c/\c<1000003
theorem nK.at {cs:List Int}(H:nK cs)(j:Nat)(hj:j<9):∃ c:Int,0<=c/\c<1000003/\iY (.list (cs.map jb)) (.int (j:Int))=Ga (.int c):=by
 have hl:=H.len;have b:=H.bd cs[j] (uB _);exact⟨cs[j],b.1,b.2,L2.atI_nat (by rw[jA,ji (by omega)];rfl)⟩
theorem Ef {a b:Int}(h1:0<=b)(h2:b<1000003):mM (.int a) (.int b)=Ga (.int (a*b)):=HJ (zE2 (by omega) (by omega))
theorem GW (a:Int):∃ s:Int,0<=s/\s<1000003/\lM (.int a) (.int 1000003)=Ga (.int s):=⟨a%1000003,kG _ (by decide),kw _ (by decide),pB (by decide)⟩
theorem US (ns:List D)(fs:List Fl)(n5:ns.length<=5)(hi:∀ d∈ns,∃ i:Int,d=.int i){cs:List Int}(H:nK cs):∀ (r h fuel:Nat),h<ns.length->r<fuel->∃ s:Int,0<=s/\s<1000003/\tU fuel [vw ns fs r h,.list (cs.map jb)]=Ga (.int s)
 | 0,h,fuel+1,hh,_=>by
  obtain⟨x,hx⟩:=Lk hi hh;obtain⟨c0,p0,q0,k0⟩:=H.at 0 (by decide);obtain⟨c1,p1,q1,k1⟩:=H.at 1 (by decide);obtain⟨c2,p2,q2,k2⟩:=H.at 2 (by decide);obtain⟨s,s1,s2,s3⟩:=GW (x%1000003*c0+h*c1+c2);rw[SU];exact⟨s,s1,s2,Xf _ _ _ x h c0 c1 c2 _ _ s rfl (by rw[<- hx];rfl) k0 k1 k2 (Ef p0 q0) (Ef p1 q1) s3⟩
 | r+1,h,fuel+1,hh,hf=>by
  obtain⟨c3,p3,q3,k3⟩:=H.at 3 (by decide);have step:=Bo (t:=nO 3) (g:=(iX aJ (iX (lD bi (lF 2 (iU lJ iD (lw (tU fuel) bj))) lI) da))) (f:=λ(k:Nat)=>(.int (k:Int):D)) (λk ψ=>∃ (t:Int) (y:Sl),ψ=[.val (vw ns fs (r+1) h),.val (.list (cs.map jb)),.val (.int t),y]/\(0<k->0<=t/\t<1000003)) ns.length ?_ ns.length 0 [.val (vw ns fs (r+1) h),.val (.list (cs.map jb)),.val (.int ((h:Int)*c3+1)),.no] (vy _) ⟨_,_,rfl,λz=>absurd z (jU _)⟩
  .obtain⟨e,e1,t,y,rfl,l1⟩:=step;rw[<- kP] at e1;have l1:=l1 (by omega);refine⟨t,l1.1,l1.2,?_⟩;rw[SU];refine zDx (tU fuel) _ _ (.tuple ((jd ns.length).map (xn ns fs r h))) _ h c3 _ ns.length ((jd ns.length).map λ(k:Nat)=>.int (k:Int)) rfl rfl rfl ?_ (by rw[<- xN];exact zH (by omega)) k3 (Ef p3 q3) ?_
   .show Ga (jb ((v9 (xn ns fs r h) (jd ns.length)).length:Nat))=_;rw[jc,jE]
   .rw[e1];rfl
  .rintro k hk _ ⟨t,y,rfl,_⟩;obtain⟨ck,pk,qk,kk⟩:=H.at (4+k) (by omega);have go:∀ s:Int,0<=s->s<1000003->∃ (t:Int) (y:Sl),[Sl.val (vw ns fs (r+1) h),.val (.list (cs.map jb)),.val (.int s),.val (.int (k:Int))]=[.val (vw ns fs (r+1) h),.val (.list (cs.map jb)),.val (.int t),y]/\(0<k+1->0<=t/\t<1000003):=λs s1 s2=>⟨s,_,rfl,λ_=>⟨s1,s2⟩⟩;by_cases c:k=h\/cm fs k h ((r+1:Nat):Int)=true
   .have ep:xn ns fs r h k=vw ns fs r k:=Ge c;obtain⟨z,_,_,z3⟩:=US ns fs n5 hi H r k fuel hk (by omega);obtain⟨s,s1,s2,s3⟩:=GW (t*ck+1+z);refine Tu (tU fuel) _ _ (.tuple ((jd ns.length).map (xn ns fs r h))) _ k _ t ck _ s y _ rfl (by omega) kk (Ef pk qk) (Pu ns fs r h hk) (.inr ⟨?_,z,?_,s3⟩) (go s s1 s2)
    .rw[ep];exact KW ns fs r k
    .rw[ep];exact z3
   .obtain⟨s,s1,s2,s3⟩:=GW (t*ck+1);exact Tu (tU fuel) _ _ (.tuple ((jd ns.length).map (xn ns fs r h))) _ k _ t ck _ s y _ rfl (by omega) kk (Ef pk qk) (Pu ns fs r h hk) (.inl ⟨Gf c,s3⟩) (go s s1 s2)
 | r,h,0,_,hf=>absurd hf (vf _)
def pb (X:D):Prop:=X=.none\/∃ i:Int,X=.int i
theorem zFK (Sc Dp Hd:List D->Option D)(v C L mn mx e:D)(xs:List D)(s r st c2 l j one:Int)(h1:Sc [v,C]=Ga (.int s))(h2:Dp [v]=Ga (.int r))(h3:iY C (.int 2)=Ga (.int c2))(h4:Hd [v]=Ga L)(h5:yv L=Ga xs)(h6:wp xs=Ga mn)(h7:sN xs=Ga mx)(h8:ma L=Ga (.int l))(h9:lM (.int (s/16)) (.int l)=Ga (.int j))(h10:iY L (.int j)=Ga e)(t1:pb mn)(t2:pb mx)(t3:pb e) :
  ∃ X,lq ((iX bB (iX (lD (mw rJ (lw Dp gr) iD) gA lI) (iX bU (iX (lF 5 (lw Sc fv)) (iX aO (iX (lD eZ (mR (pN wp (Cc (lw Hd gr)))) lI) (iX (lD fg (mR (pN sN (Cc (lw Hd gr)))) lI) (iX (lD fk (iX (lF 6 (lw Hd gr)) aW) lI) bC)))))))) [.val v,.val C,.val (.int st),.val (.int one),.no,.no,.no])=Ga X/\pb X:=by
 have m16:lM (.int s) (.int 16)=Ga (.int (s%16)):=pB (by decide);have d16:mS (.int s) (.int 16)=Ga (.int (s/16)):=sV (by decide) (by decide);have m3:lM (.int (s/16)) (.int 3)=Ga (.int (s/16%3)):=pB (by decide);have m4:lM (.int c2) (.int 5)=Ga (.int (c2%5)):=pB (by decide);have eqw:∀ j:Int,mm (.int (c2%5)) (.int j)=Ga (.bool (decide (c2%5=j))):=λj=>HL _ _;by_cases q1:r<st
 .have q1:=Gc q1;refine⟨.none,?_,.inl rfl⟩;simp_arith[h3,m4,h2,q1]
 .have q1:=Gd q1;by_cases w4:c2%5=4
  .have e4:=eqw 4;rw[Gc w4] at e4;exact⟨.int one,by simp_arith[h3,m4,h2,q1,e4],.inr ⟨_,rfl⟩⟩
  .have e4:=eqw 4;rw[Gd w4] at e4;by_cases q2:s%16=7
   .have e7:mm (.int (s%16)) (.int 7)=Ga (.bool true):=by rw[HL,Gc q2]
    refine⟨.none,?_,.inl rfl⟩;simp_arith[h3,m4,h2,q1,e4,h1,m16,e7]
   .have e7:mm (.int (s%16)) (.int 7)=Ga (.bool false):=by rw[HL,Gd q2]
    by_cases w0:c2%5=0
    .have e0:=eqw 0;rw[Gc w0] at e0;exact⟨mn,by simp_arith[h3,m4,h2,q1,e4,h1,m16,e7,e0,h4,h5,h6],t1⟩
    .have e0:=eqw 0;rw[Gd w0] at e0;by_cases w1:c2%5=1
     .have e1:=eqw 1;rw[Gc w1] at e1;exact⟨mx,by simp_arith[h3,m4,h2,q1,e4,h1,m16,e7,e0,e1,h4,h5,h7],t2⟩
     .have e1:=eqw 1;rw[Gd w1] at e1;by_cases w2:c2%5=2
      .have e2:=eqw 2;rw[Gc w2] at e2;exact⟨e,by simp_arith[h3,m4,h2,q1,e4,h1,m16,e7,e0,e1,e2,h4,d16,h8,h9,h10],t3⟩
      .have e2:=eqw 2;rw[Gd w2] at e2;exact⟨.int (s/16%3),by simp_arith[h3,m4,h2,q1,e4,h1,m16,e7,e0,e1,e2,d16,m3],.inr ⟨_,rfl⟩⟩
theorem zDy (ns:List D)(fs:List Fl)(n5:ns.length<=5)(hi:∀ d∈ns,∃ i:Int,d=.int i){cs:List Int}(H:nK cs)(st one:Int)(r h:Nat)(hr:r<=4)(hh:h<ns.length):∃ X,wo [vw ns fs r h,.list (cs.map jb),.int st,.int one]=Ga X/\pb X:=by
 obtain⟨s,s1,s2,s3⟩:=US ns fs n5 hi H r h 12 hh (by omega);obtain⟨xs,x1,x2,x3⟩:=UV ns fs n5 hi r h 12 hr hh (by omega);obtain⟨c2,p2,q2,k2⟩:=H.at 2 (by decide);have lp:0<xs.length:=Jw.mpr x1;have z0:=kG (s/16) (show(xs.length:Int)≠0 by omega);have z1:=kw (s/16) (show(0:Int)<xs.length by omega);obtain⟨j,hj⟩:=uY z0;have jl:j<xs.length:=by omega
 rw[XW];unfold Ql;obtain⟨x,xr,rfl⟩:∃ x xr,xs=x::xr:=by
  cases xs with
  | nil=>exact absurd rfl x1
  | cons x xr=>exact⟨x,xr,rfl⟩
 refine zFK (tU 12) (xj 12) (tY 12) _ _ _ (.int (xr.foldl (λa b=>if b<a then b else a) x)) (.int (xr.foldl (λa b=>if a<b then b else a) x)) (.int (x::xr)[j]) ((x::xr).map jb) s r st c2 (x::xr).length j one s3 (Tb ns fs hi r h 12 hh (by omega)) k2 x3 rfl ?_ ?_ ?_ ?_ ?_ (.inr ⟨_,rfl⟩) (.inr ⟨_,rfl⟩) (.inr ⟨_,rfl⟩)
 .unfold wp;rw[T3.zd9];rfl
 .unfold sN;rw[T3.zd9];rfl
 .show Ga (jb (((x::xr).map jb).length:Nat))=_;rw[jc]
 .exact(pB (by omega)).trans (congrArg (λz=>Ga (jb z)) hj)
 .exact L2.atI_nat (by rw[jA,ji jl];rfl)
noncomputable def rz (Φ:Nat->D):Nat->Nat->D
 | _,0=>.none
 | a,m+1=>if Φ a=.none then rz Φ (a+1) m else Φ a
def Vp:D->D
 | .tuple [_,x]=>x
 | _=>.none
theorem SH (Φ:Nat->D):∀ (m a:Nat),Vp (fr Φ a m)=rz Φ a m
 | 0,a=>rfl
 | m+1,a=>by
  unfold fr rz;by_cases c:Φ a=.none
  .rw[Ge c,Ge c];exact SH Φ m (a+1)
  .rw[Gf c,Gf c];rfl
theorem Sh (Φ:Nat->D):∀ (m a:Nat),fr Φ a m=.none\/∃ x y,fr Φ a m=.tuple [x,y]
 | 0,a=>.inl rfl
 | m+1,a=>by
  unfold fr;by_cases c:Φ a=.none
  .rw[Ge c];exact Sh Φ m (a+1)
  .rw[Gf c];exact .inr ⟨_,_,rfl⟩
theorem Rw (Φ:Nat->D):∀ (m a:Nat),(∀ k,a<=k->k<a+m->pb (Φ k))->pb (rz Φ a m)
 | 0,a,_=>.inl rfl
 | m+1,a,h=>by
  unfold rz;by_cases c:Φ a=.none
  .rw[Ge c];exact Rw Φ m (a+1) λk h1 h2=>h k (by omega) (by omega)
  .rw[Gf c];exact h a (jj _) (by omega)
theorem zFN (C:lN->(D->Option D)->List D->Option D)(c:lN)(φ:D->Option D)(v f:D)(h1:C c φ [v]=Ga f)(h2:f=.none\/∃ x y,f=.tuple [x,y]) :
  lq ((iX (lF 2 (mY 0 c (C c φ) gu)) aY) [.fn c,.val v,.no])=Ga (Vp f):=by
 rcases h2 with rfl|⟨x,y,rfl⟩
 .simp_arith[h1];rfl
 .simp_arith[h1];rfl
theorem zDz (ns:List D)(fs:List Fl)(hi:∀ d∈ns,∃ i:Int,d=.int i)(r h:Nat)(hh:h<ns.length)(hr:r<=4)(Φ:Nat->D)(c:lN)(φ:D->Option D)(hΦ:∀ k,k<=4->pb (Φ k)/\φ (vw ns fs k h)=Ga (Φ k)):Bb c φ [vw ns fs r h]=Ga (rz Φ 0 (r+1)):=by
 rw[zpI];unfold Up;rw[zFN Cr c φ _ _ (zyS ns fs hi r h hh (by omega) Φ (λk hk=>(hΦ k (by omega)).1) c φ λk hk=>(hΦ k (by omega)).2) (Sh Φ _ _),SH]
theorem zFO (Nb:lN->(D->Option D)->List D->Option D)(Vo:List D->Option D)(Wo:List D->Option (List D))(c:lN)(φ:D->Option D)(Rn R W:D)(us Y:List D)(h1:Vo [Rn,R]=Ga W)(h2:Wo [Rn,R]=Ga us)(hl:us.length<=1000000)(q:mv (λ_=>Ga true) (pC (lh iA (lh (mY 1 c (Nb c φ) dX) nD))) [.fn c,.val W] us=Ga Y) :
  lq ((iX (lF 3 (lw Vo fB)) (mR (pf (lY (pG (pf (tW Wo fB))) (λ_=>Ga true) (pC (lh iA (lh (mY 1 c (Nb c φ) dX) nD))) [0,3])))) [.fn c,.val Rn,.val R,.no])=Ga (.list Y):=by
 have e:lY (pG (pf (tW Wo fB))) (λ_=>Ga true) (pC (lh iA (lh (mY 1 c (Nb c φ) dX) nD))) [0,3] [.fn c,.val Rn,.val R,.val W]=Ga Y:=by
  rw[oV];have:pG (pf (tW Wo fB)) [.fn c,.val Rn,.val R,.val W]=Ga us:=by simp_arith[h2]
  rw[this,jp,Ge hl];exact q
 simp_arith[h1,e]
theorem zFP (N:List D->Option D)(c:lN)(W v X:D)(h:Int)(h1:iY W (.int h)=Ga v)(h2:N [v]=Ga X):(pC (lh iA (lh (mY 1 c N dX) nD))) [.val (.int h),.fn c,.val W]=Ga (.tuple [.int h,X]):=by
 simp_arith[h1,h2]
def rS (n:Nat)(fs:List Fl)(R:Nat):List Nat:=(jd n).filter λh=>up fs h (R:Int)
theorem zwA (ns:List D)(fs:List Fl)(G:ph ns.length fs)(hi:∀ d∈ns,∃ i:Int,d=.int i)(R:Nat)(hR:R<=4)(Φ:Nat->Nat->D)(c:lN)(φ:D->Option D)(hΦ:∀ h k,h<ns.length->k<=4->pb (Φ h k)/\φ (vw ns fs k h)=Ga (Φ h k)) :
  oU c φ [rd ns fs,.int (R:Int)]=Ga (.list ((rS ns.length fs R).map λ(h:Nat)=>.tuple [.int (h:Int),rz (Φ h) 0 (R+1)])):=by
 have n5:=G.n5;rw[ZS];unfold Vx;have ul:(rS ns.length fs R).length<=ns.length:=by
  have:=jW (λh=>up fs h (R:Int)) (jd ns.length);rw[jE] at this;exact this
 refine zFO Bb Fp tR c φ _ _ _ _ _ (ztK ns fs G R (by omega)) (ES ns fs R n5) (by rw[jc];show(rS ns.length fs R).length<=_;omega) ?_;refine yC (λ(h:Nat)=>jb (h:Int)) (λ(h:Nat)=>.tuple [.int (h:Int),rz (Φ h) 0 (R+1)]) (l:=rS ns.length fs R) λh hm=>?_;have hm:=jD.mp hm;have hh:=jn.mp hm.1;have e:sE ns fs R h=vw ns fs R h:=Ge hm.2;exact zFP (Bb c φ) c _ _ _ h ((GB hh).trans (congrArg Ga e)) (zDz ns fs hi R h hh hR (Φ h) c φ λk hk=>hΦ h k hh hk)
theorem Tr (c:lN)(φ:D->Option D)(Rn R M row v X N:D)(h:Int)(ts:List D)(y7:Sl)(I:En->Prop)(q:(N=.none/\iY row (.int h)=Ga v/\φ v=Ga X/\I [.fn c,.val Rn,.val R,.val M,.own ts,.val (.int h),.val X,.val row])\/(rZ N .none=Ga (.bool false)/\I [.fn c,.val Rn,.val R,.val M,.own ts,.val (.int h),.val N,.val row])) :
  mP I ((ir row [.fn c,.val Rn,.val R,.val M,.own ts,.val (.int h),.val N,y7]).bind (lD fP (lF 6 (rK 0 c φ fY)) lI)):=by
 rcases q with ⟨rfl,h1,h2,i⟩|⟨h1,i⟩
 .simp_arith[h1,h2];exact nJ i
 .simp_arith[h1];exact nJ i
theorem zFQ (Bd:FS)(c:lN)(Rn R M row p:D)(h:Int)(ts ms:List D)(y5 y6 y7:Sl)(I:En->Prop)(h1:iY M R=Ga row)(h2:iY row (.int h)=Ga p)(hs:toS M=Ga ms)(lt:ts.length<1000000)
  (q:(p=.none/\∀ y5,I [.fn c,.val Rn,.val R,.val M,.own ts,y5,y6,y7])\/(nA p .none=Ga (.bool true)/\∃ X,mP (λψ=>∃ y,ψ=[.fn c,.val Rn,.val R,.val M,.own ts,.val (.int h),.val X,y]) (lS ir Bd ms [.fn c,.val Rn,.val R,.val M,.own ts,.val (.int h),.val .none,y7])/\∀ y5 y6 y7,I [.fn c,.val Rn,.val R,.val M,.own (ts++[.tuple [.int h,X]]),y5,y6,y7])) :
  mP I ((iq (.int h) [.fn c,.val Rn,.val R,.val M,.own ts,y5,y6,y7]).bind (lD bF (iX (lF 6 ij) (iX (oK (pG iF) ir Bd) dg)) lI)):=by
 rcases q with ⟨rfl,i⟩|⟨h3,X,⟨e,e1,y,rfl⟩,i⟩
 .simp_arith[h1,h2];exact nJ (i _)
 .simp_arith[h1,h2,h3,hs,e1];rw[Ge lt];exact nJ (i _ _ _)
theorem ZM (Vs:List D->Option D)(Bd:FS)(c:lN)(Rn R M N0 X:D)(n:Int)(Ks:List D)(h1:Vs [Rn,R]=Ga M)(h2:iY Rn (.int 0)=Ga N0)(h3:ma N0=Ga (.int n))(h4:mr (.int n)=Ga Ks)(q:lq (mU (lS iq Bd Ks [.fn c,.val Rn,.val R,.val M,.own [],.no,.no,.no]) ig)=Ga X) :
  lq ((iX (lF 3 (lw Vs fB)) (iX (sD 4 nD) (iX (oK cq iq Bd) ig))) [.fn c,.val Rn,.val R,.no,.no,.no,.no,.no])=Ga X:=by
 simp_arith[h1,h2,h3,h4];exact q
theorem zFS {N:D}(t:pb N):N=.none\/rZ N .none=Ga (.bool false):=by
 rcases t with z|⟨i,rfl⟩
 .exact .inl z
 .exact .inr rfl
theorem Ue {n:Nat}(h:n<1000000):mr (.int (n:Int))=Ga ((jd n).map λ(k:Nat)=>.int (k:Int)):=by rw[<- xN];exact zH h
theorem zDA (ns:List D)(E:Fs)(l:Nat)(O:Ok ns.length E l)(G:ph ns.length (lG ns.length E))(R:Nat)(hR:R<=4)(Φ:Nat->Nat->D)(c:lN)(φ:D->Option D)(hΦ:∀ h k,h<ns.length->k<=4->pb (Φ h k)/\φ (vw ns (lG ns.length E) k h)=Ga (Φ h k)) :
  yD c φ [rd ns (lG ns.length E),.int (R:Int)]=Ga (.list ((rS ns.length (lG ns.length E) R).map λ(h:Nat)=>.tuple [.int (h:Int),rz (Φ h) 0 (R+1)])):=by
 have n5:=G.n5;rw[zqY];unfold Uq;have hv:AD [rd ns (lG ns.length E),.int (R:Int)]=Ga (.list ((jd (R+1)).map λr=>.list (vL ns (lG ns.length E) r))):=by
  have:=zAM ns E R n5 (by omega);refine this.trans (congrArg (λx=>Ga (kU x)) (jN λr _=>?_));rw[Xh ns O G r]
 generalize hfs:lG ns.length E=fs at *;refine ZM AD _ c _ _ _ (.tuple ns) _ ns.length ((jd ns.length).map λ(k:Nat)=>.int (k:Int)) hv rfl rfl (Ue (by omega)) ?_;refine(congrArg lq (Cu (f:=λ(k:Nat)=>(.int (k:Int):D)) (R:=Ga (.ro ((rS ns.length fs R).map λ(h:Nat)=>.tuple [.int (h:Int),rz (Φ h) 0 (R+1)]))) ns.length (λk ψ=>∃ y5 y6 y7,ψ=[.fn c,.val (rd ns fs),.val (.int (R:Int)),.val (.list ((jd (R+1)).map λr=>.list (vL ns fs r))),.own ((rS k fs R).map λ(h:Nat)=>.tuple [.int (h:Int),rz (Φ h) 0 (R+1)]),y5,y6,y7]) ⟨_,_,_,rfl⟩ ?_ ?_)).trans rfl
 .rintro k hk _ ⟨y5,y6,y7,rfl⟩;have row:∀ r,r<=R->iY (.list ((jd (R+1)).map λr=>.list (vL ns fs r))) (.int (r:Int))=Ga (.list (vL ns fs r)):=λr hr=>L2.atI_nat (by rw[jA,ud (by omega)];rfl);have ul:(rS k fs R).length<=k:=by
   have:=jW (λh=>up fs h (R:Int)) (jd k);rw[jE] at this;exact this
  refine zFQ _ c _ _ _ _ _ k _ _ y5 y6 y7 _ (row R (jj _)) (GB hk) rfl (by rw[jc];omega) ?_;cases u:up fs k (R:Int) with
  | false =>
   have e:rS (k+1) fs R=rS k fs R:=by
    unfold rS;rw[kr,kC,kf (p:=λh=>up fs h (R:Int)) (by rw[u];decide),Jf,kz]
   exact .inl ⟨by unfold sE;rw[u,Gf (by decide)],λy5=>⟨y5,y6,y7,by rw[e]⟩⟩
  | true =>
   have e:rS (k+1) fs R=rS k fs R++[k]:=by
    unfold rS;rw[kr,kC,jY (p:=λh=>up fs h (R:Int)) u,Jf]
   refine .inr ⟨by unfold sE;rw[u,Ge rfl];exact KW ns fs R k,rz (Φ k) 0 (R+1),?_,λy5 y6 y7=>⟨_,_,_,by rw[e,jI];rfl⟩⟩;have st:=Bo (t:=nO 7) (g:=lD fP (lF 6 (rK 0 c φ fY)) lI) (f:=λr=>(.list (vL ns fs r):D)) (λj ψ=>∃ N y,ψ=[.fn c,.val (rd ns fs),.val (.int (R:Int)),.val (.list ((jd (R+1)).map λr=>.list (vL ns fs r))),.own ((rS k fs R).map λ(h:Nat)=>.tuple [.int (h:Int),rz (Φ h) 0 (R+1)]),.val (.int (k:Int)),.val N,y]/\pb N/\((N=.none/\rz (Φ k) 0 (R+1)=rz (Φ k) j (R+1-j))\/(N≠.none/\rz (Φ k) 0 (R+1)=N))) (R+1) ?_ (R+1) 0 _ (vy _) ⟨.none,y7,rfl,.inl rfl,.inl ⟨rfl,rfl⟩⟩
   .obtain⟨e2,e3,N,y,rfl,_,q⟩:=st;rw[<- kP] at e3;refine⟨_,e3,y,?_⟩;have:rz (Φ k) 0 (R+1)=N:=by
     rcases q with ⟨rfl,q⟩|⟨_,q⟩
     .rw[q,Nat.sub_self];rfl
     .exact q
    rw[this]
   .rintro j hj _ ⟨N,y,rfl,t,q⟩;have ej:sE ns fs j k=vw ns fs j k:=Ge (NZ (by omega) u);obtain⟨t2,h2⟩:=hΦ k j hk (by omega);rcases q with ⟨rfl,q⟩|⟨q1,q⟩
    .refine Tr c φ _ _ _ _ _ _ .none k _ y _ (.inl ⟨rfl,(GB hk).trans (congrArg Ga ej),h2,_,_,rfl,t2,?_⟩);have e9:R+1-j=(R+1-(j+1))+1:=by omega
     rw[e9] at q;unfold rz at q;by_cases z:Φ k j=.none
     .rw[Ge z] at q;exact .inl ⟨z,q⟩
     .rw[Gf z] at q;exact .inr ⟨z,q⟩
    .refine Tr c φ _ _ _ _ .none .none N k _ y _ (.inr ⟨?_,_,_,rfl,t,.inr ⟨q1,q⟩⟩);rcases zFS t with z|z
     .exact absurd z q1
     .exact z
 .rintro _ ⟨y5,y6,y7,rfl⟩;rfl
theorem SE {Φ Ψ:Nat->D}:∀ (m a:Nat),(∀ j,j<a+m->Φ j=Ψ j)->rz Φ a m=rz Ψ a m
 | 0,_,_=>rfl
 | m+1,a,h=>by
  unfold rz;rw[h a (by omega),SE m (a+1) λj hj=>h j (by omega)]
def Ru (n:Nat)(φ:D->Option D)(Φ:D->D):Prop:=∀ (v:Nat->Int) (E:Fs) h k,h<n->k<=4->pb (Φ (vw (me n v) (lG n E) k h))/\φ (vw (me n v) (lG n E) k h)=Ga (Φ (vw (me n v) (lG n E) k h))
noncomputable def num (n k:Nat)(Φ:D->D)(r:Rn)(h:Nat):D:=rz (λj=>Φ (vw (me n r.1) (lG n r.2) j h)) 0 (k+1)
noncomputable def wt (f:Nat->D)(us:List Nat):List D:=us.map λ(h:Nat)=>jZ [.int (h:Int),f h]
abbrev nB (n k:Nat)(r:Rn):List Nat:=rS n (lG n r.2) k
theorem Ia (n:Nat)(v:Nat->Int):∀ d∈me n v,∃ i:Int,d=.int i:=λd hd=>by
 obtain⟨i,_,rfl⟩:=jx.mp hd;exact⟨_,rfl⟩
theorem Qg (n:Nat)(r:Rn):lU n r=rd (me n r.1) (lG n r.2):=by unfold lU mW;rw[nu]
theorem RJ {n k:Nat}(h2:2<=n)(h5:n<=5)(k4:k<=4){φ:D->Option D}{Φ:D->D}(U:Ru n φ Φ)(c:lN){r:Rn}(o:Ok n r.2 5):oU c φ [lU n r,.int (k:Int)]=Ga (.list (wt (num n k Φ r) (nB n k r))):=by
 have G:=EB h2 h5 (by decide) o;have:=zwA (me n r.1) (lG n r.2) (by rw[nu];exact G) (Ia n r.1) k k4 (λh j=>Φ (vw (me n r.1) (lG n r.2) j h)) c φ (λh j hh hj=>U r.1 r.2 h j (by rw[nu] at hh;exact hh) hj);rw[nu] at this;rw[Qg];exact this
theorem Sq {n k:Nat}(h2:2<=n)(h5:n<=5)(k4:k<=4){φ:D->Option D}{Φ:D->D}(U:Ru n φ Φ)(c:lN){r:Rn}(o:Ok n r.2 5):yD c φ [lU n r,.int (k:Int)]=Ga (.list (wt (num n k Φ r) (nB n k r))):=by
 have G:=EB h2 h5 (by decide) o;have:=zDA (me n r.1) r.2 5 (by rw[nu];exact o) (by rw[nu];exact G) k k4 (λh j=>Φ (vw (me n r.1) (lG n r.2) j h)) c φ (λh j hh hj=>by rw[nu] at hh ⊢;exact U r.1 r.2 h j hh hj);rw[nu] at this;rw[Qg];exact this
theorem EE {n k:Nat}(k4:k<=4){φ:D->Option D}{Φ:D->D}(U:Ru n φ Φ)(r:Rn){h:Nat}(hh:h<n):pb (num n k Φ r h):=Rw _ _ _ λj _ hj=>(U r.1 r.2 h j hh (by omega)).1
theorem EN {n k:Nat}{r:Rn}{h:Nat}(hh:h∈nB n k r):h<n:=jn.mp (jD.mp hh).1
theorem Iu {n k i:Nat}{r:Rn}(hi:i<n)(e:r.2 i=Gb):i∈nB n k r:=jD.mpr ⟨jn.mpr hi,(EU hi _).trans (xB e _)⟩
theorem Rj (n k:Nat)(r:Rn):(nB n k r).Pairwise (·<·):=List.Pairwise.filter _ qY
theorem Ew (n k:Nat)(r:Rn):(nB n k r).length<=n:=by
 have:=jW (λh=>up (lG n r.2) h (k:Int)) (jd n);rw[jE] at this;exact this
theorem zA2 {n k i:Nat}(h2:2<=n)(h5:n<=5){Φ:D->D}{r1 r2:Rn}(o1:Ok n r1.2 5)(o2:Ok n r2.2 5)(hi:i<n)(k4:k<=4)(e1:r1.2 i=Gb)(e2:r2.2 i=Gb)(e:Aw n r1 k i=Aw n r2 k i):num n k Φ r1 i=num n k Φ r2 i:=by
 have V:∀ (r:Rn),Ok n r.2 5->r.2 i=Gb->Aw n r k i=vw (me n r.1) (lG n r.2) k i:=λr o er=>by
  have G:=EB h2 h5 (by decide) o;have:=LV (me n r.1) (E:=r.2) (l:=5) (by rw[nu];exact o) (by rw[nu];exact G) k i (by rw[nu];exact hi);rw[nu] at this;unfold Aw;rw[<- Rx (ns:=xk (me n r.1)) zFm k i hi,this];unfold sE;exact Ge ((EU hi _).trans (xB er _))
 have ek:vw (me n r1.1) (lG n r1.2) k i=vw (me n r2.1) (lG n r2.2) k i:=by rw[<- V r1 o1 e1,<- V r2 o2 e2];exact e
 refine SE _ _ λj hj=>congrArg Φ ?_;have p1:=OM (me n r1.1) (lG n r1.2) (Ia n r1.1) k j i (by rw[nu];exact hi) (by omega) (by omega);have p2:=OM (me n r2.1) (lG n r2.2) (Ia n r2.1) k j i (by rw[nu];exact hi) (by omega) (by omega);rw[ek] at p1;exact jF (p1.symm.trans p2)
noncomputable def bq (X Y:D):Bool:=@decide (X=Y) (vK _)
theorem wK {X Y:D}:bq X Y=true↔X=Y:=by unfold bq;exact @decide_eq_true_iff _ (vK _)
theorem pV {X Y:D}:bq X Y=false↔X≠Y:=by rw[ne_eq,<- wK,jT]
theorem zFT {X Y:D}(hX:pb X)(hY:pb Y):mm X Y=Ga (.bool (bq X Y)):=by
 rcases hX with rfl|⟨i,rfl⟩<;>rcases hY with rfl|⟨j,rfl⟩
 .rw[wK.mpr rfl];rfl
 .rw[pV.mpr (λz=>by cases z)];rfl
 .rw[pV.mpr (λz=>by cases z)];rfl
 .rw[AC];by_cases c:i=j
  .rw[wK.mpr (by rw[c]),c,beq_self_eq_true]
  .rw[pV.mpr (λz=>c (by injection z)),beq_eq_false_iff_ne.mpr c]
theorem GU {X Y:D}(hX:pb X)(hY:pb Y):nG X Y=Ga (.bool (!bq X Y)):=by
 rcases hX with rfl|⟨i,rfl⟩<;>rcases hY with rfl|⟨j,rfl⟩
 .rw[wK.mpr rfl];rfl
 .rw[pV.mpr (λz=>by cases z)];rfl
 .rw[pV.mpr (λz=>by cases z)];rfl
 .rw[Lr];by_cases c:i=j
  .rw[wK.mpr (by rw[c]),c,beq_self_eq_true]
  .rw[pV.mpr (λz=>c (by injection z)),beq_eq_false_iff_ne.mpr c]
theorem Qc {X:D}(hX:pb X):nA X .none=Ga (.bool (!bq X .none)):=by
 rcases hX with rfl|⟨i,rfl⟩
 .rw[wK.mpr rfl];rfl
 .rw[pV.mpr (λz=>by cases z)];rfl
theorem zGM (T:List D)(X:D)(bs:List Bool)(hl:T.length<=1000000)(hc:mv (λ_=>Ga true) cD [.val X] T=Ga (bs.map kh)):rH [.list T,X]=Ga (.bool (bs.all id)):=by
 have ha:wy (bs.map kh)=Ga (.bool (bs.all id)):=by
  unfold wy;rw[GX,jp]
 rw[zqV];unfold NS;simp_arith[OF,oV,Ge hl,hc,ha]
theorem zGN (h X Y:D)(b:Bool)(he:mm X Y=Ga (.bool b)):cD [.val (.tuple [h,X]),.val Y]=Ga (.bool b):=by
 have i:iY (.tuple [h,X]) (.int 1)=Ga X:=rfl;generalize jZ [h,X]=p at *;simp_arith[i,he]
theorem Gu (f:Nat->D)(us:List Nat):(wt f us).length=us.length:=jc _
theorem TV (f:Nat->D)(us:List Nat)(ul:us.length<=5)(t:∀ h∈us,pb (f h))(X:D)(hX:pb X):rH [.list (wt f us),X]=Ga (.bool (us.all λh=>bq (f h) X)):=by
 have:=zGM (wt f us) X (us.map λh=>bq (f h) X) (by rw[Gu];omega) (by
  unfold wt;rw[jL];exact yC (λ(h:Nat)=>jZ [.int (h:Int),f h]) _ λh hh=>zGN _ _ _ _ (zFT (t h hh) hX))
 rw[this,JW];rfl
theorem zFU (R p0 h0 X0 u:D)(T us:List D)(hl:T.length<=1000000)(i0:iY (.list T) (.int 0)=Ga p0)(i1:iY p0 (.int 1)=Ga X0)(i2:iY p0 (.int 0)=Ga h0)
  (hc:mv aK eC [.val (.list T)] T=Ga us) (hu:iY (.list us) (.int 0)=Ga u):wJ [R,.list T]=Ga (.tuple [.str io,R,h0,u]):=by
 have t:toS (.list T)=Ga T:=rfl;rw[zr2];unfold MO;generalize qZ io=q at *;generalize kU T=TT at *;simp_arith[t,oV,Ge hl,hc,i0,i1,i2,hu]
theorem zFV (T p0 X0 h X:D)(b:Bool)(i0:iY T (.int 0)=Ga p0)(i1:iY p0 (.int 1)=Ga X0)(hn:nG X X0=Ga (.bool b)):aK [.val (.tuple [h,X]),.val T]=Ga b:=by
 have i:iY (.tuple [h,X]) (.int 1)=Ga X:=rfl;generalize jZ [h,X]=p at *;simp_arith[i,i0,i1,hn]
theorem Sw (T h X:D):eC [.val (.tuple [h,X]),.val T]=Ga h:=by
 have i:iY (.tuple [h,X]) (.int 0)=Ga h:=rfl;generalize jZ [h,X]=p at *;simp_arith[i]
theorem Dq (d:D)(r:List D):iY (.list (d::r)) (.int 0)=Ga d:=by
 show L2.atI (d::r) ((0:Nat):Int)=_;exact L2.atI_nat rfl
theorem zDB (f:Nat->D)(h0:Nat)(r:List Nat)(ul:(h0::r).length<=5)(t:∀ h∈h0::r,pb (f h))(asc:(h0::r).Pairwise (·<·))(R:D)(x:Nat)(hx:x∈h0::r)(ne:f x≠f h0):∃ u,u∈h0::r/\h0<u/\f h0≠f u/\wJ [R,.list (wt f (h0::r))]=Ga (.tuple [.str io,R,.int (h0:Int),.int (u:Int)]):=by
 have i0:iY (.list (wt f (h0::r))) (.int 0)=Ga (.tuple [.int (h0:Int),f h0]):=Dq _ _;have hc:=wN (fc:=mw nG eD bQ) (fe:=iU iY iA gP) (base:=[.val (.list (wt f (h0::r)))]) (λ(h:Nat)=>jZ [.int (h:Int),f h]) (λh=>!bq (f h) (f h0)) (λ(h:Nat)=>jb (h:Int)) (l:=h0::r)
  (λh hh=>zFV _ _ _ _ _ _ i0 rfl (GU (t h hh) (t h0 jf))) (λh hh _=>Sw _ _ _)
 obtain⟨u,w,eu⟩:∃ u w,((h0::r).filter λh=>!bq (f h) (f h0))=u::w:=by
  cases q:(h0::r).filter λh=>!bq (f h) (f h0) with
  | cons u w=>exact⟨u,w,rfl⟩
  | nil=>exact absurd (by rw[pV.mpr ne];rfl) (ub.mp q x hx)
 have um:u∈(h0::r).filter λh=>!bq (f h) (f h0):=by rw[eu];exact jf
 obtain⟨u1,u2⟩:=jD.mp um;have un:f u≠f h0:=pV.mp (by rw[kB] at u2;exact u2);rw[eu] at hc;refine⟨u,u1,?_,λz=>un z.symm,zFU R _ _ _ _ _ _ (by rw[Gu];omega) i0 rfl rfl hc (Dq _ _)⟩;rcases ju.mp u1 with rfl|z
 .exact absurd rfl un
 .exact(JK.mp asc).1 u z
theorem XD (T us:List D)(X:D)(hl:T.length<=1000000)(hc:mv aG eC [.val X] T=Ga us):Aj [.list T,X]=Ga (.list us):=by
 have t:toS (.list T)=Ga T:=rfl;rw[zpJ];unfold Me;generalize kU T=TT at *;simp_arith[t,oV,Ge hl,hc]
theorem zGP (h X Y:D)(a b:Bool)(hi:nA X .none=Ga (.bool a))(hn:nG X Y=Ga (.bool b)):aG [.val (.tuple [h,X]),.val Y]=Ga (a&&b):=by
 have i:iY (.tuple [h,X]) (.int 1)=Ga X:=rfl;generalize jZ [h,X]=p at *;cases a with
 | true=>simp_arith[i,hi,hn,uU]
 | false=>simp_arith[i,hi,vn]
theorem zFW (f:Nat->D)(us:List Nat)(ul:us.length<=5)(t:∀ h∈us,pb (f h))(X:D)(hX:pb X):Aj [.list (wt f us),X]=Ga (.list ((us.filter λh=>!bq (f h) .none&&!bq (f h) X).map λ(h:Nat)=>jb (h:Int))) :=
 XD _ _ _ (by rw[Gu];omega) (wN (λ(h:Nat)=>jZ [.int (h:Int),f h]) (λh=>!bq (f h) .none&&!bq (f h) X) (λ(h:Nat)=>jb (h:Int)) (l:=us) (λh hh=>zGP _ _ _ _ _ (Qc (t h hh)) (GU (t h hh) hX)) (λh hh _=>Sw _ _ _))
theorem VD {c:FB}{g:FS}{n:Nat}{ψ e:En}(hc:c (frz ψ)=Ga true)(hg:g ψ=Ga (.nx e)):oy c g (n+1) ψ=oy c g n e:=by
 show(c (frz ψ)).bind _=_;rw[hc];show(g ψ).bind _=_;rw[hg];rfl
theorem zGQ {c:FB}{g:FS}{n:Nat}{ψ:En}(hc:c (frz ψ)=Ga false):oy c g (n+1) ψ=Ga (.nx ψ):=by
 show(c (frz ψ)).bind _=_;rw[hc];rfl
theorem yA (c:lN)(f:List D->Option D)(g:FL)(e:En):mY 0 c f g (.fn c::e)=(g (.fn c::e)).bind f:=Ge rfl
theorem Pm (c:lN)(C m k:D)(lo hi:Int)(x6:Sl):mw sd (iU nV iG iE) gQ (frz [.fn c,.val C,.val m,.val k,.val (.int lo),.val (.int hi),x6])=Ga (decide (1<hi-lo)):=by
 have f:frz [.fn c,.val C,.val m,.val k,.val (.int lo),.val (.int hi),x6]=[sM (.fn c),.val C,.val m,.val k,.val (.int lo),.val (.int hi),sM x6]:=rfl;rw[f];generalize sM (.fn c)=y;generalize sM x6=z;simp_arith[qf]
theorem Wz (c:lN)(φ:D->Option D)(C m k Rm T:D)(lo hi mid:Int)(b:Bool)(x6:Sl)(d2:mS (.int (lo+hi)) (.int 2)=Ga (.int mid))(ix:iY C (.int mid)=Ga Rm)(ht:oU c φ [Rm,k]=Ga T)(ha:rH [T,m]=Ga (.bool b)) :
  (iX bP (lD (mK (lw rH (lh (mY 0 c (oU c φ) cR) gy))) hE ia)) [.fn c,.val C,.val m,.val k,.val (.int lo),.val (.int hi),x6]=Ga (.nx [.fn c,.val C,.val m,.val k,.val (.int (if b=true then mid else lo)),.val (.int (if b=true then hi else mid)),.val (.int mid)]):=by
 have f:∀ e:En,frz (.fn c::e)=.fn c::frz e:=λ_=>rfl;generalize oU c φ=A1 at *;generalize rH=A2 at *;cases b with
 | true =>
  simp_arith[d2,f,yA,ix,ht,ha]
 | false =>
  simp_arith[d2,f,yA,ix,ht,ha]
theorem ON (c:lN)(φ:D->Option D)(C m k:D)(L:Nat)(P:Nat->Bool)(hP:∀ i,i<L->∃ R T,iY C (.int (i:Int))=Ga R/\oU c φ [R,k]=Ga T/\rH [T,m]=Ga (.bool (P i))):∀ (f lo hi:Nat) (x6:Sl),hi-lo<=2^f->lo<hi->hi<L->P lo=true->P hi=false ->
  ∃ lo' x',lo'+1<L/\P lo'=true/\P (lo'+1)=false/\oy cH (iX bP (lD (mK (lw rH (lh (mY 0 c (oU c φ) cR) gy))) hE ia)) (f+1) [.fn c,.val C,.val m,.val k,.val (.int (lo:Int)),.val (.int (hi:Int)),x6]=Ga (.nx [.fn c,.val C,.val m,.val k,.val (.int (lo':Int)),.val (.int ((lo'+1:Nat):Int)),x'])
 | f,lo,hi,x6,hf,h1,h2,p1,p2=>by
  by_cases c1:hi=lo+1
  .subst c1;exact⟨lo,x6,h2,p1,p2,zGQ ((Pm c C m k _ _ x6).trans (congrArg Ga (Gd (by omega))))⟩
  .match f,hf with
   | 0,hf=>exact absurd hf (by rw[Nat.pow_zero];omega)
   | f+1,hf =>
    rw[Nat.pow_succ] at hf;obtain⟨R,T,e1,e2,e3⟩:=hP ((lo+hi)/2) (by omega);have st:=Wz c φ C m k R T lo hi (((lo+hi)/2:Nat):Int) _ x6 ((sV (by decide) (by decide)).trans (congrArg (λz=>Ga (jb z)) (by omega))) e1 e2 e3;have cc:=(Pm c C m k (lo:Int) (hi:Int) x6).trans (congrArg Ga (Gc (by omega)));cases q:P ((lo+hi)/2) with
    | true =>
     rw[q,Ge rfl,Ge rfl] at st;obtain⟨lo',x',a1,a2,a3,a4⟩:=ON c φ C m k L P hP f ((lo+hi)/2) hi (.val (.int (((lo+hi)/2:Nat):Int))) (by omega) (by omega) h2 q p2;exact⟨lo',x',a1,a2,a3,(VD cc st).trans a4⟩
    | false =>
     rw[q,Gf jw,Gf jw] at st;obtain⟨lo',x',a1,a2,a3,a4⟩:=ON c φ C m k L P hP f lo ((lo+hi)/2) (.val (.int (((lo+hi)/2:Nat):Int))) (by omega) (by omega) (by omega) p1 q;exact⟨lo',x',a1,a2,a3,(VD cc st).trans a4⟩
theorem YN (c:lN)(φ:D->Option D)(C m k R T Z:D)(l lo hi:Int)(x6:Sl)(hl:ma C=Ga (.int l))(hw:oy cH (iX bP (lD (mK (lw rH (lh (mY 0 c (oU c φ) cR) gy))) hE ia)) 100 [.fn c,.val C,.val m,.val k,.val (.int 0),.val (.int (l-1)),.no]=Ga (.nx [.fn c,.val C,.val m,.val k,.val (.int lo),.val (.int hi),x6]))(ix:iY C (.int hi)=Ga R)(ht:oU c φ [R,k]=Ga T)(hz:wJ [R,T]=Ga Z):Ch c φ [C,m,k]=Ga Z:=by
 rw[Zy];unfold TK;generalize (iX bP (lD (mK (lw rH (lh (mY 0 c (oU c φ) cR) gy))) hE ia))=B at *;generalize oU c φ=A1 at *;generalize wJ=A2 at *;simp_arith[hl,hw,yA,ix,ht,hz]
theorem Rh {α:Type}{R:α->α->Prop}:∀ {l:List α} {i:Nat} {a b:α},sW R l->l[i]?=Ga a->l[i+1]?=Ga b->R a b
 | [],i,a,b,_,h,_=>by cases h
 | [x],0,a,b,_,_,h=>by cases h
 | [x],i+1,a,b,_,h,_=>by cases h
 | x::y::r,0,a,b,c,h1,h2=>by
  cases h1;cases h2;exact c.1
 | x::y::r,i+1,a,b,c,h1,h2=>Rh (l:=y::r) (i:=i) c.2 h1 h2
theorem QN (n:Nat)(v:Nat->Int)(E:Fs):si [lU n (v,E)]=Ga (.int (n:Int)):=by
 have:=ER (me n v) (lG (me n v).length E);rw[nu] at this;unfold lU mW;rw[nu];exact this
theorem zGS (c:lN)(φ:D->Option D)(R b k C Rl T Z:D)(m o n l:Int)(Ks os hl_:List D)(ho:(m=0/\o=1)\/(¬m=0/\o=0))(hm:si [R]=Ga (.int n))(hr:mr (.int n)=Ga Ks)(hl:Ks.length<=1000000)(hc:mv (λ_=>Ga true) iB [.val (.int o)] Ks=Ga os)(hch:Ap [R,b,k,.tuple os]=Ga C)
  (ix:iY C (.int (-1))=Ga Rl) (ht:oU c φ [Rl,k]=Ga T) (hs:Aj [T,.int o]=Ga (.list hl_)) (sl:ma (.list hl_)=Ga (.int l)) (hz:(¬0<l/\Ch c φ [C,.int m,k]=Ga Z)\/(0<l/\∃ h,iY (.list hl_) (.int 0)=Ga h/\Z=.tuple [.str gZ,Rl,h])):AH c φ [R,b,k,.int m]=Ga Z:=by
 rw[znJ];unfold SF;generalize si=A1 at *;generalize Ap=A2 at *;generalize oU c φ=A3 at *;generalize Aj=A4 at *;generalize Ch c φ=A5 at *;generalize kU hl_=HS at *;have f:∀ e:En,frz (.fn c::e)=.fn c::frz e:=λ_=>rfl;rcases hz with ⟨z,hz⟩|⟨z,h,i0,rfl⟩
 .rcases ho with ⟨h,rfl⟩|⟨h,rfl⟩
  .simp_arith[Gc h,hm,hr,oV,Ge hl,hc,hch,ix,yA,ht,hs,sl,Gd z,f,hz]
  .simp_arith[Gd h,hm,hr,oV,Ge hl,hc,hch,ix,yA,ht,hs,sl,Gd z,f,hz]
 .rcases ho with ⟨h,rfl⟩|⟨h,rfl⟩
  .simp_arith[Gc h,hm,hr,oV,Ge hl,hc,hch,ix,yA,ht,hs,sl,Gc z,f,i0]
  .simp_arith[Gd h,hm,hr,oV,Ge hl,hc,hch,ix,yA,ht,hs,sl,Gc z,f,i0]
abbrev ye (x:Int):Prop:=¬(10:Int)^60<=(if x<0 then -x else x)
def EY (n k b:Nat)(Φ:D->D)(Z:D):Prop:=∃ r:Rn,Ok n r.2 5/\lj n r.2<=b/\(∀ i,i<n->ye (r.1 i)) /\
 ((∃ h u,h∈nB n k r/\u∈nB n k r/\h<u/\num n k Φ r h≠num n k Φ r u/\Z=.tuple [.str io,lU n r,.int (h:Int),.int (u:Int)]) \/
   (∃ h x,h∈nB n k r/\(∀ i,i<n->r.1 i=x)/\num n k Φ r h≠.none/\num n k Φ r h≠.int x/\Z=.tuple [.str gZ,lU n r,.int (h:Int)]))
theorem UE {n k b:Nat}(h5:n<=5)(k4:k<=4){φ:D->Option D}{Φ:D->D}(U:Ru n φ Φ){r:Rn}(o:Ok n r.2 5)(ct:lj n r.2<=b)(nb:∀ i,i<n->ye (r.1 i)){x y:Nat}(hx:x∈nB n k r)(hy:y∈nB n k r)(ne:num n k Φ r x≠num n k Φ r y):∃ Z,EY n k b Φ Z/\wJ [lU n r,.list (wt (num n k Φ r) (nB n k r))]=Ga Z:=by
 have t:∀ h∈nB n k r,pb (num n k Φ r h):=λh hh=>EE k4 U r (EN hh);have ul:=Ew n k r;have asc:=Rj n k r;obtain⟨h0,w,e⟩:∃ h0 w,nB n k r=h0::w:=by
  cases q:nB n k r with
  | nil=>rw[q] at hx;cases hx
  | cons a w=>exact⟨a,w,rfl⟩
 have hm:h0∈nB n k r:=by rw[e];exact jf
 obtain⟨z,hz,zn⟩:∃ z∈nB n k r,num n k Φ r z≠num n k Φ r h0:=by
  by_cases c:num n k Φ r x=num n k Φ r h0
  .exact⟨y,hy,λq=>ne (c.trans q.symm)⟩
  .exact⟨x,hx,c⟩
 rw[e] at t ul asc hz;obtain⟨u,u1,u2,u3,u4⟩:=zDB (num n k Φ r) h0 w (by omega) t asc (lU n r) z hz zn;refine⟨_,⟨r,o,ct,nb,.inl ⟨h0,u,hm,?_,u2,u3,rfl⟩⟩,?_⟩
 .rw[e];exact u1
 .rw[e];exact u4
theorem zDC (n k b:Nat)(v:Nat->Int)(E:Fs)(h2:2<=n)(h5:n<=5)(k1:k<=2)(o:Ok n E 3)(ct:lj n E<=b)(ht:b+2<=n)(hk:(k:Int)<(b:Int)+1-pp n E 3)(nb:∀ i,i<n->ye (v i))(c:lN)(φ:D->Option D)(Φ:D->D)(U:Ru n φ Φ)(m:Int)(al:∀ h∈nB n k (v,E),num n k Φ (v,E) h=.int m):∃ Z,EY n k b Φ Z/\AH c φ [lU n (v,E),.int (b:Int),.int (k:Int),.int m]=Ga Z:=by
 obtain⟨x,hx,x01⟩:∃ x:Int,((m=0/\x=1)\/(¬m=0/\x=0))/\¬(10:Int)^60<=(if x<0 then -x else x):=by
  by_cases c0:m=0
  .exact⟨1,.inl ⟨c0,rfl⟩,by decide⟩
  .exact⟨0,.inr ⟨c0,rfl⟩,by decide⟩
 have xm:x≠m:=by rcases hx with ⟨a,b⟩|⟨a,b⟩<;>omega
 obtain⟨Ps,w,hw,hc,PT,pl⟩:=IE n k b v (λ_=>x) E h2 h5 k1 o ct ht hk (λ_ _=>x01);have hd:=PT.hd;have lst:=PT.lst;have L0:0<Ps.length:=by
  cases Ps with
  | nil=>cases hd
  | cons a r=>exact Nat.succ_pos _
 have nbP:∀ r∈Ps,∀ i,i<n->ye (r.1 i):=λr hr i hi=>by
  rcases PT.num r hr i with z|z
  .rw[z];exact nb i hi
  .rw[z];show ye (w i);rw[hw i hi];exact x01
 have g0:Ps[0]?=Ga (v,E):=by rw[<- List.head?_eq_getElem?];exact hd
 have gl:Ps[Ps.length-1]?=Ga (w,mZ):=by rw[<- List.getLast?_eq_getElem?];exact lst
 have lm:(w,mZ)∈Ps:=kE gl;have at_:∀ i,i<Ps.length->∃ r,Ps[i]?=Ga r/\r∈Ps:=λi hi=>⟨Ps[i],ji hi,uB hi⟩;have iC:∀ (i:Nat) (r:Rn),Ps[i]?=Ga r->iY (.list (Ps.map (lU n))) (.int (i:Int))=Ga (lU n r):=λi r e=>L2.atI_nat (by rw[jA,e];rfl);have tO:∀ r∈Ps,oU c φ [lU n r,.int (k:Int)]=Ga (.list (wt (num n k Φ r) (nB n k r))):=λr hr=>RJ h2 h5 (by omega) U c (PT.ok r hr);have tT:∀ (r:Rn),∀ h∈nB n k r,pb (num n k Φ r h):=λr h hh=>EE (by omega) U r (EN hh);have uL:∀ r:Rn,(nB n k r).length<=5:=λr=>jk (Ew n k r) h5;have sx:=zFW (num n k Φ (w,mZ)) (nB n k (w,mZ)) (uL _) (tT _) (.int x) (.inr ⟨x,rfl⟩);have BF:=λZ hs l a1 a2 a3=>zGS c φ (lU n (v,E)) (.int (b:Int)) (.int (k:Int)) _ (lU n (w,mZ)) _ Z m x (n:Int) l _ _ hs hx (QN n v E) (Ae (by omega)) (by rw[jc,jE];omega) (yC (λ(k:Nat)=>jb (k:Int)) (λ_=>.int x) λ_ _=>rfl) hc (xp (by rw[ku,lst];rfl)) (tO _ lm) a1 a2 a3;cases q:(nB n k (w,mZ)).filter λh=>!bq (num n k Φ (w,mZ) h) .none&&!bq (num n k Φ (w,mZ) h) (.int x) with
 | cons h r =>
  rw[q] at sx;obtain⟨m1,m2⟩:=jD.mp (show h∈_ from by rw[q];exact jf);rw[jG,kB,kB,pV,pV] at m2;refine⟨_,⟨(w,mZ),PT.ok _ lm,PT.cnt _ lm,nbP _ lm,.inr ⟨h,x,m1,hw,m2.1,m2.2,rfl⟩⟩,BF _ _ (((r.length+1:Nat)):Int) sx ?_ (.inr ⟨by omega,.int (h:Int),Dq _ _,rfl⟩)⟩;show Ga (jb ((((h::r).map λ(h:Nat)=>jb (h:Int)).length:Nat):Int))=_;rw[jc];rfl
 | nil =>
  rw[q] at sx;have nostr:=ub.mp q;have hP:∀ i,i<Ps.length->∃ R T,iY (.list (Ps.map (lU n))) (.int (i:Int))=Ga R/\oU c φ [R,.int (k:Int)]=Ga T/\rH [T,.int m]=Ga (.bool (match Ps[i]? with|some r=>(nB n k r).all λh=>bq (num n k Φ r h) (.int m)|none=>true)):=λi hi=>by
   obtain⟨r,e,hr⟩:=at_ i hi;rw[e];exact⟨_,_,iC i r e,tO r hr,TV _ _ (uL r) (tT r) _ (.inr ⟨m,rfl⟩)⟩
  generalize hPd:(λi:Nat=>match Ps[i]? with|some r=>(nB n k r).all λh=>bq (num n k Φ r h) (.int m)|none=>true)=P;have hP':∀ i,i<Ps.length->∃ R T,iY (.list (Ps.map (lU n))) (.int (i:Int))=Ga R/\oU c φ [R,.int (k:Int)]=Ga T/\rH [T,.int m]=Ga (.bool (P i)):=λi hi=>by rw[<- hPd];exact hP i hi
  have pE:∀ (i:Nat) (r:Rn),Ps[i]?=Ga r->P i=(nB n k r).all λh=>bq (num n k Φ r h) (.int m):=λi r e=>by rw[<- hPd];dsimp only;rw[e]
  have p0:P 0=true:=by
   rw[pE 0 _ g0];exact jH.mpr λh hh=>wK.mpr (al h hh)
  have pl0:P (Ps.length-1)=false:=by
   rw[pE _ _ gl];refine qC.mpr λz=>?_;have u0:0∈nB n k (w,mZ):=Iu (by omega) rfl;have e0:=wK.mp (jH.mp z 0 u0);refine nostr 0 u0 ?_;rw[e0,pV.mpr (λz=>by cases z),pV.mpr (λz=>xm (by injection z with z;exact z.symm))];rfl
  have l1:0<Ps.length-1:=by
   rcases JH (Ps.length-1) with z|z
   .rw[z,p0] at pl0;cases pl0
   .exact z
  obtain⟨lo,x6,a1,a2,a3,a4⟩:=ON c φ (.list (Ps.map (lU n))) (.int m) (.int (k:Int)) Ps.length P hP' 99 0 (Ps.length-1) .no (jk (show Ps.length-1-0<=6000 by omega) (by decide)) l1 (by omega) p0 pl0;obtain⟨r1,g1,m1⟩:=at_ lo (by omega);obtain⟨r2,g2,m2⟩:=at_ (lo+1) a1;obtain⟨i,hi,e1,e2,ev⟩:=Rh PT.chn g1 g2;have en:=zA2 (Φ:=Φ) h2 h5 (PT.ok r1 m1) (PT.ok r2 m2) hi (by omega) e1 e2 ev;rw[pE _ _ g1] at a2;rw[pE _ _ g2] at a3;have vi:num n k Φ r1 i=.int m:=wK.mp (jH.mp a2 i (Iu hi e1));obtain⟨h,hh,nh⟩:∃ h∈nB n k r2,num n k Φ r2 h≠.int m:=by
   rw[qC,ne_eq,jH] at a3;refine ky λno=>a3 λh hh=>wK.mpr (ky λz=>no ⟨h,hh,z⟩)
  obtain⟨Z,hB,hz⟩:=UE (b:=b) h5 (by omega) U (PT.ok r2 m2) (PT.cnt r2 m2) (nbP r2 m2) (Iu hi e2) hh (by rw[<- en,vi];exact λz=>nh z.symm);have dl:ma (.list (Ps.map (lU n)))=Ga (.int (Ps.length:Int)):=by
   show Ga (jb (((Ps.map (lU n)).length:Nat):Int))=_;rw[jc]
  have ec:((Ps.length-1:Nat):Int)=(Ps.length:Int)-1:=by omega
  rw[ec] at a4;have to:=YN c φ _ (.int m) (.int (k:Int)) _ _ _ _ _ _ x6 dl a4 (iC _ _ g2) (tO r2 m2) hz;exact⟨Z,hB,BF Z [] 0 sx rfl (.inl ⟨by decide,to⟩)⟩
theorem Wr (c:lN)(φ:D->Option D)(R b k T p X Z:D)(ho:wW [R,b,k]=Ga (.bool true))(ht:oU c φ [R,k]=Ga T)(i0:iY T (.int 0)=Ga p)(i1:iY p (.int 1)=Ga X)(ha:rH [T,X]=Ga (.bool false))(hz:wJ [R,T]=Ga Z):Ad c φ [R,b,k]=Ga Z:=by
 have f:∀ e:En,frz (.fn c::e)=.fn c::frz e:=λ_=>rfl;rw[UG];unfold LF;generalize wW=A1 at *;generalize oU c φ=A2 at *;generalize rH=A3 at *;generalize wJ=A4 at *;simp_arith[f,ho,yA,ht,i0,i1,ha,hz]
theorem OD (c:lN)(φ:D->Option D)(R b k T p X Z:D)(ho:wW [R,b,k]=Ga (.bool true))(ht:oU c φ [R,k]=Ga T)(i0:iY T (.int 0)=Ga p)(i1:iY p (.int 1)=Ga X)(ha:rH [T,X]=Ga (.bool true))(hX:(X=.none/\Z=.none)\/(rZ X .none=Ga (.bool false)/\AH c φ [R,b,k,X]=Ga Z)):Ad c φ [R,b,k]=Ga Z:=by
 have f:∀ e:En,frz (.fn c::e)=.fn c::frz e:=λ_=>rfl;rw[UG];unfold LF;generalize wW=A1 at *;generalize oU c φ=A2 at *;generalize rH=A3 at *;generalize AH c φ=A4 at *;rcases hX with ⟨rfl,rfl⟩|⟨hi,hz⟩
 .have i:rZ .none .none=Ga (.bool true):=rfl;simp_arith[f,ho,yA,ht,i0,i1,ha,i]
 .simp_arith[f,ho,yA,ht,i0,i1,ha,hi,hz]
theorem zy4 (n k b:Nat)(v:Nat->Int)(E:Fs)(h2:2<=n)(h5:n<=5)(k1:k<=2)(o:Ok n E 3)(ct:lj n E<=b)(ht:b+2<=n)(hk:(k:Int)<(b:Int)+1-pp n E 3)(nb:∀ i,i<n->ye (v i))(ho:wW [lU n (v,E),.int (b:Int),.int (k:Int)]=Ga (.bool true))(c:lN)(φ:D->Option D)(Φ:D->D)(U:Ru n φ Φ):∃ Z,Ad c φ [lU n (v,E),.int (b:Int),.int (k:Int)]=Ga Z/\(((∀ h∈nB n k (v,E),num n k Φ (v,E) h=.none)/\Z=.none)\/((∃ h∈nB n k (v,E),num n k Φ (v,E) h≠.none)/\EY n k b Φ Z)):=by
 obtain⟨i,hi,_,e⟩:=BL (n:=n) (E:=E) (by omega) n;have im:i∈nB n k (v,E):=Iu hi e;have tk:=RJ h2 h5 (show k<=4 by omega) U c (r:=(v,E)) (o.mono (by decide));have tT:∀ h∈nB n k (v,E),pb (num n k Φ (v,E) h):=λh hh=>EE (by omega) U _ (EN hh);have uL:(nB n k (v,E)).length<=5:=jk (Ew n k _) h5;obtain⟨h0,r,eu⟩:∃ h0 r,nB n k (v,E)=h0::r:=by
  cases q:nB n k (v,E) with
  | nil=>rw[q] at im;cases im
  | cons a r=>exact⟨a,r,rfl⟩
 have hm:h0∈nB n k (v,E):=by rw[eu];exact jf
 have i0:iY (.list (wt (num n k Φ (v,E)) (nB n k (v,E)))) (.int 0)=Ga (.tuple [.int (h0:Int),num n k Φ (v,E) h0]):=by
  rw[eu];exact Dq _ _
 have aw:=TV _ _ uL tT _ (tT h0 hm);cases q:(nB n k (v,E)).all λh=>bq (num n k Φ (v,E) h) (num n k Φ (v,E) h0) with
 | true =>
  rw[q] at aw;have al:∀ h∈nB n k (v,E),num n k Φ (v,E) h=num n k Φ (v,E) h0:=λh hh=>wK.mp (jH.mp q h hh);rcases tT h0 hm with z|⟨m,z⟩
  .exact⟨_,OD c φ _ _ _ _ _ _ _ ho tk i0 rfl aw (.inl ⟨z,rfl⟩),.inl ⟨λh hh=>(al h hh).trans z,rfl⟩⟩
  .obtain⟨Z,hB,hz⟩:=zDC n k b v E h2 h5 k1 o ct ht hk nb c φ Φ U m λh hh=>(al h hh).trans z;refine⟨Z,OD c φ _ _ _ _ _ _ _ ho tk i0 rfl aw (.inr ⟨by rw[z];rfl,by rw[z];exact hz⟩),.inr ⟨⟨h0,hm,by rw[z];exact λw=>by cases w⟩,hB⟩⟩
 | false =>
  rw[q] at aw;obtain⟨h,hh,nh⟩:∃ h∈nB n k (v,E),num n k Φ (v,E) h≠num n k Φ (v,E) h0:=by
   rw[qC,ne_eq,jH] at q;exact ky λno=>q λh hh=>wK.mpr (ky λz=>no ⟨h,hh,z⟩)
  obtain⟨Z,hB,hz⟩:=UE (b:=b) h5 (by omega) U (r:=(v,E)) (o.mono (by decide)) ct nb hh hm nh;refine⟨Z,Wr c φ _ _ _ _ _ _ _ ho tk i0 rfl aw hz,.inr ⟨?_,hB⟩⟩;by_cases w:num n k Φ (v,E) h=.none
  .exact⟨h0,hm,λz=>nh (w.trans z.symm)⟩
  .exact⟨h,hh,w⟩
def xG (f:Nat->D)(us:List Nat):List (Int×D):=us.map λ(h:Nat)=>((h:Int),f h)
theorem Fh {f:Nat->D}{h:Nat}:∀ {us:List Nat},h∈us->oM (xG f us) (h:Int)=Ga (f h)
 | x::r,hh=>by
  by_cases c:x=h
  .subst c;unfold oM xG;rw[jK,kF (by exact Gc rfl)];rfl
  .have ih:=Fh (f:=f) (h:=h) (us:=r) ((ju.mp hh).resolve_left λz=>c z.symm);unfold oM xG at ih ⊢;rw[jK,kA (by exact λz=>c (by have:((x:Nat):Int)=(h:Int):=of_decide_eq_true z;omega))];exact ih
theorem Zx {kvs:List (Int×D)}{k:Int}{d:D}(h:∀ p∈kvs,p.1≠k):rY kvs k d=kvs++[(k,d)]:=by
 unfold rY;rw[Gf];intro z;obtain⟨p,h1,h2⟩:=vZ.mp z;exact h p h1 (of_decide_eq_true h2)
theorem WF (x0 x1 x2 x3 x4 x6 x7 x8:Sl)(kv kv':List (Int×D))(h:Int)(X:D)(hl:kv.length<1000000)(hp:rY kv h X=kv'):(dz (.tuple [.int h,X]) [x0,x1,x2,x3,x4,.dki Gb kv,x6,x7,x8]).bind ga=Ga (.nx [x0,x1,x2,x3,x4,.dki Gb kv',.val (.int h),.val X,x8]):=by
 simp_arith[Ge hl,hp]
theorem Wg (x0 x1 x2 x3 x4 x6 x7 x8:Sl)(kv:List (Int×D))(h:Int)(X:D)(h1:pQ [.int h]=Ga (.bool true))(h2:oM kv h=Ga X):(iu (.int h) [x0,x1,x2,x3,x4,.dki Gb kv,x6,x7,x8]).bind (lD (nU (ol (mK (lw pQ gB))) fX) fS lI)=Ga (.nx [x0,x1,x2,x3,x4,.dki Gb kv,.val (.int h),x7,x8]):=by
 have e0:(Ga X).isSome=true:=rfl;generalize pQ=A1 at *;simp_arith[h1,h2,e0]
theorem Pv (x1 x2 x3 x4 x6 x7 x8:Sl)(Rs:FS)(Fd W:D)(hs:List D)(kv:List (Int×D))(eR:Rs=ac)(h1:wk Fd (Ga 2) Gb=Ga W)(h2:toS W=Ga hs):(iX (oK db iu (lD (nU (ol (mK (lw pQ gB))) fX) fS lI)) ac) [.val Fd,x1,x2,x3,x4,.dki Gb kv,x6,x7,x8]=mU (lS iu (lD (nU (ol (mK (lw pQ gB))) fX) fS lI) hs [.val Fd,x1,x2,x3,x4,.dki Gb kv,x6,x7,x8]) Rs:=by
 rw[<- eR];generalize (lD (nU (ol (mK (lw pQ gB))) fX) fS lI)=Bd;simp_arith[h1,h2]
theorem KI (c:lN)(φ:D->Option D)(Rs:FS)(Fd R X n b k:D)(l:Int)(ps:List D)(t0:sk "tuple" Fd=Ga (.bool true))(hl:ma Fd=Ga (.int l))(l3:¬l<3)(i1:iY Fd (.int 1)=Ga R)(hg:zf [R,n,b]=Ga (.bool true))(ht:yD c φ [R,k]=Ga (.list ps))(eR:Rs=(iX (oK db iu (lD (nU (ol (mK (lw pQ gB))) fX) fS lI)) ac))(q:lq (mU (lS dz ga ps [.val Fd,.fn c,.val n,.val b,.val k,.dki Gb [],.no,.no,.no]) Rs)=Ga X):CO c φ [Fd,n,b,k]=Ga X:=by
 have f:∀ e:En,frz (.fn c::e)=.fn c::frz e:=λ_=>rfl;have f2:sM (.fn c)=.fn c:=rfl;have cp:∀ (A:List D->Option D) (g:FL) (a:Sl) (e:En),mY 1 c A g (a::.fn c::e)=(g (a::.fn c::e)).bind A:=λ_ _ _ _=>Ge rfl;have hs:toS (.list ps)=Ga ps:=rfl;rw[zoL];unfold UU;rw[<- eR];generalize ga=Bd at *;generalize zf=A1 at *;generalize yD c φ=A2 at *;generalize kU ps=PL at *;simp_arith[t0,hl,Gd l3,i1,hg,f,f2,cp,ht,hs];exact q
theorem zDD (x1 x2 x3 x4 x6 x7 x8:Sl)(Fd X Y tn:D)(h u:Int)(kv:List (Int×D))(et:tn=.str io)(i0:iY Fd (.int 0)=Ga tn)(e0:mm tn tn=Ga (.bool true))(hl:ma Fd=Ga (.int 4))(i2:iY Fd (.int 2)=Ga (.int h))(i3:iY Fd (.int 3)=Ga (.int u))(hu:h<u)(a1:oM kv h=Ga X)(a2:oM kv u=Ga Y)(ne:nG X Y=Ga (.bool true)):ac [.val Fd,x1,x2,x3,x4,.dki Gb kv,x6,x7,x8]=Ga (.rt (.bool true)):=by
 have kd:=ss kv;have e4:mm (.int 4) (.int 4)=Ga (.bool true):=rfl;subst et;generalize sw kv=DD at *;simp_arith[i0,e0,hl,e4,i2,i3,Gc hu,kd,a1,a2,ne]
theorem zFY (x1 x3 x4 x6 x7 x8:Sl)(Fd R N X tn sn:D)(h x n:Int)(kv:List (Int×D))(et:tn=.str io)(es:sn=.str gZ)(i0:iY Fd (.int 0)=Ga sn)(e0:mm sn tn=Ga (.bool false))(e1:nG sn sn=Ga (.bool false))(hl:ma Fd=Ga (.int 3))(i1:iY Fd (.int 1)=Ga R)(r0:iY R (.int 0)=Ga N)(n0:iY N (.int 0)=Ga (.int x))(rp:wS (.tuple [.int x]) (.int n)=Ga N)(nn:mm N N=Ga (.bool true))(i2:iY Fd (.int 2)=Ga (.int h))(a1:oM kv h=Ga X)(ni:nA X .none=Ga (.bool true))(ne:nG X (.int x)=Ga (.bool true)):ac [.val Fd,x1,.val (.int n),x3,x4,.dki Gb kv,x6,x7,x8]=Ga (.rt (.bool true)):=by
 have kd:=ss kv;have e3:nG (.int 3) (.int 3)=Ga (.bool false):=rfl;subst et es;generalize sw kv=DD at *;simp_arith[i0,e0,e1,hl,e3,i1,r0,n0,rp,nn,i2,kd,a1,ni,ne]
theorem XN {n b:Nat}(h2:2<=n)(h5:n<=5){r:Rn}(o:Ok n r.2 5)(ct:lj n r.2<=b)(nb:∀ i,i<n->ye (r.1 i)):zf [lU n r,.int (n:Int),.int (b:Int)]=Ga (.bool true):=by
 have ln:((jd n).map r.1).length=n:=by rw[jc,jE]
 have:=ZX ((jd n).map r.1) r.2 b (by rw[ln];exact h2) (by rw[ln];exact h5) (λx hx=>by
  obtain⟨i,hi,rfl⟩:=jx.mp hx;exact nb i (jn.mp hi)) (by rw[ln];exact o) (by rw[ln];exact ct)
 rw[ln,<- BC] at this;exact this
theorem zF0 {n:Nat}{v:Nat->Int}{x:Int}(h:∀ i,i<n->v i=x):me n v=(jO n [jb x]).flatten:=by
 rw[Xo h];unfold me;clear h;induction n with
 | zero=>rfl
 | succ n ih =>
  rw[kr,jI,ih,List.replicate_succ',List.flatten_append];rfl
theorem zy5 {n k b:Nat}(h2:2<=n)(h5:n<=5)(k4:k<=4){φ:D->Option D}{Φ:D->D}(U:Ru n φ Φ)(c:lN){Z:D}(B:EY n k b Φ Z):CO c φ [Z,.int (n:Int),.int (b:Int),.int (k:Int)]=Ga (.bool true):=by
 obtain⟨r,o,ct,nb,B⟩:=B;have hg:=XN h2 h5 o ct nb;have ht:=Sq h2 h5 k4 U c o;have asc:=Rj n k r;have ul:=Ew n k r;have tT:∀ h∈nB n k r,pb (num n k Φ r h):=λh hh=>EE k4 U r (EN hh);have LT:∀ (us:List Nat) (x0 x1 x2 x3 x4 x6 x7 x8:Sl) (Rs:FS),us.Pairwise (·<·)->us.length<=5->(∀ x6 x7,Rs [x0,x1,x2,x3,x4,.dki Gb (xG (num n k Φ r) us),x6,x7,x8]=Ga (.rt (.bool true)))->mU (lS dz ga (wt (num n k Φ r) us) [x0,x1,x2,x3,x4,.dki Gb [],x6,x7,x8]) Rs=Ga (.rt (.bool true)):=λus x0 x1 x2 x3 x4 x6 x7 x8 Rs hp hl q=>by
  refine CN (λ(h:Nat)=>jZ [.int (h:Int),num n k Φ r h]) (λpre ψ=>∃ x6 x7,ψ=[x0,x1,x2,x3,x4,.dki Gb (xG (num n k Φ r) pre),x6,x7,x8]) us ⟨_,_,rfl⟩ ?_ ?_
  .rintro pre a suf rfl _ ⟨y6,y7,rfl⟩;have pl:pre.length<=5:=by rw[jg] at hl;omega
   rw[WF x0 x1 x2 x3 x4 y6 y7 x8 _ (xG (num n k Φ r) (pre++[a])) (a:Int) _ (by unfold xG;rw[jc];omega) ?_]
   .exact nJ ⟨_,_,rfl⟩
   .rw[Zx]
    .unfold xG;rw[jI];rfl
    .intro p hp2 z;obtain⟨x,hx,rfl⟩:=jx.mp hp2;have:x<a:=(Ju.mp hp).2.2 x hx a jf;dsimp only at z;omega
  .rintro _ ⟨y6,y7,rfl⟩;exact q y6 y7
 have LW:∀ (hs:List Nat) (x0 x1 x2 x3 x4 x6 x7 x8:Sl) (Rs:FS),(∀ h∈hs,h∈nB n k r)->(∀ x6 x7,Rs [x0,x1,x2,x3,x4,.dki Gb (xG (num n k Φ r) (nB n k r)),x6,x7,x8]=Ga (.rt (.bool true)))->mU (lS iu (lD (nU (ol (mK (lw pQ gB))) fX) fS lI) (hs.map λ(h:Nat)=>jb (h:Int)) [x0,x1,x2,x3,x4,.dki Gb (xG (num n k Φ r) (nB n k r)),x6,x7,x8]) Rs=Ga (.rt (.bool true)):=λhs x0 x1 x2 x3 x4 x6 x7 x8 Rs hm q=>by
  refine YU (λψ=>∃ x6 x7,ψ=[x0,x1,x2,x3,x4,.dki Gb (xG (num n k Φ r) (nB n k r)),x6,x7,x8]) ⟨_,_,rfl⟩ ?_ ?_
  .rintro d hd _ ⟨y6,y7,rfl⟩;obtain⟨h,hh,rfl⟩:=jx.mp hd;rw[Wg x0 x1 x2 x3 x4 y6 y7 x8 _ (h:Int) _ (Fb h) (Fh (hm h hh))];exact nJ ⟨_,_,rfl⟩
  .rintro _ ⟨y6,y7,rfl⟩;exact q y6 y7
 have q1:(qZ io).canLay0=true:=by first|rfl|decide +kernel
 have q2:(qZ gZ).canLay0=true:=by first|rfl|decide +kernel
 have q3:mm (qZ gZ) (qZ io)=Ga (.bool false):=by
  unfold mm;rw[Ge (by first|rfl|decide +kernel)];simp only[kN]
  first|rfl|exact congrArg (λb=>Ga (kh b)) (by first|rfl|decide +kernel)
 rcases B with ⟨h,u,hm,um,hu,ne,rfl⟩|⟨h,x,hm,hx,n1,n2,rfl⟩
 .refine KI c φ _ _ (lU n r) _ _ _ _ 4 _ rfl rfl (by decide) rfl hg ht rfl ?_;refine congrArg lq (LT _ _ _ _ _ _ _ _ _ _ asc (jk ul h5) λx6 x7=>?_);rw[Pv _ _ _ _ x6 x7 _ _ _ (.tuple [.int (h:Int),.int (u:Int)]) ([h,u].map λ(h:Nat)=>jb (h:Int)) _ rfl rfl rfl];refine LW [h,u] _ _ _ _ _ _ _ _ _ ?_ λx6 x7=>?_
  .intro y hy;rcases ju.mp hy with rfl|hy
   .exact hm
   .rw[jo.mp hy];exact um
  .exact zDD _ _ _ _ x6 x7 _ _ _ _ _ (h:Int) (u:Int) _ rfl rfl (Rv q1 (j5 _)) rfl rfl rfl (by omega) (Fh hm) (Fh um) ((GU (tT h hm) (tT u um)).trans (by rw[pV.mpr ne];rfl))
 .refine KI c φ _ _ (lU n r) _ _ _ _ 3 _ rfl rfl (by decide) rfl hg ht rfl ?_;refine congrArg lq (LT _ _ _ _ _ _ _ _ _ _ asc (jk ul h5) λx6 x7=>?_);rw[Pv _ _ _ _ x6 x7 _ _ _ (.tuple [.int (h:Int)]) ([h].map λ(h:Nat)=>jb (h:Int)) _ rfl rfl rfl];refine LW [h] _ _ _ _ _ _ _ _ _ ?_ λx6 x7=>?_
  .intro y hy;rw[jo.mp hy];exact hm
  .have tx:=tT h hm;have nl:=zF0 hx;have rp:wS (.tuple [.int x]) (.int (n:Int))=Ga (.tuple (me n r.1)):=by
    unfold wS;dsimp only;rw[Ge ⟨J7 _ _,by omega,by rw[j7,j4];omega⟩,j7,nl]
   have nn:mm (.tuple (me n r.1)) (.tuple (me n r.1))=Ga (.bool true):=Rv (by
    show kL (me n r.1)=true;rw[BC];exact PyProof.Rows.canLayAll_ints _) (by
    show ue (me n r.1)+1<=100;rw[BC,PyProof.Rows.depthAll_ints];decide)
   have i0:iY (.tuple (me n r.1)) (.int 0)=Ga (.int x):=by
    refine(L2.atI_nat (j:=0) (Ca (by omega))).trans ?_;rw[hx 0 (by omega)]
   exact zFY _ _ _ x6 x7 _ _ (lU n r) (.tuple (me n r.1)) _ _ _ (h:Int) x (n:Int) _ rfl rfl rfl q3 (KL q2 (j5 _)) rfl rfl rfl i0 rp nn rfl (Fh hm) ((Qc tx).trans (by rw[pV.mpr n1];rfl)) ((GU tx (.inr ⟨x,rfl⟩)).trans (by rw[pV.mpr n2];rfl))
theorem YR (N C:D)(mx mn x0 c3 T q q2 i:Int)(h1:DR N=Ga (.int mx))(h2:Dm N=Ga (.int mn))(h3:iY N (.int 0)=Ga (.int x0))(h4:pO (.int 10) (.int 60)=Ga (.int T))(h5:iY C (.int 3)=Ga (.int c3))(h6:lM (.int c3) (.int 5)=Ga (.int q))(h7:mS (.int c3) (.int 5)=Ga (.int q2))(q3:Int)(h8:lM (.int q2) (.int 5)=Ga (.int q3))(h9:L2.atI [jb (mx+1),.int (mn-1),.int x0,.int (T+c3),.int (q-1)] q3=Ga (.int i)):yf [N,C]=Ga (.int i):=by
 rw[zr4];unfold Qd;generalize pO=pw at *;simp_arith[h1,h2,h3,h4,h5,h6,h7,h8,h9]
theorem zF1 {n:Nat}(hn:2<=n)(v:Nat->Int){cs:List Int}(H:nK cs):∃ i:Int,yf [.tuple (me n v),.list (cs.map jb)]=Ga (.int i):=by
 obtain⟨c3,p3,_,k3⟩:=H.at 3 (by decide);obtain⟨m,rfl⟩:∃ m,n=m+1:=⟨n-1,by omega⟩;obtain⟨x,xr,e⟩:∃ x xr,(jd (m+1)).map v=x::xr:=by
  cases q:(jd (m+1)).map v with
  | nil=>have:=congrArg v8 q;rw[jc,jE] at this;cases this
  | cons x xr=>exact⟨x,xr,rfl⟩
 have en:me (m+1) v=(x::xr).map jb:=by rw[BC,e]
 rw[en];have a0:=kG (c3/5) (show(5:Int)≠0 by decide);have a1:=kw (c3/5) (show(0:Int)<5 by decide);obtain⟨j,hj⟩:=uY a0;have R:∀ (a b c d f:Int) (j:Nat),j<5->∃ i:Int,L2.atI [jb a,.int b,.int c,.int d,.int f] (j:Int)=Ga (.int i):=λa b c d f j hj=>by
  match j,hj with
  | 0,_=>exact⟨_,L2.atI_nat (j:=0) rfl⟩
  | 1,_=>exact⟨_,L2.atI_nat (j:=1) rfl⟩
  | 2,_=>exact⟨_,L2.atI_nat (j:=2) rfl⟩
  | 3,_=>exact⟨_,L2.atI_nat (j:=3) rfl⟩
  | 4,_=>exact⟨_,L2.atI_nat (j:=4) rfl⟩
 obtain⟨i,hi⟩:=R (xr.foldl (λa b=>if a<b then b else a) x+1) (xr.foldl (λa b=>if b<a then b else a) x-1) x ((10:Int)^60+c3) (c3%5-1) j (by omega);refine⟨i,YR _ _ (xr.foldl (λa b=>if a<b then b else a) x) (xr.foldl (λa b=>if b<a then b else a) x) x c3 _ (c3%5) (c3/5) i ?_ ?_ (L2.atI_nat (j:=0) rfl) DC k3 (pB (by decide)) (sV (by decide) (by decide)) j ((pB (by decide)).trans (congrArg (λz=>Ga (jb z)) hj)) hi⟩
 .show sN ((x::xr).map jb)=_;unfold sN;rw[T3.zd9];rfl
 .show wp ((x::xr).map jb)=_;unfold wp;rw[T3.zd9];rfl
theorem zF2 (S:D)(cs cs':List D)(k j x c v:Int)(y:Sl)(I:En->Prop)(h1:lM (.int k) (.int 9)=Ga (.int j))(h2:zK cs (.int j)=Ga (.int c))(h3:mM (.int c) (.int 48271)=Ga (.int (c*48271)))(h4:iY S (.int k)=Ga (.int x))(h5:lM (.int (c*48271+x+k)) (.int 1000003)=Ga (.int v))(h6:BI cs (.int j) (.int v)=Ga cs')(i:I [.val S,.own cs',.val (.int k)]) :
  mP I ((iy (.int k) [.val S,.own cs,y]).bind (am)):=by
 have h2':L2.atI cs j=Ga (.int c):=h2;simp_arith[h1,h2',h3,h4,h5,h6];exact nJ i
theorem ZC (Bd:FS)(S X:D)(l m:Int)(Ks:List D)(h1:ma S=Ga (.int l))(h2:yn (.int 63) (.int l)=Ga (.int m))(h3:mr (.int m)=Ga Ks)(q:lq (mU (lS iy Bd Ks [.val S,.own [.int 3,.int 5,.int 7,.int 11,.int 13,.int 17,.int 19,.int 23,.int 29],.no]) (yZ (go 1)))=Ga X) :
  lq ((iX ak (iX (oK bW iy Bd) (yZ (go 1)))) [.val S,.no,.no])=Ga X:=by
 simp_arith[h1,h2,h3];exact q
theorem Ua (ns:List Int):ma (.list (ns.map jb))=Ga (.int (ns.length:Int)):=by
 show Ga (jb ((ns.map jb).length:Nat))=_;rw[jc]
theorem LU (ns:List Int){k:Nat}(hk:k<ns.length):iY (.list (ns.map jb)) (.int (k:Int))=Ga (.int ns[k]) :=
 L2.atI_nat (by rw[jA,ji hk];rfl)
theorem Gz (l:Nat):yn (.int 63) (.int (l:Int))=Ga (.int ((min 63 l:Nat):Int)):=by
 show Ga (jb (if (l:Int)<63 then(l:Int) else 63))=_;refine congrArg (λx=>Ga (jb x)) ?_;split<;>omega
theorem XR (ns:List Int):∃ cs:List Int,nK cs/\Cv [.list (ns.map jb)]=Ga (.list (cs.map jb)):=by
 rw[zoK];unfold Qj;have st:=Bo (t:=nO 2) (g:=am) (f:=λ(k:Nat)=>(.int (k:Int):D)) (λ_ ψ=>∃ (cs:List Int) (y:Sl),ψ=[.val (.list (ns.map jb)),.own (cs.map jb),y]/\nK cs) (min 63 ns.length) ?_ (min 63 ns.length) 0 [.val (.list (ns.map jb)),.own [.int 3,.int 5,.int 7,.int 11,.int 13,.int 17,.int 19,.int 23,.int 29],.no] (vy _) ⟨[3,5,7,11,13,17,19,23,29],_,rfl,rfl,by decide⟩
 .obtain⟨e,e1,cs,y,rfl,C⟩:=st;rw[<- kP] at e1;refine⟨cs,C,ZC _ _ _ _ _ _ (Ua ns) (Gz _) (Ue (by omega)) ?_⟩;rw[e1];rfl
 .rintro k hk _ ⟨cs,y,rfl,C⟩;have j9:=kw (k:Int) (show(0:Int)<9 by decide);have j0:=kG (k:Int) (show(9:Int)≠0 by decide);obtain⟨j,hj⟩:=uY j0;have jl:j<9:=by omega
  obtain⟨c,c0,c1,hc⟩:=C.at j jl;obtain⟨v,v0,v1,hv⟩:=GW (c*48271+ns[k]+k);refine zF2 _ _ ((cs.set j v).map jb) k j ns[k] c v y _ ((pB (by decide)).trans (congrArg (λz=>Ga (jb z)) hj)) hc (HJ (zE1 (by omega) (by omega))) (LU ns (by omega)) hv ?_ ⟨cs.set j v,_,rfl,by rw[Jb];exact C.len,λx hx=>?_⟩
  .show(L2.ixN (cs.map jb).length (j:Int)).bind (λi=>Ga ((cs.map jb).set i (.int v)))=_;unfold L2.ixN;rw[Ge (by omega),Ge (by rw[jc,C.len];omega),j7,List.map_set];rfl
  .rcases List.mem_or_eq_of_mem_set hx with z|z
   .exact C.bd x z
   .rw[z];exact⟨v0,v1⟩
theorem zDE {it:Nat}{P:Gj}{mk:(D->Option D)->lN}{fb:FV}{fm:lN->(D->Option D)->List D->Option D}{ix:List Nat}{g:FL}{ψ:En}{cs as:List D}{X:D}(φ:D->Option D)(e:φ=λd=>fb (.val d::cs.map .val))(h1:ψ[it]?=Ga (.tab P))(h2:yX ψ ix=Ga cs)(h3:g ψ=Ga as)(h4:fm (mk φ) φ as=Ga X):re it P mk fb fm ix g ψ=Ga X:=by
 unfold re;rw[Ge h1,h2,jp,h3,jp,<- e];exact h4
theorem zGU (Lx Ly Lz:FV)(K:FS)(eK:K=(iX (lF 4 (pC (lh (lw wY cT) (lh (lw wM aD) nD)))) (iX au (iX (lF 6 (iU lM dZ (lw xy fH))) (iX aQ (iX (lF 10 (lw yf bX)) (iX (lF 7 Lx) (iX (lF 8 Ly) (lD aA bv (lD (ol (mK Lz)) fS lI))))))))))(S:D)(cut:List D)(k s M n:Int)(y1 y2 y3 y4 y5 y6 y7 y8 y9 y10 y11 y12:Sl)(hsl:wk S (Ga k) (Ga (k+9))=Ga (.list cut))(hsum:yP cut=Ga (.int s))(hM:zG [.int s,.int k]=Ga (.int M))(hm2:∀ x:Int,lM (.int x) (.int 2)=Ga (.int (x%2)))(h:(k=0/\M/2%2=0/\n=4)\/(¬(k=0/\M/2%2=0)/\n=2+M%2)) :
  (nO 1 (.int k) [.val S,y1,y2,y3,y4,y5,y6,y7,y8,y9,y10,y11,y12]).bind (iX (lF 2 (lw zG (lh (pN yP bp) gu))) (iX bx (iX ao (iX (lF 4 (pC (lh (lw wY cT) (lh (lw wM aD) nD)))) (iX au (iX (lF 6 (iU lM dZ (lw xy fH))) (iX aQ (iX (lF 10 (lw yf bX)) (iX (lF 7 Lx) (iX (lF 8 Ly) (lD aA bv (lD (ol (mK Lz)) fS lI))))))))))))=K [.val S,.val (.int k),.val (.int M),.val (.int n),y4,y5,y6,y7,y8,y9,y10,y11,y12]:=by
 have d2:mS (.int M) (.int 2)=Ga (.int (M/2)):=sV (by decide) (by decide);rw[<- eK];generalize zG=A1 at *;rcases h with ⟨h1,h2,rfl⟩|⟨h1,rfl⟩
 .simp_arith[hsl,hsum,hM,hm2,d2,Gc h1,Gc h2]
 .by_cases c1:k=0
  .have h2:¬M/2%2=0:=λz=>h1 ⟨c1,z⟩;simp_arith[hsl,hsum,hM,hm2,d2,Gc c1,Gd h2]
  .simp_arith[hsl,hsum,hM,hm2,d2,Gd c1]
theorem Yv (Lx Ly Lz:FV)(Pt:Gj)(S C N Fd Z:D)(ts nz:List D)(k x M n lf e b cl r st one l:Int)(y4 y5 y6 y7 y8 y10 y11:Sl)(I:En->Prop)(hx:iY S (.int k)=Ga (.int x))(hN:wY [.int x,.int n]=Ga N)(hF:wM [.int (M/4),.int n,.int (n-2),.int 3]=Ga Fd)(hl:ma Fd=Ga (.int lf))(he:lM (.int (M/16)) (.int (n-1))=Ga (.int e))(hb:(if e>lf then e else lf)=b)(hc:xy [.tuple [N,Fd],.int b]=Ga (.int cl))(hr:lM (.int (M/48)) (.int cl)=Ga (.int r))(hst:lM (.int (M/144)) (.int (r+1))=Ga (.int st))(ho:yf [N,C]=Ga (.int one))
  (h1:∀ y7 y8,Lx [.val S,.val (.int k),.val (.int M),.val (.int n),.val (.tuple [N,Fd]),.val (.int b),.val (.int r),y7,y8,.val C,.val (.int one),.val (.int st),.tab Pt]=Ga Z) (h2:∀ y7 y8,Ly [.val S,.val (.int k),.val (.int M),.val (.int n),.val (.tuple [N,Fd]),.val (.int b),.val (.int r),y7,y8,.val C,.val (.int one),.val (.int st),.tab Pt]=Ga (.list ts)) (hll:ts.length<=1000000) (hcm:mv bV iA [] ts=Ga nz) (hnz:ma (.list nz)=Ga (.int l))
  (h3:(l=0/\nA Z .none=Ga (.bool false))\/(¬l=0/\∀ y8,Lz [.val S,.val (.int k),.val (.int M),.val (.int n),.val (.tuple [N,Fd]),.val (.int b),.val (.int r),.val Z,y8,.val C,.val (.int one),.val (.int st),.tab Pt]=Ga (.bool true))) (i:∀ y2 y3 y4 y5 y6 y7 y8 y10 y11,I [.val S,.val (.int k),y2,y3,y4,y5,y6,y7,y8,.val C,y10,y11,.tab Pt]) :
  mP I ((iX (lF 4 (pC (lh (lw wY cT) (lh (lw wM aD) nD)))) (iX au (iX (lF 6 (iU lM dZ (lw xy fH))) (iX aQ (iX (lF 10 (lw yf bX)) (iX (lF 7 Lx) (iX (lF 8 Ly) (lD aA bv (lD (ol (mK Lz)) fS lI))))))))) [.val S,.val (.int k),.val (.int M),.val (.int n),y4,y5,y6,y7,y8,.val C,y10,y11,.tab Pt]):=by
 have d4:mS (.int M) (.int 4)=Ga (.int (M/4)):=sV (by decide) (by decide);have d16:mS (.int M) (.int 16)=Ga (.int (M/16)):=sV (by decide) (by decide);have d48:mS (.int M) (.int 48)=Ga (.int (M/48)):=sV (by decide) (by decide);have d144:mS (.int M) (.int 144)=Ga (.int (M/144)):=sV (by decide) (by decide);have fz:∀ e:En,frz (.tab Pt::e)=.tab Pt::frz e:=λ_=>rfl;have hs:toS (.list ts)=Ga ts:=rfl;have j1:L2.atI [N,Fd] 1=Ga Fd:=rfl;have j0:L2.atI [N,Fd] 0=Ga N:=rfl;have hnz2:((nz.length:Nat):Int)=l:=by injection hnz with hnz;injection hnz
 generalize wY=A2 at *;generalize wM=A3 at *;generalize xy=A4 at *;generalize yf=A5 at *;generalize kU ts=TS at *;rcases h3 with ⟨l0,h3⟩|⟨l0,h3⟩
 .simp_arith[hx,hN,d4,hF,j1,j0,hl,d16,he,hb,d48,hc,hr,d144,hst,ho,h1,h2,hs,oV,Ge hll,hcm,hnz2,fz,Gc l0,h3];exact nJ (i _ _ _ _ _ _ _ _ _)
 .simp_arith[hx,hN,d4,hF,j1,j0,hl,d16,he,hb,d48,hc,hr,d144,hst,ho,h1,h2,hs,oV,Ge hll,hcm,hnz2,fz,Gd l0,h3];exact nJ (i _ _ _ _ _ _ _ _ _)
theorem zGW (Fo:List D->Option D)(Bd:FS)(Pt:Gj)(S C:D)(l m:Int)(Ks:List D)(h0:Fo [S]=Ga C)(h1:ma S=Ga (.int l))(h2:yn (.int 63) (.int l)=Ga (.int m))(h3:xC (.int 0) (.int m) (.int 9)=Ga Ks)(q:lq (mU (lS (nO 1) Bd Ks [.val S,.no,.no,.no,.no,.no,.no,.no,.no,.val C,.no,.no,.tab Pt]) fW)=Ga (.bool true)) :
  lq ((iX (lF 9 (lw Fo gr)) (iX (oK (Lf xC gP de gT) (nO 1) Bd) fW)) [.val S,.no,.no,.no,.no,.no,.no,.no,.no,.no,.no,.no,.tab Pt])=Ga (.bool true):=by
 simp_arith[h0,h1,h2,h3];exact q
theorem WL (h X:D)(a:Bool)(hi:nA X .none=Ga (.bool a)):bV [.val (.tuple [h,X])]=Ga a:=by
 have i:iY (.tuple [h,X]) (.int 1)=Ga X:=rfl;generalize jZ [h,X]=p at *;simp_arith[i,hi]
theorem WK (Ru:List D->Option D)(v C s o X:D)(h:Ru [v,C,s,o]=Ga X):(lw Ru ca) [.val v,.val C,.val o,.val s]=Ga X:=by
 simp_arith[h]
theorem zy7 (mk:(D->Option D)->lN)(Pt:Gj)(ns:List Int)(hn:ns.length<=63):zlU mk Pt [.list (ns.map jb)]=Ga (.bool true):=by
 obtain⟨cs,C,hC⟩:=XR ns;obtain⟨K,hK,hB⟩:=Wk (min 63 ns.length) (by omega);rw[zAm];unfold TX;refine zGW Cv _ Pt _ _ _ _ _ hC (Ua ns) (Gz _) hK ?_;refine(congrArg lq (Cu (f:=λ(k:Nat)=>(.int ((9*k:Nat):Int):D)) (R:=Ga (.rt (.bool true))) K (λ_ ψ=>∃ y1 y2 y3 y4 y5 y6 y7 y8 y10 y11,ψ=[.val (.list (ns.map jb)),y1,y2,y3,y4,y5,y6,y7,y8,.val (.list (cs.map jb)),y10,y11,.tab Pt]) ⟨_,_,_,_,_,_,_,_,_,_,rfl⟩ ?_ ?_)).trans rfl
 .rintro k0 hk0 _ ⟨y1,y2,y3,y4,y5,y6,y7,y8,y10,y11,rfl⟩;have hk:=hB k0 hk0;generalize 9*k0=k at hk;have hk':k<ns.length:=by omega
  obtain⟨cut,s,c1,c2⟩:=zDs ns (Ga (k:Int)) (Ga ((k:Int)+9));obtain⟨M,M1,hM⟩:=zAE s k (by omega);obtain⟨n,hn4⟩:∃ n:Nat,(((k:Int)=0/\(M:Int)/2%2=0/\(n:Int)=4)\/(¬((k:Int)=0/\(M:Int)/2%2=0)/\(n:Int)=2+(M:Int)%2)):=by
   by_cases c:(k:Int)=0/\(M:Int)/2%2=0
   .exact⟨4,.inl ⟨c.1,c.2,rfl⟩⟩
   .exact⟨2+M%2,.inr ⟨c,by omega⟩⟩
  have n2:2<=n:=by omega
  have n4:n<=4:=by omega
  rw[zGU _ _ _ _ rfl _ cut (k:Int) s (M:Int) (n:Int) y1 y2 y3 y4 y5 y6 y7 y8 _ y10 y11 _ c1 c2 hM (λ_=>pB (by decide)) hn4];clear hn4;obtain⟨is,il,ib,ie⟩:=zv9 ns[k] n (by omega);obtain⟨X,FX,fe⟩:=zAG (M/4) n (n-2) 3 (by omega) n2 (by omega) (by decide) (by omega);obtain⟨o1,o2⟩:=zFi FX;have xl:=FX.ln;generalize tab X=E at fe o1 o2;obtain⟨v,ev⟩:∃ v:Nat->Int,v=λi=>is.getD i 0:=⟨_,rfl⟩;have eN:is.map jb=me n v:=by rw[ev,<- il];exact(zAO is).symm
  have nb:∀ i,i<n->ye (v i):=λi hi=>by
   have hi':i<is.length:=by omega
   have e:v i=is[i]:=by rw[ev];dsimp only;rw[jq,ji hi'];rfl
   rw[e];exact ib _ (uB hi')
  rw[eN] at ie;have ln:=nu n v;have er:lU n (v,E)=.tuple [.tuple (me n v),.tuple ((lG n E).map fd)]:=by unfold lU mW rd;rw[nu]
  have hF:wM [.int ((M:Int)/4),.int (n:Int),.int ((n:Int)-2),.int 3]=Ga (.tuple ((lG n E).map fd)):=by
   rw[show(n:Int)-2=((n-2:Nat):Int) by omega,show(M:Int)/4=((M/4:Nat):Int) by omega];exact fe
  have hLf:ma (.tuple ((lG n E).map fd))=Ga (.int ((lj n E:Nat):Int)):=by show Ga (jb ((((lG n E).map fd).length:Nat):Int))=_;rw[jc,xE]
  have e0:=kG ((M:Int)/16) (show(n:Int)-1≠0 by omega);have e1:=kw ((M:Int)/16) (show(0:Int)<(n:Int)-1 by omega);obtain⟨bd,hbd,b1,b2⟩:∃ bd:Nat,(if (M:Int)/16%((n:Int)-1)>((lj n E:Nat):Int) then(M:Int)/16%((n:Int)-1) else((lj n E:Nat):Int))=(bd:Int)/\lj n E<=bd/\bd+2<=n:=by
   by_cases c:(M:Int)/16%((n:Int)-1)>((lj n E:Nat):Int)
   .rw[Ge c];exact⟨((M:Int)/16%((n:Int)-1)).toNat,by omega,by omega,by omega⟩
   .rw[Gf c];exact⟨lj n E,rfl,jj _,by omega⟩
  have CL:=zFC (me n v) E (bd:Int) (by rw[ln];omega) (by rw[ln];exact o1.mono (by omega));rw[ln] at CL;have erE:mW (me n v) E=.tuple [.tuple (me n v),.tuple ((lG n E).map fd)]:=er;rw[erE] at CL;obtain⟨w0,_,w2⟩:=GC n E;have w2:=w2 (lj n E) (jj _);have wl:=UM n E (by omega);have r0:=kG ((M:Int)/48) (show(bd:Int)+1-pp n E 3≠0 by omega);have r1:=kw ((M:Int)/48) (show(0:Int)<(bd:Int)+1-pp n E 3 by omega);obtain⟨R,hR⟩:=uY r0;have R2:R<=2:=by omega
  have hRk:(R:Int)<(bd:Int)+1-pp n E 3:=by omega
  have G:=EB n2 (by omega) (by omega) o1;have OP:=Ss (me n v) (lG n E) (by rw[ln];exact G) bd (by rw[ln];exact b2) (by rw[xE];exact b1) (R:Int);rw[ln,Gc (by omega)] at OP;obtain⟨one,hone⟩:=zF1 n2 v C;obtain⟨st,est⟩:∃ st:Int,st=(M:Int)/144%((R:Int)+1):=⟨_,rfl⟩;obtain⟨φ,eφ⟩:∃ φ:D->Option D,φ=λd=>(lw wo ca) (.val d::[kU (cs.map jb),.int one,.int st].map .val):=⟨_,rfl⟩;have U:Ru n φ (λd=>(wo [d,.list (cs.map jb),.int st,.int one]).getD .none):=λv' E' h j hh hj=>by
   obtain⟨Y,y1,y2⟩:=zDy (me n v') (lG n E') (by rw[nu];omega) (Ia n v') C st one j h hj (by rw[nu];exact hh);dsimp only;rw[y1];refine⟨y2,?_⟩;rw[eφ];exact WK wo _ _ _ _ _ y1
  generalize (λd=>(wo [d,.list (cs.map jb),.int st,.int one]).getD .none)=Φ at U;have LL:∀ (fm:lN->(D->Option D)->List D->Option D) (g:FL) (ψ:En) (as:List D) (Y:D),ψ[12]?=Ga (.tab Pt)->yX ψ [9,10,11]=Ga [kU (cs.map jb),.int one,.int st]->g ψ=Ga as->(∀ c,fm c φ as=Ga Y)->re 12 Pt mk (lw wo ca) fm [9,10,11] g ψ=Ga Y:=λfm g ψ as Y a1 a2 a3 a4=>zAZ a1 a2 a3 (by rw[eφ] at a4;exact a4);have BR:∀ c,∃ Z,Ad c φ [lU n (v,E),.int (bd:Int),.int (R:Int)]=Ga Z/\(((∀ h∈nB n R (v,E),num n R Φ (v,E) h=.none)/\Z=.none)\/((∃ h∈nB n R (v,E),num n R Φ (v,E) h≠.none)/\EY n R bd Φ Z)):=λc=>zy4 n R bd v E n2 (by omega) R2 o1 b1 b2 hRk nb (by rw[Qg];exact OP) c φ Φ U;obtain⟨Z,hZ,zc⟩:=BR (mk φ);have TL:=λc=>Sq n2 (show n<=5 by omega) (show R<=4 by omega) U c (r:=(v,E)) (o1.mono (by decide));have tT:∀ h∈nB n R (v,E),pb (num n R Φ (v,E) h):=λh hh=>EE (by omega) U _ (EN hh);have ul:=Ew n R (v,E);rw[er] at TL hZ;have cm:=wN (fc:=mw nA eD ij) (fe:=gv 0) (base:=[]) (λ(h:Nat)=>jZ [.int (h:Int),num n R Φ (v,E) h]) (λh=>!bq (num n R Φ (v,E) h) .none) (λ(h:Nat)=>jZ [.int (h:Int),num n R Φ (v,E) h]) (l:=nB n R (v,E)) (λh hh=>WL _ _ _ (Qc (tT h hh))) (λh hh _=>rfl);refine Yv _ _ _ Pt _ _ (.tuple (me n v)) (.tuple ((lG n E).map fd)) Z _ _ (k:Int) ns[k] (M:Int) (n:Int) _ _ (bd:Int) _ (R:Int) st one _ y4 y5 y6 y7 y8 y10 y11 _ (LU ns hk') ie hF hLf (pB (by omega)) hbd CL ((pB (by omega)).trans (congrArg (λz=>Ga (jb z)) hR)) ((pB (by omega)).trans (congrArg (λz=>Ga (jb z)) est.symm)) hone (λy7 y8=>?_) (λy7 y8=>LL _ _ _ [.tuple [.tuple (me n v),.tuple ((lG n E).map fd)],.int (R:Int)] _ rfl rfl rfl TL) (by rw[Gu];omega) cm rfl ?_ (λy2 y3 y4 y5 y6 y7 y8 y10 y11=>⟨_,_,_,_,_,_,_,_,_,_,rfl⟩)
  .exact zDE φ eφ (cs:=[kU (cs.map jb),.int one,.int st]) (as:=[.tuple [.tuple (me n v),.tuple ((lG n E).map fd)],.int (bd:Int),.int (R:Int)]) rfl rfl rfl hZ
  .rcases zc with ⟨al,rfl⟩|⟨⟨h,hh,nh⟩,B⟩
   .refine .inl ⟨?_,rfl⟩;rw[ub.mpr λh hh=>by rw[wK.mpr (al h hh)];decide];rfl
   .refine .inr ⟨?_,λy8=>LL _ _ _ [Z,.int (n:Int),.int (bd:Int),.int (R:Int)] _ rfl rfl rfl λc=>zy5 n2 (by omega) (by omega) U c B⟩;have hm:h∈(nB n R (v,E)).filter λh=>!bq (num n R Φ (v,E) h) .none:=jD.mpr ⟨hh,by rw[pV.mpr nh];rfl⟩;have:=ua hm;rw[jc];omega
 .rintro _ ⟨y1,y2,y3,y4,y5,y6,y7,y8,y10,y11,rfl⟩;rfl
end Law
end
open PySem PySem.W PyProof.Rows
set_option maxRecDepth 100000 in
set_option maxHeartbeats 0 in
theorem PySem.Challenge.cw_roundfall_k53_whole_every_rule_breaks_holds : PySem.Challenge.rw_roundfall_k53_whole_every_rule_breaks.Holds := by
 w_on
 refine PySem.W.holds_law Law.ws0 λsaid=>?_;refine PySem.W.holds_open (q:=Law.qv0) (loose:=[]) (Xt:=Law.xt0) (XP:=PySem.W.XL Law.qv0 []) (Yf:=PySem.W.Hook.obs (uy Law.KK Law.KA Law.zrA [500])) (Ya:=PySem.W.Hook.val (uy Law.KK Law.KA Law.zrA [500])) (YP:=PySem.W.Hook.says (uy Law.KK Law.KA Law.zrA [500])) (N:=9000) Law.lf0 (PySem.W.Hook.of (uy Law.KK Law.KA Law.zrA [500])) (PySem.W.Hook.keeps (uy Law.KK Law.KA Law.zrA [500])) (λs e=>PySem.W.xl_of s (Jv.mp e).1) PySem.W.XL.keeps (by rfl) (by rfl) (by rfl) (λs e=>PySem.W.recFacts_of (Jv.mp e).2) (by rfl) said (by nofun) ⟨rfl,rfl,rfl,rfl,rfl,by nofun⟩ ?hw ?hc
 case hw=>w_witness2
 k_fill
 refine T3.zzT (l:=PySem.Challenge.rw_roundfall_k53_whole_every_rule_breaks) (n:=63) (k:=36) (x:="script") (Pt:=500) (K:=Law.KK) (sp:=λK vs H Q E=>∀ mk,T3.spT K 500 (Law.zlU mk 500) vs H Q E) rfl (by decide) rfl ⟨rfl,by decide,by decide⟩ (λw h Y=>⟨PySem.W.km_in_of Y,PySem.W.km_tabs_of Y _ jf⟩) (λP=>Law.zGX P) (λw h X=>T3.zrP X (Law.zF5 w.params)) ?F ?S
 case F =>
  intro w mg fa h KX G hmg;refine'(λz=>(Law.zE0 KX G hmg z:_)) (Law.zEZ KX G ?w_q40 ?w_q63 ?w_q41 ?w_q54 ?w_q52 ?w_q26 ?w_q11 ?w_q23 ?w_q53 ?w_q7 ?w_q25 ?w_q17 ?w_q67 ?w_q24 ?w_q66 ?w_q65 ?w_q2 ?w_q0 ?w_q60 ?w_q34 ?w_q6 ?w_q30 ?w_q48 ?w_q5 ?w_q58 ?w_q1 ?w_q12 ?w_q18 ?w_q3 ?w_q64 ?w_q10 ?w_q19 ?w_q9 ?w_q61 ?w_q21 ?w_q4 ?w_q47 ?w_q13 ?w_q8 ?w_q46 ?w_q42 ?w_q32 ?w_q51 ?w_q36 ?w_q28 ?w_q59 ?w_q45 ?w_q55 ?w_q31 ?w_q57 ?w_q15 ?w_q62 ?w_q33 ?w_q29 ?w_q14 ?w_q35 ?w_q43 ?w_q38 ?w_q44 ?w_q16 ?w_q22 ?w_q27 ?w_q37 ?w_q49 ?w_q56 ?w_q39 ?w_q50 ?w_q20 ?w_q68 ?z_abs ?z_all ?z_bool ?z_int ?z_isinstance ?z_len ?z_list ?z_max ?z_min ?z_range ?z_reversed ?z_sorted ?z_sum ?z_tuple ?c_LAST_ROUND ?c_LEAST_HANDS ?c_MOST_HANDS (c0:=502) (Pt:=500) (bm:=4) ?l_1 (Law.zF5 w.params) ?l_3 ?l_4 (by decide) (by decide))
  all_goals first|k_is|exact rfl|(refine'⟨_,_,_,_,_,_,_,_,?x1,?x2,?x3,?x4,?x5⟩;(case x1=>k_is);(case x2=>exact rfl);(case x3=>exact rfl);(case x4=>k_is);(case x5=>k_is))|skip
 case S=>exact λK H a ns hl hT hS mk=>T3.zB6 hT hS (Law.zy7 mk 500 ns hl)
