import PyProof.Rows.All
import Wide.All
import OpenK.AllK
import Wide.FinOn
import Lean
import PyProof.EqAt
import PyProof.EqKinds
import PyProof.TupleCall
import PyProof.NeData
import PyProof.P3In
import PyProof.ZipIter
import PyProof.EnumIter
import PyProof.EnumFor
import PyProof.EnumMake
import PyProof.TupleIter
import KE.KRevIter
import PyProof.ListRange
import PyProof.ConsumeWalk
import PyProof.WalkInts
import PyProof.SeqI3
import PyProof.P3Eq
import PyProof.TupleKey
import PyProof.DictRoadsH
import PyProof.FactsAll.NoneType_1
import PyProof.Rows.RowHeap
import PyProof.DictIter
import PyProof.DictWalks
import PyProof.Rows.TupDisplay
import PyProof.DictKinds
import PyProof.TupleOfSeq
import PyProof.Rows.RuleN_abs
import KE.KLam
import KE.KNestM
import PyProof.StationsW
import PyProof.ExcClass2
import PyProof.Rows.Own
import PyProof.Rows.OwnQ
import PyProof.RulesAs
import KE.KIsAll
import PyProof.ExcArgsOwn
import PyProof.ExcAttrAll.ValueError
import PySem.Challenge.RW_roundfall_k54_broken_refused
set_option Elab.async false
set_option linter.all false
set_option maxRecDepth 100000
open Option renaming some->Ga,none->Gb
theorem Gc{p:Prop}[Decidable p](h:p):decide p=true:=decide_eq_true h
theorem Gd{p:Prop}[Decidable p](h:¬p):decide p=false:=decide_eq_false h
theorem Ge{c:Prop}{h:Decidable c}(k:c){α}{t e:α}:ite c t e=t:=if_pos k
theorem Gf{c:Prop}{h:Decidable c}(k:¬c){α}{t e:α}:ite c t e=e:=if_neg k
open PySem renaming Value->Gg,Shared->Gh,FuncData->Gi,Addr->Gj
open PySem.W renaming Frag->ja,kitOne->jR,nsIn->j4,mg_none_of->kg,keepIn->kR,kitCls->kS,fnOf->kZ,kmHook->ug,kla_obj->uk,mg_of->ut,kas_sort->uY,envX->uZ,codeIn->vm,kas_ask->vF,callWith_K->vK,kla_fn->vM,notCls->vN,methodObj->vW,subIn->v7,codeHdIn->qe,cellsFrom_some->qj,KasT->qo,instObj->qy,OpenLaw->qA,lookIn->qH,tabObj->qN,codeHd_of_K->qS,WalkO->qU,kitx_dict->Jh,kia_one->Ju,InstAt->Jy
open List renaming length_map->jb,mem_cons_of_mem->je,range->jf,mem_cons_self->jg,length_append->jh,getElem?_eq_some_iff->ji,size_toArray->jo,mem_range->jp,mem_cons->jt,contains_iff_mem->ju,mem_singleton->jv,getElem?_eq_getElem->jw,mem_map->jx,getElem?_map->jz,getD_eq_getElem?_getD->jB,getElem?_set_ne->jC,mem_filter->jD,all_eq_true->jF,length_range->jG,getElem?_set_self->jH,length_cons->jJ,map_map->jL,mem_append->jM,filterMap_cons_none->jN,map_append->jO,map_cons->jQ,mem_append_right->jS,filter_cons_of_pos->jU,length_singleton->jV,lookup_cons->jY,length_filter_le->j6,append_nil->j7,filterMap_cons_some->j9,nodup_cons->ka,getLast?_map->kf,getElem?_eq_none->kh,filter_cons_of_neg->kj,map_congr_left->km,length_tail->ko,filter_congr->kw,mem_of_getElem?->ky,find?_cons_of_neg->kz,length_reverse->kD,filter_sublist->kE,filter_append->kH,mem_of_mem_tail->kI,not_mem_nil->kK,find?_cons_of_pos->kL,foldl_cons->k7,range_succ->k8,mem_reverse->uc,nodup_range->ud,map_tail->ue,foldl_nil->uf,getElem?_range->um,toArray->uo,filter_eq_nil_iff->ur,getElem?_append_right->uu,getElem?_append_left->ux,reverse_cons->uA,getLast?_append->uB,foldl_append->uE,getElem?_replicate->uJ,mem_filterMap->uO,find?_cons->uQ,getLast?_reverse->uS,filterMap_append->uT,nodup_append->uU,mem_of_getLast?->uW,length_take->uX,getElem?_eq_none_iff->u0,mem_map_of_mem->u8,filter_map->vf,getElem?_cons_succ->vh,append_assoc->vq,length_pos_of_mem->vt,nodup_nil->vw,length_drop->vy,any_cons->vz,length_nil->vH,filterMap_cons->vI,map->vO,contains_cons->vP,head?_reverse->vQ,find?_eq_none->vR,drop_eq_getElem_cons->vU,mem_of_find?_eq_some->vV,length->vX,ext_getElem?->vZ,getElem?_set->v3,length_erase_of_mem->v8,getElem_mem->qd,getLast?_cons_cons->qg,map_reverse->qh,map_nil->qk,drop_eq_nil_of_le->qm,all_map->qr,take_of_length_le->qw,of_mem_zip->qz,length_replicate->qC,singleton_append->qF,mem_append_left->qG,replicate->qI,range_eq_range'->qO,tail_cons->qP,head?_map->qQ,filter_filter->Jb,getElem_inj->Jm,filter_cons->Jp,any_eq_true->Jr,cons_append->Js,forIn_cons->Jv,find?_some->Jw
open PySem.PyData renaming int->jc,tuple->jT,bool->jW,eqv->kF,canLayAll0->kP,depthAll->ui,list->vj,none->vY,eqvAll->v5,str->qx,canLay0->qL,keyHash->JD
open PySem.Heap renaming get?_push_of_some->jd,lt_size->jm,get?_push_size->jA,get?_update_other->kq,get?_update_self->k9,SameBut->qi,size_push->qM,update->Jt
open PySem renaming Spec->jj,mem_of_lookup->kC,call->Ja,boot_len->JA,getD_mem->JB,mem_getD->JC,Fin->JF
open Nat renaming le_refl->jk,le_trans->jn,lt_of_lt_of_le->jq,ne_of_lt->jK,lt_irrefl->jP,zero_le->j8,le_of_lt->uz,pow_le_pow_right->uC,mul_le_mul_right->uD,lt_succ_self->uK,add_mul->uL,ne_of_gt->uN,mul_le_mul->vS,min_eq_left->qB,le_succ_of_le->Ji,min_le_right->Jn,succ_ne_zero->Jq,succ->Jz
open PySem.Str renaming ofString->jl
open Option renaming bind_some->jr,bind_eq_some_iff->kW,isSome_iff_exists->u9,map_eq_some_iff->qq,none->qK,filter_some->Jc,isSome_map->Jf,getD_none->Jo,map_some->Jx
open Bool renaming false_ne_true->jy,and_eq_true->jI,not_eq_true->jZ,eq_iff_iff->kA,true_or->k6,false_eq_true->ub,not_eq_true'->uh,and_false->uv,or_false->uG,false_and->uV,eq_false_iff->vx,or_eq_true->vG,not_eq_false'->vT,false_or->v4,true_and->v9,and_eq_true_iff->qR,not_true->qV,or_true->Jl
open Option.some renaming inj->jE
open PySem.Builtin.List renaming listExtendWith->jX,listLengthHint->kY,listSameRef->uH,listTooLong->vb,listItems->qp
open PySem.NameKind renaming free->j0,cell->ve
open PySem.Value renaming none->j5,ref->kB,type->uM,builtin->vA,isInt->vB,int->qa,bool->qX,isInt_shape->Jd
open Classical renaming byContradiction->kn
open PySem.Obj renaming mapSeq->kr,data_mapFields->uP,isFreed_of_fields->uR,mapFields->vd,cls_mapFields->Jg
open Array renaming length_toList->ku,getElem?_toList->ua,getElem?_eq_some_iff->uw,getElem?_eq_getElem->u6,getElem?_eq_none->vp,mem_toList_iff->vC,append_assoc->qY,size_append->Jk
open Or renaming inr->kG,inl->uj
open Int renaming emod_lt_of_pos->kJ,toNat_natCast->kN,le_refl->kQ,emod_nonneg->kT,le_trans->uq,sub_le_sub_right->vD,ediv_eq_zero_of_lt->qu,lt_irrefl->qW,zero_add->Jj
open PySem.Builtin.Int renaming intBits->kM
open List.Nodup renaming sublist->kU
open Ne renaming symm->kX
open PySem.Heap.SameBut renaming update->ul
open PySem.Builtin.Slice renaming slicePlaces->uy,sliceAdjust->u5,sliceApplied->vL
open PySem.Builtin.Tuple renaming tupleExact->uF
open PySem.Builtin renaming bitAnd->uI,bitXor->vk,bitOr->qT
open PySem.F renaming args_tuple_add_2->va,entry_tuple_add->vg,slot_tuple_add->vn,slot_list_extend->v6,plainAttrs_list->qc,attr_ValueError->qf
open PySem.Calls renaming evalArgs_plain->vo,Name_function_global->vJ,callWith_builtin->ql,spliced_cons->qZ,spliced_nil->Je
open PySem.Builtin.Dict_items renaming ownsTuple->vE
open PySem.Builtin.Dict renaming showsAll->qD
open PySem.W.Looks renaming of_pure->qE
open PySem.Around renaming frames_deeper->qJ
open Int.ofNat renaming inj->JE
namespace L2
open PySem PySem.Spec PyProof.Rows
abbrev Key:=Sum Int Str
def keyIs:Key->Gg->Bool
 | .inl k,v=>vB k v
 | .inr x,v=>Value.isStrOf x v
def keyH (w:World):Key->Int
 | .inl k=>hashInt k
 | .inr x=>hashStr w x
theorem keyIs_shape:∀ {k:Key} {v:Gg},keyIs k v=true->(∃ i t,k=Sum.inl i/\v=qa i t)\/(∃ x t,k=Sum.inr x/\v=Value.str x t)
 | .inl i,v,h=>by
  obtain⟨t,e⟩:=Jd (k:=i) (v:=v) h;exact .inl ⟨i,t,rfl,e⟩
 | .inr x,v,h=>by
  obtain⟨t,e⟩:=Value.isStrOf_shape (x:=x) (v:=v) h;exact .inr ⟨x,t,rfl,e⟩
theorem key_ll (a b:Int):decide ((Sum.inl a:Key)=Sum.inl b)=(a==b):=by
 by_cases e:a=b
 .subst e;simp
 .have h:¬(Sum.inl a:Key)=Sum.inl b:=λq=>e (Sum.inl.inj q);rw[Gd h];exact(beq_eq_false_iff_ne.mpr e).symm
theorem key_rr (a b:Str):decide ((Sum.inr a:Key)=Sum.inr b)=decide (a=b):=by
 by_cases e:a=b
 .subst e;simp
 .have h:¬(Sum.inr a:Key)=Sum.inr b:=λq=>e (Sum.inr.inj q);rw[Gd h,Gd e]
theorem key_lr (a:Int)(b:Str):decide ((Sum.inl a:Key)=Sum.inr b)=false:=Gd (λq=>nomatch q)
theorem key_rl (a:Str)(b:Int):decide ((Sum.inr a:Key)=Sum.inl b)=false:=Gd (λq=>nomatch q)
def mixKind (prog:Program)(w:World):PySem.KeyKind prog w Key where
 is:=keyIs
 hash:=keyH w
 inj:=λv a b ha hb=>by
  rcases keyIs_shape ha with ⟨i,t,rfl,rfl⟩|⟨x,t,rfl,rfl⟩
  .rcases keyIs_shape hb with ⟨j,u,rfl,e⟩|⟨y,u,rfl,e⟩
   .injection e with e1 _;rw[e1]
   .exact nomatch e
  .rcases keyIs_shape hb with ⟨j,u,rfl,e⟩|⟨y,u,rfl,e⟩
   .exact nomatch e
   .injection e with e1 _;rw[e1]
 byValue:=λk v h=>by
  rcases keyIs_shape h with ⟨i,t,rfl,rfl⟩|⟨x,t,rfl,rfl⟩<;>rfl
 pyHash:=λhv h=>by
  rcases keyIs_shape hv with ⟨i,t,rfl,rfl⟩|⟨x,t,rfl,rfl⟩
  .exact wpAny_pyHash_int h
  .exact wpAny_pyHash_str h
 eqBool:=λhu hv h=>by
  rcases keyIs_shape hu with ⟨i,t,rfl,rfl⟩|⟨x,t,rfl,rfl⟩
  .rcases keyIs_shape hv with ⟨j,u,rfl,rfl⟩|⟨y,u,rfl,rfl⟩
   .rw[key_ll] at h;exact wpAny_eqBool_int h
   .rw[key_lr] at h;exact SeqAt.EqAt.int_str i t y u _ _ _ _ h
  .rcases keyIs_shape hv with ⟨j,u,rfl,rfl⟩|⟨y,u,rfl,rfl⟩
   .rw[key_rl] at h;exact SeqAt.EqAt.str_int x t j u _ _ _ _ h
   .rw[key_rr] at h;exact wpAny_eqBool_str h
 «strs»:=λk x t v h=>by
  rcases keyIs_shape h with ⟨i,u,rfl,e⟩|⟨y,u,rfl,e⟩
  .exact nomatch e
  .injection e with e1 _
   subst e1;cases v<;>rfl
end L2
namespace L2
open PySem PySem.Spec PyProof.Rows
inductive V where
 | non|bl (b:Bool)|int (i:Int)|str (x:Str)|byt (b:Array UInt8)|flt (b:UInt64)|ref (a:Gj)|ty (n:String)
 deriving DecidableEq
def RelV:V->Gg->Prop
 | .non,u=>u=j5
 | .bl b,u=>u=qX b
 | .int i,u=>∃ t,u=qa i t
 | .str x,u=>∃ t,u=Value.str x t
 | .byt b,u=>∃ t,u=Value.bytes b t
 | .flt b,u=>∃ t,u=Value.float b t
 | .ref a,u=>u=kB a
 | .ty n,u=>u=uM n
abbrev Vals:List V->List Gg->Prop:=Paired RelV
theorem Vals.length {xs:List V}{us:List Gg}(r:Vals xs us):xs.length=us.length:=Paired.length r
theorem Vals.get:∀ {xs:List V} {us:List Gg} {i:Nat} {x:V},Vals xs us->xs[i]?=Ga x->∃ u,us[i]?=Ga u/\RelV x u
 | _,_,_,_,.nil,e=>by simp at e
 | _,_,0,_,.cons r _,e=>by simp at e;subst e;exact⟨_,rfl,r⟩
 | _,_,i+1,x,.cons _ t,e=>by
  obtain⟨u,h1,h2⟩:=Vals.get (i:=i) (x:=x) t (by simpa using e);exact⟨u,by simpa using h1,h2⟩
theorem Vals.set {x:V}{u:Gg}(r:RelV x u):∀ {xs:List V} {us:List Gg} (i:Nat),Vals xs us->Vals (xs.set i x) (us.set i u)
 | _,_,_,.nil=>.nil
 | _,_,0,.cons _ t=>.cons r t
 | _,_,i+1,.cons q t=>.cons q (Vals.set r i t)
theorem Vals.append:∀ {xs ys:List V} {us ws:List Gg},Vals xs us->Vals ys ws->Vals (xs++ys) (us++ws)
 | _,_,_,_,.nil,s=>s
 | _,_,_,_,.cons r t,s=>.cons r (Vals.append t s)
theorem Vals.take:∀ {xs:List V} {us:List Gg} (n:Nat),Vals xs us->Vals (xs.take n) (us.take n)
 | _,_,0,_=>.nil
 | _,_,_+1,.nil=>.nil
 | _,_,n+1,.cons r t=>.cons r (Vals.take n t)
theorem Vals.drop:∀ {xs:List V} {us:List Gg} (n:Nat),Vals xs us->Vals (xs.drop n) (us.drop n)
 | _,_,0,r=>r
 | _,_,_+1,.nil=>.nil
 | _,_,n+1,.cons _ t=>Vals.drop n t
theorem Vals.none_of:∀ {xs:List V} {us:List Gg} {i:Nat},Vals xs us->xs[i]?=Gb->us[i]?=Gb:=λ{xs us i} r e=>by
 have h1:=r.length;have h2:xs.length<=i:=u0.mp e;exact u0.mpr (by omega)
def RelO:Option V->Option Gg->Prop
 | some v,Ga u=>RelV v u
 | none,Gb=>True
 | _,_=>False
def KV {κ:Type}:List (κ×V)->List (κ×Gg)->Prop:=Paired λ(p:κ×V) (q:κ×Gg)=>p.1=q.1/\RelV p.2 q.2
def kV:Key->V
 | .inl i=>.int i
 | .inr x=>.str x
inductive HO where
 | lst (xs:List V)
 | tup (xs:List V)
 | dK (kvs:List (Key×V))|dT (kvs:List (List Key×V))
 | set (S:Int->Bool) (n:Nat)
 | ins (C dx:Gj) (fs:List (Str×V))
 | own (x:Gj)
 | xd (fs:List (Str×V))
 | met (f x:Gj)
 | rng (lo hi:Int)
 | frz (o:Obj) (u:HO)
 | tbl (ps:Array Gg)
 | ext (φ:Heap->Prop)
abbrev Hp:=Gj->Option HO
def upd (H:Hp)(a:Gj)(o:HO):Hp:=λb=>if b=a then Ga o else H b
theorem upd_same {H:Hp}{a:Gj}{o:HO}:upd H a o a=Ga o:=by unfold upd;rw[Ge rfl]
theorem upd_ne {H:Hp}{a b:Gj}{o:HO}(h:b≠a):upd H a o b=H b:=by unfold upd;rw[Gf h]
theorem ne_of_none {H:Hp}{a b:Gj}{o:HO}(h:H a=Ga o)(h':H b=Gb):a≠b:=by
 intro e;subst e;rw[h] at h';cases h'
section
variable (P:Program)(w:World)
def ObjOk (H:Hp)(h:Heap)(a:Gj):HO->Prop
 | .lst xs=>xs.length<=sizeLine/\∃ (its:List Gg) (n:Nat),Vals xs its/\h.get? a=Ga { cls:=.type "list",data:=.seq its.toArray n }
 | .tup xs=>xs.length<=sizeLine/\∃ its:List Gg,Vals xs its/\IsTup h a its.toArray
 | .dK kvs=>kvs.length<=sizeLine/\(a==sysModules)=false/\∃ vs,KV kvs vs/\h.DictOf (mixKind P w) a vs
 | .dT kvs=>kvs.length<=sizeLine/\(a==sysModules)=false/\∃ xs:List (List Key×Gj×Gg),
   Paired (λ(p:List Key×V) (q:List Key×Gj×Gg)=>p.1=q.1/\H q.2.1=Ga (.tup (p.1.map kV))/\RelV p.2 q.2.2) kvs xs /\
   ∃ o es ep,h.get? a=Ga o/\o.ExactDict/\o.data=.dict es ep/\es.toList=xs.map (entryOfKey (tupleKind (mixKind P w)))/\(xs.map (·.1)).Nodup
 | .set S n=>h.SetOf (intKind P w) a S n
 | .ins C dx fs=>H dx=Ga (.own a)/\fs.length<=1000/\dx≠a/\h.get? a=Ga (qy C dx) /\
   ∃ mA,h.Ns1 dx mA/\(∀ f,RelO (fs.lookup f) (mA f))/\PySem.Within mA (fs.map (·.1))
 | .own _=>∃ o,h.get? a=Ga o
 | .xd fs=>∃ mA,h.Ns1 a mA/\∀ f,RelO (fs.lookup f) (mA f)
 | .rng lo hi=>∃ t u v,h.get? a=Ga { cls:=.type "range",data:=.fields #[.int lo t,.int hi u,.int 1 v] }
 | .frz o u=>h.get? a=Ga o/\ObjOk H h a u
 | .tbl ps=>h.get? a=Ga { cls:=.none,data:=.fields ps }
 | .met f x=>h.get? a=Ga (vW (.ref f) (.ref x))
 | .ext φ=>φ h/\(∃ o,h.get? a=Ga o)/\∀ h1 h2:Heap,φ h1->(∀ o,h1.get? a=Ga o->h2.get? a=Ga o)->φ h2
def HOk (H:Hp)(h:Heap):Prop:=∀ a o,H a=Ga o->ObjOk P w H h a o
end
section
variable {P:Program}{w:World}{H H':Hp}{h h':Heap}{a:Gj}{o:HO}
theorem ObjOk.lt (x:ObjOk P w H h a o):a<h.objs.size:=by
 cases o with
 | lst xs=>obtain⟨_,_,_,_,e⟩:=x;exact jm e
 | tup xs=>obtain⟨_,_,_,p⟩:=x;exact p.lt
 | dK kvs=>obtain⟨_,_,_,_,o,_,_,e,_⟩:=x;exact jm e
 | dT kvs=>obtain⟨_,_,_,_,o,_,_,e,_⟩:=x;exact jm e
 | set S n=>obtain⟨o,_,_,_,e,_⟩:=x;exact jm e
 | ins C dx fs=>obtain⟨_,_,_,e,_⟩:=x;exact jm e
 | own y=>obtain⟨_,e⟩:=x;exact jm e
 | xd fs=>obtain⟨_,⟨_,_,_,e,_⟩,_⟩:=x;exact jm e
 | rng lo hi=>obtain⟨_,_,_,e⟩:=x;exact jm e
 | frz ob u=>obtain⟨e,_⟩:=x;exact jm e
 | tbl ps=>exact jm (show h.get? a=Ga _ from x)
 | met f y=>exact jm (show h.get? a=Ga _ from x)
 | ext φ=>obtain⟨_,⟨_,e⟩,_⟩:=x;exact jm e
theorem Paired.mapP {α β:Type}{F G:α->β->Prop}:∀ {l₁:List α} {l₂:List β},Paired F l₁ l₂->(∀ a b,F a b->G a b)->Paired G l₁ l₂
 | _,_,.nil,_=>.nil
 | _,_,.cons r t,f=>.cons (f _ _ r) (Paired.mapP t f)
theorem ObjOk.stay (x:ObjOk P w H h a o)(k:∀ b u,(b=a\/H b=Ga (.own a))->h.get? b=Ga u->h'.get? b=Ga u)
  (ho:∀ b,H b=Ga (.own a)->H' b=Ga (.own a)) (ht:∀ b xs,H b=Ga (.tup xs)->H' b=Ga (.tup xs)):ObjOk P w H' h' a o:=by
 induction o with
 | lst xs=>obtain⟨z,its,n,r,e⟩:=x;exact⟨z,its,n,r,k _ _ (.inl rfl) e⟩
 | tup xs=>obtain⟨z,its,r,ob,e,c⟩:=x;exact⟨z,its,r,ob,k _ _ (.inl rfl) e,c⟩
 | dK kvs=>obtain⟨z,y,vs,r,ob,es,ep,e,c⟩:=x;exact⟨z,y,vs,r,ob,es,ep,k _ _ (.inl rfl) e,c⟩
 | dT kvs =>
  obtain⟨z,y,xs,r,ob,es,ep,e,c⟩:=x;exact⟨z,y,xs,Paired.mapP r λp q z=>⟨z.1,ht _ _ z.2.1,z.2.2⟩,ob,es,ep,k _ _ (.inl rfl) e,c⟩
 | set S n=>obtain⟨ob,es,ep,t,e,c⟩:=x;exact⟨ob,es,ep,t,k _ _ (.inl rfl) e,c⟩
 | ins C dx fs =>
  obtain⟨d,z,ne,e,mA,⟨od,es,ep,e2,c⟩,r⟩:=x;exact⟨ho _ d,z,ne,k _ _ (.inl rfl) e,mA,⟨od,es,ep,k _ _ (.inr d) e2,c⟩,r⟩
 | own y=>obtain⟨ob,e⟩:=x;exact⟨ob,k _ _ (.inl rfl) e⟩
 | xd fs=>obtain⟨mA,⟨od,es,ep,e,c⟩,r⟩:=x;exact⟨mA,⟨od,es,ep,k _ _ (.inl rfl) e,c⟩,r⟩
 | rng lo hi=>obtain⟨t,u,v,e⟩:=x;exact⟨t,u,v,k _ _ (.inl rfl) e⟩
 | frz ob u ih=>obtain⟨e,q⟩:=x;exact⟨k _ _ (.inl rfl) e,ih q⟩
 | tbl ps =>
  have e:h.get? a=Ga { cls:=.none,data:=.fields ps }:=x;show h'.get? a=Ga { cls:=.none,data:=.fields ps };exact k a _ (.inl rfl) e
 | met f y =>
  have e:h.get? a=Ga (vW (.ref f) (.ref y)):=x;show h'.get? a=Ga (vW (.ref f) (.ref y));exact k a _ (.inl rfl) e
 | ext φ=>obtain⟨p,⟨o,e⟩,st⟩:=x;exact⟨st _ _ p λo q=>k _ _ (.inl rfl) q,⟨o,k _ _ (.inl rfl) e⟩,st⟩
theorem HOk.lt (x:HOk P w H h)(e:H a=Ga o):a<h.objs.size:=(x a o e).lt
theorem HOk.fresh (x:HOk P w H h)(e:h.objs.size<=a):H a=Gb:=by
 cases q:H a with
 | none=>rfl
 | some u=>exact absurd (jq (x.lt q) e) (jP _)
theorem HOk.kept (x:HOk P w H h)(k:∀ b u,h.get? b=Ga u->h'.get? b=Ga u):HOk P w H h':=λa o e =>
 (x a o e).stay (λb u _ q=>k b u q) (λ_ q=>q) λ_ _ q=>q
theorem HOk.laid (x:HOk P w H h)(k:∀ b u,h.get? b=Ga u->h'.get? b=Ga u)(hp:h.objs.size<=a)(new:ObjOk P w (upd H a o) h' a o):HOk P w (upd H a o) h':=λb u e=>by
 have hn:=x.fresh hp;by_cases hb:b=a
 .subst hb;rw[upd_same] at e;cases e;exact new
 .rw[upd_ne hb] at e;exact(x b u e).stay (λc v _ q=>k c v q) (λc q=>by rw[upd_ne (ne_of_none q hn)];exact q) λc xs q=>by rw[upd_ne (ne_of_none q hn)];exact q
end
def Rd (H:Hp)(a:Gj)(u:HO):Prop:=H a=Ga u\/∃ o,H a=Ga (.frz o u)
theorem Rd.of {H:Hp}{a:Gj}{u:HO}(h:H a=Ga u):Rd H a u:=.inl h
theorem Rd.ok {P:Program}{w:World}{H:Hp}{h:Heap}{a:Gj}{u:HO}(r:Rd H a u)(x:HOk P w H h):ObjOk P w H h a u:=by
 rcases r with r|⟨o,r⟩
 .exact x a u r
 .obtain⟨_,q⟩:=x a _ r;exact q
def Mut:Option HO->Prop
 | some (.lst _)=>True
 | some (.dK _)=>True
 | some (.dT _)=>True
 | some (.set _ _)=>True
 | some (.ins _ _ _)=>True
 | some (.ext _)=>True
 | _=>False
section
variable {P:Program}{w:World}{H:Hp}{h h':Heap}{x e:Gj}{o':HO}
theorem HOk.write (ok:HOk P w H h)(mu:Mut (H x))(he:e=x\/H e=Ga (.own x))(k:∀ b u,b≠e->h.get? b=Ga u->h'.get? b=Ga u)(heo:∃ u,h'.get? e=Ga u)
  (new:ObjOk P w (upd H x o') h' x o'):HOk P w (upd H x o') h':=λb u q=>by
 have nown:∀ c y,H c=Ga (.own y)->c≠x:=λc y r z=>by subst z;rw[r] at mu;exact mu
 have ntup:∀ c xs,H c=Ga (.tup xs)->c≠x:=λc xs r z=>by subst z;rw[r] at mu;exact mu
 by_cases hb:b=x
 .subst hb;rw[upd_same] at q;cases q;exact new
 .rw[upd_ne hb] at q;by_cases hbe:b=e
  .have q':H b=Ga (.own x):=by
    rcases he with z|z
    .exact absurd (hbe.trans z) hb
    .rw[hbe];exact z
   rw[q] at q';cases q';obtain⟨v,hv⟩:=heo;exact⟨v,by rw[hbe];exact hv⟩
  .refine(ok b u q).stay (λc v hc r=>k c v ?_ r) (λc r=>by rw[upd_ne (nown c b r)];exact r) λc xs r=>by rw[upd_ne (ntup c xs r)];exact r
   rcases hc with rfl|hc
   .exact hbe
   .rintro rfl;rcases he with z|z
    .exact nown c b hc z
    .rw[hc] at z;cases z;exact hb rfl
end
structure Un (fs ex:List Gj)(H H':Hp)(h h':Heap):Prop where
 keep:∀ b o,h.get? b=Ga o->H b=Gb->b∉fs->b∉ex->h'.get? b=Ga o
 slot:∀ b o,h.get? b=Ga o->H b=Gb->b∈fs->b∉ex->∃ sl,h'.get? b=Ga { o with slots:=sl }
 free:∀ b o,h.get? b=Ga o->H b=Gb->b∉ex->H' b=Gb
 there:∀ b o,h.get? b=Ga o->b∉ex->∃ o',h'.get? b=Ga o'
 tups:∀ b xs,H b=Ga (.tup xs)->H' b=Ga (.tup xs)
 frzs:∀ b o u,H b=Ga (.frz o u)->H' b=Ga (.frz o u)
 tbls:∀ b ps,H b=Ga (.tbl ps)->∃ more,H' b=Ga (.tbl (ps++more))
section
variable {fs fs' ex ex':List Gj}{H H1 H2:Hp}{h h1 h2 h':Heap}{a x e:Gj}{o:HO}
theorem Un.any (u:Un fs ex H H1 h h1){b:Gj}{ob:Obj}(q:h.get? b=Ga ob)(n:H b=Gb)(hx:b∉ex):∃ sl,h1.get? b=Ga { ob with slots:=sl }:=by
 by_cases hb:b∈fs
 .exact u.slot b ob q n hb hx
 .exact⟨ob.slots,u.keep b ob q n hb hx⟩
theorem Un.trans (a:Un fs ex H H1 h h1)(b:Un fs ex H1 H2 h1 h2):Un fs ex H H2 h h2 where
 keep:=λc ob q n hc hx=>b.keep c ob (a.keep c ob q n hc hx) (a.free c ob q n hx) hc hx
 slot:=λc ob q n hc hx=>by
  obtain⟨sl,e1⟩:=a.slot c ob q n hc hx;obtain⟨sl',e2⟩:=b.slot c _ e1 (a.free c ob q n hx) hc hx;exact⟨sl',e2⟩
 free:=λc ob q n hx=>by
  obtain⟨o',e1⟩:=a.there c ob q hx;exact b.free c o' e1 (a.free c ob q n hx) hx
 there:=λc ob q hx=>by
  obtain⟨o',e1⟩:=a.there c ob q hx;exact b.there c o' e1 hx
 tups:=λc xs q=>b.tups c xs (a.tups c xs q)
 frzs:=λc ob xs q=>b.frzs c ob xs (a.frzs c ob xs q)
 tbls:=λc ps q=>by
  obtain⟨m1,e1⟩:=a.tbls c ps q;obtain⟨m2,e2⟩:=b.tbls c _ e1;exact⟨m1++m2,by rw[e2,qY]⟩
theorem Un.kept (k:∀ b u,h.get? b=Ga u->h'.get? b=Ga u):Un fs ex H H h h' :=
 ⟨λb ob q _ _ _=>k b ob q,λb ob q _ _ _=>⟨ob.slots,k b ob q⟩,λ_ _ _ n _=>n,λb ob q _=>⟨ob,k b ob q⟩,λ_ _ q=>q,λ_ _ _ q=>q,λ_ ps q=>⟨#[],by rw[q];simp⟩⟩
theorem Un.refl:Un fs ex H H h h:=Un.kept λ_ _ q=>q
theorem Un.laid (k:∀ b u,h.get? b=Ga u->h'.get? b=Ga u)(hp:h.objs.size<=a)(hn:H a=Gb):Un fs ex H (upd H a o) h h' where
 keep:=λb u q _ _ _=>k b u q
 slot:=λb u q _ _ _=>⟨u.slots,k b u q⟩
 free:=λb u q n _=>by rw[upd_ne (jK (jq (jm q) hp))];exact n
 there:=λb u q _=>⟨u,k b u q⟩
 tups:=λb xs q=>by rw[upd_ne (ne_of_none q hn)];exact q
 frzs:=λb u xs q=>by rw[upd_ne (ne_of_none q hn)];exact q
 tbls:=λb ps q=>⟨#[],by rw[upd_ne (ne_of_none q hn),q];simp⟩
theorem Un.write (mu:Mut (H x))(he:e=x\/H e=Ga (.own x))(k:∀ b u,b≠e->h.get? b=Ga u->h'.get? b=Ga u)(heo:∃ u,h'.get? e=Ga u):Un fs ex H (upd H x o) h h':=by
 have hx:∀ b,H b=Gb->b≠x:=λb n z=>by subst z;rw[n] at mu;exact mu
 have hb:∀ b,H b=Gb->b≠e:=λb n z=>by
  subst z;rcases he with r|r
  .exact hx b n r
  .rw[n] at r;cases r
 have hm:∀ b u,H b=Ga u->¬Mut (Ga u)->b≠x:=λb u q nm z=>by subst z;rw[q] at mu;exact nm mu
 refine⟨λb u q n _ _=>k b u (hb b n) q,λb u q n _ _=>⟨u.slots,k b u (hb b n) q⟩,λb u q n _=>by rw[upd_ne (hx b n)];exact n,λb u q _=>?_,
  λb xs q=>by rw[upd_ne (hm b _ q λz=>z)];exact q,λb u xs q=>by rw[upd_ne (hm b _ q λz=>z)];exact q,λb ps q=>⟨#[],by rw[upd_ne (hm b _ q λz=>z),q];simp⟩⟩
 by_cases hbe:b=e
 .subst hbe;exact heo
 .exact⟨u,k b u hbe q⟩
theorem Un.mono (u:Un fs ex H H1 h h1)(hs:∀ b∈fs,b∈fs')(hx:∀ b∈ex,b∈ex'):Un fs' ex' H H1 h h1 :=
 ⟨λb ob q n hb he=>u.keep b ob q n (λz=>hb (hs b z)) λz=>he (hx b z),λ_ _ q n _ he=>u.any q n λz=>he (hx _ z),λb ob q n he=>u.free b ob q n λz=>he (hx b z),λb ob q he=>u.there b ob q λz=>he (hx b z),u.tups,u.frzs,u.tbls⟩
end
def trk (h:Heap)(H:Hp):List Gj:=(jf h.objs.size).filter λa=>(H a).isSome
def hidT (h:Heap)(H:Hp):Heap:=PySem.W.hideAll h (trk h H)
theorem hidT_size (h:Heap)(H:Hp):(hidT h H).objs.size=h.objs.size:=PySem.W.hideAll_size _ _
theorem hidT_get {h:Heap}{H:Hp}{b:Gj}{o:Obj}(e:h.get? b=Ga o)(n:H b=Gb):(hidT h H).get? b=Ga o :=
 PySem.W.hideAll_get _ e λhm=>by
  have q:(H b).isSome=true:=(jD.mp hm).2;rw[n] at q;simp at q
theorem of_hidT {h:Heap}{H:Hp}{b:Gj}{o:Obj}(e:(hidT h H).get? b=Ga o):h.get? b=Ga o/\H b=Gb:=by
 have e':h.get? b=Ga o:=PySem.W.of_hideAll (trk h H) e;refine⟨e',?_⟩;cases q:H b with
 | none=>rfl
 | some x =>
  have hm:b∈trk h H:=jD.mpr ⟨jp.mpr (jm e'),by simp[q]⟩;have z:(hidT h H).get? b=Gb:=PySem.W.hideAll_none (trk h H) hm;rw[z] at e;cases e
def allNews (g h:Heap)(L:Gj):List (Gj×Obj):=(jf h.objs.size).filterMap λa=>if a=L\/(g.get? a).isSome=true then Gb else(h.get? a).map λo=>(a,o)
def rest (g h:Heap)(L d:Gj):List (Gj×Obj):=(allNews g h L).filter λp=>decide (p.1≠d)
end L2
namespace L2
open PySem PySem.Spec PyProof.Rows
structure Mod (K:ja)(mg:Str->Option Gg)(base:Heap):Prop where
 kin:K.In base
 glob:base.Ns mainGlobals mg
 blt:∃ mb,base.Ns builtinsNs mb/\∀ x:Str,x≠"__name__"->mb x=bootBuiltins x
 nolimit:base.NoLimit
structure Cx where
 prog:Program
 w:World
 K:ja
 mg:Str->Option Gg
 base:Heap
 A:Around
 N:List Str
 s₀:Gh
 H₀:Hp
 env:Env
 outer:List Env
 stack:List Env
 ex:List Gj
 fn:Str->Bool
 calm:Bool
 pn:List (Gj×Obj)
 xe:Gg->Gh->Prop
def frs (l:List Env):List Gj:=l.filterMap (·.frame)
abbrev Cx.fs (X:Cx):List Gj:=frs X.outer
def Vis (sc:Scope)(x:Str):Prop:=sc.names.lookup x=Ga .local\/sc.names.lookup x=Ga .cell\/sc.names.lookup x=Ga .free
def Loc (sc:Scope)(x:Str):Prop:=sc.names.lookup x=Ga .local\/sc.names.lookup x=Ga .cell
def Look (ψ:Env)(h:Heap)(m:Str->Option Gg)(x:Str)(u:Gg):Prop :=
 (ψ.kindOf x=Ga .local/\m x=Ga u)\/((ψ.kindOf x=Ga .cell\/ψ.kindOf x=Ga .free)/\∃ c,ψ.cells.lookup x=Ga c/\h.IsCell c (Ga u))
structure Cx.Ok (X:Cx):Prop where
 mod:Mod X.K X.mg X.base
 kind:X.env.scope.kind=.function
 glob:X.env.globals=mainGlobals
 blt:X.env.builtins=builtinsNs
 above:X.s₀.heap.objs.size<=X.env.locals
 inj:∀ x y c,X.env.cells.lookup x=Ga c->X.env.cells.lookup y=Ga c->x=y
 has:∀ x,(X.env.kindOf x=Ga .cell\/X.env.kindOf x=Ga .free)->∃ c,X.env.cells.lookup x=Ga c
 cab:∀ x c,X.fn x=true->X.env.cells.lookup x=Ga c->X.s₀.heap.objs.size<=c
 hd:X.calm=true->X.A.handled=Gb
 frames:X.A.frames=Ga X.stack
 stk:X.stack=X.outer\/(X.stack=X.env::X.outer/\X.env.frame=Ga X.env.locals)
 exf:∀ b∈X.ex,b≠X.env.locals/\∀ x c,X.env.cells.lookup x=Ga c->c≠b
 bs:∀ b o,X.base.get? b=Ga o->X.s₀.heap.get? b=Ga o/\X.H₀ b=Gb
 bsz:X.base.objs.size<=X.s₀.heap.objs.size
 noex:∀ b o,X.base.get? b=Ga o->b∉X.ex
 exfs:∀ b∈X.ex,b∉X.fs
 funs:X.s₀.heap.FunFrames X.base X.outer
 frf:∀ b∈X.fs,X.H₀ b=Gb
structure Inv (X:Cx)(ω:List (Gj×Obj))(σ:List (Option V))(H:Hp)(s:Gh):Prop where
 ok:X.Ok
 os:s.os=X.s₀.os
 bare:AllBare s.gens
 base:Un X.fs X.ex X.H₀ H X.s₀.heap s.heap
 loc:∃ m,s.heap.Ns X.env.locals m/\∀ (i:Nat) (x:Str) (v:V),X.N[i]?=Ga x->σ[i]?=Ga (Ga v)->Vis X.env.scope x->∃ u,RelV v u/\Look X.env s.heap m x u
 cell:∀ x c,X.env.cells.lookup x=Ga c->∃ v,s.heap.IsCell c v
 free:H X.env.locals=Gb
 freeC:∀ x c,X.env.cells.lookup x=Ga c->H c=Gb
 pin:∀ p∈X.pn++ω,s.heap.get? p.1=Ga p.2/\H p.1=Gb/\p.1≠X.env.locals/\p.1∉X.fs/\∀ v,p.2.data≠.cell v
 hok:HOk X.prog X.w H s.heap
 len:σ.length=X.N.length
section
variable {X:Cx}{ω:List (Gj×Obj)}{σ:List (Option V)}{H H':Hp}{s:Gh}{h':Heap}
theorem Cx.Ok.nofr (ok:X.Ok){b:Gj}{o:Obj}(e:X.base.get? b=Ga o):b∉X.fs:=λhb=>by
 have:=(ok.funs.mem hb).1;rw[e] at this;cases this
theorem Inv.bs (I:Inv X ω σ H s):∀ b o,X.base.get? b=Ga o->s.heap.get? b=Ga o/\H b=Gb:=λb o e =>
 ⟨I.base.keep b o (I.ok.bs b o e).1 (I.ok.bs b o e).2 (I.ok.nofr e) (I.ok.noex b o e),I.base.free b o (I.ok.bs b o e).1 (I.ok.bs b o e).2 (I.ok.noex b o e)⟩
theorem Inv.bk (I:Inv X ω σ H s):∀ b o,X.base.get? b=Ga o->s.heap.get? b=Ga o:=λb o e=>(I.bs b o e).1
theorem Inv.mod (I:Inv X ω σ H s):Mod X.K X.mg X.base:=I.ok.mod
theorem Inv.kIn (I:Inv X ω σ H s):X.K.In s.heap:=I.ok.mod.kin.keeps I.bk
theorem Inv.nolimit (I:Inv X ω σ H s):s.heap.NoLimit:=I.ok.mod.nolimit.keeps I.bk
theorem Inv.fr (I:Inv X ω σ H s):∃ m,Fr X.base X.env.locals s.heap m :=
 let ⟨m,hn,_⟩:=I.loc
 ⟨m,hn,I.bk,jn I.ok.bsz I.ok.above⟩
theorem Inv.lt (I:Inv X ω σ H s):X.env.locals<s.heap.objs.size:=let ⟨_,hn,_⟩:=I.loc;hn.lt
theorem Inv.sz (I:Inv X ω σ H s):X.s₀.heap.objs.size<=s.heap.objs.size:=jn I.ok.above (uz I.lt)
theorem Inv.nofs (I:Inv X ω σ H s){a:Gj}(h:s.heap.objs.size<=a):a∉X.fs:=λhb=>by
 obtain⟨_,o,ho,_⟩:=I.ok.funs.mem hb;exact absurd (jq (jm ho) (jn I.sz h)) (jP _)
theorem Inv.cne (I:Inv X ω σ H s):∀ x c,X.env.cells.lookup x=Ga c->c≠X.env.locals:=λx c e z=>by
 obtain⟨v,o,ho,hd⟩:=I.cell x c e;obtain⟨m,⟨o',es,ep,ho',hd',_⟩,_⟩:=I.loc;rw[z,ho'] at ho;cases ho;rw[hd'] at hd;cases hd
theorem Inv.funs (I:Inv X ω σ H s):s.heap.FunFrames X.base X.outer:=by
 have all:∀ (l:List Env),(∀ b∈frs l,b∈X.fs)->X.s₀.heap.FunFrames X.base l->s.heap.FunFrames X.base l:=by
  intro l;induction l with
  | nil=>intro _ _;trivial
  | cons ψ r ih =>
   intro hs hl;obtain⟨hk,⟨L,o,hf,hn,ho,hd⟩,hr⟩:=hl;have hL:L∈X.fs:=hs L (by unfold frs;rw[vI,hf];exact jg);obtain⟨sl,e⟩:=I.base.slot L o ho (I.ok.frf L hL) hL λz=>I.ok.exfs L z hL;exact⟨hk,⟨L,_,hf,hn,e,hd⟩,ih (λb hb=>hs b (by unfold frs;rw[vI,hf];exact je _ hb)) hr⟩
 exact all X.outer (λ_ hb=>hb) I.ok.funs
theorem Inv.stack (I:Inv X ω σ H s):s.heap.FunFrames X.base X.stack:=by
 rcases I.ok.stk with e|⟨e,hf⟩
 .rw[e];exact I.funs
 .rw[e];obtain⟨m,hn,_⟩:=I.loc;refine .cons (by rw[I.ok.kind];decide) hf hn ?_ I.funs;exact Heap.get?_none_of_le (jn I.ok.bsz I.ok.above)
theorem Inv.stkSub (I:Inv X ω σ H s):∀ b∈frs X.stack,b∈X.env.locals::X.fs:=λb hb=>by
 rcases I.ok.stk with e|⟨e,hf⟩
 .rw[e] at hb;exact je _ hb
 .rw[e] at hb;unfold frs at hb;rw[vI,hf] at hb;exact hb
theorem Inv.stkFree (I:Inv X ω σ H s):∀ b∈frs X.stack,H b=Gb:=λb hb=>by
 rcases jt.mp (I.stkSub b hb) with e|hb
 .rw[e];exact I.free
 .obtain⟨_,o,ho,_⟩:=I.ok.funs.mem hb;exact I.base.free b o ho (I.ok.frf b hb) λz=>I.ok.exfs b z hb
theorem Inv.step {g':Array GenState}{t':Nat}{d':Drawn}{ch:List Gj}(I:Inv X ω σ H s)
  (hch:∀ b∈ch,(b∈X.ex\/X.s₀.heap.objs.size<=b)/\b≠X.env.locals/\(∀ x c,X.env.cells.lookup x=Ga c->c≠b)/\∀ p∈X.pn++ω,p.1≠b)
  (keep:∀ b o,b≠X.env.locals->b∉X.fs->b∉ch->s.heap.get? b=Ga o->H b=Gb->h'.get? b=Ga o)
  (slot:∀ b o,b≠X.env.locals->b∈X.fs->b∉ch->s.heap.get? b=Ga o->H b=Gb->∃ sl,h'.get? b=Ga { o with slots:=sl }) (free:∀ b o,b∉ch->s.heap.get? b=Ga o->H b=Gb->H' b=Gb)
  (there:∀ b o,b∉ch->s.heap.get? b=Ga o->∃ o',h'.get? b=Ga o')
  (tups:∀ b xs,H b=Ga (.tup xs)->H' b=Ga (.tup xs)) (frzs:∀ b o u,H b=Ga (.frz o u)->H' b=Ga (.frz o u)) (tbls:∀ b ps,H b=Ga (.tbl ps)->∃ more,H' b=Ga (.tbl (ps++more)))
  (ns:∀ m,s.heap.Ns X.env.locals m->h'.Ns X.env.locals m) (hok:HOk X.prog X.w H' h') (hg:AllBare g') :
  Inv X ω σ H' { s with heap:=h',gens:=g',drawn:=d',toks:=t' }:=by
 have neL:∀ b o,X.s₀.heap.get? b=Ga o->b≠X.env.locals:=λb o e=>jK (jq (jm e) I.ok.above);have neC:∀ b o,X.s₀.heap.get? b=Ga o->b∉X.ex->b∉ch:=λb o e hx hb=>by
  rcases(hch b hb).1 with z|z
  .exact hx z
  .exact absurd (jq (jm e) z) (jP _)
 have cellK:∀ x c,X.env.cells.lookup x=Ga c->∀ v,s.heap.IsCell c v->h'.IsCell c v:=λx c e v ⟨o,ho,hd⟩=>by
  have nch:c∉ch:=λz=>(hch c z).2.2.1 x c e rfl;by_cases hc:c∈X.fs
  .obtain⟨sl,q⟩:=slot c o (I.cne x c e) hc nch ho (I.freeC x c e);exact⟨_,q,hd⟩
  .exact⟨o,keep c o (I.cne x c e) hc nch ho (I.freeC x c e),hd⟩
 refine⟨I.ok,I.os,hg,⟨λb o e n hb hx=>?_,λb o e n hb hx=>?_,λb o e n hx=>?_,λb o e hx=>?_,λb xs e=>tups b xs (I.base.tups b xs e),λb o xs e=>frzs b o xs (I.base.frzs b o xs e),λb ps e=>?_⟩,?_,λx c e=>?_,?_,λx c e=>?_,λp hp=>?_,hok,I.len⟩
 .exact keep b o (neL b o e) hb (neC b o e hx) (I.base.keep b o e n hb hx) (I.base.free b o e n hx)
 .obtain⟨sl,e1⟩:=I.base.slot b o e n hb hx;obtain⟨sl',e2⟩:=slot b _ (neL b o e) hb (neC b o e hx) e1 (I.base.free b o e n hx);exact⟨sl',e2⟩
 .obtain⟨o',e1⟩:=I.base.there b o e hx;exact free b o' (neC b o e hx) e1 (I.base.free b o e n hx)
 .obtain⟨o',e1⟩:=I.base.there b o e hx;exact there b o' (neC b o e hx) e1
 .obtain⟨m1,e1⟩:=I.base.tbls b ps e;obtain⟨m2,e2⟩:=tbls b _ e1;exact⟨m1++m2,by rw[e2,qY]⟩
 .obtain⟨m,hn,hl⟩:=I.loc;refine⟨m,ns m hn,λi x v e1 e2 e3=>?_⟩;obtain⟨u,r,l⟩:=hl i x v e1 e2 e3;refine⟨u,r,?_⟩;rcases l with l|⟨k,c,e,z⟩
  .exact .inl l
  .exact .inr ⟨k,c,e,cellK x c e _ z⟩
 .obtain⟨v,z⟩:=I.cell x c e;exact⟨v,cellK x c e v z⟩
 .obtain⟨m,⟨o,_,_,ho,_⟩,_⟩:=I.loc;exact free _ o (λz=>(hch _ z).2.1 rfl) ho I.free
 .obtain⟨v,o,ho,hd⟩:=I.cell x c e;exact free c o (λz=>(hch c z).2.2.1 x c e rfl) ho (I.freeC x c e)
 .obtain⟨e,n,ne,nf,d⟩:=I.pin p hp;have nch:p.1∉ch:=λz=>(hch p.1 z).2.2.2 p hp rfl;exact⟨keep p.1 p.2 ne nf nch e n,free p.1 p.2 nch e n,ne,nf,d⟩
theorem Inv.un {t':Nat}(I:Inv X ω σ H s)(u:Un X.fs [] H H' s.heap h')(hok:HOk X.prog X.w H' h'):Inv X ω σ H' { s with heap:=h',toks:=t' }:=by
 obtain⟨m,⟨o,es,ep,ho,r⟩,_⟩:=id I.loc;obtain⟨sl,hL⟩:=u.any ho I.free (by simp);exact I.step (g':=s.gens) (d':=s.drawn) (ch:=[]) (λ_ z=>nomatch z) (λb o _ hb _ e n=>u.keep b o e n hb (by simp)) (λb o _ hb _ e n=>u.slot b o e n hb (by simp)) (λb o _ e n=>u.free b o e n (by simp)) (λb o _ e=>u.there b o e (by simp)) u.tups u.frzs u.tbls (λm' hm=>by
  obtain⟨o',es',ep',ho',r'⟩:=hm;rw[ho] at ho';cases ho';exact⟨_,es',ep',hL,r'⟩) hok I.bare
theorem Inv.call {g':Array GenState}{t':Nat}{d':Drawn}{ch:List Gj}(I:Inv X ω σ H s)(u:Un (frs X.stack) ch H H' s.heap h')(hok:HOk X.prog X.w H' h')(hg:AllBare g')
  (hch:∀ b∈ch,(b∈X.ex\/X.s₀.heap.objs.size<=b)/\b≠X.env.locals/\(∀ x c,X.env.cells.lookup x=Ga c->c≠b)/\∀ p∈X.pn++ω,p.1≠b) :
  Inv X ω σ H' { s with heap:=h',gens:=g',drawn:=d',toks:=t' }:=by
 obtain⟨m,⟨o,es,ep,ho,r⟩,_⟩:=id I.loc;obtain⟨sl,hL⟩:=u.any ho I.free λz=>(hch _ z).2.1 rfl;exact I.step (ch:=ch) hch (λb o hL hb hc e n=>u.keep b o e n (λz=>(jt.mp (I.stkSub b z)).elim hL hb) hc) (λb o _ _ hc e n=>u.any e n hc) (λb o hc e n=>u.free b o e n hc) (λb o hc e=>u.there b o e hc) u.tups u.frzs u.tbls (λm' hm=>by
  obtain⟨o',es',ep',ho',r'⟩:=hm;rw[ho] at ho';cases ho';exact⟨_,es',ep',hL,r'⟩) hok hg
theorem Inv.turned {t':Nat}{it:Gj}(I:Inv X ω σ H s)(k:∀ b o,b≠it->s.heap.get? b=Ga o->h'.get? b=Ga o)(hn:H it=Gb)(hL:it≠X.env.locals)
  (h1:it∈X.ex\/X.s₀.heap.objs.size<=it) (h2:∀ x c,X.env.cells.lookup x=Ga c->c≠it) (h3:∀ p∈X.pn++ω,p.1≠it):Inv X ω σ H { s with heap:=h',toks:=t' }:=by
 have nit:∀ b u,H b=Ga u->b≠it:=λb u e z=>by rw[z,hn] at e;cases e
 refine I.step (g':=s.gens) (d':=s.drawn) (ch:=[it]) (λb hb=>?_) (λb o _ _ hc e _=>k b o (λz=>hc (by simp[z])) e) (λb o _ _ hc e _=>⟨o.slots,k b o (λz=>hc (by simp[z])) e⟩) (λ_ _ _ _ n=>n)
  (λb o hc e=>⟨o,k b o (λz=>hc (by simp[z])) e⟩) (λ_ _ e=>e) (λ_ _ _ e=>e) (λb ps e=>⟨#[],by rw[e];simp⟩) (λm hm=>?_) (λb u e=>?_) I.bare
 .have e:b=it:=by simpa using hb
  subst e;exact⟨h1,hL,h2,h3⟩
 .obtain⟨o,es,ep,ho,r⟩:=hm;exact⟨o,es,ep,k _ o (kX hL) ho,r⟩
 .refine(I.hok b u e).stay (λc v hc q=>k c v ?_ q) (λ_ q=>q) λ_ _ q=>q;rcases hc with z|z
  .rw[z];exact nit b u e
  .exact nit c _ z
theorem Inv.tok (I:Inv X ω σ H s)(t:Nat):Inv X ω σ H { s with toks:=t }:=I.un (h':=s.heap) (t':=t) Un.refl I.hok
theorem Inv.kept {t':Nat}(I:Inv X ω σ H s)(k:∀ b u,s.heap.get? b=Ga u->h'.get? b=Ga u):Inv X ω σ H { s with heap:=h',toks:=t' }:=I.un (Un.kept k) (I.hok.kept k)
theorem Inv.laid {a:Gj}{o:HO}{t':Nat}(I:Inv X ω σ H s)(k:∀ b u,s.heap.get? b=Ga u->h'.get? b=Ga u)(hp:s.heap.objs.size<=a)(new:ObjOk X.prog X.w (upd H a o) h' a o) :
  Inv X ω σ (upd H a o) { s with heap:=h',toks:=t' }:=I.un (Un.laid k hp (I.hok.fresh hp)) (I.hok.laid k hp new)
theorem Inv.write {x e:Gj}{o:HO}{t':Nat}(I:Inv X ω σ H s)(mu:Mut (H x))(he:e=x\/H e=Ga (.own x))(k:∀ b u,b≠e->s.heap.get? b=Ga u->h'.get? b=Ga u)(heo:∃ u,h'.get? e=Ga u)
  (new:ObjOk X.prog X.w (upd H x o) h' x o):Inv X ω σ (upd H x o) { s with heap:=h',toks:=t' }:=I.un (Un.write mu he k heo) (I.hok.write mu he k heo new)
theorem Inv.pins_of {pins':List (Gj×Obj)}(I:Inv X ω σ H s)(h:∀ p∈pins',s.heap.get? p.1=Ga p.2/\H p.1=Gb/\p.1≠X.env.locals/\p.1∉X.fs/\∀ v,p.2.data≠.cell v):Inv X pins' σ H s :=
 ⟨I.ok,I.os,I.bare,I.base,I.loc,I.cell,I.free,I.freeC,λp hp=>(jM.mp hp).elim (λz=>I.pin p (qG _ z)) (h p),I.hok,I.len⟩
theorem nodup_ix {N:List Str}(hN:N.Nodup){i j:Nat}{x:Str}(a:N[i]?=Ga x)(b:N[j]?=Ga x):i=j:=by
 obtain⟨h1,e1⟩:=ji.mp a;obtain⟨h2,e2⟩:=ji.mp b;exact(Jm hN).mp (e1.trans e2.symm)
theorem store_ok2 {M:Model}{A:Around}{E:Gg->Gh->Prop}{i:Nat}{x:Str}{v:V}{u:Gg}{Q:Unit->Gh->Prop}(I:Inv X ω σ H s)(hN:X.N.Nodup)(hi:X.N[i]?=Ga x)(hx:Loc X.env.scope x)(r:RelV v u)
  (h:∀ s',Inv X ω (σ.set i (Ga v)) H s'->(∃ a,qi a s.heap s'.heap/\(a=X.env.locals\/X.env.cells.lookup x=Ga a))->Q () s') (hf:X.fn x=true\/X.env.scope.names.lookup x=Ga .local:=by first|exact .inl rfl|exact .inr rfl|assumption):wpAny M A (storeName X.env x u) Q E s:=by
 obtain⟨m,hn,hl⟩:=id I.loc;have hcls:(X.env.scope.kind==.class||(X.env.scope.kind==.module&&X.env.locals !=X.env.globals))=false:=by rw[I.ok.kind];rfl
 have hiσ:i<σ.length:=by rw[I.len];exact(ji.mp hi).1
 have cne:=I.cne;have tracked:∀ {a:Gj} {h':Heap},(∃ o,s.heap.get? a=Ga o/\H a=Gb)->qi a s.heap h'->HOk X.prog X.w H h':=λ{a h'} ha hs b ob e=>by
  obtain⟨_,_,hfree⟩:=ha;refine(I.hok b ob e).stay (λc w' hc q=>(hs.2 c ?_).trans q) (λ_ q=>q) λ_ _ q=>q;rintro rfl;rcases hc with rfl|hc
  .rw[hfree] at e;cases e
  .rw[hfree] at hc;cases hc
 rcases hx with hk|hk
 .refine wpAny_storeName_local hk hn (λh' hn' hs=>?_) hcls;obtain⟨oL,_,_,hoL,_⟩:=id hn;refine h _ ⟨I.ok,I.os,I.bare,⟨λb o e n hb hx=>?_,λb o e n hb hx=>?_,I.base.free,λb o e hx=>?_,I.base.tups,I.base.frzs,I.base.tbls⟩,⟨_,hn',λj y v' e1 e2 e3=>?_⟩,λy c e=>?_,I.free,I.freeC,λp hp=>?_,tracked ⟨oL,hoL,I.free⟩ hs,by simpa using I.len⟩ ⟨_,hs,.inl rfl⟩
  .exact(hs.2 b (jK (jq (jm e) I.ok.above))).trans (I.base.keep b o e n hb hx)
  .obtain⟨sl,e1⟩:=I.base.slot b o e n hb hx;exact⟨sl,(hs.2 b (jK (jq (jm e) I.ok.above))).trans e1⟩
  .obtain⟨o',e1⟩:=I.base.there b o e hx;exact⟨o',(hs.2 b (jK (jq (jm e) I.ok.above))).trans e1⟩
  .by_cases hj:j=i
   .subst hj;rw[hi] at e1;cases e1;rw[jH hiσ] at e2;cases e2;exact⟨u,r,.inl ⟨hk,by simp⟩⟩
   .rw[jC (kX hj)] at e2;obtain⟨u',r',q⟩:=hl j y v' e1 e2 e3;refine⟨u',r',?_⟩;rcases q with ⟨k,e⟩|⟨k,c,e,z⟩
    .refine .inl ⟨k,?_⟩;have:y≠x:=λe=>hj (nodup_ix hN e1 (e▸hi));simp[this,e]
    .exact .inr ⟨k,c,e,z.sameBut hs (cne y c e)⟩
  .obtain⟨w',z⟩:=I.cell y c e;exact⟨w',z.sameBut hs (cne y c e)⟩
  .obtain⟨e,n,ne,nf,d⟩:=I.pin p hp;exact⟨(hs.2 p.1 ne).trans e,n,ne,nf,d⟩
 .have hfn:X.fn x=true:=by
   rcases hf with z|z
   .exact z
   .rw[z] at hk;cases hk
  obtain⟨c,hc⟩:=I.ok.has x (.inl hk);obtain⟨w',z⟩:=I.cell x c hc;refine wpAny_storeName_cell I.ok.kind hk hc z (λh' hc' hs=>?_);obtain⟨oc,hoc,hocd⟩:=id z;refine h { s with heap:=h' } ⟨I.ok,I.os,I.bare,⟨λb o e n hb hx=>?_,λb o e n hb hx=>?_,I.base.free,λb o e hx=>?_,I.base.tups,I.base.frzs,I.base.tbls⟩,⟨m,hn.sameBut hs (kX (cne x c hc)),λj y v' e1 e2 e3=>?_⟩,λy c' e=>?_,I.free,I.freeC,λp hp=>?_,tracked ⟨oc,hoc,I.freeC x c hc⟩ hs,by simpa using I.len⟩ ⟨c,hs,.inr hc⟩
  .exact(hs.2 b (jK (jq (jm e) (I.ok.cab x c hfn hc)))).trans (I.base.keep b o e n hb hx)
  .obtain⟨sl,e1⟩:=I.base.slot b o e n hb hx;exact⟨sl,(hs.2 b (jK (jq (jm e) (I.ok.cab x c hfn hc)))).trans e1⟩
  .obtain⟨o',e1⟩:=I.base.there b o e hx;exact⟨o',(hs.2 b (jK (jq (jm e) (I.ok.cab x c hfn hc)))).trans e1⟩
  .by_cases hj:j=i
   .subst hj;rw[hi] at e1;cases e1;rw[jH hiσ] at e2;cases e2;exact⟨u,r,.inr ⟨.inl hk,c,hc,hc'⟩⟩
   .rw[jC (kX hj)] at e2;obtain⟨u',r',q⟩:=hl j y v' e1 e2 e3;refine⟨u',r',?_⟩;rcases q with q|⟨k,c',e,z'⟩
    .exact .inl q
    .refine .inr ⟨k,c',e,z'.sameBut hs ?_⟩;rintro rfl;exact hj (nodup_ix hN e1 (I.ok.inj _ _ _ e hc▸hi))
  .by_cases hcc:c'=c
   .subst hcc;exact⟨_,hc'⟩
   .obtain⟨w2,z2⟩:=I.cell y c' e;exact⟨w2,z2.sameBut hs hcc⟩
  .obtain⟨e,n,ne,nf,d⟩:=I.pin p hp;refine⟨(hs.2 p.1 ?_).trans e,n,ne,nf,d⟩;intro q;rw[q,hoc] at e;have q':oc=p.2:=jE e;exact d w' (by rw[<- q'];exact hocd)
theorem store_ok {M:Model}{A:Around}{E:Gg->Gh->Prop}{i:Nat}{x:Str}{v:V}{u:Gg}{Q:Unit->Gh->Prop}(I:Inv X ω σ H s)(hN:X.N.Nodup)(hi:X.N[i]?=Ga x)(hx:Loc X.env.scope x)(r:RelV v u)
  (h:∀ s',Inv X ω (σ.set i (Ga v)) H s'->Q () s') (hf:X.fn x=true\/X.env.scope.names.lookup x=Ga .local:=by first|exact .inl rfl|exact .inr rfl|assumption):wpAny M A (storeName X.env x u) Q E s :=
 store_ok2 I hN hi hx r (λs' I' _=>h s' I') hf
theorem Inv.call' {s':Gh}{ch:List Gj}(I:Inv X ω σ H s)(ho:s'.os=s.os)(u:Un (frs X.stack) ch H H' s.heap s'.heap)(hok:HOk X.prog X.w H' s'.heap)(hg:AllBare s'.gens)
  (hch:∀ b∈ch,(b∈X.ex\/X.s₀.heap.objs.size<=b)/\b≠X.env.locals/\(∀ x c,X.env.cells.lookup x=Ga c->c≠b)/\∀ p∈X.pn++ω,p.1≠b):Inv X ω σ H' s':=by
 obtain⟨h',g',d',t',o'⟩:=s';have e:o'=s.os:=ho;subst e;exact I.call (g':=g') (t':=t') (d':=d') u hok hg hch
end
abbrev XK:=Gg->Option Gj->Hp->Prop
abbrev St:=List (Option V)
abbrev VK:=V->Hp->Prop
abbrev TE:=St->Hp->VK->Prop
abbrev TT:=St->Hp->(Bool->Hp->Prop)->Prop
abbrev TA:=St->Hp->(List V->Hp->Prop)->Prop
structure Ends where
 nx:St->Hp->Prop
 rt:VK
 bk:St->Hp->Prop:=λ_ _=>False
 ct:St->Hp->Prop:=λ_ _=>False
abbrev TS:=Ends->St->Hp->Prop
def EP (X:Cx)(ω:List (Gj×Obj))(σ:St)(Q:VK)(u:Gg)(s':Gh):Prop:=∃ v H',Inv X ω σ H' s'/\RelV v u/\Q v H'
def TP (X:Cx)(ω:List (Gj×Obj))(σ:St)(Q:Bool->Hp->Prop)(b:Bool)(s':Gh):Prop:=∃ H',Inv X ω σ H' s'/\Q b H'
def AP (X:Cx)(ω:List (Gj×Obj))(σ:St)(Q:List V->Hp->Prop)(us:List Gg)(s':Gh):Prop:=∃ vs H',Inv X ω σ H' s'/\Vals vs us/\Q vs H'
def SP (X:Cx)(ω:List (Gj×Obj))(D:Ends)(f:Flow)(s':Gh):Prop :=
 match f with
 | .next=>∃ σ' H',Inv X ω σ' H' s'/\D.nx σ' H'
 | .brk=>∃ σ' H',Inv X ω σ' H' s'/\D.bk σ' H'
 | .cont=>∃ σ' H',Inv X ω σ' H' s'/\D.ct σ' H'
 | .ret u=>∃ v σ' H',Inv X ω σ' H' s'/\RelV v u/\D.rt v H'
def PE (X:Cx)(e:Expr)(t:TE):Prop :=
 ∀ (ω:List (Gj×Obj)) (s:Gh) (σ:St) (H:Hp) (Q:VK),Inv X ω σ H s->t σ H Q->wpAny (model X.prog X.w) X.A (eval e X.env) (EP X ω σ Q) X.xe s
def PT (X:Cx)(e:Expr)(t:TT):Prop :=
 ∀ (ω:List (Gj×Obj)) (s:Gh) (σ:St) (H:Hp) (Q:Bool->Hp->Prop),Inv X ω σ H s->t σ H Q->wpAny (model X.prog X.w) X.A (isTrue e X.env (eval e X.env)) (TP X ω σ Q) X.xe s
def PW (X:Cx)(e:Expr)(t:TT):Prop :=
 ∀ (whole:Sem Gg) (ω:List (Gj×Obj)) (s:Gh) (σ:St) (H:Hp) (Q:Bool->Hp->Prop),Inv X ω σ H s->t σ H Q->wpAny (model X.prog X.w) X.A (isTrue e X.env whole) (TP X ω σ Q) X.xe s
theorem PW.pt {X:Cx}{e:Expr}{t:TT}(h:PW X e t):PT X e t:=h _
def PA (X:Cx)(es:List Expr)(t:TA):Prop :=
 ∀ (pos:Pos) (ω:List (Gj×Obj)) (s:Gh) (σ:St) (H:Hp) (Q:List V->Hp->Prop),Inv X ω σ H s->t σ H Q->wpAny (model X.prog X.w) X.A (spliced (backTo pos (starEach es X.env))) (AP X ω σ Q) X.xe s
def PS (X:Cx)(st:Stmt)(t:TS):Prop :=
 ∀ (ω:List (Gj×Obj)) (s:Gh) (σ:St) (H:Hp) (D:Ends),Inv X ω σ H s->t D σ H->wpAny (model X.prog X.w) X.A (exec st X.env) (SP X ω D) X.xe s
def PSs (X:Cx)(st:List Stmt)(t:TS):Prop :=
 ∀ (ω:List (Gj×Obj)) (s:Gh) (σ:St) (H:Hp) (D:Ends),Inv X ω σ H s->t D σ H->wpAny (model X.prog X.w) X.A (execs st X.env) (SP X ω D) X.xe s
theorem thn {α:Type}{t:Sem α}{Q Q':α->Gh->Prop}{M:Model}{A:Around}{E:Gg->Gh->Prop}{s:Gh}(h:wpAny M A t Q E s)(hQ:∀ a s,Q a s->Q' a s):wpAny M A t Q' E s:=wpAny_mono h hQ λ_ _ x=>x
end L2
namespace L2
open PySem PySem.Spec PyProof.Rows
section
variable {X:Cx}
theorem bin {a b:Expr}{ta tb:TE}(ha:PE X a ta)(hb:PE X b tb){ω:List (Gj×Obj)}{s:Gh}{σ:St}{H:Hp}{R:V->V->Hp->Prop}(I:Inv X ω σ H s)(h:ta σ H λx H1=>tb σ H1 λy H2=>R x y H2)
  {α:Type} {Q:α->Gh->Prop} {f:Gg->Gg->Sem α}
  (hf:∀ v u s2 x y H2,Inv X ω σ H2 s2->RelV x v->RelV y u->R x y H2->wpAny (model X.prog X.w) X.A (f v u) Q X.xe s2) :
  wpAny (model X.prog X.w) X.A (eval a X.env) (λv s₁=>wpAny (model X.prog X.w) X.A (eval b X.env) (λu s₂=>wpAny (model X.prog X.w) X.A (f v u) Q X.xe s₂) X.xe s₁) X.xe s:=by
 refine thn (ha ω s σ H _ I h) λv s1 ⟨x,H1,I1,r1,q1⟩=>?_;refine thn (hb ω s1 σ H1 _ I1 q1) λu s2 ⟨y,H2,I2,r2,q2⟩=>?_;exact hf v u s2 x y H2 I2 r1 r2 q2
def tVar (i:Nat):TE:=λσ H Q=>∃ v,σ[i]?=Ga (Ga v)/\Q v H
def tC (v:V):TE:=λ_ H Q=>Q v H
theorem pe_var {i:Nat}{x:Str}{pos:Pos}(hN:X.N[i]?=Ga x)(hv:Vis X.env.scope x)(hd:(x==("__debug__":Str))=false:=by decide)(hcd:(x==("__classdict__":Str))=false:=by decide):PE X (.Name x pos) (tVar i):=by
 intro ω s σ H Q I h;obtain⟨v,e,h⟩:=h;obtain⟨m,hn,hl⟩:=I.loc;obtain⟨u,r,l⟩:=hl i x v hN e hv;have fin:EP X ω σ Q u s:=⟨v,H,I,r,h⟩;rcases l with ⟨hk,hm⟩|⟨hk,c,hc,hcell⟩
 .exact wpAny_Name (wpAny_loadName_local I.ok.kind hk hn hm fin) hd
 .rcases hk with hk|hk
  .exact wpAny_Name (wpAny_loadName_cell I.ok.kind hk hc hcell fin) hd
  .exact wpAny_Name (wpAny_loadName_free I.ok.kind hk hc hcell fin hcd) hd
theorem pe_int {i j pos}:PE X (.Constant (.int i) j pos) (tC (.int i)):=λ_ _ _ H _ I h=>wpAny_Constant_int ⟨.int i,H,I.tok _,⟨_,rfl⟩,h⟩
theorem pe_bl {b j pos}:PE X (.Constant (.bool b) j pos) (tC (.bl b)):=λ_ _ _ H _ I h=>Constant_bool ⟨.bl b,H,I,rfl,h⟩
theorem pe_non {j pos}:PE X (.Constant .none j pos) (tC .non):=λ_ _ _ H _ I h=>Constant_none ⟨.non,H,I,rfl,h⟩
theorem pe_str {x j pos}:PE X (.Constant (.str x) j pos) (tC (.str x)):=λ_ _ _ H _ I h=>Calls.Constant_str ⟨.str x,H,I.tok _,⟨_,rfl⟩,h⟩
def Gl (X:Cx)(x:Str):Prop:=X.env.kindOf x=Ga .globalImplicit
theorem ld_glob {E:Gg->Gh->Prop}{ω:List (Gj×Obj)}{s:Gh}{σ:St}{H:Hp}{x:Str}{u:Gg}{pos:Pos}{Q:Gg->Gh->Prop}(I:Inv X ω σ H s)(hg:Gl X x)(hm:X.mg x=Ga u)(h:Q u s)
  (hd:(x==("__debug__":Str))=false:=by decide):wpAny (model X.prog X.w) X.A (eval (.Name x pos) X.env) Q E s :=
 vJ I.ok.kind hg (Calls.loadGlobal_global (by rw[I.ok.glob];exact I.mod.glob.keeps I.bk) hm h) hd
theorem ld_blt {E:Gg->Gh->Prop}{ω:List (Gj×Obj)}{s:Gh}{σ:St}{H:Hp}{x:Str}{u:Gg}{pos:Pos}{Q:Gg->Gh->Prop}(I:Inv X ω σ H s)(hg:Gl X x)(hm:X.mg x=Gb)(hv:bootBuiltins x=Ga u)(h:Q u s)
  (hn:x≠"__name__":=by decide) (hd:(x==("__debug__":Str))=false:=by decide):wpAny (model X.prog X.w) X.A (eval (.Name x pos) X.env) Q E s:=by
 obtain⟨mb,h1,h2⟩:=I.mod.blt;exact vJ I.ok.kind hg (Calls.loadGlobal_builtin (by rw[I.ok.glob];exact I.mod.glob.keeps I.bk) hm (by rw[I.ok.blt];exact h1.keeps I.bk) ((h2 x hn).trans hv) h) hd
theorem pe_glob {x:Str}{v:V}{u:Gg}{pos:Pos}(hg:Gl X x)(hm:X.mg x=Ga u)(r:RelV v u)(hd:(x==("__debug__":Str))=false:=by decide):PE X (.Name x pos) (tC v) :=
 λ_ _ _ H _ I h=>ld_glob I hg hm ⟨v,H,I,r,h⟩ hd
variable {a b:Expr}{ta tb:TE}{pos:Pos}
theorem nobehind (b:Expr){op:CmpOp}(h:op≠.In)(h2:op≠.NotIn):behindInMarks op b=false:=by
 have e1:(op==CmpOp.In)=false:=by cases op<;>first|rfl|exact absurd rfl h
 have e2:(op==CmpOp.NotIn)=false:=by cases op<;>first|rfl|exact absurd rfl h2
 cases b<;>simp[behindInMarks,e1,e2]
variable {tA tB':TT}{rest:List Expr}
def tAnd (t u:TT):TT:=λσ H Q=>t σ H λc H1=>if c=true then u σ H1 Q else Q false H1
def tOr (t u:TT):TT:=λσ H Q=>t σ H λc H1=>if c=true then Q true H1 else u σ H1 Q
def tNot (t:TT):TT:=λσ H Q=>t σ H λc H1=>Q (!c) H1
theorem pw_and1 (ha:PT X a tA):PW X (.BoolOp .And [a] pos) tA:=by
 intro wh ω s σ H Q I h;refine isTrue_and (thn (ha ω s σ H Q I h) λc s1 e=>?_);cases c with
 | true=>exact isTrue_and_nil e
 | false=>exact e
theorem pw_or1 (ha:PT X a tA):PW X (.BoolOp .Or [a] pos) tA:=by
 intro wh ω s σ H Q I h;refine isTrue_or (thn (ha ω s σ H Q I h) λc s1 e=>?_);cases c with
 | false=>exact isTrue_or_nil e
 | true=>exact e
theorem pw_and (ha:PT X a tA)(hb:PW X (.BoolOp .And (b::rest) pos) tB'):PW X (.BoolOp .And (a::b::rest) pos) (tAnd tA tB'):=by
 intro wh ω s σ H Q I h;refine isTrue_and (thn (ha ω s σ H _ I h) λc s1 ⟨H1,I1,q1⟩=>?_);cases c with
 | true=>exact hb wh ω s1 σ H1 Q I1 q1
 | false=>exact⟨H1,I1,q1⟩
theorem pw_or (ha:PT X a tA)(hb:PW X (.BoolOp .Or (b::rest) pos) tB'):PW X (.BoolOp .Or (a::b::rest) pos) (tOr tA tB'):=by
 intro wh ω s σ H Q I h;refine isTrue_or (thn (ha ω s σ H _ I h) λc s1 ⟨H1,I1,q1⟩=>?_);cases c with
 | true=>exact⟨H1,I1,q1⟩
 | false=>exact hb wh ω s1 σ H1 Q I1 q1
theorem pt_not (ha:PT X a tA):PT X (.UnaryOp .Not a pos) (tNot tA):=by
 intro ω s σ H Q I h;exact isTrue_not (ha ω s σ H (λc H1=>Q (!c) H1) I h)
def tAndV (ta tb:TE):TE:=λσ H Q=>ta σ H λx H1=>∃ c,x=.bl c/\if c=true then tb σ H1 Q else Q (.bl false) H1
def tOrV (ta tb:TE):TE:=λσ H Q=>ta σ H λx H1=>∃ c,x=.bl c/\if c=true then Q (.bl true) H1 else tb σ H1 Q
def tNotV (ta:TE):TE:=λσ H Q=>ta σ H λx H1=>∃ c,x=.bl c/\Q (.bl (!c)) H1
theorem pe_one {op}{t:TE}(h:PE X a t):PE X (.BoolOp op [a] pos) t:=λω s σ H Q I hw=>BoolOp_one (h ω s σ H Q I hw)
theorem pe_and (ha:PE X a ta)(hb:PE X (.BoolOp .And (b::rest) pos) tb):PE X (.BoolOp .And (a::b::rest) pos) (tAndV ta tb):=by
 intro ω s σ H Q I h;refine BoolOp_and (thn (ha ω s σ H _ I h) λv s1 ⟨x,H1,I1,r1,q1⟩=>?_);obtain⟨c,rfl,q1⟩:=q1;cases r1;refine wpAny_truthy_bool ?_;cases c with
 | true=>exact hb ω s1 σ H1 Q I1 q1
 | false=>exact⟨.bl false,H1,I1,rfl,q1⟩
theorem pe_or (ha:PE X a ta)(hb:PE X (.BoolOp .Or (b::rest) pos) tb):PE X (.BoolOp .Or (a::b::rest) pos) (tOrV ta tb):=by
 intro ω s σ H Q I h;refine BoolOp_or (thn (ha ω s σ H _ I h) λv s1 ⟨x,H1,I1,r1,q1⟩=>?_);obtain⟨c,rfl,q1⟩:=q1;cases r1;refine wpAny_truthy_bool ?_;cases c with
 | false=>exact hb ω s1 σ H1 Q I1 q1
 | true=>exact⟨.bl true,H1,I1,rfl,q1⟩
theorem pe_not (ha:PE X a ta):PE X (.UnaryOp .Not a pos) (tNotV ta):=by
 intro ω s σ H Q I h;refine UnaryOp_ (thn (ha ω s σ H _ I h) λv s1 ⟨x,H1,I1,r1,q1⟩=>?_);obtain⟨c,rfl,q1⟩:=q1;cases r1;exact not_of (wpAny_truthy_bool ⟨.bl (!c),H1,I1,rfl,q1⟩)
def tIf (t:TT)(ta tb:TE):TE:=λσ H Q=>t σ H λc H1=>if c=true then ta σ H1 Q else tb σ H1 Q
theorem pe_ifExp {c:Expr}(hc:PT X c tA)(ha:PE X a ta)(hb:PE X b tb):PE X (.IfExp c a b pos) (tIf tA ta tb):=by
 intro ω s σ H Q I h;refine wpAny_IfExp (thn (hc ω s σ H _ I h) λd s1 ⟨H1,I1,q1⟩=>?_);cases d with
 | true=>exact ha ω s1 σ H1 Q I1 q1
 | false=>exact hb ω s1 σ H1 Q I1 q1
end
end L2
namespace L2
open PySem PySem.Spec PyProof.Rows
def SqL (K:ja)(H:Hp)(a:Gj)(xs:List V):Prop :=
 Rd H a (.lst xs) \/
  ∃ (o:Obj) (its:Array Gg) (n:Nat),K.lookup a=Ga o/\o.cls=.type "list"/\o.dict=Gb/\o.data=.seq its n/\its.size<=sizeLine/\Vals xs its.toList
def SqT (K:ja)(H:Hp)(a:Gj)(xs:List V):Prop :=
 Rd H a (.tup xs) \/
  ∃ (o:Obj) (its:Array Gg) (n:Nat),K.lookup a=Ga o/\o.cls=.type "tuple"/\o.data=.seq its n/\its.size<=sizeLine/\Vals xs its.toList
def absV:Gg->Option V
 | .none=>Ga .non
 | .bool b=>Ga (.bl b)
 | .int i _=>Ga (.int i)
 | .str x _=>Ga (.str x)
 | .bytes b _=>Ga (.byt b)
 | .float b _=>Ga (.flt b)
 | .ref a=>Ga (.ref a)
 | .type n=>Ga (.ty n)
 | _=>Gb
theorem RelV.abs {x:V}{u:Gg}(r:RelV x u):absV u=Ga x:=by
 cases x with
 | non=>cases r;rfl
 | bl _=>cases r;rfl
 | int _=>obtain⟨t,rfl⟩:=r;rfl
 | str _=>obtain⟨t,rfl⟩:=r;rfl
 | byt _=>obtain⟨t,rfl⟩:=r;rfl
 | flt _=>obtain⟨t,rfl⟩:=r;rfl
 | ref _=>cases r;rfl
 | ty _=>cases r;rfl
theorem RelV.inj {x y:V}{u:Gg}(r:RelV x u)(q:RelV y u):x=y:=jE (r.abs.symm.trans q.abs)
theorem Vals.inj:∀ {xs ys:List V} {us:List Gg},Vals xs us->Vals ys us->xs=ys
 | _,_,_,.nil,.nil=>rfl
 | _,_,_,.cons r t,.cons r' t'=>by rw[r.inj r',Vals.inj t t']
section
variable {X:Cx}{ω:List (Gj×Obj)}{σ:St}{H:Hp}{s:Gh}{a:Gj}{xs ys:List V}
theorem SqL.of {K:ja}(h:H a=Ga (.lst xs)):SqL K H a xs:=.inl (.inl h)
theorem SqT.of {K:ja}(h:H a=Ga (.tup xs)):SqT K H a xs:=.inl (.inl h)
theorem Inv.list (I:Inv X ω σ H s)(h:SqL X.K H a xs):∃ its:List Gg,Vals xs its/\PlainL s.heap a its.toArray/\xs.length<=sizeLine:=by
 rcases h with h|⟨o,its,n,hk,hc,hd,hs,hz,r⟩
 .obtain⟨z,its,n,r,e⟩:=h.ok I.hok;exact⟨its,r,⟨_,n,e,rfl,rfl,rfl⟩,z⟩
 .refine⟨its.toList,r,⟨o,n,I.kIn a o hk,hc,hd,by simpa using hs⟩,?_⟩;have e:=r.length;simp only[ku] at e;omega
theorem Inv.tuple (I:Inv X ω σ H s)(h:SqT X.K H a xs):∃ its:List Gg,Vals xs its/\IsTup s.heap a its.toArray/\xs.length<=sizeLine:=by
 rcases h with h|⟨o,its,n,hk,hc,hs,hz,r⟩
 .obtain⟨z,its,r,p⟩:=h.ok I.hok;exact⟨its,r,p,z⟩
 .refine⟨its.toList,r,⟨o,I.kIn a o hk,hc,n,by simpa using hs⟩,?_⟩;have e:=r.length;simp only[ku] at e;omega
theorem Inv.list_inj (I:Inv X ω σ H s)(h:SqL X.K H a xs)(h':SqL X.K H a ys):xs=ys:=by
 obtain⟨its,r,⟨o,n,e,_,_,d⟩,_⟩:=I.list h;obtain⟨its',r',⟨o',n',e',_,_,d'⟩,_⟩:=I.list h';rw[e] at e';cases e';rw[d] at d'
 injection d' with d1 _
 have:its=its':=by simpa using congrArg Array.toList d1
 subst this;exact r.inj r'
theorem Inv.tuple_inj (I:Inv X ω σ H s)(h:SqT X.K H a xs)(h':SqT X.K H a ys):xs=ys:=by
 obtain⟨its,r,⟨o,e,_,n,d⟩,_⟩:=I.tuple h;obtain⟨its',r',⟨o',e',_,n',d'⟩,_⟩:=I.tuple h';rw[e] at e';cases e';rw[d] at d'
 injection d' with d1 _
 have:its=its':=by simpa using congrArg Array.toList d1
 subst this;exact r.inj r'
end
abbrev Cx.wish (X:Cx)(E:Gg->Gh->Prop):Cx:={ X with xe:=E }
abbrev Cx.nox (X:Cx):Cx:=X.wish λ_ _=>False
theorem Cx.Ok.wish {X:Cx}(ok:X.Ok)(E:Gg->Gh->Prop):(X.wish E).Ok :=
 ⟨ok.mod,ok.kind,ok.glob,ok.blt,ok.above,ok.inj,ok.has,ok.cab,ok.hd,ok.frames,ok.stk,ok.exf,ok.bs,ok.bsz,ok.noex,ok.exfs,ok.funs,ok.frf⟩
theorem Cx.Ok.unwish {X:Cx}{E:Gg->Gh->Prop}(ok:(X.wish E).Ok):X.Ok :=
 ⟨ok.mod,ok.kind,ok.glob,ok.blt,ok.above,ok.inj,ok.has,ok.cab,ok.hd,ok.frames,ok.stk,ok.exf,ok.bs,ok.bsz,ok.noex,ok.exfs,ok.funs,ok.frf⟩
section
variable {X:Cx}{ω:List (Gj×Obj)}{σ:St}{H:Hp}{s:Gh}{E:Gg->Gh->Prop}
theorem Inv.wish (I:Inv X ω σ H s)(E:Gg->Gh->Prop):Inv (X.wish E) ω σ H s:=⟨I.ok.wish E,I.os,I.bare,I.base,I.loc,I.cell,I.free,I.freeC,I.pin,I.hok,I.len⟩
theorem Inv.unwish (I:Inv (X.wish E) ω σ H s):Inv X ω σ H s:=⟨I.ok.unwish,I.os,I.bare,I.base,I.loc,I.cell,I.free,I.freeC,I.pin,I.hok,I.len⟩
theorem SP.unwish {D:Ends}{f:Flow}{s':Gh}(h:SP (X.wish E) ω D f s'):SP X ω D f s':=by
 cases f with
 | next=>obtain⟨σ',H',I,q⟩:=h;exact⟨σ',H',I.unwish,q⟩
 | brk=>obtain⟨σ',H',I,q⟩:=h;exact⟨σ',H',I.unwish,q⟩
 | cont=>obtain⟨σ',H',I,q⟩:=h;exact⟨σ',H',I.unwish,q⟩
 | ret u=>obtain⟨v,σ',H',I,r,q⟩:=h;exact⟨v,σ',H',I.unwish,r,q⟩
theorem PE.nox {e:Expr}{t:TE}(h:PE X.nox e t):PE X e t:=λω s σ H Q I hw =>
 wpAny_mono (h ω s σ H Q (I.wish _) hw) (λ_ _ ⟨v,H',I',r,q⟩=>⟨v,H',I'.unwish,r,q⟩) λ_ _ z=>False.elim z
theorem PT.nox {e:Expr}{t:TT}(h:PT X.nox e t):PT X e t:=λω s σ H Q I hw =>
 wpAny_mono (h ω s σ H Q (I.wish _) hw) (λ_ _ ⟨H',I',q⟩=>⟨H',I'.unwish,q⟩) λ_ _ z=>False.elim z
theorem PSs.nox {st:List Stmt}{t:TS}(h:PSs X.nox st t):PSs X st t:=λω s σ H D I hw =>
 wpAny_mono (h ω s σ H D (I.wish _) hw) (λ_ _ q=>q.unwish) λ_ _ z=>False.elim z
end
section
variable {X:Cx}{st:Stmt}{rest:List Stmt}{t u:TS}{e:Expr}{te:TE}{pos:Pos}
def tNext:TS:=λD σ H=>D.nx σ H
def tSeq (t u:TS):TS:=λD σ H=>t { D with nx:=u D } σ H
theorem pss_nil:PSs X [] tNext:=λ_ _ σ H _ I h=>wpAny_execs_nil ⟨σ,H,I,h⟩
theorem pss_cons (h1:PS X st t)(h2:PSs X rest u):PSs X (st::rest) (tSeq t u):=by
 intro ω s σ H D I h;refine wpAny_execs_cons (thn (h1 ω s σ H { D with nx:=u D } I h) λf s1 q=>?_);cases f with
 | next =>
  obtain⟨σ',H',I',q⟩:=q;exact h2 ω s1 σ' H' D I' q
 | ret v=>exact q
 | brk=>exact q
 | cont=>exact q
theorem pss_one (h1:PS X st t):PSs X [st] t:=by
 intro ω s σ H D I h;refine wpAny_execs_cons (thn (h1 ω s σ H D I h) λf s1 q=>?_);cases f with
 | next=>exact wpAny_execs_nil q
 | ret v=>exact q
 | brk=>exact q
 | cont=>exact q
theorem Inv.quiet {ω:List (Gj×Obj)}{σ:St}{H:Hp}{s:Gh}(I:Inv X ω σ H s):interactive X.env=false:=by simp[interactive,I.ok.kind]
def tDrop (te:TE):TS:=λD σ H=>te σ H λ_ H1=>D.nx σ H1
theorem ps_expr (he:PE X e te)(hs:swapsWith e Gb pos.line X.env=pure false:=by rfl):PS X (.Expr e pos) (tDrop te):=by
 intro ω s σ H D I h;exact wpAny_Expr_any (thn (he ω s σ H _ I h) λv s1 ⟨x,H1,I1,r1,q1⟩=>⟨σ,H1,I1,q1⟩) I.quiet hs
def tRet (te:TE):TS:=λD σ H=>te σ H D.rt
theorem ps_ret (he:PE X e te):PS X (.Return (Ga e) pos) (tRet te):=by
 intro ω s σ H D I h;exact wpAny_Return_some (thn (he ω s σ H _ I h) λv s1 ⟨x,H1,I1,r1,q1⟩=>⟨x,σ,H1,I1,r1,q1⟩)
def tIfS (c:TT)(t u:TS):TS:=λD σ H=>c σ H λb H1=>if b=true then t D σ H1 else u D σ H1
theorem ps_if {c:Expr}{a b:List Stmt}{tc:TT}(hc:PT X c tc)(ha:PSs X a t)(hb:PSs X b u):PS X (.If c a b pos) (tIfS tc t u):=by
 intro ω s σ H D I h;refine wpAny_If (thn (hc ω s σ H _ I h) λd s1 ⟨H1,I1,q1⟩=>?_);cases d with
 | true=>exact ha ω s1 σ H1 D I1 q1
 | false=>exact hb ω s1 σ H1 D I1 q1
end
abbrev TG:=V->St->Hp->(St->Hp->Prop)->Prop
def PG (X:Cx)(target:Expr)(t:TG):Prop :=
 ∀ (ω:List (Gj×Obj)) (s:Gh) (σ:St) (H:Hp) (v:V) (u:Gg) (Q:St->Hp->Prop),Inv X ω σ H s->RelV v u->t v σ H Q ->
  wpAny (model X.prog X.w) X.A (assign target X.env u) (λ_ s'=>∃ σ' H',Inv X ω σ' H' s'/\Q σ' H') X.xe s
section
variable {X:Cx}{pos:Pos}
def gName (i:Nat):TG:=λv σ H Q=>Q (σ.set i (Ga v)) H
theorem pg_name {i:Nat}{x:Str}(hN:X.N.Nodup)(hi:X.N[i]?=Ga x)(hx:Loc X.env.scope x)(hf:X.fn x=true\/X.env.scope.names.lookup x=Ga .local:=by first|exact .inl rfl|exact .inr rfl|assumption):PG X (.Name x pos) (gName i):=by
 intro ω s σ H v u Q I r h;exact wpAny_assign_Name (store_ok I hN hi hx r (λs' I'=>⟨_,H,I',h⟩) hf)
def tAsg (te:TE)(g:TG):TS:=λD σ H=>te σ H λx H1=>g x σ H1 D.nx
theorem ps_set {i:Nat}{x:Str}{e:Expr}{te:TE}{pos':Pos}(hN:X.N.Nodup)(hi:X.N[i]?=Ga x)(hx:Loc X.env.scope x)(he:PE X e te)(hs:swapsWith e (Ga (.Name x pos')) pos.line X.env=pure false:=by rfl)(hf:X.fn x=true\/X.env.scope.names.lookup x=Ga .local:=by first|exact .inl rfl|exact .inr rfl|assumption) :
  PS X (.Assign [.Name x pos'] e pos) (tAsg te (gName i)):=by
 intro ω s σ H D I h;refine wpAny_Assign_Name (thn (he ω s σ H _ I h) λv s1 ⟨y,H1,I1,r1,q1⟩=>?_) hs;exact store_ok I1 hN hi hx r1 (λs2 I2=>⟨_,H1,I2,q1⟩) hf
end
section
variable {X:Cx}{pos:Pos}
def tWhile (c:TT)(tb:TS):TS:=λD σ H=>∃ W:Nat->St->Hp->Prop,(∃ m,W m σ H)/\∀ m σ H,W m σ H ->
 c σ H λb H1=>if b=true then ∃ N:St->Hp->Prop,(∀ σ' H',N σ' H'->∃ m',m'<m/\W m' σ' H')/\tb { D with nx:=N,ct:=N,bk:=D.nx } σ H1 else D.nx σ H1
theorem ps_while {c:Expr}{body:List Stmt}{tc:TT}{tb:TS}(hp:PassesOwn (model X.prog X.w) X.A X.env X.xe)(hc:PT X c tc)(hb:PSs X body tb):PS X (.While c body [] pos) (tWhile tc tb):=by
 intro ω s σ H D I h;obtain⟨W,⟨m0,w0⟩,turn⟩:=h;refine wpAny_While (codeAny_whileLoop (λn s'=>∃ σ' H',Inv X ω σ' H' s'/\W n σ' H') ?_ m0 ⟨σ,H,I,w0⟩);rintro n s1 ⟨σ1,H1,I1,w1⟩;refine wpAny_passesOwn hp (thn (hc ω s1 σ1 H1 _ I1 (turn n σ1 H1 w1)) λb s2 ⟨H2,I2,q2⟩=>?_);cases b with
 | true =>
  obtain⟨N,hN,q2⟩:=q2;rw[Ge rfl];refine wpAny_passesOwn hp (thn (hb ω s2 σ1 H2 _ I2 q2) λf s3 q3=>?_);cases f with
  | next =>
   obtain⟨σ3,H3,I3,n3⟩:=q3;obtain⟨m',hm,w3⟩:=hN σ3 H3 n3;exact⟨m',hm,σ3,H3,I3,w3⟩
  | cont =>
   obtain⟨σ3,H3,I3,n3⟩:=q3;obtain⟨m',hm,w3⟩:=hN σ3 H3 n3;exact⟨m',hm,σ3,H3,I3,w3⟩
  | brk=>exact q3
  | ret v=>exact q3
 | false =>
  rw[Gf jy];exact wpAny_execs_nil ⟨σ1,H2,I2,q2⟩
end
structure It where
 go:Nat->Hp->Prop
 yld:Nat->Hp->V->Hp->Prop
 stop:Nat->Hp->Prop
def FpOk (X:Cx)(ω:List (Gj×Obj))(H:Hp)(b:Gj):Prop :=
 H b=Gb/\b≠X.env.locals/\b∉X.fs/\(b∈X.ex\/X.s₀.heap.objs.size<=b)/\(∀ x c,X.env.cells.lookup x=Ga c->c≠b)/\∀ p∈X.pn++ω,p.1≠b
theorem Inv.fpOk {X:Cx}{ω:List (Gj×Obj)}{σ:St}{H H':Hp}{s:Gh}{b:Gj}(I:Inv X ω σ H s)(hb:s.heap.objs.size<=b)(hn:H' b=Gb):FpOk X ω H' b:=by
 refine⟨hn,uN (jq I.lt hb),I.nofs hb,.inr (jn I.sz hb),λx c e z=>?_,λp hp z=>?_⟩
 .obtain⟨v,q⟩:=I.cell x c e;exact absurd (jq q.lt (by rw[z];exact hb)) (jP _)
 .exact absurd (jq (jm (I.pin p hp).1) (by rw[z];exact hb)) (jP _)
structure Turn (P:Program)(w:World)(K:ja)(tg:Expr)(J:It)(fp:List Gj)(it:Gj)(tn:Nat->Heap->Prop):Prop where
 mem:it∈fp
 obj:∀ i h,tn i h->∀ b∈fp,∃ o,h.get? b=Ga o/\∀ v,o.data≠.cell v
 keep:∀ i h h',tn i h->(∀ b∈fp,∀ o,h.get? b=Ga o->h'.get? b=Ga o)->tn i h'
 item:∀ (X:Cx),X.prog=P->X.w=w->X.K=K->X.calm=true->∀ (i:Nat) (ω:List (Gj×Obj)) (s:Gh) (σ:St) (H:Hp) (E:Gg->Gh->Prop),Inv X ω σ H s->(∀ b∈fp,FpOk X ω H b)->tn i s.heap->J.go i H ->
  wpAny (model P w) X.A (pyNext (.ref it)) (λr s1=>∃ u,r=Ga u /\
   wpAny (model P w) X.A (letOwnedTupleGo tg (.ref it) u) (λ_ s2=>∃ x H',Inv X ω σ H' s2/\RelV x u/\J.yld i H x H'/\tn (i+1) s2.heap/\∀ b∈fp,H' b=Gb) E s1) E s
 done:∀ (X:Cx),X.prog=P->X.w=w->X.K=K->X.calm=true->∀ (i:Nat) (ω:List (Gj×Obj)) (s:Gh) (σ:St) (H:Hp) (E:Gg->Gh->Prop),Inv X ω σ H s->(∀ b∈fp,FpOk X ω H b)->tn i s.heap->J.stop i H ->
  wpAny (model P w) X.A (pyNext (.ref it)) (λr s1=>r=Gb/\Inv X ω σ H s1) E s
 self:∀ (A:Around) (i:Nat) (s:Gh) (Q:Gg->Gh->Prop) (E:Gg->Gh->Prop),tn i s.heap->Q (.ref it) s->wpAny (model P w) A (pyIter (.ref it)) Q E s
abbrev TI:=St->Hp->(It->Hp->Prop)->Prop
def PIE (X:Cx)(ω:List (Gj×Obj))(σ:St)(tg:Expr)(R:It->Hp->Prop)(itv:Gg)(s2:Gh):Prop :=
 ∃ (it:Gj) (fp:List Gj) (tn:Nat->Heap->Prop) (J:It) (H':Hp),itv=.ref it/\Inv X ω σ H' s2/\Turn X.prog X.w X.K tg J fp it tn/\tn 0 s2.heap/\(∀ b∈fp,FpOk X ω H' b)/\R J H'
def PI (X:Cx)(tg iter:Expr)(wi:TI):Prop :=
 ∀ (ω:List (Gj×Obj)) (s:Gh) (σ:St) (H:Hp) (R:It->Hp->Prop),Inv X ω σ H s->wi σ H R ->
  wpAny (model X.prog X.w) X.A (eval iter X.env) (λv s1=>wpAny (model X.prog X.w) X.A (pyIter v) (PIE X ω σ tg R) X.xe s1) X.xe s
theorem go_of {M:Model}{A:Around}{E:Gg->Gh->Prop}{s:Gh}{tg:Expr}{it:Gj}{u:Gg}{o:Obj}{n:String}{vs:Array Gg}{Q:Unit->Gh->Prop}(ho:s.heap.get? it=Ga o)(hc:o.cls=.type n)(hd:o.data=.fields vs)
  (hn:["enumerate","zip","dict_itemiterator","dict_reverseitemiterator","odict_iterator","itertools.zip_longest","itertools.pairwise"].contains n=false) (hQ:Q () s):wpAny M A (letOwnedTupleGo tg (.ref it) u) Q E s:=by
 unfold letOwnedTupleGo;cases tg<;>first
  | exact wpAny_pure hQ
  | (cases u<;>first
    | exact wpAny_pure hQ
    | (refine wpAny_bind (wpAny_load ho ?_)
       rw[hc,hd];show wpAny M A (if (["enumerate","zip","dict_itemiterator","dict_reverseitemiterator","odict_iterator","itertools.zip_longest","itertools.pairwise"].contains n&&vs[0]?==Ga (rawInt _))=true then _ else _) Q E s;rw[Gf (by intro h;rw[hn,uV] at h;cases h)];exact wpAny_pure hQ))
def Itl (K:ja)(a:Gj):It :=
 ⟨λi H=>∃ xs x,SqL K H a xs/\xs[i]?=Ga x,λi H x H'=>H'=H/\∀ xs,SqL K H a xs->xs[i]?=Ga x,λi H=>∃ xs,SqL K H a xs/\xs.length<=i⟩
def Itt (K:ja)(a:Gj):It :=
 ⟨λi H=>∃ xs x,SqT K H a xs/\xs[i]?=Ga x,λi H x H'=>H'=H/\∀ xs,SqT K H a xs->xs[i]?=Ga x,λi H=>∃ xs,SqT K H a xs/\xs.length<=i⟩
def Itr (lo:Int)(n:Nat):It:=⟨λi _=>i<n,λi H x H'=>H'=H/\x=.int (lo+i),λi _=>n<=i⟩
theorem turn_list {P:Program}{w:World}{K:ja}{tg:Expr}(a it:Gj):Turn P w K tg (Itl K a) [it] it (λi h=>h.IsListIter it a i) where
 mem:=by simp
 obj:=λi h st b hb=>by
  have e:b=it:=by simpa using hb
  subst e;obtain⟨o,e,c,d⟩:=st;exact⟨o,e,λv z=>by rw[d] at z;cases z⟩
 keep:=λi h h' st k=>st.at λo e=>k it (by simp) o e
 item:=by
  intro X hP hw hK hc i ω s σ H E I hf st hg;subst hP hw hK;obtain⟨xs,x,hq,hx⟩:=hg;obtain⟨its,rv,p,hz⟩:=I.list hq;obtain⟨u,hu,ru⟩:=rv.get hx;obtain⟨f0,f1,f2,f3,f4,f5⟩:=hf it (by simp);refine wpAny_pyNext_list_item st p.isList (x:=u) (by simpa using hu) λh' st' sb=>?_;have I1:Inv X ω σ H { s with heap:=h' }:=I.turned (t':=s.toks) (λb o hb e=>(sb.2 b hb).trans e) f0 f1 f3 f4 f5;obtain⟨o,e,c,d⟩:=id st';exact⟨u,rfl,go_of (s:={ s with heap:=h' }) e c d (by decide) ⟨x,H,I1,ru,⟨rfl,λys hy=>by rw[I.list_inj hy hq];exact hx⟩,st',λb hb=>(hf b hb).1⟩⟩
 done:=by
  intro X hP hw hK hc i ω s σ H E I hf st hg;subst hP hw hK;obtain⟨xs,hq,hx⟩:=hg;obtain⟨its,rv,p,hz⟩:=I.list hq;obtain⟨f0,f1,f2,f3,f4,f5⟩:=hf it (by simp);have hl:=rv.length;exact wpAny_pyNext_list_end (I.ok.hd hc) st p.isList (by simp;omega) λh' eb=>⟨rfl,I.turned (t':=s.toks) (λb o hb e=>eb b o hb e) f0 f1 f3 f4 f5⟩
 self:=λ_ _ _ _ _ st h=>wpAny_pyIter_listiter st h
theorem turn_tuple {P:Program}{w:World}{K:ja}{tg:Expr}(a it:Gj):Turn P w K tg (Itt K a) [it] it (λi h=>h.IsTupleIter it a i) where
 mem:=by simp
 obj:=λi h st b hb=>by
  have e:b=it:=by simpa using hb
  subst e;obtain⟨o,e,c,d⟩:=st;exact⟨o,e,λv z=>by rw[d] at z;cases z⟩
 keep:=λi h h' st k=>st.at λo e=>k it (by simp) o e
 item:=by
  intro X hP hw hK hc i ω s σ H E I hf st hg;subst hP hw hK;obtain⟨xs,x,hq,hx⟩:=hg;obtain⟨its,rv,p,hz⟩:=I.tuple hq;obtain⟨u,hu,ru⟩:=rv.get hx;obtain⟨f0,f1,f2,f3,f4,f5⟩:=hf it (by simp);refine wpAny_pyNext_tuple_item st (show s.heap.IsTuple a its.toArray from p) (x:=u) (by simpa using hu) λh' st' sb=>?_;have I1:Inv X ω σ H { s with heap:=h' }:=I.turned (t':=s.toks) (λb o hb e=>(sb.2 b hb).trans e) f0 f1 f3 f4 f5;obtain⟨o,e,c,d⟩:=id st';exact⟨u,rfl,go_of (s:={ s with heap:=h' }) e c d (by decide) ⟨x,H,I1,ru,⟨rfl,λys hy=>by rw[I.tuple_inj hy hq];exact hx⟩,st',λb hb=>(hf b hb).1⟩⟩
 done:=by
  intro X hP hw hK hc i ω s σ H E I hf st hg;subst hP hw hK;obtain⟨xs,hq,hx⟩:=hg;obtain⟨its,rv,p,hz⟩:=I.tuple hq;obtain⟨f0,f1,f2,f3,f4,f5⟩:=hf it (by simp);have hl:=rv.length;exact wpAny_pyNext_tuple_end (I.ok.hd hc) st (show s.heap.IsTuple a its.toArray from p) (by simp;omega) λh' eb=>⟨rfl,I.turned (t':=s.toks) (λb o hb e=>eb b o hb e) f0 f1 f3 f4 f5⟩
 self:=λ_ _ _ _ _ st h=>wpAny_pyIter_tupleiter st h
theorem turn_range {P:Program}{w:World}{K:ja}{tg:Expr}(it:Gj)(lo:Int)(n:Nat):Turn P w K tg (Itr lo n) [it] it (λi h=>IsRangeIter h it (lo+(i:Nat)*1) ((n:Int)-(i:Nat)) 1) where
 mem:=by simp
 obj:=λi h st b hb=>by
  have e:b=it:=by simpa using hb
  subst e;exact⟨_,st,λv z=>by
   have z':Data.fields _=Data.cell v:=z;cases z'⟩
 keep:=λi h h' st k=>k it (by simp) _ st
 item:=by
  intro X hP hw hK hc i ω s σ H E I hf st hg;subst hP hw hK;obtain⟨f0,f1,f2,f3,f4,f5⟩:=hf it (by simp);have W:=Walks.range (prog:=X.prog) (w:=X.w) (I.ok.hd hc) it lo 1 n;refine W.item i s _ _ hg st λv h' tk hv st' kk=>?_;obtain⟨t,rfl⟩:=hv;have I1:Inv X ω σ H { s with heap:=h',toks:=tk }:=I.turned (λb o hb e=>kk b o (by simpa using hb) e) f0 f1 f3 f4 f5;refine⟨_,rfl,go_of (s:={ s with heap:=h',toks:=tk }) (n:="range_iterator") st' rfl rfl (by decide) ⟨.int (lo+i),H,I1,⟨t,?_⟩,⟨rfl,rfl⟩,st',λb hb=>(hf b hb).1⟩⟩;rw[Int.mul_one]
 done:=by
  intro X hP hw hK hc i ω s σ H E I hf st hg;subst hP hw hK;obtain⟨f0,f1,f2,f3,f4,f5⟩:=hf it (by simp);exact wpAny_pyNext_range_end (I.ok.hd hc) st (by have:n<=i:=hg;omega) λh' eb=>⟨rfl,I.turned (t':=s.toks) (λb o hb e=>eb b o hb e) f0 f1 f3 f4 f5⟩
 self:=λ_ _ _ _ _ st h=>wpAny_pyIter_rangeiter st h
end L2
namespace L2
open PySem PySem.Spec PyProof.Rows
section
variable {X:Cx}{tg:Expr}
theorem range_it {ω:List (Gj×Obj)}{σ:St}{H:Hp}{s:Gh}{R:It->Hp->Prop}{E:Gg->Gh->Prop}{lo hi:Int}{t u v:Tok}{tk:Nat}(I:Inv X ω σ H s)(h1:-(2^62)<=lo)(h2:lo<2^62)(h3:-(2^62)<=hi)(h4:hi<2^62)
  (q:R (Itr lo (hi-lo).toNat) H):wpAny (model X.prog X.w) X.A (pyIter (.ref s.heap.objs.size)) (PIE X ω σ tg R) E { s with heap:=s.heap.push { cls:=.type "range",data:=.fields #[.int lo t,.int hi u,.int 1 v] },toks:=tk }:=by
 refine wpAny_pyIter_range (IsRange.new ..) (small_one h1 h2 h3 h4) ?_;have I1:Inv X ω σ H { s with heap:=s.heap.push { cls:=.type "range",data:=.fields #[.int lo t,.int hi u,.int 1 v] },toks:=tk }:=I.kept λb o e=>jd _ e;refine⟨(s.heap.push { cls:=.type "range",data:=.fields #[.int lo t,.int hi u,.int 1 v] }).objs.size,[(s.heap.push { cls:=.type "range",data:=.fields #[.int lo t,.int hi u,.int 1 v] }).objs.size],_,_,H,rfl,
  I1.kept (t':=tk) λb o e=>jd _ e,turn_range _ lo (hi-lo).toNat,?_,λb hb=>?_,q⟩
 .have e1:lo+((0:Nat):Int)*1=lo:=by simp
  have e2:(((hi-lo).toNat:Nat):Int)-((0:Nat):Int)=Builtin.Range.rangeSize lo hi 1:=by rw[rangeSize_one];split<;>omega
  show IsRangeIter _ _ (lo+((0:Nat):Int)*1) ((((hi-lo).toNat:Nat):Int)-((0:Nat):Int)) 1;rw[e1,e2];exact jA _ rfl
 .have e:b=(s.heap.push { cls:=.type "range",data:=.fields #[.int lo t,.int hi u,.int 1 v] }).objs.size:=by simpa using hb
  subst e;exact I1.fpOk (jk _) (I1.hok.fresh (jk _))
def iRng1 (ta:TA):TI:=λσ H R=>ta σ H λvs H1=>∃ j:Int,vs=[.int j]/\-(2^62)<=j/\j<2^62/\R (Itr 0 j.toNat) H1
def iRng2 (ta:TA):TI:=λσ H R=>ta σ H λvs H1=>∃ i j:Int,vs=[.int i,.int j]/\(-(2^62)<=i/\i<2^62/\-(2^62)<=j/\j<2^62)/\R (Itr i (j-i).toNat) H1
theorem pi_range1 {a:Expr}{ta:TA}{p pos:Pos}(hg:Gl X "range")(hm:X.mg "range"=Gb)(ha:PA X [a] ta)(hs:starEach [a] X.env=[(false,eval a X.env)]:=by rfl):PI X tg (.Call (.Name "range" p) [a] [] pos) (iRng1 ta):=by
 intro ω s σ H R I h;refine Call_ (ld_blt I hg hm boot_range (PyProof.Rows.callWith_type1 (thn (ha pos ω s σ H _ I h) λus s1 ⟨vs,H1,I1,r1,q1⟩=>?_) hs rfl));obtain⟨j,e,q1,q2,q⟩:=q1;subst e;cases r1 with
 | cons r rr =>
  cases rr;obtain⟨t,rfl⟩:=r;exact call_range_1 (range_it I1 (by omega) (by omega) q1 q2 (by simpa using q))
theorem pi_range2 {a b:Expr}{ta:TA}{p pos:Pos}(hg:Gl X "range")(hm:X.mg "range"=Gb)(ha:PA X [a,b] ta)(hs:starEach [a,b] X.env=[(false,eval a X.env),(false,eval b X.env)]:=by rfl)(hs2:starEach [b] X.env=[(false,eval b X.env)]:=by rfl) :
  PI X tg (.Call (.Name "range" p) [a,b] [] pos) (iRng2 ta):=by
 intro ω s σ H R I h;refine Call_ (ld_blt I hg hm boot_range (PyProof.Rows.callWith_type1 (thn (ha pos ω s σ H _ I h) λus s1 ⟨vs,H1,I1,r1,q1⟩=>?_) (by rw[hs,hs2]) (by rw[hs2];rfl)));obtain⟨i,j,e,⟨q1,q2,q3,q4⟩,q⟩:=q1;subst e;cases r1 with
 | cons r rr =>
  cases rr with
  | cons r' rr =>
   cases rr;obtain⟨t,rfl⟩:=r;obtain⟨t',rfl⟩:=r';exact call_range_2 (range_it I1 q1 q2 q3 q4 q)
def tFor (wi:TI)(g:TG)(tb:TS):TS:=λD σ H=>wi σ H λJ H1=>∃ W:Nat->Nat->St->Hp->Prop,(∃ m,W 0 m σ H1)/\∀ i m σ H,W i m σ H ->
 (J.stop i H/\D.nx σ H)\/(J.go i H/\∃ N:St->Hp->Prop,(∀ σ' H',N σ' H'->∃ m',m'<m/\W (i+1) m' σ' H')/\∀ x H',J.yld i H x H'->g x σ H' λσ2 H2=>tb { D with nx:=N,ct:=N,bk:=D.nx } σ2 H2)
def pinsAt (fp:List Gj)(h:Heap):List (Gj×Obj):=fp.filterMap λb=>(h.get? b).map λo=>(b,o)
theorem mem_pinsAt {fp:List Gj}{h:Heap}{b:Gj}{o:Obj}(hb:b∈fp)(e:h.get? b=Ga o):(b,o)∈pinsAt fp h:=uO.mpr ⟨b,hb,by rw[e];rfl⟩
theorem of_pinsAt {fp:List Gj}{h:Heap}{p:Gj×Obj}(hp:p∈pinsAt fp h):p.1∈fp/\h.get? p.1=Ga p.2:=by
 obtain⟨b,hb,e⟩:=uO.mp hp;cases q:h.get? b with
 | none=>rw[q] at e;cases e
 | some o =>
  rw[q] at e;have e':(b,o)=p:=jE e;subst e';exact⟨hb,q⟩
theorem Inv.pinned {ω:List (Gj×Obj)}{σ:St}{H:Hp}{s:Gh}{fp:List Gj}(I:Inv X ω σ H s)(hf:∀ b∈fp,FpOk X ω H b)(ho:∀ b∈fp,∃ o,s.heap.get? b=Ga o/\∀ v,o.data≠.cell v):Inv X (ω++pinsAt fp s.heap) σ H s :=
 I.pins_of λp hp=>(jM.mp hp).elim (λz=>I.pin p (jS _ z)) λz=>by
  obtain⟨hb,e⟩:=of_pinsAt z;obtain⟨f0,f1,f2,_⟩:=hf p.1 hb;obtain⟨o,e',d⟩:=ho p.1 hb;rw[e] at e';cases e';exact⟨e,f0,f1,f2,d⟩
theorem Inv.unpinned {ω pl:List (Gj×Obj)}{σ:St}{H:Hp}{s:Gh}(I:Inv X (ω++pl) σ H s):Inv X ω σ H s:=I.pins_of λp hp=>I.pin p (jS _ (qG _ hp))
theorem ps_for {iter:Expr}{body:List Stmt}{wi:TI}{g:TG}{tb:TS}{pos:Pos}(hp:PassesOwn (model X.prog X.w) X.A X.env X.xe)(hc:X.calm=true)(hi:PI X tg iter wi)(hg:PG X tg g)(hb:PSs X body tb)
  (hs:∀ x,foldedSetIterable iter X.env x=pure x:=by intro _;rfl):PS X (.For tg iter body [] pos) (tFor wi g tb):=by
 intro ω s σ H D I h;refine wpAny_For (thn (hi ω s σ H _ I h) λv s1 h1=>thn h1 λitv s2 h2=>?_) hs;obtain⟨it,fp,tn,J,H2,e,I2,T,st2,f2,W,⟨m0,w0⟩,turn⟩:=h2;subst e;have stat:∀ {H':Hp},(∀ b∈fp,H' b=Gb)->∀ b∈fp,FpOk X ω H' b:=λhn b hb=>⟨hn b hb,(f2 b hb).2⟩;refine codeAny_forLoop_any (λn s'=>∃ i σ' H',Inv X ω σ' H' s'/\tn i s'.heap/\(∀ b∈fp,H' b=Gb)/\W i n σ' H') ?_ m0 ⟨0,σ,H2,I2,st2,λb hb=>(f2 b hb).1,w0⟩;rintro n s3 ⟨i,σ3,H3,I3,st3,fr3,w3⟩;rcases turn i n σ3 H3 w3 with ⟨stop,qn⟩|⟨go,N,hN,step⟩
 .refine wpAny_passesOwn hp (thn (T.done X rfl rfl rfl hc i ω s3 σ3 H3 X.xe I3 (stat fr3) st3 stop) λr s4 ⟨hr,I4⟩=>?_);subst hr;exact wpAny_execs_nil ⟨σ3,H3,I4,qn⟩
 .refine wpAny_passesOwn hp (thn (T.item X rfl rfl rfl hc i ω s3 σ3 H3 X.xe I3 (stat fr3) st3 go) λr s4 ⟨u,hr,h4⟩=>?_);subst hr;refine wpAny_passesOwn hp (thn h4 λ_ s5 ⟨x,H5,I5,r5,y5,st5,fr5⟩=>?_);have I5':=I5.pinned (stat fr5) (T.obj _ _ st5);refine wpAny_passesOwn hp (thn (hg _ s5 σ3 H5 x u _ I5' r5 (step x H5 y5)) λ_ s6 ⟨σ6,H6,I6,q6⟩=>?_);refine wpAny_passesOwn hp (thn (hb _ s6 σ6 H6 _ I6 q6) λf s7 q7=>?_);have again:∀ {σ7:St} {H7:Hp},Inv X (ω++pinsAt fp s5.heap) σ7 H7 s7->N σ7 H7->∃ m,m<n/\∃ i σ' H',Inv X ω σ' H' s7/\tn i s7.heap/\(∀ b∈fp,H' b=Gb)/\W i m σ' H':=λ{σ7 H7} I7 n7=>by
   obtain⟨m',hm,w7⟩:=hN σ7 H7 n7;refine⟨m',hm,i+1,σ7,H7,I7.unpinned,T.keep _ _ _ st5 λb hb o e=>(I7.pin (b,o) (jS _ (jS _ (mem_pinsAt hb e)))).1,λb hb=>?_,w7⟩;obtain⟨o,e,d⟩:=T.obj _ _ st5 b hb;exact(I7.pin (b,o) (jS _ (jS _ (mem_pinsAt hb e)))).2.1
  cases f with
  | next=>obtain⟨σ7,H7,I7,n7⟩:=q7;exact again I7 n7
  | cont=>obtain⟨σ7,H7,I7,n7⟩:=q7;exact again I7 n7
  | brk=>obtain⟨σ7,H7,I7,q7⟩:=q7;exact⟨σ7,H7,I7.unpinned,q7⟩
  | ret v=>obtain⟨x7,σ7,H7,I7,r7,q7⟩:=q7;exact⟨x7,σ7,H7,I7.unpinned,r7,q7⟩
end
end L2
namespace L2
open PySem PySem.Spec PyProof.Rows
abbrev R2:=V->V->Hp->VK->Prop
def OpR (X:Cx)(f:Gg->Gg->Sem Gg)(r:R2):Prop :=
 ∀ (ω:List (Gj×Obj)) (s:Gh) (σ:St) (H:Hp) (x y:V) (v u:Gg) (Q:VK),Inv X ω σ H s->RelV x v->RelV y u->r x y H Q ->
  wpAny (model X.prog X.w) X.A (f v u) (EP X ω σ Q) X.xe s
def UnR (X:Cx)(f:Gg->Sem Gg)(r:V->Hp->VK->Prop):Prop :=
 ∀ (ω:List (Gj×Obj)) (s:Gh) (σ:St) (H:Hp) (x:V) (v:Gg) (Q:VK),Inv X ω σ H s->RelV x v->r x H Q ->
  wpAny (model X.prog X.w) X.A (f v) (EP X ω σ Q) X.xe s
def CallR (X:Cx)(f:Gg)(r:List V->Hp->VK->Prop):Prop :=
 ∀ (ω:List (Gj×Obj)) (s:Gh) (σ:St) (H:Hp) (xs:List V) (us:List Gg) (Q:VK),Inv X ω σ H s->Vals xs us->r xs H Q ->
  wpAny (model X.prog X.w) X.A (call f us) (EP X ω σ Q) X.xe s
def TruR (X:Cx)(r:V->Hp->(Bool->Hp->Prop)->Prop):Prop :=
 ∀ (ω:List (Gj×Obj)) (s:Gh) (σ:St) (H:Hp) (x:V) (v:Gg) (Q:Bool->Hp->Prop),Inv X ω σ H s->RelV x v->r x H Q ->
  wpAny (model X.prog X.w) X.A (truthy v) (TP X ω σ Q) X.xe s
def tOp (r:R2)(ta tb:TE):TE:=λσ H Q=>ta σ H λx H1=>tb σ H1 λy H2=>r x y H2 Q
def tUn (r:V->Hp->VK->Prop)(ta:TE):TE:=λσ H Q=>ta σ H λx H1=>r x H1 Q
def rI (C:Int->Int->Prop)(g:Int->Int->V):R2:=λx y H Q=>∃ i j,x=.int i/\y=.int j/\C i j/\Q (g i j) H
def rI0 (g:Int->Int->V):R2:=λx y H Q=>∃ i j,x=.int i/\y=.int j/\Q (g i j) H
def rU (g:Int->V):V->Hp->VK->Prop:=λx H Q=>∃ i,x=.int i/\Q (g i) H
section
variable {X:Cx}{a b c:Expr}{ta tb tc:TE}{pos:Pos}
theorem binT (ha:PE X a ta)(hb:PE X b tb){ω:List (Gj×Obj)}{s:Gh}{σ:St}{H:Hp}{R:V->V->Hp->Prop}(I:Inv X ω σ H s)
  (h:ta σ H λx H1=>tb σ H1 λy H2=>R x y H2) {Q:Gg->Gh->Prop} {f:Gg->Gg->Sem Gg}
  (hf:∀ v u s2 x y H2,Inv X ω σ H2 s2->RelV x v->RelV y u->R x y H2->wpAny (model X.prog X.w) X.A (f v u) Q X.xe s2) :
  wpAny (model X.prog X.w) X.A (eval a X.env) (λv s₁=>wpAny (model X.prog X.w) X.A (eval b X.env) (λu s₂=>wpAny (model X.prog X.w) X.A (f v u) Q X.xe s₂) X.xe s₁) X.xe s:=by
 refine thn (ha ω s σ H _ I h) λv s1 ⟨x,H1,I1,r1,q1⟩=>?_;refine thn (hb ω s1 σ H1 _ I1 q1) λu s2 ⟨y,H2,I2,r2,q2⟩=>?_;exact hf v u s2 x y H2 I2 r1 r2 q2
theorem pe_op {op:Operator}{r:R2}(ho:OpR X (binaryOp op) r)(ha:PE X a ta)(hb:PE X b tb):PE X (.BinOp a op b pos) (tOp r ta tb):=by
 intro ω s σ H Q I h;exact wpAny_BinOp (binT ha hb I h λv u s2 x y H2 I2 rx ry q=>ho ω s2 σ H2 x y v u Q I2 rx ry q)
theorem pe_un {op:UnaryOp}{r:V->Hp->VK->Prop}(ho:UnR X (unaryOp op) r)(ha:PE X a ta):PE X (.UnaryOp op a pos) (tUn r ta):=by
 intro ω s σ H Q I h;exact UnaryOp_ (thn (ha ω s σ H _ I h) λv s1 ⟨x,H1,I1,r1,q1⟩=>ho ω s1 σ H1 x v Q I1 r1 q1)
theorem opI {f:Gg->Gg->Sem Gg}{C:Int->Int->Prop}{g:Int->Int->Int}
  (rule:∀ (i j:Int) (t u:Tok) (s:Gh) (Q:Gg->Gh->Prop) (E:Gg->Gh->Prop),C i j->Q (.int (g i j) s.toks) { s with toks:=s.toks+1 }->wpAny (model X.prog X.w) X.A (f (.int i t) (.int j u)) Q E s) :
  OpR X f (rI C λi j=>.int (g i j)):=by
 intro ω s σ H x y v u Q I rx ry h;obtain⟨i,j,rfl,rfl,hc,q⟩:=h;obtain⟨t,rfl⟩:=rx;obtain⟨t',rfl⟩:=ry;exact rule i j t t' s _ _ hc ⟨.int (g i j),H,I.tok _,⟨_,rfl⟩,q⟩
theorem opI0 {f:Gg->Gg->Sem Gg}{g:Int->Int->Int}
  (rule:∀ (i j:Int) (t u:Tok) (s:Gh) (Q:Gg->Gh->Prop) (E:Gg->Gh->Prop),Q (.int (g i j) s.toks) { s with toks:=s.toks+1 }->wpAny (model X.prog X.w) X.A (f (.int i t) (.int j u)) Q E s) :
  OpR X f (rI0 λi j=>.int (g i j)):=by
 intro ω s σ H x y v u Q I rx ry h;obtain⟨i,j,rfl,rfl,q⟩:=h;obtain⟨t,rfl⟩:=rx;obtain⟨t',rfl⟩:=ry;exact rule i j t t' s _ _ ⟨.int (g i j),H,I.tok _,⟨_,rfl⟩,q⟩
theorem opB0 {f:Gg->Gg->Sem Gg}{g:Int->Int->Bool}
  (rule:∀ (i j:Int) (t u:Tok) (s:Gh) (Q:Gg->Gh->Prop) (E:Gg->Gh->Prop),Q (.bool (g i j)) s->wpAny (model X.prog X.w) X.A (f (.int i t) (.int j u)) Q E s) :
  OpR X f (rI0 λi j=>.bl (g i j)):=by
 intro ω s σ H x y v u Q I rx ry h;obtain⟨i,j,rfl,rfl,q⟩:=h;obtain⟨t,rfl⟩:=rx;obtain⟨t',rfl⟩:=ry;exact rule i j t t' s _ _ ⟨.bl (g i j),H,I,rfl,q⟩
def CDiv (i j:Int):Prop:=0<j/\j<1073741824
def CPow (i j:Int):Prop:=0<=j/\j<=1000000/\i.natAbs<2^64
def CMul (i j:Int):Prop:=(-(2^64)<i/\i<2^64)\/(-(2^64)<j/\j<2^64)
theorem CMul.ok {i j:Int}(h:CMul i j):IntMulOk i j:=by
 rcases h with ⟨h1,h2⟩|⟨h1,h2⟩
 .exact .of_left (intBits_le_64 h1 h2)
 .exact .of_right (intBits_le_64 h1 h2)
theorem op_add:OpR X (binaryOp .Add) (rI0 λi j=>.int (i+j)):=opI0 λ_ _ _ _ _ _ _ q=>add_int q
theorem op_sub:OpR X (binaryOp .Sub) (rI0 λi j=>.int (i-j)):=opI0 λ_ _ _ _ _ _ _ q=>sub_int q
theorem op_mul:OpR X (binaryOp .Mult) (rI CMul λi j=>.int (i*j)):=opI λ_ _ _ _ _ _ _ hc q=>mul_int q hc.ok
theorem op_fdiv:OpR X (binaryOp .FloorDiv) (rI CDiv λi j=>.int (i/j)):=opI λi j _ _ _ _ _ hc q=>by
 have h1:(0:Int)<j:=hc.1;have h2:j<1073741824:=hc.2;exact floordiv_int (by omega) (by rw[Int.fdiv_eq_ediv_of_nonneg i (by omega)];exact q) (.inl (PyProof.noPylong_small (by omega)))
theorem op_mod:OpR X (binaryOp .Mod) (rI (λ_ j=>0<j) λi j=>.int (i%j)):=opI λi j _ _ _ _ _ hc q=>by
 have h1:(0:Int)<j:=hc;exact mod_int' (by omega) (by rw[Int.fmod_eq_emod_of_nonneg i (by omega)];exact q)
theorem op_pow:OpR X (binaryOp .Pow) (rI CPow λi j=>.int (i^j.toNat)):=opI λ_ _ _ _ _ _ _ hc q=>pow_int_small hc.1 hc.2.1 hc.2.2 q
theorem op_and:OpR X (binaryOp .BitAnd) (rI0 λi j=>.int (uI i j)):=opI0 λ_ _ _ _ _ _ _ q=>and_int q
theorem op_or:OpR X (binaryOp .BitOr) (rI0 λi j=>.int (qT i j)):=opI0 λ_ _ _ _ _ _ _ q=>or_int q
theorem op_xor:OpR X (binaryOp .BitXor) (rI0 λi j=>.int (vk i j)):=opI0 λ_ _ _ _ _ _ _ q=>xor_int q
theorem unI {f:Gg->Sem Gg}{g:Int->Int}
  (rule:∀ (i:Int) (t:Tok) (s:Gh) (Q:Gg->Gh->Prop) (E:Gg->Gh->Prop),Q (.int (g i) s.toks) { s with toks:=s.toks+1 }->wpAny (model X.prog X.w) X.A (f (.int i t)) Q E s) :
  UnR X f (rU λi=>.int (g i)):=by
 intro ω s σ H x v Q I rx h;obtain⟨i,rfl,q⟩:=h;obtain⟨t,rfl⟩:=rx;exact rule i t s _ _ ⟨.int (g i),H,I.tok _,⟨_,rfl⟩,q⟩
theorem un_neg:UnR X (unaryOp .USub) (rU λi=>.int (-i)):=unI λ_ _ _ _ _ q=>neg_int q
end
section
variable {X:Cx}{a b c:Expr}{ta tb tc:TE}{pos:Pos}
theorem op_lt:OpR X (compareOp .Lt) (rI0 λi j=>.bl (decide (i<j))):=opB0 λ_ _ _ _ _ _ _ q=>lt_int q
theorem op_le:OpR X (compareOp .LtE) (rI0 λi j=>.bl (decide (i<=j))):=opB0 λ_ _ _ _ _ _ _ q=>le_int q
theorem op_gt:OpR X (compareOp .Gt) (rI0 λi j=>.bl (decide (j<i))):=opB0 λ_ _ _ _ _ _ _ q=>gt_int q
theorem op_ge:OpR X (compareOp .GtE) (rI0 λi j=>.bl (decide (j<=i))):=opB0 λ_ _ _ _ _ _ _ q=>ge_int q
theorem OpR.or {f:Gg->Gg->Sem Gg}{r r':R2}(h:OpR X f r)(h':OpR X f r'):OpR X f (λx y H Q=>r x y H Q\/r' x y H Q):=by
 intro ω s σ H x y v u Q I rx ry q;rcases q with q|q
 .exact h ω s σ H x y v u Q I rx ry q
 .exact h' ω s σ H x y v u Q I rx ry q
theorem nomark (b:Expr){op:CmpOp}(h:op≠.In:=by decide)(h2:op≠.NotIn:=by decide):behindInMarks op b=false:=by
 have e1:(op==CmpOp.In)=false:=by cases op<;>first|rfl|exact absurd rfl h
 have e2:(op==CmpOp.NotIn)=false:=by cases op<;>first|rfl|exact absurd rfl h2
 cases b<;>simp[behindInMarks,e1,e2]
theorem pe_cmpR {op:CmpOp}{r:R2}(ho:OpR X (compareOp op) r)(ha:PE X a ta)(hb:PE X b tb)(hm:behindInMarks op b=false):PE X (.Compare a [op] [b] pos) (tOp r ta tb):=by
 intro ω s σ H Q I h;exact wpAny_Compare1 (binT ha hb I h λv u s2 x y H2 I2 rx ry q=>ho ω s2 σ H2 x y v u Q I2 rx ry q) hm
def tTest (t:TE):TT:=λσ H Q=>t σ H λx H'=>∃ k,x=.bl k/\Q k H'
theorem pt_cmpR {op:CmpOp}{r:R2}(ho:OpR X (compareOp op) r)(ha:PE X a ta)(hb:PE X b tb)(hm:behindInMarks op b=false):PT X (.Compare a [op] [b] pos) (tTest (tOp r ta tb)):=by
 intro ω s σ H Q I h;refine wpAny_isTrue_Compare1 (thn (ha ω s σ H _ I h) λv s1 ⟨x,H1,I1,r1,q1⟩=>thn (hb ω s1 σ H1 _ I1 q1) λu s2 ⟨y,H2,I2,r2,q2⟩ =>
  thn (ho ω s2 σ H2 x y v u _ I2 r1 r2 q2) λc s3 ⟨z,H3,I3,r3,k,e,q3⟩=>?_) hm
 subst e;cases r3;exact wpAny_truthy_bool ⟨H3,I3,q3⟩
def tChain (r r':R2)(ta tb tc:TE):TE:=λσ H Q=>ta σ H λx H1=>tb σ H1 λy H2=>r x y H2 λz H3=>∃ k,z=.bl k /\
 (if k=true then tc σ H3 λw' H4=>r' y w' H4 Q else Q (.bl false) H3)
theorem pe_chain {op op':CmpOp}{r r':R2}(ho:OpR X (compareOp op) r)(ho':OpR X (compareOp op') r')(ha:PE X a ta)(hb:PE X b tb)(hc:PE X c tc)
  (hm:lastMarks [op,op'] [b,c]=false:=by with_unfolding_all rfl):PE X (.Compare a [op,op'] [b,c] pos) (tChain r r' ta tb tc):=by
 intro ω s σ H Q I h;refine Compare_chain (thn (ha ω s σ H _ I h) λv s1 ⟨x,H1,I1,r1,q1⟩=>chain_link (thn (hb ω s1 σ H1 _ I1 q1) λu s2 ⟨y,H2,I2,r2,q2⟩ =>
  thn (ho ω s2 σ H2 x y v u _ I2 r1 r2 q2) λd s3 ⟨z,H3,I3,r3,k,e,q3⟩=>?_)) hm
 subst e;cases r3;refine wpAny_truthy_bool ?_;cases k with
 | false=>exact ite_ff ⟨.bl false,H3,I3,rfl,q3⟩
 | true=>exact ite_tt (chain_last (thn (hc ω s3 σ H3 _ I3 q3) λw' s4 ⟨z',H4,I4,r4,q4⟩=>ho' ω s4 σ H4 y z' u w' Q I4 r2 r4 q4))
theorem pt_chain {op op':CmpOp}{r r':R2}(ho:OpR X (compareOp op) r)(ho':OpR X (compareOp op') r')(ha:PE X a ta)(hb:PE X b tb)(hc:PE X c tc)
  (hm:lastMarks [op,op'] [b,c]=false:=by with_unfolding_all rfl):PT X (.Compare a [op,op'] [b,c] pos) (tTest (tChain r r' ta tb tc)):=by
 intro ω s σ H Q I h;refine isTrue_chain (thn (ha ω s σ H _ I h) λv s1 ⟨x,H1,I1,r1,q1⟩=>test_link (thn (hb ω s1 σ H1 _ I1 q1) λu s2 ⟨y,H2,I2,r2,q2⟩ =>
  thn (ho ω s2 σ H2 x y v u _ I2 r1 r2 q2) λd s3 ⟨z,H3,I3,r3,k,e,q3⟩=>?_)) hm
 subst e;cases r3;refine wpAny_truthy_bool ?_;cases k with
 | false =>
  obtain⟨k',e',q'⟩:=q3;cases e';exact ite_ff ⟨H3,I3,q'⟩
 | true =>
  refine ite_tt (test_last (thn (hc ω s3 σ H3 _ I3 q3) λw' s4 ⟨z',H4,I4,r4,q4⟩=>thn (ho' ω s4 σ H4 y z' u w' _ I4 r2 r4 q4) λd' s5 ⟨z2,H5,I5,r5,k2,e2,q5⟩=>?_));subst e2;cases r5;exact wpAny_truthy_bool ⟨H5,I5,q5⟩
def TruV (K:ja)(x:V)(H:Hp)(k:Bool):Prop :=
 match x with
 | .non=>k=false
 | .bl b=>k=b
 | .int i=>k=(i !=0)
 | .str y=>y.length<=sizeLine/\k=((y.length:Int) !=0)
 | .byt y=>y.size<=sizeLine/\k=((y.size:Int) !=0)
 | .ref p=>(∃ xs,SqL K H p xs/\k=!xs.isEmpty)\/(∃ xs,SqT K H p xs/\k=!xs.isEmpty)\/∃ kvs,H p=Ga (.dK kvs)/\k=!kvs.isEmpty
 | _=>False
theorem isEmpty_kv {κ:Type}{kvs:List (κ×V)}{vs:List (κ×Gg)}(r:KV kvs vs):(!vs.isEmpty)=!kvs.isEmpty:=by
 cases r<;>rfl
theorem isEmpty_of {xs:List V}{its:List Gg}(r:Vals xs its):(!its.toArray.isEmpty)=!xs.isEmpty:=by
 cases r<;>simp
theorem line63:(sizeLine:Nat)<2^63:=by rw[sizeLine_eq];decide
theorem tru_ok:TruR X (λx H Q=>∃ k,TruV X.K x H k/\Q k H):=by
 intro ω s σ H x v Q I rx h;obtain⟨k,e,q⟩:=h;have hl:=line63;have hs:sizeLine=16777216:=sizeLine_eq;cases x with
 | non =>
  cases rx;have e':k=false:=e;subst e';exact truthy_none ⟨H,I,q⟩
 | bl b =>
  cases rx;have e':k=b:=e;subst e';exact wpAny_truthy_bool ⟨H,I,q⟩
 | int i =>
  obtain⟨t,rfl⟩:=rx;have e':k=(i !=0):=e;subst e';exact PySem.P.truthy_int ⟨H,I,q⟩
 | str y =>
  obtain⟨t,rfl⟩:=rx;obtain⟨hy,e'⟩:y.length<=sizeLine/\k=((y.length:Int) !=0):=e;subst e';exact PySem.P.truthy_str (by omega) ⟨H,I.tok _,q⟩
 | byt y =>
  obtain⟨t,rfl⟩:=rx;obtain⟨hy,e'⟩:y.size<=sizeLine/\k=((y.size:Int) !=0):=e;subst e';exact PySem.W.truthy_bytes (by omega) ⟨H,I.tok _,q⟩
 | ref p =>
  cases rx;have e':(∃ xs,SqL X.K H p xs/\k=!xs.isEmpty)\/(∃ xs,SqT X.K H p xs/\k=!xs.isEmpty)\/∃ kvs,H p=Ga (.dK kvs)/\k=!kvs.isEmpty:=e;rcases e' with ⟨xs,hx,e'⟩|⟨xs,hx,e'⟩|⟨kvs,hx,e'⟩
  .subst e';obtain⟨its,r,pl,hz⟩:=I.list hx;have hlen:=r.length;exact wpAny_truthy_list pl.isList (by simp only[jo];omega) ⟨H,I.tok _,by rw[isEmpty_of r];exact q⟩
  .subst e';obtain⟨its,r,pl,hz⟩:=I.tuple hx;have hlen:=r.length;exact truthy_tuple pl (by simp only[jo];omega) ⟨H,I.tok _,by rw[isEmpty_of r];exact q⟩
  .subst e';obtain⟨hz,hS,vs,r,m⟩:kvs.length<=sizeLine/\(p==sysModules)=false/\∃ vs,KV kvs vs/\s.heap.DictOf (mixKind X.prog X.w) p vs:=I.hok p _ hx;have hlen:kvs.length=vs.length:=Paired.length r;exact wpAny_truthy_dict hS m (by omega) ⟨H,I.tok _,by rw[isEmpty_kv r];exact q⟩
 | _=>exact(show False from e).elim
theorem pt_truth (ha:PE X a ta)(he:∀ whole,isTrue a X.env whole=(do let v <- whole;standAt a.pos;holding [v] (truthy v))) :
  PT X a (λσ H Q=>ta σ H λx H'=>∃ k,TruV X.K x H' k/\Q k H'):=by
 intro ω s σ H Q I h;exact isTrue_plain (thn (ha ω s σ H _ I h) λv s1 ⟨x,H1,I1,r1,q1⟩=>tru_ok ω s1 σ H1 x v Q I1 r1 q1) (he _)
theorem op_add_str:OpR X (binaryOp .Add) (λx y H Q=>∃ i j,x=.str i/\y=.str j/\i.length+j.length<=sizeLine/\Q (.str (i++j)) H):=by
 intro ω s σ H x y v u Q I rx ry h;obtain⟨i,j,rfl,rfl,hz,q⟩:=h;obtain⟨t,rfl⟩:=rx;obtain⟨t',rfl⟩:=ry;exact add_str (λt' tk=>⟨.str (i++j),H,I.tok _,⟨_,rfl⟩,q⟩) hz
theorem vals1 {x:V}{us:List Gg}(r:Vals [x] us):∃ u,us=[u]/\RelV x u:=by
 cases r with
 | cons r1 r2=>cases r2;exact⟨_,rfl,r1⟩
theorem vals2 {x y:V}{us:List Gg}(r:Vals [x,y] us):∃ u w',us=[u,w']/\RelV x u/\RelV y w':=by
 cases r with
 | cons r1 r2 =>
  cases r2 with
  | cons r3 r4=>cases r4;exact⟨_,_,rfl,r1,r3⟩
theorem call_max2 (hc:X.calm=true):CallR X (.builtin "max") (λxs H Q=>∃ i j,xs=[.int i,.int j]/\Q (.int (if j>i then j else i)) H):=by
 intro ω s σ H xs us Q I r h;obtain⟨i,j,rfl,q⟩:=h;obtain⟨u,w',rfl,⟨t,rfl⟩,⟨t',rfl⟩⟩:=vals2 r;refine max_two_ints (I.ok.hd hc) λh' tk k=>⟨_,H,I.kept k,?_,q⟩;by_cases hj:j>i
 .rw[Ge hj,Ge hj];exact⟨_,rfl⟩
 .rw[Gf hj,Gf hj];exact⟨_,rfl⟩
theorem call_min2 (hc:X.calm=true):CallR X (.builtin "min") (λxs H Q=>∃ i j,xs=[.int i,.int j]/\Q (.int (if j<i then j else i)) H):=by
 intro ω s σ H xs us Q I r h;obtain⟨i,j,rfl,q⟩:=h;obtain⟨u,w',rfl,⟨t,rfl⟩,⟨t',rfl⟩⟩:=vals2 r;refine min_two_ints (I.ok.hd hc) λh' tk k=>⟨_,H,I.kept k,?_,q⟩;by_cases hj:j<i
 .rw[Ge hj,Ge hj];exact⟨_,rfl⟩
 .rw[Gf hj,Gf hj];exact⟨_,rfl⟩
theorem call_int1:CallR X (.type "int") (λxs H Q=>(∃ i,xs=[.int i]/\Q (.int i) H)\/∃ k,xs=[.bl k]/\Q (.int (if k then 1 else 0)) H):=by
 intro ω s σ H xs us Q I r h;rcases h with ⟨i,rfl,q⟩|⟨k,rfl,q⟩
 .obtain⟨u,rfl,t,rfl⟩:=vals1 r;exact call_int_int ⟨.int i,H,I,⟨_,rfl⟩,q⟩
 .obtain⟨u,rfl,r1⟩:=vals1 r;cases r1;exact call_int_bool ⟨.int (if k then 1 else 0),H,I.tok _,⟨_,rfl⟩,q⟩
end
end L2
namespace L2
open PySem PySem.Spec PyProof.Rows
structure ObjM (h:Heap)(x dx C:Gj)(mA:Str->Option Gg):Prop where
 obj:h.get? x=Ga (qy C dx)
 ns:h.Ns1 dx mA
 ne:dx≠x
theorem lookIn_ns {h:Heap}{dx:Gj}{mA:Str->Option Gg}(n:h.Ns1 dx mA):∃ od,h.get? dx=Ga od/\∀ name,qH name od=Ga (mA name):=by
 obtain⟨o,es,ep,ho,hd,hk,_,hm⟩:=n;refine⟨o,ho,λname=>?_⟩;have e:=hm name;unfold nsFind findBy at e;rw[<- Array.find?_toList] at e;unfold qH;rw[hd];dsimp only;split
 .rename_i y q;rw[q] at e;exact congrArg Ga e
 .rename_i q;rw[q] at e;have a:es.toList.any (·.refKey)=false:=by
   rw[List.any_eq_false];intro y hy;obtain⟨z,t,hkey⟩:=hk y (vC.mp hy);simp[DictEntry.refKey,hkey]
  have a':¬es.toList.any (·.refKey)=true:=by rw[a];exact jy
  rw[Gf a'];exact congrArg Ga e
theorem ObjM.look {h:Heap}{x dx C:Gj}{mA:Str->Option Gg}(I:ObjM h x dx C mA):∃ od,Jy h x (qy C dx) C (Ga od)/\∀ name,qH name od=Ga (mA name) :=
 let ⟨od,ho,hl⟩:=lookIn_ns I.ns
 ⟨od,⟨I.obj,rfl,rfl,ho⟩,hl⟩
section
variable {prog:Program}{w:World}{A:Around}{E:Gg->Gh->Prop}{s:Gh}{K:ja}{x dx C f:Gj}{mA:Str->Option Gg}{name:Str}{v:Gg}
end
def putF (f:Str)(v:V):List (Str×V)->List (Str×V)
 | []=>[(f,v)]
 | (g,x)::r=>if g=f then(g,v)::r else(g,x)::putF f v r
theorem RelO.some_of {v:V}{o:Option Gg}(r:RelO (Ga v) o):∃ u,o=Ga u/\RelV v u:=by
 cases o with
 | none=>exact(show False from r).elim
 | some u=>exact⟨u,rfl,r⟩
section
variable {P:Program}{w:World}{H H':Hp}{h h':Heap}{a C dx:Gj}{fs fs':List (Str×V)}
end
section
variable {X:Cx}{ω:List (Gj×Obj)}{σ:St}{H:Hp}{s:Gh}{a C dx:Gj}{fs:List (Str×V)}{f:Str}{v:V}{A:Around}{E:Gg->Gh->Prop}
end
section
variable {X:Cx}{o e value:Expr}{f:Str}{pos pos' tpos:Pos}{ta tv:TE}
end
section
variable {X:Cx}{ω:List (Gj×Obj)}{σ:St}{H:Hp}{s:Gh}{A:Around}{E:Gg->Gh->Prop}{Q:Gg->Gh->Prop}{c:Gg}{b:Bool}
end
end L2
namespace L2
open PySem PySem.Spec PyProof.Rows
structure Room (k:Nat)(A:Around):Prop where
 hd:A.handled=Gb
 dp:A.depth+3*k+5<recursionLimit
 un:A.units+16*k+200<cLine
theorem Room.mono {j k:Nat}{A:Around}(r:Room k A)(h:j<=k):Room j A:=⟨r.hd,by have:=r.dp;omega,by have:=r.un;omega⟩
theorem Room.deeper {k:Nat}{A:Around}(r:Room (k+1) A)(ψ:Env):Room k (A.deeper ψ) :=
 ⟨r.hd,by have:=r.dp;show A.depth+1+3*k+5<_;omega,by have:=r.un;show A.units+3+16*k+200<_;omega⟩
theorem Room.depth {k:Nat}{A:Around}(r:Room k A):A.depth<recursionLimit:=by have:=r.dp;omega
def tNil:TA:=λ_ H Q=>Q [] H
def tCons (ta:TE)(tr:TA):TA:=λσ H Q=>ta σ H λx H1=>tr σ H1 λxs H2=>Q (x::xs) H2
section
variable {X:Cx}{e:Expr}{es:List Expr}{te:TE}{t:TA}{pos:Pos}
theorem pa_nil:PA X [] tNil:=λ_ _ _ _ H Q I h=>Je ⟨[],H,I,.nil,h⟩
theorem pa_cons (ha:PE X e te)(hr:PA X es t)(hs:starEach (e::es) X.env=(false,eval e X.env)::starEach es X.env:=by rfl):PA X (e::es) (tCons te t):=by
 intro pos ω s σ H Q I h;rw[hs];show wpAny _ _ (spliced ((false,eval e X.env)::backTo pos (starEach es X.env))) _ _ s;refine qZ (thn (ha ω s σ H _ I h) λu s1 ⟨x,H1,I1,r1,q1⟩=>?_);exact thn (hr pos ω s1 σ H1 _ I1 q1) λus s2 ⟨xs,H2,I2,r2,q2⟩=>⟨x::xs,H2,I2,.cons r1 r2,q2⟩
def tTup (t:TA):TE:=λσ H Q=>t σ H λxs H1=>xs.length<=sizeLine/\∀ p,H1 p=Gb->Q (.ref p) (upd H1 p (.tup xs))
def tLst (t:TA):TE:=λσ H Q=>t σ H λxs H1=>xs.length<=sizeLine/\∀ p,H1 p=Gb->Q (.ref p) (upd H1 p (.lst xs))
theorem pe_tup {x1}(h:PA X es t):PE X (.Tuple es x1 pos) (tTup t):=by
 intro ω s σ H Q I hq;refine wpAny_Tuple_spliced (thn (h pos ω s σ H _ I hq) λus s1 ⟨xs,H1,I1,r,z,q⟩=>⟨by rw[<- r.length];exact z,?_⟩);have hf:H1 s1.heap.objs.size=Gb:=I1.hok.fresh (jk _);refine⟨.ref s1.heap.objs.size,upd H1 s1.heap.objs.size (.tup xs),I1.laid (t':=s1.toks) (λb u e=>jd _ e) (jk _) ?_,rfl,q _ hf⟩;exact⟨z,us,r,⟨_,jA _ rfl,rfl,_,rfl⟩⟩
theorem pe_lst (h:PA X es t):PE X (.List es pos) (tLst t):=by
 intro ω s σ H Q I hq;refine wpAny_List_spliced (thn (h pos ω s σ H _ I hq) λus s1 ⟨xs,H1,I1,r,z,q⟩=>⟨by rw[<- r.length];exact z,?_⟩);have hf:H1 s1.heap.objs.size=Gb:=I1.hok.fresh (jk _);refine⟨.ref s1.heap.objs.size,upd H1 s1.heap.objs.size (.lst xs),I1.laid (t':=s1.toks) (λb u e=>jd _ e) (jk _) ?_,rfl,q _ hf⟩;exact⟨z,us,0,r,jA _ rfl⟩
end
abbrev Sp:=List V->Hp->VK->XK->Prop
abbrev CXT:=List Env->Hp->Gh->XK->Gg->Gh->Prop
structure Env0 (P:Program)(w:World)(K:ja)(mg:Str->Option Gg)(base:Heap)(A:Around)(outer:List Env)(s:Gh)(H:Hp):Prop where
 frames:A.frames=Ga outer
 mod:Mod K mg base
 bs:∀ b o,base.get? b=Ga o->s.heap.get? b=Ga o/\H b=Gb
 bsz:base.objs.size<=s.heap.objs.size
 funs:s.heap.FunFrames base outer
 frf:∀ b∈frs outer,H b=Gb
 hok:HOk P w H s.heap
 bare:AllBare s.gens
def CE (outer:List Env)(P:Program)(w:World)(H:Hp)(s:Gh)(Q:VK)(u:Gg)(s':Gh):Prop :=
 ∃ v H',s'.os=s.os/\AllBare s'.gens/\Un (frs outer) [] H H' s.heap s'.heap/\HOk P w H' s'.heap/\RelV v u/\Q v H'
def CR (CX:CXT)(outer:List Env)(P:Program)(w:World)(H:Hp)(s:Gh)(Q:VK)(E:XK)(r:Result)(s':Gh):Prop :=
 match r with
 | .ok (.ret u)=>CE outer P w H s Q u s'
 | .ok _=>False
 | .error e=>CX outer H s E e s'
structure FnOk (P:Program)(w:World)(K:ja)(mg:Str->Option Gg)(base:Heap)(CX:CXT)(k:Nat)(f:Gj)(fd:Gi)(ps:List Str)(sp:Sp):Prop where
 len:∀ vs H Q E,sp vs H Q E->vs.length=ps.length
 run:∀ (A:Around) (outer:List Env) (s:Gh) (H:Hp) (args:Args) (us:List Gg) (vs:List V) (Q:VK) (E:XK),Room k A->Env0 P w K mg base A outer s H->BindsTo s fd args (ps.zip us)->Vals vs us->sp vs H Q E ->
  codeAny (model P w) A (.call (.ref f) args) (CR CX outer P w H s Q E) s
theorem FnOk.mono {P:Program}{w:World}{K:ja}{mg:Str->Option Gg}{base:Heap}{CX:CXT}{j k:Nat}{f:Gj}{fd:Gi}{ps:List Str}{sp:Sp}(F:FnOk P w K mg base CX j f fd ps sp)(h:j<=k) :
  FnOk P w K mg base CX k f fd ps sp:=⟨F.len,λA outer s H args us vs Q E hr=>F.run A outer s H args us vs Q E (hr.mono h)⟩
theorem FnOk.imp {P:Program}{w:World}{K:ja}{mg:Str->Option Gg}{base:Heap}{CX:CXT}{k:Nat}{f:Gj}{fd:Gi}{ps:List Str}{sp sp':Sp}(F:FnOk P w K mg base CX k f fd ps sp)
  (h:∀ vs H Q E,sp' vs H Q E->sp vs H Q E):FnOk P w K mg base CX k f fd ps sp' :=
 ⟨λvs H Q E q=>F.len vs H Q E (h _ _ _ _ q),λA outer s H args us vs Q E hr he hb hv hs=>F.run A outer s H args us vs Q E hr he hb hv (h _ _ _ _ hs)⟩
section
variable {X:Cx}{ω:List (Gj×Obj)}{σ:St}{H:Hp}{s s':Gh}
theorem Inv.env0 (I:Inv X ω σ H s):Env0 X.prog X.w X.K X.mg X.base X.A X.stack s H :=
 ⟨I.ok.frames,I.ok.mod,I.bs,jn I.ok.bsz I.sz,I.stack,I.stkFree,I.hok,I.bare⟩
theorem Inv.after {Q:VK}{u:Gg}(I:Inv X ω σ H s)(h:CE X.stack X.prog X.w H s Q u s'):EP X ω σ Q u s':=by
 obtain⟨v,H',os,bare,un,hok,r,q⟩:=h;obtain⟨hh,g,d,t,os'⟩:=s';obtain rfl:os'=s.os:=os;exact⟨v,H',I.call (h':=hh) (g':=g) (d':=d) (t':=t) (ch:=[]) un hok bare (λb z=>absurd z (by simp)),r,q⟩
end
def tCall (sp:Sp)(dvs:List V)(E:XK)(t:TA):TE:=λσ H Q=>t σ H λvs H1=>sp (vs++dvs) H1 Q E
def Binds (K:ja)(fd:Gi)(ps:List Str)(ds:List Gg):Prop :=
 ∀ (s:Gh) (us:List Gg),K.In s.heap->(us++ds).length=ps.length->BindsTo s fd ⟨us,[]⟩ (ps.zip (us++ds))
theorem Binds.all {K:ja}{fd:Gi}{ps:List Str}(h:∀ us:List Gg,us.length=ps.length->bindArgs fd ⟨us,[]⟩=pure (ps.zip us)):Binds K fd ps []:=λs us _ hl=>by
 rw[j7] at hl ⊢;exact .of_eq (h us hl)
def Passes (CX:CXT)(X:Cx)(E:XK):Prop:=∀ (ω:List (Gj×Obj)) (σ:St) (H:Hp) (s:Gh) (e:Gg) (s':Gh),Inv X ω σ H s->CX X.stack H s E e s'->X.xe e s'
section
variable {X:Cx}{CX:CXT}{k:Nat}{f C:Gj}{fd:Gi}{ps:List Str}{sp:Sp}{dvs:List V}{ds:List Gg}{E:XK}{x m:Str}{p pos apos:Pos}{e o:Expr}{es:List Expr}{ta:TE}{t:TA}
theorem run_fn {ω:List (Gj×Obj)}{σ:St}{H:Hp}{s:Gh}{Q:VK}{us:List Gg}{vs:List V}(F:FnOk X.prog X.w X.K X.mg X.base CX k f fd ps sp)(hr:Room k X.A)(hb:Binds X.K fd ps ds)(hd:Vals dvs ds)(hx:Passes CX X E)
  (I:Inv X ω σ H s) (r:Vals vs us) (h:sp (vs++dvs) H Q E):wpAny (model X.prog X.w) X.A (call (.ref f) us) (EP X ω σ Q) X.xe s:=by
 have r2:Vals (vs++dvs) (us++ds):=r.append hd;have hl:(us++ds).length=ps.length:=by rw[<- r2.length];exact F.len _ _ _ _ h
 refine wpAny_call (codeAny_mono (F.run X.A X.stack s H ⟨us,[]⟩ (us++ds) (vs++dvs) Q E hr I.env0 (hb s us I.kIn hl) r2 h) λr s' hq=>?_);cases r with
 | error e=>exact hx ω σ H s e s' I hq
 | ok fl =>
  cases fl with
  | ret u=>exact I.after hq
  | next=>exact False.elim hq
  | brk=>exact False.elim hq
  | cont=>exact False.elim hq
theorem pe_call (F:FnOk X.prog X.w X.K X.mg X.base CX k f fd ps sp)(hr:Room k X.A)(hg:Gl X x)(hm:X.mg x=Ga (.ref f))(hk:kR X.K (.ref f)=true)(hb:Binds X.K fd ps ds)(hd:Vals dvs ds)(hx:Passes CX X E)
  (ha:PA X (e::es) t) (hdb:(x==("__debug__":Str))=false:=by decide) (he:starEach (e::es) X.env=(false,eval e X.env)::starEach es X.env:=by rfl) (hpl:(backTo pos (starEach es X.env)).any (·.1)=false:=by rfl) :
  PE X (.Call (.Name x p) (e::es) [] pos) (tCall sp dvs E t):=by
 intro ω s σ H Q I h;refine wpAny_Call_Name_kw (ld_glob I hg hm ?_ hdb);refine vK (h₀:=X.base) I.ok.mod.kin hk (thn (ha pos ω s σ H _ I h) λus s1 ⟨vs,H1,I1,r,q⟩=>⟨I1.kIn,?_⟩) he hpl;exact run_fn F hr hb hd hx I1 r q
end
section
variable {X:Cx}{CX:CXT}{k:Nat}{f C:Gj}{fd:Gi}{ps ks:List Str}{sp:Sp}{E:XK}{x m:Str}{p pos apos kpos:Pos}{e o:Expr}{es:List Expr}{kws:List Keyword}{te ta:TE}{t tk:TA}{nm:Option Str}
variable {g:List Gg->List Gg->List Gg}{gV:List V->List V->List V}
end
structure FnScope (N P:List Str)(sc:Scope):Prop where
 kind:sc.kind=.function
 co:sc.isCoroutine=false
 gen:sc.isGenerator=false
 nd:N.Nodup
 pre:N.take P.length=P
 par:∀ x∈P,sc.names.lookup x=Ga .local\/sc.names.lookup x=Ga .cell
 nofree:∀ y∈sc.names,y.2≠.free
theorem bindL_out {kindOf:Str->Option NameKind}{x:Str}:∀ {binds:List (Str×Gg)} {m:Str->Option Gg},(∀ v,(x,v)∉binds)->bindL kindOf binds m x=m x
 | [],_,_=>rfl
 | (n,v)::r,m,h=>by
  unfold bindL;rw[bindL_out λw hw=>h w (je _ hw)];split
  .have:x≠n:=by rintro rfl;exact h v jg
   simp[this]
  .rfl
theorem bindC_out {kindOf:Str->Option NameKind}{x:Str}:∀ {binds:List (Str×Gg)} {m:Str->Option Gg},(∀ v,(x,v)∉binds)->bindC kindOf binds m x=m x
 | [],_,_=>rfl
 | (n,v)::r,m,h=>by
  unfold bindC;rw[bindC_out λw hw=>h w (je _ hw)];split
  .rfl
  .have:x≠n:=by rintro rfl;exact h v jg
   simp[this]
theorem bindL_get {kindOf:Str->Option NameKind}{x:Str}{v:Gg}:∀ {P:List Str} {vs:List Gg} {i:Nat} {m:Str->Option Gg},P.Nodup->P[i]?=Ga x->vs[i]?=Ga v->kindOf x=Ga .local ->
  bindL kindOf (P.zip vs) m x=Ga v
 | [],_,_,_,_,h,_,_=>by simp at h
 | _::_,[],_,_,_,_,h,_=>by simp at h
 | p::P,w::vs,0,m,nd,h1,h2,hk=>by
  simp at h1 h2;subst h1;subst h2;show bindL kindOf ((p,w)::P.zip vs) m p=_;unfold bindL;rw[bindL_out λv hv=>(ka.mp nd).1 (qz hv).1,Ge hk];simp
 | p::P,w::vs,i+1,m,nd,h1,h2,hk=>by
  show bindL kindOf ((p,w)::P.zip vs) m x=_;unfold bindL;exact bindL_get (i:=i) (ka.mp nd).2 (by simpa using h1) (by simpa using h2) hk
theorem bindC_get {kindOf:Str->Option NameKind}{x:Str}{v:Gg}:∀ {P:List Str} {vs:List Gg} {i:Nat} {m:Str->Option Gg},P.Nodup->P[i]?=Ga x->vs[i]?=Ga v->kindOf x≠Ga .local ->
  bindC kindOf (P.zip vs) m x=Ga v
 | [],_,_,_,_,h,_,_=>by simp at h
 | _::_,[],_,_,_,_,h,_=>by simp at h
 | p::P,w::vs,0,m,nd,h1,h2,hk=>by
  simp at h1 h2;subst h1;subst h2;show bindC kindOf ((p,w)::P.zip vs) m p=_;unfold bindC;rw[bindC_out λv hv=>(ka.mp nd).1 (qz hv).1,Gf hk];simp
 | p::P,w::vs,i+1,m,nd,h1,h2,hk=>by
  show bindC kindOf ((p,w)::P.zip vs) m x=_;unfold bindC;exact bindC_get (i:=i) (ka.mp nd).2 (by simpa using h1) (by simpa using h2) hk
def start (N:List Str)(vs:List V):St:=vs.map Ga++qI (N.length-vs.length) Gb
def cxOf (CX:CXT)(P:Program)(w:World)(K:ja)(mg:Str->Option Gg)(base:Heap)(N:List Str)(qual:Str)(scope:Scope)(f:Gj)(cd:Gg)(A:Around)(outer:List Env)(s:Gh)(H:Hp)(E:XK):Cx where
 prog:=P
 w:=w
 K:=K
 mg:=mg
 base:=base
 A:=A.deeper (envOfC qual scope s.heap.objs.size f cd)
 N:=N
 s₀:=s
 H₀:=H
 env:=envOfC qual scope s.heap.objs.size f cd
 outer:=outer
 stack:=envOfC qual scope s.heap.objs.size f cd::outer
 ex:=[]
 calm:=true
 fn:=λ_=>true
 pn:=[]
 xe:=λe s'=>wpAny (model P w) (A.deeper (envOfC qual scope s.heap.objs.size f cd)) (leaving (envOfC qual scope s.heap.objs.size f cd) e) (λ_ s''=>CX outer H s E e s'') (λe' s''=>CX outer H s E e' s'') s'
theorem cell_has {sc:Scope}{n:Nat}{x:Str}(h:sc.names.lookup x=Ga .cell):∃ c,(cellsFrom n sc.names []).lookup x=Ga c:=by
 have q:=qj sc.names n [] (.inl h);exact u9.mp q
theorem inv_start {CX:CXT}{P:Program}{w:World}{K:ja}{mg:Str->Option Gg}{base:Heap}{N ps:List Str}{qual:Str}{scope:Scope}{f:Gj}{cd:Gg}{A:Around}{outer:List Env}{s s1:Gh}{H:Hp}{E:XK}{us:List Gg}{vs:List V}
  (S:FnScope N ps scope) (hd:A.handled=Gb) (e0:Env0 P w K mg base A outer s H) (hl:vs.length=ps.length) (r:Vals vs us)
  (x:InCallC s s.heap.objs.size (bindL (envOfC qual scope s.heap.objs.size f cd).kindOf (ps.zip us) λ_=>Gb) (cellsFrom (s.heap.objs.size+1) scope.names []) (bindC (envOfC qual scope s.heap.objs.size f cd).kindOf (ps.zip us) λ_=>Gb) s1) :
  Inv (cxOf CX P w K mg base N qual scope f cd A outer s H E) [] (start N vs) H s1:=by
 have hpl:ps.length<=N.length:=by have:=congrArg vX S.pre;rw[uX] at this;omega
 obtain⟨h1,tk,rfl,hk⟩:=x.done;have noA:∀ b:Gj,b∉(cxOf CX P w K mg base N qual scope f cd A outer s H E).ex:=λb z=>absurd (show b∈([]:List Gj) from z) (by simp);refine⟨⟨e0.mod,S.kind,rfl,rfl,jk _,λy z c h1 h2=>?_,λy hy=>?_,λy c _ h=>?_,λ_=>hd,qJ e0.frames,.inr ⟨rfl,rfl⟩,λb z=>absurd z (noA b),e0.bs,e0.bsz,λb _ _=>noA b,λb z=>absurd z (noA b),e0.funs,e0.frf⟩,
  rfl,e0.bare,Un.kept hk,⟨_,x.toInCall.ns,λi y v h1 h2 h3=>?_⟩,λy c h=>⟨_,x.cell y c h⟩,e0.hok.fresh (jk _),λy c h=>?_,λp hp=>absurd (show p∈([]:List (Gj×Obj)) from hp) (by simp),e0.hok.kept hk,?_⟩
 .exact name_of_addr x.apart (kC h1) (kC h2)
 .have hy:scope.names.lookup y=Ga .cell\/scope.names.lookup y=Ga .free:=hy;rcases hy with hy|hy
  .exact cell_has hy
  .exact absurd rfl (S.nofree _ (kC hy))
 .exact uz (x.above y c (kC h))
 .have hi:i<vs.length:=by
   unfold start at h2;by_cases hi:i<vs.length
   .exact hi
   .rw[uu (by simpa using hi)] at h2;rw[uJ] at h2;split at h2<;>cases h2
  have ha:vs[i]?=Ga v:=by
   unfold start at h2;rw[ux (by simpa using hi),jz] at h2;cases e:vs[i]? with
   | none=>rw[e] at h2;cases h2
   | some a=>rw[e] at h2;cases h2;rfl
  obtain⟨u,hu,rv⟩:=r.get ha;have hp:ps[i]?=Ga y:=by
   rw[<- S.pre,List.getElem?_take_of_lt (by omega)];exact h1
  have ndP:ps.Nodup:=by rw[<- S.pre];exact S.nd.sublist (List.take_sublist _ _)
  refine⟨u,rv,?_⟩;rcases S.par y (ky hp) with k|k
  .exact .inl ⟨k,bindL_get ndP hp hu k⟩
  .obtain⟨c,e⟩:=cell_has (n:=s.heap.objs.size+1) k;refine .inr ⟨.inl k,c,e,?_⟩;have q:=x.cell y c e;rw[bindC_get ndP hp hu (by show scope.names.lookup y≠_;rw[k];decide)] at q;exact q
 .exact e0.hok.fresh (uz (x.above y c (kC h)))
 .unfold start;show _=N.length;rw[jh,jb,qC];omega
theorem fn_of {CX:CXT}{P:Program}{w:World}{K:ja}{mg:Str->Option Gg}{base:Heap}{k:Nat}{f:Gj}{name qual:Str}{params:Arguments}{body:List Stmt}{scope:Scope}{dV kV doc pm cdv ct oc:Gg}{an od:Option Gj}
  {osl:Array (Option Gg)} {N ps:List Str} {sp:Sp} (lk:K.lookup f=Ga ⟨oc,od,.func (kZ name qual params body scope dV kV doc pm an cdv ct),osl⟩) (hcd:vm K cdv qual=true) (S:FnScope N ps scope)
  (len:∀ vs H Q E,sp vs H Q E->vs.length=ps.length)
  (hbody:∀ (A:Around) (outer:List Env) (s:Gh) (H:Hp) (vs:List V) (Q:VK) (E:XK),Room k (A.deeper (envOfC qual scope s.heap.objs.size f cdv))->sp vs H Q E ->
   ∃ t,PSs (cxOf CX P w K mg base N qual scope f cdv A outer s H E) body t/\t { nx:=λ_ H'=>Q .non H',rt:=Q } (start N vs) H) :
  FnOk P w K mg base CX (k+1) f (kZ name qual params body scope dV kV doc pm an cdv ct) ps sp:=by
 refine⟨len,λA outer s H args us vs Q E hr e0 hb r hsp=>?_⟩;have hl:=len _ _ _ _ hsp;have KX:K.In s.heap:=e0.mod.kin.keeps λb o e=>(e0.bs b o e).1;have lim:s.heap.NoLimit:=e0.mod.nolimit.keeps λb o e=>(e0.bs b o e).1;have hkind:∀ y∈ps.zip us,scope.names.lookup y.1=Ga .local\/(scope.names.lookup y.1=Ga .cell/\((cellsFrom (s.heap.objs.size+1) scope.names []).lookup y.1).isSome=true):=λ⟨n,v⟩ hy=>by
  rcases S.par n (qz hy).1 with q|q
  .exact .inl q
  .exact .inr ⟨q,qj _ _ _ (.inl q)⟩
 refine codeAny_call_function hr.depth (KX _ _ lk) rfl S.co S.gen rfl (PySem.W.codeRec_of KX hcd) (hb _ _ _ _ ?_);refine wpAny_newFunctionEnv_cells S.kind hkind λψ he s1 x=>?_;subst he;refine⟨lim.keeps x.toInCall.keep,codeAny_func ?_⟩;obtain⟨t,ht,hq⟩:=hbody A outer s H vs Q E (hr.deeper _) hsp;have I:Inv (cxOf CX P w K mg base N qual scope f cdv A outer s H E) [] (start N vs) H s1:=inv_start S hr.hd e0 hl r x;refine wpAny_mono (ht [] s1 (start N vs) H _ I hq) (λfl s' hs=>?_) λe s' hs=>hs;have fin:∀ {σ':St} {H':Hp} {v:V} {u:Gg},Inv (cxOf CX P w K mg base N qual scope f cdv A outer s H E) [] σ' H' s'->RelV v u->Q v H'->CE outer P w H s Q u s' :=
  λ{σ' H' v u} J rv q=>⟨v,H',J.os,J.bare,J.base,J.hok,rv,q⟩
 cases fl with
 | ret u =>
  obtain⟨v,σ',H',J,rv,q⟩:=hs;exact fin J rv q
 | next =>
  obtain⟨σ',H',J,q⟩:=hs;exact fin (v:=V.non) (u:=j5) J rfl q
 | brk =>
  obtain⟨_,_,_,q⟩:=hs;exact False.elim q
 | cont =>
  obtain⟨_,_,_,q⟩:=hs;exact False.elim q
end L2
namespace L2
open PySem PySem.Spec PyProof.Rows
section
variable {X:Cx}{x:Str}{p pos:Pos}{e:Expr}{es:List Expr}{t:TA}{id T:String}{r:List V->Hp->VK->Prop}
def tCB (r:List V->Hp->VK->Prop)(t:TA):TE:=λσ H Q=>t σ H λvs H1=>r vs H1 Q
theorem pe_callB (hc:CallR X (.builtin id) r)(hg:Gl X x)(hm:X.mg x=Gb)(hv:bootBuiltins x=Ga (.builtin id))(ha:PA X (e::es) t)(hn:x≠"__name__":=by decide)(hdb:(x==("__debug__":Str))=false:=by decide)
  (he:starEach (e::es) X.env=(false,eval e X.env)::starEach es X.env:=by rfl) (hpl:(backTo pos (starEach es X.env)).any (·.1)=false:=by rfl):PE X (.Call (.Name x p) (e::es) [] pos) (tCB r t):=by
 intro ω s σ H Q I h;refine wpAny_Call_Name_kw (ld_blt I hg hm hv ?_ hn hdb);exact PyProof.Rows.callWith_builtin1 (thn (ha pos ω s σ H _ I h) λus s1 ⟨vs,H1,I1,r1,q1⟩=>hc ω s1 σ H1 vs us Q I1 r1 q1) he hpl
theorem pe_callTy (hc:CallR X (.type T) r)(hg:Gl X x)(hm:X.mg x=Gb)(hv:bootBuiltins x=Ga (.type T))(ha:PA X (e::es) t)(hn:x≠"__name__":=by decide)(hdb:(x==("__debug__":Str))=false:=by decide)
  (he:starEach (e::es) X.env=(false,eval e X.env)::starEach es X.env:=by rfl) (hpl:(backTo pos (starEach es X.env)).any (·.1)=false:=by rfl):PE X (.Call (.Name x p) (e::es) [] pos) (tCB r t):=by
 intro ω s σ H Q I h;refine wpAny_Call_Name_kw (ld_blt I hg hm hv ?_ hn hdb);exact PyProof.Rows.callWith_type1 (thn (ha pos ω s σ H _ I h) λus s1 ⟨vs,H1,I1,r1,q1⟩=>hc ω s1 σ H1 vs us Q I1 r1 q1) he hpl
end
end L2
namespace HT
open PySem PyProof.Rows
section
open PySem.SeqAt
open PySem.AutoSeq1 (wpAny_loadPart')
open PySem.MeetsSeq PySem.MeetsSeq2 PySem.MeetsSeq3
end
section
variable {prog:Program}{w:World}{A:Around}{E:Gg->Gh->Prop}{s:Gh}
theorem cat_tup {t b:Gj}{vs ws:List Gg}{Q:Gg->Gh->Prop}(ht:IsTup s.heap t vs.toArray)(hb:IsTup s.heap b ws.toArray)(hv:vs≠[])
  (h1:ws=[]->Q (.ref t) s) (h2:ws≠[]->Q (.ref s.heap.objs.size) { s with heap:=s.heap.push { cls:=.type "tuple",data:=.seq (vs++ws).toArray } })
  (hsz:vs.length+ws.length<=sizeLine):wpAny (model prog w) A (binaryOp .Add (.ref t) (.ref b)) Q E s:=by
 obtain⟨⟨cls,dd,data,sl⟩,ho,hc,n,hd⟩:=id ht;obtain⟨⟨cls2,dd2,data2,sl2⟩,ho2,hc2,n2,hd2⟩:=id hb;simp only at hc hd hc2 hd2;subst hc hd hc2 hd2;have e:vs.toArray++ws.toArray=(vs++ws).toArray:=by simp
 by_cases hw:ws=[]
 .exact concat_meets ⟨_,ho,rfl⟩ ⟨_,ho2,rfl⟩ noFill_tuple_add seq_tuple_add vn vg (va _ _)
   (tuple_addW1 t b vs.toArray ws.toArray n n2 dd dd2 sl sl2 (by simpa using hv) (by simp[hw])) ⟨ho,ho2,h1 hw⟩
 .refine concat_meets ⟨_,ho,rfl⟩ ⟨_,ho2,rfl⟩ noFill_tuple_add seq_tuple_add vn vg (va _ _)
   (tuple_addW2 t b vs.toArray ws.toArray n n2 dd dd2 sl sl2 (by simpa using hv) (by simpa using hw) (by rw[jo,jo];exact hsz)) ⟨ho,ho2,?_⟩
  rw[e];exact h2 hw
def sIx (n d:Nat):Option Int->Nat
 | none=>d
 | some v=>if v<0 then(v+(n:Int)).toNat else min v.toNat n
theorem sIx_none (n d:Nat):sIx n d Gb=d:=rfl
theorem sIx_nat (n d k:Nat):sIx n d (Ga (k:Int))=min k n:=by
 show(if (k:Int)<0 then((k:Int)+(n:Int)).toNat else min (k:Int).toNat n)=min k n;rw[Gf (by omega),kN]
theorem sIx_le (n d:Nat)(hd:d<=n)(o:Option Int):sIx n d o<=n:=by
 cases o with
 | none=>exact hd
 | some v =>
  show(if v<0 then(v+(n:Int)).toNat else min v.toNat n)<=n;by_cases hv:v<0
  .rw[Ge hv];omega
  .rw[Gf hv];exact Jn _ _
theorem clip_eq (v:Int)(n d:Nat):(if v<0 then max (v+(n:Int)) 0 else min v (n:Int))=((sIx n d (Ga v):Nat):Int):=by
 show(if v<0 then max (v+(n:Int)) 0 else min v (n:Int))=(((if v<0 then(v+(n:Int)).toNat else min v.toNat n):Nat):Int);by_cases hv:v<0
 .simp only[Ge hv];omega
 .simp only[Gf hv];omega
theorem adjust_gen (lo hi:Option Int)(n:Nat):u5 lo hi 1 (n:Int)=(((sIx n 0 lo:Nat):Int),((sIx n n hi:Nat):Int)):=by
 have h1:¬((1:Int)<0):=by omega
 unfold u5;simp only[h1,if_false];refine Prod.ext ?_ ?_
 .cases lo with
  | none=>rfl
  | some v=>exact clip_eq v n 0
 .cases hi with
  | none=>rfl
  | some v=>exact clip_eq v n n
theorem places_gen (i j:Nat):uy (i:Int) (j:Int) 1=j-i:=by
 unfold uy;have h1:(1:Int)>0:=by omega
 simp only[h1,if_true,Int.ediv_one];split<;>omega
theorem slicePart_ {v:Gg}{o:Option Int}{Q:Option Int->Gh->Prop}(p:IsPart v o)(h:Q o s):wpAny (model prog w) A (Builtin.Slice.slicePartIndex v) Q E s:=by
 cases p with
 | none=>exact slicePart_none h
 | int i t=>exact slicePart_int h
theorem sliceApplied_gen {sl:Gj}{vl vu:Gg}{lo hi:Option Int}{n:Nat}{Q:Int×Int×Nat->Gh->Prop}(hs:s.heap.IsSliceOf sl vl vu .none)(pl:IsPart vl lo)(pu:IsPart vu hi)
  (h:Q (((sIx n 0 lo:Nat):Int),1,sIx n n hi-sIx n 0 lo) s):wpAny (model prog w) A (vL (.ref sl) (pure (n:Int))) Q E s:=by
 obtain⟨os,hos,hcs,hds⟩:=id hs;unfold vL Builtin.Slice.sliceFields;refine wpAny_bind (wpAny_bind (wpAny_field hos hds (x:=vl) rfl (wpAny_bind (wpAny_field hos hds (x:=vu) rfl (wpAny_bind (wpAny_field hos hds (x:=.none) rfl (wpAny_pure ?_)))))));refine wpAny_bind (slicePart_none ?_);show wpAny _ _ (if ((1:Int)==0)=true then _ else _) _ _ s;rw[Gf (by decide)];refine wpAny_bind (slicePart_ pl (wpAny_bind (slicePart_ pu (wpAny_bind (wpAny_pure ?_)))));show wpAny _ _ (match u5 lo hi 1 (n:Int) with|(lo,hi)=>pure (lo,(1:Int),uy lo hi 1)) _ _ s;rw[adjust_gen lo hi n];show wpAny _ _ (pure (((sIx n 0 lo:Nat):Int),(1:Int),uy ((sIx n 0 lo:Nat):Int) ((sIx n n hi:Nat):Int) 1)) _ _ s;rw[places_gen];exact wpAny_pure h
theorem pick_gen (xs:Array Gg)(i k:Nat):((jf k).filterMap λ(m:Nat)=>xs[((i:Int)+(m:Int)*1).toNat]?).toArray=((xs.toList.drop i).take k).toArray:=by
 have e:(λ(m:Nat)=>xs[((i:Int)+(m:Int)*1).toNat]?)=λm=>xs[i+m]?:=by
  funext m
  have:((i:Int)+(m:Int)*1).toNat=i+m:=by omega
  rw[this]
 rw[e];have:=pick_run xs i k;rw[List.filterMap_map] at this;have e2:((λx=>xs[x]?)∘λx=>i+x)=λm=>xs[i+m]?:=rfl;rw[e2] at this;rw[this]
theorem getItem_tuple_cut {t sl:Gj}{items:Array Gg}{vl vu:Gg}{lo hi:Option Int}{Q:Gg->Gh->Prop}(ht:IsTup s.heap t items)(hs:s.heap.IsSliceOf sl vl vu .none)(pl:IsPart vl lo)(pu:IsPart vu hi)
  (hw:¬(sIx items.size 0 lo=0/\sIx items.size items.size hi=items.size))
  (h:Q (.ref s.heap.objs.size) { s with heap:=s.heap.push { cls:=.type "tuple",data:=.seq ((items.toList.drop (sIx items.size 0 lo)).take (sIx items.size items.size hi-sIx items.size 0 lo)).toArray } })
  (hsz:items.size<=sizeLine):wpAny (model prog w) A (getItem (.ref t) (.ref sl)) Q E s:=by
 have htake:sizeOk (.seq ((items.toList.drop (sIx items.size 0 lo)).take (sIx items.size items.size hi-sIx items.size 0 lo)).toArray):=by
  show((items.toList.drop (sIx items.size 0 lo)).take (sIx items.size items.size hi-sIx items.size 0 lo)).toArray.size<=sizeLine;rw[jo,uX,vy,ku];omega
 have hj:sIx items.size items.size hi<=items.size:=sIx_le _ _ (jk _) hi;obtain⟨os,hos,hcs,hds⟩:=id hs;have hTs:s.TypeIs (.ref sl) "slice":=⟨os,hos,hcs⟩;unfold getItem
 try with_reducible refine wpAny_holding ?_
 first|refine wpAny_bind (wpAny_pure ?_)|skip
 refine wpAny_bind (wpAny_sequenceKey ht.typeIs (by decide) ?_);refine wpAny_bind (wpAny_callSpecial?_slot (name:=jl "__getitem__") ht.typeIs PyProof.Rows.slot_tuple_getitem
  (wpAny_call_entry PyProof.Rows.slot_tuple_getitem ht.typeIs entry_tuple_getitem ?_ (args_tuple_getitem _ _)))
 show wpAny _ _ (Builtin.Tuple.tupleItemsOf (.ref t) >>= _) _ _ s;refine wpAny_bind (tupleItemsOf_ ht ?_);refine wpAny_bind (wpAny_typeOf hTs ?_);rw[Ge (by decide)];refine wpAny_bind (sliceApplied_gen hs pl pu ?_);have hno:¬((((sIx items.size 0 lo:Nat):Int)==0&&(1:Int)==1&&(sIx items.size items.size hi-sIx items.size 0 lo)==items.size)=true):=by
  intro q;rw[jI,jI] at q;have q1:((sIx items.size 0 lo:Nat):Int)=0:=eq_of_beq q.1.1;have q2:sIx items.size items.size hi-sIx items.size 0 lo=items.size:=eq_of_beq q.2;exact hw ⟨by omega,by omega⟩
 show wpAny _ _ (if (((sIx items.size 0 lo:Nat):Int)==0&&(1:Int)==1&&(sIx items.size items.size hi-sIx items.size 0 lo)==items.size)=true then _ else _) _ _ s;rw[Gf hno,pick_gen]
 first
  | exact wpAny_bind (m:=uF _) (wpAny_newObj_type (wpAny_pure ⟨_,rfl,wpAny_pure h⟩) htake)
  | exact wpAny_bind (m:=uF _) (wpAny_newObj_type (wpAny_bind (wpAny_pure (wpAny_pure ⟨_,rfl,wpAny_pure h⟩))) htake)
  | exact wpAny_bind (wpAny_bind (m:=uF _) (wpAny_newObj_type (wpAny_pure (wpAny_pure ⟨_,rfl,wpAny_pure h⟩)) htake))
  | exact wpAny_bind (wpAny_bind (m:=uF _) (wpAny_newObj_type (wpAny_pure ⟨_,rfl,wpAny_pure h⟩) htake))
end
end HT
namespace L2
open PySem PySem.Spec PyProof.Rows
abbrev TO:=St->Hp->(Option Int->Hp->Prop)->Prop
def PO (X:Cx)(e:Option Expr)(t:TO):Prop :=
 ∀ (ω:List (Gj×Obj)) (s:Gh) (σ:St) (H:Hp) (Q:Option Int->Hp->Prop),Inv X ω σ H s->t σ H Q ->
  wpAny (model X.prog X.w) X.A (evalPart e X.env) (λu s'=>∃ o H',Inv X ω σ H' s'/\IsPart u o/\Q o H') X.xe s
def tNoPart:TO:=λ_ H Q=>Q Gb H
def tPart (t:TE):TO:=λσ H Q=>t σ H λx H1=>∃ i,x=.int i/\Q (Ga i) H1
theorem intsAre_of {ns:List Int}:∀ {us:List Gg},Vals (ns.map V.int) us->IntsAre us ns:=by
 induction ns with
 | nil=>intro us r;rw[qk] at r;cases r;exact .nil
 | cons n ns ih =>
  intro us r;rw[jQ] at r;cases r with
  | cons r1 r2 =>
   obtain⟨t,e⟩:=r1;subst e;exact .cons n t (ih r2)
section
variable {X:Cx}{e:Expr}{te:TE}{lo hi:Option Expr}{tl th:TO}{pos p2:Pos}
theorem po_none:PO X Gb tNoPart:=by
 intro ω s σ H Q I h;rw[evalPart_none];exact wpAny_pure ⟨Gb,H,I,.none,h⟩
theorem po_some (h:PE X e te):PO X (Ga e) (tPart te):=by
 intro ω s σ H Q I hw;rw[evalPart_some];refine thn (h ω s σ H _ I hw) λu s1 ⟨x,H1,I1,r1,q1⟩=>?_;obtain⟨i,rfl,q⟩:=q1;obtain⟨t,rfl⟩:=r1;exact⟨Ga i,H1,I1,.int i t,q⟩
def SlR (X:Cx)(r:V->Option Int->Option Int->Hp->VK->Prop):Prop :=
 ∀ (ω:List (Gj×Obj)) (s:Gh) (σ:St) (H:Hp) (x:V) (v vl vu:Gg) (lo hi:Option Int) (sl:Gj) (Q:VK),Inv X ω σ H s->RelV x v->s.heap.IsSliceOf sl vl vu .none->IsPart vl lo->IsPart vu hi->r x lo hi H Q ->
  ∃ T id,typeLookup (.type T) "__getitem__"=pure (Ga (.builtin id))/\s.TypeIs v T/\wpAny (model X.prog X.w) X.A (getItem v (.ref sl)) (EP X ω σ Q) X.xe s
theorem SlR.or {r r':V->Option Int->Option Int->Hp->VK->Prop}(h:SlR X r)(h':SlR X r'):SlR X (λx lo hi H Q=>r x lo hi H Q\/r' x lo hi H Q):=by
 intro ω s σ H x v vl vu lo hi sl Q I rx hs pl pu q;rcases q with q|q
 .exact h ω s σ H x v vl vu lo hi sl Q I rx hs pl pu q
 .exact h' ω s σ H x v vl vu lo hi sl Q I rx hs pl pu q
def tSl (r:V->Option Int->Option Int->Hp->VK->Prop)(te:TE)(tl th:TO):TE:=λσ H Q=>te σ H λx H1=>tl σ H1 λl H2=>th σ H2 λu H3=>r x l u H3 Q
theorem pe_slice {r:V->Option Int->Option Int->Hp->VK->Prop}(hr:SlR X r)(he:PE X e te)(hl:PO X lo tl)(hu:PO X hi th):PE X (.Subscript e (.Slice lo hi Gb p2) pos) (tSl r te tl th):=by
 intro ω s σ H Q I h;refine Subscript_ (thn (he ω s σ H _ I h) λv s1 ⟨x,H1,I1,r1,q1⟩=>?_);refine wpAny_Slice (thn (hl ω s1 σ H1 _ I1 q1) λvl s2 ⟨l,H2,I2,pl,q2⟩=>thn (hu ω s2 σ H2 _ I2 q2) λvu s3 ⟨u,H3,I3,pu,q3⟩=>?_);rw[evalPart_none];refine wpAny_pure ?_;have I4:Inv X ω σ H3 { s3 with heap:=s3.heap.push { cls:=.type "slice",data:=.fields #[vl,vu,.none] } }:=I3.kept (t':=s3.toks) λb ob q=>jd _ q;obtain⟨T,id,hT,ht,hg⟩:=hr ω { s3 with heap:=s3.heap.push { cls:=.type "slice",data:=.fields #[vl,vu,.none] } } σ H3 x v vl vu l u s3.heap.objs.size Q I4 r1 (Heap.IsSliceOf.new ..) pl pu q3;show wpAny (model X.prog X.w) X.A (subscriptTail e (.Slice lo hi Gb p2) v (.ref s3.heap.objs.size)) (EP X ω σ Q) X.xe { s3 with heap:=s3.heap.push { cls:=.type "slice",data:=.fields #[vl,vu,.none] } };exact tail_any (ops:=[.ref s3.heap.objs.size,v]) ht hT hg (by with_unfolding_all rfl)
def cutV (xs:List V)(lo hi:Option Int):List V:=(xs.drop (HT.sIx xs.length 0 lo)).take (HT.sIx xs.length xs.length hi-HT.sIx xs.length 0 lo)
theorem cutV_length (xs:List V)(lo hi:Option Int):(cutV xs lo hi).length<=xs.length:=by
 unfold cutV;rw[uX,vy];omega
def rSlT (K:ja):V->Option Int->Option Int->Hp->VK->Prop:=λx lo hi H Q=>∃ a xs,x=.ref a/\SqT K H a xs /\
 ¬(HT.sIx xs.length 0 lo=0/\HT.sIx xs.length xs.length hi=xs.length)/\∀ p,H p=Gb->Q (.ref p) (upd H p (.tup (cutV xs lo hi)))
theorem sl_tup:SlR X (rSlT X.K):=by
 intro ω s σ H x v vl vu lo hi sl Q I rx hs pl pu h;obtain⟨a,xs,rfl,hx,hw,q⟩:=h;cases rx;obtain⟨its,r,ht,hz⟩:=I.tuple hx;have hlen:its.toArray.size=xs.length:=by rw[jo];exact r.length.symm
 refine⟨"tuple",_,PyProof.Rows.slot_tuple_getitem.lookup,ht.typeIs,?_⟩;refine HT.getItem_tuple_cut ht hs pl pu (by rw[hlen];exact hw) ?_ (by rw[hlen];exact hz);rw[hlen];refine⟨.ref s.heap.objs.size,_,I.laid (t':=s.toks) (o:=.tup (cutV xs lo hi)) (λb ob q=>jd _ q) (jk _) ?_,rfl,q _ (I.hok.fresh (jk _))⟩;exact⟨jn (cutV_length xs lo hi) hz,_,(r.drop (HT.sIx xs.length 0 lo)).take (HT.sIx xs.length xs.length hi-HT.sIx xs.length 0 lo),IsTup.new _ _⟩
def rCatT (K:ja):R2:=λx y H Q=>∃ a b xs ys,x=.ref a/\y=.ref b/\SqT K H a xs/\SqT K H b ys/\xs≠[]/\xs.length+ys.length<=sizeLine /\
 (ys=[]->Q (.ref a) H)/\(ys≠[]->∀ p,H p=Gb->Q (.ref p) (upd H p (.tup (xs++ys))))
theorem Vals.nil_iff {xs:List V}{us:List Gg}(r:Vals xs us):us=[]↔xs=[]:=by
 cases r with
 | nil=>simp
 | cons _ _=>simp
theorem op_catT:OpR X (binaryOp .Add) (rCatT X.K):=by
 intro ω s σ H x y v u Q I rx ry h;obtain⟨a,b,xs,ys,rfl,rfl,ha,hb,hx,hz,q1,q2⟩:=h;cases rx;cases ry;obtain⟨its,r1,p1,_⟩:=I.tuple ha;obtain⟨its2,r2,p2,_⟩:=I.tuple hb;refine HT.cat_tup p1 p2 (λz=>hx (r1.nil_iff.mp z)) (λz=>⟨.ref a,H,I,rfl,q1 (r2.nil_iff.mp z)⟩) (λz=>?_) (by rw[<- r1.length,<- r2.length];exact hz);refine⟨.ref s.heap.objs.size,_,I.laid (t':=s.toks) (o:=.tup (xs++ys)) (λb ob q=>jd _ q) (jk _) ?_,rfl,q2 (λw=>z (r2.nil_iff.mpr w)) _ (I.hok.fresh (jk _))⟩;exact⟨by rw[jh];exact hz,_,r1.append r2,IsTup.new _ _⟩
end
end L2
namespace L2
open PySem PySem.Spec PyProof.Rows
def ixN (n:Nat)(i:Int):Option Nat:=if 0<=i then(if i<n then Ga i.toNat else Gb) else if -(n:Int)<=i then Ga (i+n).toNat else Gb
def atI {α:Type}(xs:List α)(i:Int):Option α:=(ixN xs.length i).bind λj=>xs[j]?
theorem ixN_seq {n:Nat}{i:Int}{j:Nat}(h:ixN n i=Ga j):seqIndex? i n=Ga j/\j<n/\-(n:Int)<=i/\i<n:=by
 unfold ixN at h;by_cases h0:0<=i
 .rw[Ge h0] at h;by_cases h1:i<n
  .rw[Ge h1] at h;have e:i.toNat=j:=jE h;exact⟨by rw[seqIndex_of h0 h1,e],by omega,by omega,h1⟩
  .rw[Gf h1] at h;cases h
 .rw[Gf h0] at h;by_cases h1:-(n:Int)<=i
  .rw[Ge h1] at h;have e:(i+n).toNat=j:=jE h;exact⟨by rw[seqIndex_neg (by omega) h1,e],by omega,h1,by omega⟩
  .rw[Gf h1] at h;cases h
theorem atI_get {α:Type}{xs:List α}{i:Int}{v:α}(h:atI xs i=Ga v):∃ j,seqIndex? i xs.length=Ga j/\xs[j]?=Ga v/\j<xs.length/\-(xs.length:Int)<=i/\i<xs.length:=by
 unfold atI at h;cases e:ixN xs.length i with
 | none=>rw[e] at h;cases h
 | some j =>
  rw[e] at h;obtain⟨h1,h2,h3,h4⟩:=ixN_seq e;exact⟨j,h1,h,h2,h3,h4⟩
theorem atI_nat {α:Type}{xs:List α}{j:Nat}{v:α}(h:xs[j]?=Ga v):atI xs (j:Int)=Ga v:=by
 have hj:j<xs.length:=(ji.mp h).1;have e:ixN xs.length (j:Int)=Ga j:=by
  unfold ixN;rw[Ge (by omega),Ge (by omega)];simp
 unfold atI;rw[e];exact h
theorem atI_last {α:Type}(xs:List α)(v:α):atI (xs++[v]) (-1)=Ga v:=by
 have hl:(xs++[v]).length=xs.length+1:=by simp
 have e:ixN (xs++[v]).length (-1)=Ga xs.length:=by
  unfold ixN;rw[hl,Gf (by decide),Ge (by omega)]
  congr 1
  omega
 unfold atI;rw[e];show(xs++[v])[xs.length]?=Ga v;simp
def PlainIx (b:Expr):Prop:=∀ o i,subscripted b false o i=operate [o,i] (getItem o i)
def IxR (X:Cx)(r:R2):Prop :=
 ∀ (value slice:Expr) (ω:List (Gj×Obj)) (s:Gh) (σ:St) (H:Hp) (x y:V) (v u:Gg) (Q:VK),Inv X ω σ H s->RelV x v->RelV y u->r x y H Q ->
  subscripted slice false v u=operate [v,u] (getItem v u)->wpAny (model X.prog X.w) X.A (subscriptTail value slice v u) (EP X ω σ Q) X.xe s
def MtR (X:Cx)(id:String)(r:V->List V->Hp->VK->Prop):Prop :=
 ∀ (ω:List (Gj×Obj)) (s:Gh) (σ:St) (H:Hp) (x:V) (xs:List V) (v:Gg) (us:List Gg) (Q:VK),Inv X ω σ H s->RelV x v->Vals xs us->r x xs H Q ->
  wpAny (model X.prog X.w) X.A (call (.builtin id) (v::us)) (EP X ω σ Q) X.xe s
section
variable {X:Cx}{a b:Expr}{ta tb:TE}{pos:Pos}
theorem IxR.or {r r':R2}(h:IxR X r)(h':IxR X r'):IxR X (λx y H Q=>r x y H Q\/r' x y H Q):=by
 intro value slice ω s σ H x y v u Q I rx ry q hs;rcases q with q|q
 .exact h value slice ω s σ H x y v u Q I rx ry q hs
 .exact h' value slice ω s σ H x y v u Q I rx ry q hs
theorem MtR.or {id:String}{r r':V->List V->Hp->VK->Prop}(h:MtR X id r)(h':MtR X id r'):MtR X id (λx xs H Q=>r x xs H Q\/r' x xs H Q):=by
 intro ω s σ H x xs v us Q I rx rs q;rcases q with q|q
 .exact h ω s σ H x xs v us Q I rx rs q
 .exact h' ω s σ H x xs v us Q I rx rs q
theorem pe_ix {r:R2}(hr:IxR X r)(ha:PE X a ta)(hb:PE X b tb)(hs:PlainIx b):PE X (.Subscript a b pos) (tOp r ta tb):=by
 intro ω s σ H Q I h;exact Subscript_ (binT ha hb I h λv u s2 x y H2 I2 rx ry q=>hr a b ω s2 σ H2 x y v u Q I2 rx ry q (hs _ _))
def rIxL (K:ja):R2:=λx y H Q=>∃ p xs i v,x=.ref p/\y=.int i/\SqL K H p xs/\atI xs i=Ga v/\Q v H
def rIxT (K:ja):R2:=λx y H Q=>∃ p xs i v,x=.ref p/\y=.int i/\SqT K H p xs/\atI xs i=Ga v/\Q v H
def rIxS:R2:=λx y H Q=>∃ z i c,x=.str z/\y=.int i/\z.length<=sizeLine/\atI z.cps.toList i=Ga c/\Q (.str ⟨#[c]⟩) H
theorem ix_list:IxR X (rIxL X.K):=by
 intro value slice ω s σ H x y v u Q I rx ry h hs;obtain⟨p,xs,i,z,rfl,rfl,hq,he,q⟩:=h;cases rx;obtain⟨t,rfl⟩:=ry;obtain⟨its,r,pl,hz⟩:=I.list hq;obtain⟨j,h1,h2,h3,h4,h5⟩:=atI_get he;obtain⟨w,ew,rw'⟩:=r.get h2;have hl:=r.length;have hn:=line63;have fin:EP X ω σ Q w s:=⟨z,H,I,rw',q⟩;by_cases h0:0<=i
 .have hj:i.toNat=j:=by
   rw[seqIndex_of h0 h5] at h1;exact jE h1
  exact item_listR pl.isList h0 (by omega) (by rw[hj];simpa using ew) fin hs
 .have hj:(i+(its.toArray.size:Int)).toNat=j:=by
   rw[seqIndex_neg (by omega) h4] at h1;rw[jo,<- hl];exact jE h1
  exact subscriptTail_builtinR (x:=w) pl.isList.typeIs slot_list_getitem.lookup
   (wpAny_getItem_list_neg (Q:=λr s'=>r=w/\EP X ω σ Q r s') pl.isList (by omega) (by rw[jo]<;>omega) (by omega) (by rw[hj];simpa using ew) ⟨rfl,fin⟩) hs
theorem ix_tup:IxR X (rIxT X.K):=by
 intro value slice ω s σ H x y v u Q I rx ry h hs;obtain⟨p,xs,i,z,rfl,rfl,hq,he,q⟩:=h;cases rx;obtain⟨t,rfl⟩:=ry;obtain⟨its,r,pl,hz⟩:=I.tuple hq;obtain⟨j,h1,h2,h3,h4,h5⟩:=atI_get he;obtain⟨w,ew,rw'⟩:=r.get h2;have hl:=r.length;have hn:=line63;have fin:EP X ω σ Q w s:=⟨z,H,I,rw',q⟩;exact subscriptTail_builtinR (x:=w) pl.typeIs slot_tuple_getitem.lookup
  (getItem_tuple (j:=j) (Q:=λr s'=>r=w/\EP X ω σ Q r s') pl (by omega) (by omega) (by rw[jo,<- hl];exact h1) (by simpa using ew) ⟨rfl,fin⟩) hs
theorem ix_str:IxR X rIxS:=by
 intro value slice ω s σ H x y v u Q I rx ry h hs;obtain⟨z,i,c,rfl,rfl,hz,he,q⟩:=h;obtain⟨t,rfl⟩:=rx;obtain⟨t',rfl⟩:=ry;obtain⟨j,h1,h2,h3,h4,h5⟩:=atI_get he;have hl:z.cps.toList.length=z.length:=by simp[Str.length]
 rw[hl] at h1 h4 h5;have hn:=line63;exact tail_any (typeIs_str s z t) slot_str_getitem.lookup (getItem_str (c:=c) (by
  have e1:decide (i < -(2^63:Int))=false:=Gd (by omega);have e2:decide (i≥2^63)=false:=Gd (by omega);rw[e1,e2,uG]) (by rw[h1];simpa using h2) ⟨.str ⟨#[c]⟩,H,I.tok _,⟨_,rfl⟩,q⟩) hs
def rIx (K:ja):R2:=λx y H Q=>rIxL K x y H Q\/rIxT K x y H Q\/rIxS x y H Q
theorem ix_seq:IxR X (rIx X.K):=ix_list.or (ix_tup.or ix_str)
theorem Inv.lst {ω:List (Gj×Obj)}{σ:St}{H:Hp}{s:Gh}{p:Gj}{xs:List V}(I:Inv X ω σ H s)(h:H p=Ga (.lst xs)) :
  ∃ (its:List Gg) (n:Nat),Vals xs its/\s.heap.get? p=Ga { cls:=.type "list",data:=.seq its.toArray n }/\xs.length<=sizeLine:=by
 obtain⟨z,its,n,r,e⟩:=I.hok p _ h;exact⟨its,n,r,e,z⟩
theorem slice_bounds (lo hi:Option Int)(n:Nat):(sliceBounds lo hi Gb n).1=((HT.sIx n 0 lo:Nat):Int)/\(sliceBounds lo hi Gb n).2.1=((HT.sIx n n hi:Nat):Int)/\(sliceBounds lo hi Gb n).2.2=1:=by
 refine⟨?_,?_,rfl⟩
 .cases lo with
  | none=>simp[sliceBounds,HT.sIx]
  | some i =>
   simp only[sliceBounds,HT.sIx,Jo,show(1:Int)>0 by decide,if_true];by_cases h:i<0
   .simp only[h,if_true]<;>omega
   .simp only[h,if_false]<;>omega
 .cases hi with
  | none=>simp[sliceBounds,HT.sIx]
  | some i =>
   simp only[sliceBounds,HT.sIx,Jo,show(1:Int)>0 by decide,if_true];by_cases h:i<0
   .simp only[h,if_true]<;>omega
   .simp only[h,if_false]<;>omega
theorem slicePick_cut (its:List Gg)(lo hi:Option Int):slicePick its.toArray lo hi Gb=((its.drop (HT.sIx its.length 0 lo)).take (HT.sIx its.length its.length hi-HT.sIx its.length 0 lo)).toArray:=by
 obtain⟨h1,h2,h3⟩:=slice_bounds lo hi its.toArray.size;unfold slicePick;rw[h1,h2,h3];simp only[sliceRange_one,pick_run,jo]<;>rfl
def rSlL (K:ja):V->Option Int->Option Int->Hp->VK->Prop:=λx lo hi H Q=>∃ a xs,x=.ref a/\SqL K H a xs/\∀ p,H p=Gb->Q (.ref p) (upd H p (.lst (cutV xs lo hi)))
theorem sl_list:SlR X (rSlL X.K):=by
 intro ω s σ H x v vl vu lo hi sl Q I rx hs pl pu h;obtain⟨a,xs,rfl,hx,q⟩:=h;cases rx;obtain⟨its,r,ht,hz⟩:=I.list hx;have hlen:=r.length;refine⟨"list",_,slot_list_getitem.lookup,ht.isList.typeIs,?_⟩;refine wpAny_getItem_list_slice ht.isList hs pl pu .none (by simp) ?_ (by rw[jo]<;>omega);rw[slicePick_cut,<- hlen];refine⟨.ref s.heap.objs.size,_,I.laid (t':=s.toks) (o:=.lst (cutV xs lo hi)) (λb ob q=>jd _ q) (jk _) ?_,rfl,q _ (I.hok.fresh (jk _))⟩;exact⟨jn (cutV_length xs lo hi) hz,_,0,(r.drop (HT.sIx xs.length 0 lo)).take (HT.sIx xs.length xs.length hi-HT.sIx xs.length 0 lo),jA _ rfl⟩
theorem call_len_seq:CallR X (.builtin "len") (λxs H Q=>∃ p ys,xs=[.ref p]/\(SqL X.K H p ys\/SqT X.K H p ys)/\Q (.int ys.length) H):=by
 intro ω s σ H xs us Q I r h;obtain⟨p,ys,rfl,hq,q⟩:=h;obtain⟨u,rfl,rx⟩:=vals1 r;cases rx;have hn:=line63;rcases hq with hq|hq
 .obtain⟨its,r',pl,hz⟩:=I.list hq;have hlen:=r'.length;exact Calls.call_len_list pl.isList (by simp only[jo]<;>omega) ⟨.int ys.length,H,I.tok _,⟨s.toks+1,by rw[jo,hlen]⟩,q⟩
 .obtain⟨its,r',pl,hz⟩:=I.tuple hq;have hlen:=r'.length;exact len_tuple pl (by simp only[jo]<;>omega) ⟨.int ys.length,H,I.tok _,⟨s.toks+1,by rw[jo,hlen]⟩,q⟩
theorem CallR.or {f:Gg}{r r':List V->Hp->VK->Prop}(h:CallR X f r)(h':CallR X f r'):CallR X f (λxs H Q=>r xs H Q\/r' xs H Q):=by
 intro ω s σ H xs us Q I rs q;rcases q with q|q
 .exact h ω s σ H xs us Q I rs q
 .exact h' ω s σ H xs us Q I rs q
theorem call_tuple_of:CallR X (.type "tuple") (λxs H Q=>∃ p ys,xs=[.ref p]/\((SqL X.K H p ys/\∀ l,H l=Gb->Q (.ref l) (upd H l (.tup ys)))\/(SqT X.K H p ys/\Q (.ref p) H))):=by
 intro ω s σ H xs us Q I r h;obtain⟨p,ys,rfl,h⟩:=h;obtain⟨u,rfl,rx⟩:=vals1 r;cases rx;rcases h with ⟨hq,q⟩|⟨hq,q⟩
 .obtain⟨its,r',pl,hz⟩:=I.list hq;have hlen:=r'.length;refine call_tuple_list pl.isList (λh' kp=>?_) (by simp only[jo]<;>omega);have I1:Inv X ω σ H { s with heap:=h' }:=I.kept (t':=s.toks) kp;have I2:Inv X ω σ (upd H h'.objs.size (.tup ys)) { s with heap:=h'.push { cls:=.type "tuple",data:=.seq its.toArray } } :=
   I1.laid (t':=s.toks) (λb o e=>jd _ e) (jk _) (show ObjOk X.prog X.w _ _ _ (.tup ys) from⟨hz,its,r',IsTup.new _ _⟩)
  exact⟨.ref h'.objs.size,_,I2,rfl,q _ (I1.hok.fresh (jk _))⟩
 .obtain⟨its,r',pl,hz⟩:=I.tuple hq;exact call_tuple_same pl ⟨.ref p,H,I,rfl,q⟩
def tyV (K:ja)(T:String)(x:V)(H:Hp):Prop:=match x with
 | .str _=>T="str"
 | .int _=>T="int"
 | .ref p=>(T="list"/\∃ xs,SqL K H p xs)\/(T="tuple"/\∃ o,K.lookup p=Ga o/\o.cls=.type "tuple"/\o.dict=Gb) \/
   (T="dict"/\((∃ kvs,H p=Ga (.dK kvs))\/∃ kvs,H p=Ga (.dT kvs)))\/(T="set"/\∃ S n,H p=Ga (.set S n))
 | _=>False
theorem tyV_is {ω:List (Gj×Obj)}{σ:St}{H:Hp}{s:Gh}{T:String}{x:V}{v:Gg}(I:Inv X ω σ H s)(r:RelV x v)(ty:tyV X.K T x H) :
  s.TypeIs v T/\∀ a,v=.ref a->∃ ob,s.heap.get? a=Ga ob/\ob.dict=Gb:=by
 cases x with
 | str z =>
  obtain⟨t,rfl⟩:=r;cases(show T="str" from ty);exact⟨typeIs_str s z t,λ_ e=>nomatch e⟩
 | int i =>
  obtain⟨t,rfl⟩:=r;cases(show T="int" from ty);exact⟨typeIs_int s i t,λ_ e=>nomatch e⟩
 | ref p =>
  cases r;rcases ty with ⟨rfl,xs,hq⟩|⟨rfl,o,hk,hc,hd⟩|⟨rfl,hk⟩|⟨rfl,S,n,hk⟩
  .obtain⟨its,_,pl,_⟩:=I.list hq;refine⟨pl.isList.typeIs,λa e=>?_⟩;cases e;obtain⟨o,n,e,c,hd,_⟩:=pl;exact⟨o,e,hd⟩
  .refine⟨⟨o,I.kIn p o hk,hc⟩,λa e=>?_⟩;cases e;exact⟨o,I.kIn _ o hk,hd⟩
  .have z:∃ o,s.heap.get? p=Ga o/\o.ExactDict:=by
    rcases hk with ⟨kvs,hk⟩|⟨kvs,hk⟩
    .obtain⟨_,_,_,_,o,_,_,e,ex,_⟩:=I.hok p _ hk;exact⟨o,e,ex⟩
    .obtain⟨_,_,_,_,o,_,_,e,ex,_⟩:=I.hok p _ hk;exact⟨o,e,ex⟩
   obtain⟨o,e,ex⟩:=z;refine⟨⟨o,e,ex.1⟩,λa e2=>?_⟩;cases e2;exact⟨o,e,ex.2.1⟩
  .obtain⟨o,_,_,_,e,ex,_⟩:=I.hok p _ hk;refine⟨⟨o,e,ex.1⟩,λa e2=>?_⟩;cases e2;exact⟨o,e,ex.2.1⟩
 | _=>exact False.elim ty
def tBM0 (K:ja)(T:String)(r:V->List V->Hp->VK->Prop)(to:TE):TE:=λσ H Q=>to σ H λx H1=>tyV K T x H1/\r x [] H1 Q
def tBM (K:ja)(T:String)(r:V->List V->Hp->VK->Prop)(to:TE)(t:TA):TE:=λσ H Q=>to σ H λx H1=>tyV K T x H1/\t σ H1 λxs H2=>r x xs H2 Q
variable {o e:Expr}{es:List Expr}{to:TE}{t:TA}{name:Str}{apos cpos:Pos}{T id:String}{r:V->List V->Hp->VK->Prop}
theorem pe_bm0 (pa:PlainAttrs T)(slot:Slot T name id)(hty:typeOf (.builtin id)=pure (.type "method_descriptor"))(hm:MtR X id r)(ho:PE X o to)
  (hbase:attributeBase o name X.env (eval o X.env)=eval o X.env:=by rfl) (hline:(apos.endLine==cpos.line)=true:=by rfl):PE X (.Call (.Attribute o name apos) [] [] cpos) (tBM0 X.K T r to):=by
 intro ω s σ H Q I h;refine wpAny_Call_method0_late hbase hline (thn (ho ω s σ H _ I h) λv s1 ⟨x,H1,I1,r1,ty,q1⟩=>?_);obtain⟨h1,h2⟩:=tyV_is I1 r1 ty;exact⟨T,id,pa,slot,hty,h1,h2,ql rfl (PySem.evalArgs_none (hm ω s1 σ H1 x [] v [] Q I1 r1 .nil q1))⟩
theorem pe_bm (pa:PlainAttrs T)(slot:Slot T name id)(hty:typeOf (.builtin id)=pure (.type "method_descriptor"))(hm:MtR X id r)(ho:PE X o to)(ha:PA X (e::es) t)
  (hbase:attributeBase o name X.env (eval o X.env)=eval o X.env:=by rfl)
  (hfew:((backTo cpos (starEach (e::es) X.env)).all (λx=>!x.1)&&(backToKw cpos (keywordEach [] X.env)).all (λx=>x.1.isSome)
   && decide ((e::es).length+([]:List Keyword).length+(if ([]:List Keyword).isEmpty then 0 else 1)<30))=true:=by rfl)
  (hline:(apos.endLine==cpos.line)=true:=by rfl) (hs:starEach (e::es) X.env=(false,eval e X.env)::starEach es X.env:=by rfl) (hplain:(backTo cpos (starEach es X.env)).any (·.1)=false:=by rfl) :
  PE X (.Call (.Attribute o name apos) (e::es) [] cpos) (tBM X.K T r to t):=by
 intro ω s σ H Q I h;refine wpAny_Call_method_late hbase hfew hline rfl (thn (ho ω s σ H _ I h) λv s1 ⟨x,H1,I1,r1,ty,q1⟩=>?_);obtain⟨h1,h2⟩:=tyV_is I1 r1 ty;refine⟨T,id,pa,slot,hty,h1,h2,?_⟩;have hA:=ha cpos ω s1 σ H1 _ I1 q1;rw[hs] at hA ⊢;refine ql (by show(false||(backTo cpos (starEach es X.env)).any (·.1))=false;rw[hplain]<;>rfl) (vo ?_);exact thn hA λus s2 ⟨vs,H2,I2,r2,q2⟩=>hm ω s2 σ H2 x vs v us Q I2 r1 r2 q2
end
end L2
namespace L2
open PySem PySem.Spec PyProof.Rows
def MtM (X:Cx)(id:String)(r:V->List V->Hp->VK->Prop):Prop :=
 ∀ (ω:List (Gj×Obj)) (s:Gh) (σ:St) (H:Hp) (x:V) (xs:List V) (v:Gg) (us:List Gg) (Q:VK),Inv X ω σ H s->RelV x v->Vals xs us->r x xs H Q ->
  wpAny (model X.prog X.w) X.A (call (.builtin id) (v::us)) (EP X ω σ Q) X.xe s
theorem Vals.one:∀ {x:V} {us:List Gg},Vals [x] us->∃ u,us=[u]/\RelV x u
 | _,_,.cons r .nil=>⟨_,rfl,r⟩
theorem Vals.zero:∀ {us:List Gg},Vals [] us->us=[]
 | _,.nil=>rfl
theorem Vals.reverse {xs:List V}{us:List Gg}(h:Vals xs us):Vals xs.reverse us.reverse:=by
 induction h with
 | nil=>exact .nil
 | cons r t ih=>rw[uA,uA];exact Vals.append ih (.cons r .nil)
section
variable {X:Cx}{ω:List (Gj×Obj)}{σ:St}{H:Hp}{s:Gh}{l b:Gj}{xs ys zs:List V}
theorem Inv.lset {its its':List Gg}{n:Nat}{f:Array Gg->Array Gg}{t':Nat}(I:Inv X ω σ H s)(hH:H l=Ga (.lst xs))
  (e:s.heap.get? l=Ga { cls:=.type "list",data:=.seq its.toArray n }) (hf:f its.toArray=its'.toArray) (hv:Vals ys its') (hz:ys.length<=sizeLine) :
  Inv X ω σ (upd H l (.lst ys)) { s with heap:=s.heap.update l (kr f),toks:=t' }:=by
 have q:=PySem.IsL.update e f;rw[hf] at q;refine I.write (x:=l) (e:=l) (by rw[hH];exact trivial) (.inl rfl) (λb' u hb hu=>(kq s.heap (kr f) (kX hb)).trans hu) ⟨_,q⟩ ?_;exact⟨hz,its',_,hv,q⟩
theorem Inv.lnew {its:List Gg}{t':Nat}(I:Inv X ω σ H s)(hv:Vals ys its)(hz:ys.length<=sizeLine) :
  Inv X ω σ (upd H s.heap.objs.size (.lst ys)) { s with heap:=s.heap.push { cls:=.type "list",data:=.seq its.toArray },toks:=t' } :=
 I.laid (λ_ _ q=>jd _ q) (jk _) ⟨hz,its,0,hv,jA _ rfl⟩
theorem Inv.fresh (I:Inv X ω σ H s):H s.heap.objs.size=Gb:=I.hok.fresh (jk _)
theorem Inv.lstM (I:Inv X ω σ H s)(hH:H l=Ga (.lst xs)):xs.length<=sizeLine/\∃ (its:List Gg) (n:Nat),Vals xs its/\xs.length=its.length/\s.heap.get? l=Ga { cls:=.type "list",data:=.seq its.toArray n }:=by
 obtain⟨z,its,n,r,e⟩:=I.hok l _ hH;exact⟨z,its,n,r,r.length,e⟩
theorem notLongL {n:Nat}(h:n<=sizeLine):vb n=false:=by
 unfold vb;exact Gd (by omega)
end
section
variable {X:Cx}
def rAppend:V->List V->Hp->VK->Prop:=λx vs H Q=>∃ l xs y,x=.ref l/\vs=[y]/\H l=Ga (.lst xs)/\xs.length<sizeLine/\Q .non (upd H l (.lst (xs++[y])))
theorem mt_append:MtM X "list.append" rAppend:=by
 intro ω s σ H x vs v us Q I rx rv h;obtain⟨l,xs,y,rfl,rfl,hH,hz,q⟩:=h;cases rx;obtain⟨u,rfl,ru⟩:=rv.one;obtain⟨z,its,n,r,hl,e⟩:=I.lstM hH;refine call_meets F.slot_list_append ⟨_,e,rfl⟩ F.entry_list_append (F.args_list_append_2 _ _) (PySem.list_append l its.toArray n u (by rw[jo];omega)) ⟨e,?_⟩;refine⟨.non,_,I.lset (its':=its++[u]) hH e (by simp) (r.append (.cons ru .nil)) ?_,rfl,q⟩;rw[jh,jV];omega
end
section
variable {prog:Program}{w:World}{A:Around}{E:Gg->Gh->Prop}{s:Gh}
end
section
variable {X:Cx}
end
end L2
namespace Att
open PySem PySem.W PySem.Calls PyProof.Rows
theorem ints_of_wellAll {P:Params}{h:Heap}:∀ (ns:List Int) (vs:List Gg),WellAll P h vs (ns.map WData.int)->IntsAre vs ns:=by
 intro ns;induction ns with
 | nil =>
  intro vs w;rw[qk] at w;cases w;exact .nil
 | cons n ns ih =>
  intro vs w;rw[jQ] at w;cases w with
  | cons a b =>
   cases a;exact .cons _ _ (ih _ b)
theorem script_of {l:OpenLaw}{n:Nat}(hn:l.most=Ga n){P:Params}{h:Heap}{args:List WData}{vals:List Gg}
  (hpre:l.row.toRowW.claim.pre args=true) (hwl:WellAll P h vals args) :
  ∃ a vs ns,vals=[kB a]/\args=[WData.list (ns.map WData.int)]/\h.get? a=Ga { cls:=.type "list",data:=.seq vs.toArray }/\IntsAre vs ns/\ns.length<=n:=by
 have hsh:WShape.hasAll [] args [.list .int]=true:=(pre_splitW hpre).1;have hc:l.pre.holds [] { args:=args }=true:=(pre_splitW hpre).2;obtain⟨d,r,rfl,h1,h2⟩:=hasAllW_cons hsh;obtain rfl:=hasAllW_nil h2;obtain⟨xs,rfl,h3⟩:=hasW_list h1;obtain⟨ns,rfl⟩:=items_int h3;have hlen:ns.length<=n:=by
  unfold OpenLaw.pre at hc;have h4:(WTm.not (.lt (.lit (.int (n:Int))) (.len (.arg 0)))).holds [] { args:=[.list (ns.map .int)] }=true:=by
   have h4:=(holds_andW hc).1;rw[hn] at h4;exact h4
  have h5:=condW_of h4 (w_not (w_lt w_lit (w_len_list (w_arg rfl))));rw[jb] at h5;refine Nat.le_of_not_lt λq=>?_;have q':(n:Int)<((ns.length:Nat):Int):=by omega
  first
   | (rw[Gc q'] at h5;exact absurd h5 (by decide))
   | (simp at h5;omega)
 cases hwl with
 | cons w1 w2 =>
  cases w2;cases w1 with
  | list ho hall=>exact⟨_,_,ns,rfl,rfl,ho,ints_of_wellAll ns _ hall,hlen⟩
theorem post_true (l:OpenLaw)(args:List WData):l.row.toRowW.claim.post args (.bool true) args=true :=
 postW_of (r:=l.row.toRowW) (X:=(true==true))
  (show WShape.has [] (.bool true) .bool=true by first|rfl|decide|simp[WShape.has,WShape.arms,WShape.armsAll])
  (show(WTm.eq .res (.lit (.bool true))).value [] { args:=args,res:=Ga (.bool true),after:=args }=Ga (.bool (true==true)) from w_eq_bool (w_res rfl) w_lit) rfl
theorem attach_call {l:OpenLaw}{n:Nat}{q:Program}{loose:List Str}{XP:(Str->Option Gg)->Heap->Prop}{YP:World->Heap->Prop}{d:DefRec}
  (hn:l.most=Ga n) (hdf:d.params.defaults=[])
  (call:∀ (w:World) (s₀ s₁:Gh) (mg mb:Str->Option Gg) (fa:Gj) (o:Obj) (pm cd doc:Gg) (a:Gj) (vs:List Gg) (ns:List Int),
   Ground q loose [] XP w s₀ mg mb s₁.heap->YP w s₁.heap ->
   s₁.heap.get? fa=Ga o->o.data=.func (docDef d.name d.params d.body d.scope pm cd doc)->s₁.heap.CodeRec cd d.name->mg d.name=Ga (.ref fa) ->
   s₁.heap.get? a=Ga { cls:=.type "list",data:=.seq vs.toArray }->IntsAre vs ns->ns.length<=n->s₁.gens=#[] ->
   codeAny (model l.prog w) callerA (.call (.ref fa) ⟨[.ref a],[]⟩) (λr s'=>r=.ok (.ret (.bool true))/\OldK s₁.heap s'.heap/\s'.os=s₁.os/\AllBare s'.gens) s₁) :
  WalkO q loose XP YP l.row.toRowW d [] (λf vs=>Ja f vs):=by
 intro w s₀ s₁ mg mb G Y fa o pm cd doc dV kV ho hd hcd hD hmg hg args vals as hpre hlay hrd hwl hlo;obtain rfl:dV=.none:=Dflts.none hD hdf;obtain rfl:kV=.none:=Dflts.noKw hD;obtain⟨a,vs,ns,rfl,rfl,hobj,hints,hlen⟩:=script_of hn hpre hwl;refine enter_call (codeAny_mono (call w s₀ s₁ mg mb fa o pm cd doc a vs ns G Y ho (fd_plain hd) hcd hmg hobj hints hlen hg) λr s' hq=>?_);obtain⟨rfl,h2,h3,h4⟩:=hq;exact⟨.inl ⟨.bool true,.bool true,[],rfl,λ_=>rfl,.bool true,post_true l _,λ_=>⟨List.Pairwise.nil,λ_ hm=>(nomatch hm)⟩⟩,h2,h3,h4⟩
section
variable {prog:Program}{w:World}{A:Around}{E:Gg->Gh->Prop}{s:Gh}{K:Frag}
end
end Att
namespace L2
open PySem PySem.Spec PyProof.Rows
theorem vals_ints:∀ {vs:List Gg} {ns:List Int},IntsAre vs ns->Vals (ns.map V.int) vs
 | _,_,.nil=>.nil
 | _,_,.cons n t h=>.cons ⟨t,rfl⟩ (vals_ints h)
def Only (H:Hp):Prop:=∀ b,H b=Gb\/∃ o xs,H b=Ga (.frz o (.lst xs))
theorem law_call {P:Program}{w:World}{K:ja}{mg mb:Str->Option Gg}{CX:CXT}{k:Nat}{fa a:Gj}{fd:Gi}{x:Str}{sp:Sp}{s₁:Gh}{vs:List Gg}{ns:List Int}
  (KX:K.In s₁.heap) (hns:s₁.heap.Ns mainGlobals mg) (hb:s₁.heap.Ns builtinsNs mb) (hbb:∀ x:Str,x≠"__name__"->mb x=bootBuiltins x) (hlim:s₁.heap.NoLimit) (hg:s₁.gens=#[])
  (ha:s₁.heap.get? a=Ga { cls:=.type "list",data:=.seq vs.toArray }) (hi:IntsAre vs ns) (hl:ns.length<=sizeLine) (hr:Room k callerA)
  (F:∀ base:Heap,K.In base->base.Ns mainGlobals mg->FnOk P w K mg base CX k fa fd [x] sp) (hbind:∀ (s:Gh) (u:Gg),BindsTo s fd ⟨[u],[]⟩ [(x,u)])
  (hsp:∀ H:Hp,Only H->SqL K H a (ns.map V.int)->sp [.ref a] H (λv _=>v=.bl true) λ_ _ _=>False)
  (hCX:∀ H e s',CX [] H s₁ (λ_ _ _=>False) e s'->False) :
  codeAny (model P w) callerA (.call (.ref fa) ⟨[.ref a],[]⟩) (λr s'=>r=.ok (.ret (.bool true))/\OldK s₁.heap s'.heap/\s'.os=s₁.os/\AllBare s'.gens) s₁:=by
 have rv:=vals_ints hi;have lenV:=hi.length;have core:∀ H:Hp,Only H->SqL K H a (ns.map V.int)->HOk P w H s₁.heap->(∀ b,H b≠Gb->b=a)->(H a≠Gb->K.lookup a=Gb) ->
   codeAny (model P w) callerA (.call (.ref fa) ⟨[.ref a],[]⟩) (λr s'=>r=.ok (.ret (.bool true))/\OldK s₁.heap s'.heap/\s'.os=s₁.os/\AllBare s'.gens) s₁:=by
  intro H hO hS hok hA hK;have base_of:∀ {b:Gj} {o:Obj},s₁.heap.get? b=Ga o->H b=Gb->(hidT s₁.heap H).get? b=Ga o:=λe n=>hidT_get e n;have noA:∀ {b:Gj} {o:Obj} {es:Array DictEntry} {ep:Nat},s₁.heap.get? b=Ga o->o.data=.dict es ep->H b=Gb:=λ{b o es ep} e d=>by
   cases q:H b with
   | none=>rfl
   | some u =>
    have e':b=a:=hA b (by rw[q];simp);subst e';rw[ha] at e;cases e;have d':Data.seq vs.toArray _=Data.dict es ep:=d;cases d'
  have nsK:∀ {b:Gj} {m:Str->Option Gg},s₁.heap.Ns b m->(hidT s₁.heap H).Ns b m:=λ{b m} ⟨o,es,ep,e,d,r⟩=>⟨o,es,ep,base_of e (noA e d),d,r⟩;have hKb:K.In (hidT s₁.heap H):=λb o e=>base_of (KX b o e) (by
   cases q:H b with
   | none=>rfl
   | some u =>
    have e':b=a:=hA b (by rw[q];simp);subst e';rw[hK (by rw[q];simp)] at e;cases e)
  have hM:Mod K mg (hidT s₁.heap H):=⟨hKb,nsK hns,⟨mb,nsK hb,hbb⟩,let ⟨mc,h1,h2⟩:=hlim;⟨mc,nsK h1,h2⟩⟩;have e0:Env0 P w K mg (hidT s₁.heap H) callerA [] s₁ H:=⟨rfl,hM,λb o e=>of_hidT e,Nat.le_of_eq (hidT_size _ _),trivial,λb hb=>absurd (show b∈([]:List Gj) from hb) (by simp),hok,.of_eq hg⟩;refine codeAny_mono ((F _ hKb (nsK hns)).run callerA [] s₁ H ⟨[.ref a],[]⟩ [.ref a] [.ref a] _ _ hr e0 (hbind s₁ (.ref a)) (.cons rfl .nil) (hsp H hO hS)) λr s' h=>?_;cases r with
  | error e=>exact(hCX H e s' h).elim
  | ok fl =>
   cases fl with
   | next=>exact False.elim h
   | brk=>exact False.elim h
   | cont=>exact False.elim h
   | ret u =>
    obtain⟨v,H',os,bare,un,hok',r',q⟩:=h;have q':v=.bl true:=q;subst q';obtain rfl:u=qX true:=r';refine⟨rfl,OldK.of_keep λb o e=>?_,os,bare⟩;cases q:H b with
    | none=>exact un.keep b o e q (by intro z;exact absurd (show b∈([]:List Gj) from z) (by simp)) (by simp)
    | some u =>
     rcases hO b with z|⟨ob,xs,z⟩
     .rw[q] at z;cases z
     .have z2:=un.frzs b ob _ z;obtain⟨e1,_⟩:=hok b _ z;obtain⟨e2,_⟩:=hok' b _ z2;rw[e] at e1;cases e1;exact e2
 cases hk:K.lookup a with
 | some o =>
  have e:=KX a o hk;rw[ha] at e;cases e;refine core (λ_=>Gb) (λ_=>.inl rfl) (.inr ⟨_,vs.toArray,_,hk,rfl,rfl,rfl,by rw[jo,lenV];exact hl,by simpa using rv⟩) (λb u z=>by have z':(Gb:Option HO)=Ga u:=z;cases z') (λb z=>absurd rfl z) λz=>absurd rfl z
 | none =>
  refine core (λb=>if b=a then Ga (.frz { cls:=.type "list",data:=.seq vs.toArray } (.lst (ns.map V.int))) else Gb) (λb=>?_) (.inl (.inr ⟨{ cls:=.type "list",data:=.seq vs.toArray },Ge rfl⟩)) (λb u z=>?_) (λb z=>?_) λ_=>hk
  .by_cases hb:b=a
   .exact .inr ⟨_,_,Ge hb⟩
   .exact .inl (Gf hb)
  .by_cases hb:b=a
   .have z':=(Ge hb).symm.trans z;cases z';subst hb;exact⟨ha,by rw[jb];exact hl,vs,_,rv,ha⟩
   .have z':=(Gf hb).symm.trans z;cases z'
  .by_cases hb:b=a
   .exact hb
   .exact absurd (Gf hb) z
end L2
namespace L2
open PySem PySem.Spec PyProof.Rows
theorem walk_of {l:qA}{n k:Nat}{q:Program}{loose:List Str}{XP:(Str->Option Gg)->Heap->Prop}{YP:World->Heap->Prop}{d:DefRec}{K:Params->ja}{CX:World->CXT}{sp:World->Sp}{x:Str}
  (hn:l.most=Ga n) (hn2:n<=sizeLine) (hdf:d.params.defaults=[]) (hr:Room k callerA)
  (hY:∀ (w:World) (h:Heap),YP w h->(K w.params).In h)
  (F:∀ (w:World) (mg:Str->Option Gg) (fa:Gj) (h:Heap),(K w.params).In h->h.Ns mainGlobals mg->mg d.name=Ga (.ref fa) ->
   ∃ fd:Gi,(∀ (s:Gh) (u:Gg),BindsTo s fd ⟨[u],[]⟩ [(x,u)]) /\
    ∀ base:Heap,(K w.params).In base->base.Ns mainGlobals mg->FnOk l.prog w (K w.params) mg base (CX w) k fa fd [x] (sp w))
  (hsp:∀ (w:World) (H:Hp) (a:Gj) (ns:List Int),ns.length<=n->Only H->SqL (K w.params) H a (ns.map V.int)->sp w [.ref a] H (λv _=>v=.bl true) λ_ _ _=>False)
  (hCX:∀ (w:World) (H:Hp) (s:Gh) (e:Gg) (s':Gh),CX w [] H s (λ_ _ _=>False) e s'->False) :
  qU q loose XP YP l.row.toRowW d [] (λf vs=>Ja f vs):=by
 refine Att.attach_call hn hdf λw s₀ s₁ mg mb fa o pm cd doc a vs ns G Y ho hd hcd hmg hobj hints hlen hg=>?_;have KX:=hY w _ Y;obtain⟨fd,hb,hF⟩:=F w mg fa _ KX G.T.g hmg;exact law_call KX G.T.g G.T.b G.T.builtins G.T.nolimit hg hobj hints (jn hlen hn2) hr hF hb (λH hO hS=>hsp w H a ns hlen hO hS) λH e s'=>hCX w H s₁ e s'
theorem walk_ofK {l:qA}{n k:Nat}{q:Program}{loose:List Str}{XP:(Str->Option Gg)->Heap->Prop}{YP:World->Heap->Prop}{d:DefRec}{K:Params->ja}{CX:CXT}{sp:ja->Sp}{x:Str}
  (hn:l.most=Ga n) (hn2:n<=sizeLine) (hdf:d.params.defaults=[]) (hr:Room k callerA)
  (hY:∀ (w:World) (h:Heap),YP w h->(K w.params).In h)
  (F:∀ (w:World) (mg:Str->Option Gg) (fa:Gj) (h:Heap),(K w.params).In h->h.Ns mainGlobals mg->mg d.name=Ga (.ref fa) ->
   ∃ fd:Gi,(∀ (s:Gh) (u:Gg),BindsTo s fd ⟨[u],[]⟩ [(x,u)]) /\
    ∀ base:Heap,(K w.params).In base->base.Ns mainGlobals mg->FnOk l.prog w (K w.params) mg base CX k fa fd [x] (sp (K w.params)))
  (hsp:∀ (K:ja) (H:Hp) (a:Gj) (ns:List Int),ns.length<=n->Only H->SqL K H a (ns.map V.int)->sp K [.ref a] H (λv _=>v=.bl true) λ_ _ _=>False)
  (hCX:∀ (H:Hp) (s:Gh) (e:Gg) (s':Gh),CX [] H s (λ_ _ _=>False) e s'->False) :
  qU q loose XP YP l.row.toRowW d [] (λf vs=>Ja f vs) :=
 walk_of (K:=K) (CX:=λ_=>CX) (sp:=λw=>sp (K w.params)) hn hn2 hdf hr hY F (λw H a ns h1 h2 h3=>hsp (K w.params) H a ns h1 h2 h3) λ_ H s e s'=>hCX H s e s'
end L2
namespace L2
open PySem PySem.Spec PyProof.Rows
def defArgs (s:Stmt):Arguments:=match s with
 | .FunctionDef _ a _ _ _ _ _ _ _ _=>a
 | _=>{ posonlyargs:=[],args:=[],vararg:=Gb,kwonlyargs:=[],kw_defaults:=[],kwarg:=Gb,defaults:=[] }
def defBody (s:Stmt):List Stmt:=match s with
 | .FunctionDef _ _ b _ _ _ _ _ _ _=>b
 | _=>[]
def defScope (s:Stmt):Scope:=match s with
 | .FunctionDef _ _ _ _ _ _ sc _ _ _=>sc
 | _=>{ kind:=.function,names:=[],isGenerator:=false,isCoroutine:=false }
abbrev CX0:CXT:=λ_ _ _ _ _ _=>False
abbrev E0:XK:=λ_ _ _=>False
theorem pass0 {X:Cx}:Passes CX0 X E0:=λ_ _ _ _ _ _ _ h=>h.elim
structure Fun (K:ja)(x qual:Str)(st:Stmt)(f:Gj)(fd:Gi):Prop where
 ex:∃ (oc:Gg) (od:Option Gj) (kV doc pm:Gg) (an:Option Gj) (cdv ct:Gg) (osl:Array (Option Gg)),
  fd=kZ x qual (defArgs st) (defBody st) (defScope st) .none kV doc pm an cdv ct/\K.lookup f=Ga ⟨oc,od,.func fd,osl⟩/\vm K cdv qual=true
 kp:kR K (.ref f)=true
section
variable {P:Program}{w:World}{K:ja}{mg:Str->Option Gg}{base:Heap}
theorem Fun.ok {x qual:Str}{st:Stmt}{f:Gj}{fd:Gi}{N ps:List Str}{k:Nat}{sp:Sp}(F:Fun K x qual st f fd)(S:FnScope N ps (defScope st))(len:∀ vs H Q E,sp vs H Q E->vs.length=ps.length)
  (hbody:∀ (cdv:Gg) (A:Around) (outer:List Env) (s:Gh) (H:Hp) (vs:List V) (Q:VK) (E:XK),Room k (A.deeper (envOfC qual (defScope st) s.heap.objs.size f cdv))->sp vs H Q E ->
   ∃ t,PSs (cxOf CX0 P w K mg base N qual (defScope st) f cdv A outer s H E).nox (defBody st) t/\t { nx:=λ_ H'=>Q .non H',rt:=Q } (start N vs) H):FnOk P w K mg base CX0 (k+1) f fd ps sp:=by
 obtain⟨oc,od,kV,doc,pm,an,cdv,ct,osl,rfl,lk,hcd⟩:=F.ex;refine fn_of lk hcd S len λA outer s H vs Q E hr hsp=>?_;obtain⟨t,h,q⟩:=hbody cdv A outer s H vs Q E hr hsp;exact⟨t,h.nox,q⟩
theorem Fun.binds {x qual:Str}{st:Stmt}{f:Gj}{fd:Gi}{ps:List Str}(F:Fun K x qual st f fd)
  (h:∀ (kV doc pm:Gg) (an:Option Gj) (cdv ct:Gg) (us:List Gg),us.length=ps.length->bindArgs (kZ x qual (defArgs st) (defBody st) (defScope st) .none kV doc pm an cdv ct) ⟨us,[]⟩=pure (ps.zip us)):Binds K fd ps []:=by
 obtain⟨oc,od,kV,doc,pm,an,cdv,ct,osl,rfl,lk,hcd⟩:=F.ex;exact .all (h kV doc pm an cdv ct)
theorem fun_mk {x qual:Str}{st:Stmt}{f:Gj}{oc:Gg}{od an:Option Gj}{osl:Array (Option Gg)}{kV doc pm cdv ct:Gg}(l:K.lookup f=Ga ⟨oc,od,.func (kZ x qual (defArgs st) (defBody st) (defScope st) .none kV doc pm an cdv ct),osl⟩)
  (c:vm K cdv qual=true) (k:kR K (.ref f)=true):Fun K x qual st f (kZ x qual (defArgs st) (defBody st) (defScope st) .none kV doc pm an cdv ct):=⟨⟨oc,od,kV,doc,pm,an,cdv,ct,osl,rfl,l,c⟩,k⟩
end
theorem small1000 {n:Nat}(h:n<=1000):n<sizeLine:=Nat.lt_of_le_of_lt h (by decide)
section
variable {X:Cx}
end
theorem iteF {A B:Prop}(h:B):if false=true then A else B:=by
 rw[Gf jy];exact h
theorem iteT {A B:Prop}(h:A):if true=true then A else B:=by
 rw[Ge rfl];exact h
def Same (H H':Hp):Prop:=∀ b o,H b=Ga o->H' b=Ga o
theorem Same.refl (H:Hp):Same H H:=λ_ _ h=>h
theorem Same.trans {H H1 H2:Hp}(a:Same H H1)(b:Same H1 H2):Same H H2:=λc o h=>b c o (a c o h)
theorem Same.free {H H':Hp}(e:Same H H'){l:Gj}(h:H' l=qK):H l=qK:=by
 cases q:H l with
 | none=>rfl
 | some o =>
  rw[e l o q] at h;cases h
theorem Same.seq {K:ja}{H H':Hp}{a:Gj}{xs:List V}(e:Same H H')(h:SqL K H a xs):SqL K H' a xs:=by
 rcases h with (h|⟨o,h⟩)|h
 .exact .inl (.inl (e _ _ h))
 .exact .inl (.inr ⟨o,e _ _ h⟩)
 .exact .inr h
end L2
namespace L2
open PySem PySem.Spec PyProof.Rows
section
variable {κ:Type}[DecidableEq κ]
def valV (kvs:List (κ×V))(k:κ):Option V:=(kvs.find? λkv=>decide (kv.1=k)).map (·.2)
def putK (kvs:List (κ×V))(k:κ)(v:V):List (κ×V) :=
 if (kvs.any λkv=>decide (kv.1=k))=true then kvs.map (λkv=>if kv.1=k then(kv.1,v) else kv) else kvs++[(k,v)]
def dropK (kvs:List (κ×V))(k:κ):List (κ×V):=kvs.filter λkv=>decide (kv.1≠k)
theorem valV_pos {p:κ×V}{r:List (κ×V)}{k:κ}(e:p.1=k):valV (p::r) k=Ga p.2:=by simp[valV,uQ,e]
theorem valV_neg {p:κ×V}{r:List (κ×V)}{k:κ}(e:¬p.1=k):valV (p::r) k=valV r k:=by simp[valV,uQ,e]
theorem valV_any (k:κ):∀ kvs:List (κ×V),(kvs.any λkv=>decide (kv.1=k))=(valV kvs k).isSome
 | []=>rfl
 | p::r=>by
  rw[vz];by_cases e:p.1=k
  .simp only[valV_pos e,Gc e,k6,Option.isSome_some]
  .rw[valV_neg e,Gd e,v4];exact valV_any k r
theorem RelO.isSome_eq {o:Option V}{u:Option Gg}(r:RelO o u):o.isSome=u.isSome:=by
 cases o with
 | none=>cases u with
  | none=>rfl
  | some _=>exact(show False from r).elim
 | some _=>cases u with
  | none=>exact(show False from r).elim
  | some _=>rfl
theorem RelO.getD {o:Option V}{u:Option Gg}{d:V}{d':Gg}(r:RelO o u)(rd:RelV d d'):RelV (o.getD d) (u.getD d'):=by
 cases o with
 | none=>cases u with
  | none=>exact rd
  | some _=>exact(show False from r).elim
 | some _=>cases u with
  | none=>exact(show False from r).elim
  | some _=>exact r
theorem KV.val {kvs:List (κ×V)}{vs:List (κ×Gg)}(r:KV kvs vs)(k:κ):RelO (valV kvs k) (valueAt vs k):=by
 unfold KV at r;induction r with
 | nil=>exact True.intro
 | @cons p q ps qs h t ih =>
  obtain⟨h1,h2⟩:=h;by_cases e:p.1=k
  .have e':q.1=k:=h1.symm.trans e;have b:valueAt (q::qs) k=Ga q.2:=by simp[valueAt,uQ,e']
   rw[valV_pos e,b];exact h2
  .have e':¬q.1=k:=λz=>e (h1.trans z);have b:valueAt (q::qs) k=valueAt qs k:=by simp[valueAt,uQ,e']
   rw[valV_neg e,b];exact ih
theorem KV.any {kvs:List (κ×V)}{vs:List (κ×Gg)}(r:KV kvs vs)(k:κ):(kvs.any λkv=>decide (kv.1=k))=vs.any λkv=>decide (kv.1=k):=by
 unfold KV at r;induction r with
 | nil=>rfl
 | cons h t ih=>rw[vz,vz,ih,h.1]
theorem KV.repl {kvs:List (κ×V)}{vs:List (κ×Gg)}(r:KV kvs vs)(k:κ){y:V}{u:Gg}(ry:RelV y u) :
  KV (kvs.map λkv=>if kv.1=k then(kv.1,y) else kv) (vs.map λkv=>if kv.1=k then(kv.1,u) else kv):=by
 unfold KV at r ⊢;induction r with
 | nil=>exact .nil
 | @cons p q ps qs h t ih =>
  rw[jQ,jQ];refine .cons ?_ ih;obtain⟨h1,h2⟩:=h;by_cases e:p.1=k
  .rw[Ge e,Ge (h1.symm.trans e)];exact⟨h1,ry⟩
  .rw[Gf e,Gf (λz=>e (h1.trans z))];exact⟨h1,h2⟩
theorem KV.put {kvs:List (κ×V)}{vs:List (κ×Gg)}(r:KV kvs vs)(k:κ){y:V}{u:Gg}(ry:RelV y u):KV (putK kvs k y) (stored vs k u):=by
 unfold putK stored;rw[r.any k];by_cases e:(vs.any λkv=>decide (kv.1=k))=true
 .rw[Ge e,Ge e];exact r.repl k ry
 .rw[Gf e,Gf e];exact Paired.snoc r ⟨rfl,ry⟩
theorem KV.drop {kvs:List (κ×V)}{vs:List (κ×Gg)}(r:KV kvs vs)(k:κ):KV (dropK kvs k) (without vs k):=by
 unfold KV at r ⊢;unfold dropK without;induction r with
 | nil=>exact .nil
 | @cons p q ps qs h t ih =>
  obtain⟨h1,h2⟩:=h;rw[Jp,Jp];by_cases e:p.1=k
  .have a:¬decide (p.1≠k)=true:=by simp[e]
   have b:¬decide (q.1≠k)=true:=by simp[h1.symm.trans e]
   rw[Gf a,Gf b];exact ih
  .have e':¬q.1=k:=λz=>e (h1.trans z);have a:decide (p.1≠k)=true:=by simp[e]
   have b:decide (q.1≠k)=true:=by simp[e']
   rw[Ge a,Ge b];exact .cons ⟨h1,h2⟩ ih
theorem KV.length {kvs:List (κ×V)}{vs:List (κ×Gg)}(r:KV kvs vs):kvs.length=vs.length:=Paired.length r
end
abbrev KT (H:Hp):List (List Key×V)->List (List Key×Gj×Gg)->Prop:=Paired λp q=>p.1=q.1/\H q.2.1=Ga (.tup (p.1.map kV))/\RelV p.2 q.2.2
theorem KT.val {H:Hp}{kvs:List (List Key×V)}{xs:List (List Key×Gj×Gg)}(r:KT H kvs xs)(k:List Key):RelO (valV kvs k) ((atKey xs k).map (·.2)):=by
 induction r with
 | nil=>exact True.intro
 | @cons p q ps qs h t ih =>
  obtain⟨h1,_,h2⟩:=h;by_cases e:p.1=k
  .have e':q.1=k:=h1.symm.trans e;have b:atKey (q::qs) k=Ga q.2:=by simp[atKey,uQ,e']
   rw[valV_pos e,b];exact h2
  .have e':¬q.1=k:=λz=>e (h1.trans z);have b:atKey (q::qs) k=atKey qs k:=by simp[atKey,uQ,e']
   rw[valV_neg e,b];exact ih
theorem KT.repl {H:Hp}{kvs:List (List Key×V)}{xs:List (List Key×Gj×Gg)}(r:KT H kvs xs)(k:List Key){y:V}{u:Gg}(ry:RelV y u) :
  KT H (kvs.map λkv=>if kv.1=k then(kv.1,y) else kv) (xs.map (putAt k u)):=by
 induction r with
 | nil=>exact .nil
 | @cons p q ps qs h t ih =>
  rw[jQ,jQ];refine .cons ?_ ih;obtain⟨h1,h2,h3⟩:=h;unfold putAt;by_cases e:p.1=k
  .rw[Ge e,Ge (h1.symm.trans e)];exact⟨h1,h2,ry⟩
  .rw[Gf e,Gf (λz=>e (h1.trans z))];exact⟨h1,h2,h3⟩
theorem KT.put {H:Hp}{kvs:List (List Key×V)}{xs:List (List Key×Gj×Gg)}(r:KT H kvs xs)(k:List Key){b:Gj}{y:V}{u:Gg}(hb:H b=Ga (.tup (k.map kV)))(ry:RelV y u) :
  KT H (putK kvs k y) (storedH xs k b u):=by
 have e:(kvs.any λkv=>decide (kv.1=k))=(atKey xs k).isSome:=by
  rw[valV_any,(r.val k).isSome_eq,Jf]
 unfold putK storedH;rw[e];by_cases q:(atKey xs k).isSome=true
 .rw[Ge q,Ge q];exact r.repl k ry
 .rw[Gf q,Gf q];exact Paired.snoc r ⟨rfl,hb,ry⟩
theorem KT.keeps {H H':Hp}{kvs:List (List Key×V)}{xs:List (List Key×Gj×Gg)}(r:KT H kvs xs)(ht:∀ b ys,H b=Ga (.tup ys)->H' b=Ga (.tup ys)):KT H' kvs xs :=
 Paired.mapP r λ_ _ z=>⟨z.1,ht _ _ z.2.1,z.2.2⟩
section
variable {P:Program}{w:World}{H:Hp}{h:Heap}{a:Gj}
end
def DGet (H:Hp)(a:Gj)(y:V)(r:Option V):Prop :=
 (∃ kvs k,Rd H a (.dK kvs)/\y=kV k/\r=valV kvs k)\/∃ kvs k b,Rd H a (.dT kvs)/\y=.ref b/\H b=Ga (.tup (k.map kV))/\r=valV kvs k
def DPut (H:Hp)(a:Gj)(y v:V)(H':Hp):Prop :=
 (∃ kvs k,H a=Ga (.dK kvs)/\y=kV k/\kvs.length<sizeLine/\H'=upd H a (.dK (putK kvs k v))) \/
 ∃ kvs k b,H a=Ga (.dT kvs)/\y=.ref b/\H b=Ga (.tup (k.map kV))/\kvs.length<sizeLine/\H'=upd H a (.dT (putK kvs k v))
theorem DGet.k {H:Hp}{a:Gj}{kvs:List (Key×V)}{k:Key}(e:H a=Ga (.dK kvs)):DGet H a (kV k) (valV kvs k):=.inl ⟨kvs,k,.inl e,rfl,rfl⟩
theorem DGet.t {H:Hp}{a b:Gj}{kvs:List (List Key×V)}{k:List Key}(e:H a=Ga (.dT kvs))(eb:H b=Ga (.tup (k.map kV))):DGet H a (.ref b) (valV kvs k):=.inr ⟨kvs,k,b,.inl e,rfl,eb,rfl⟩
theorem DPut.k {H:Hp}{a:Gj}{kvs:List (Key×V)}{k:Key}{v:V}(e:H a=Ga (.dK kvs))(hl:kvs.length<sizeLine):DPut H a (kV k) v (upd H a (.dK (putK kvs k v))):=.inl ⟨kvs,k,e,rfl,hl,rfl⟩
theorem DPut.t {H:Hp}{a b:Gj}{kvs:List (List Key×V)}{k:List Key}{v:V}(e:H a=Ga (.dT kvs))(eb:H b=Ga (.tup (k.map kV)))(hl:kvs.length<sizeLine) :
  DPut H a (.ref b) v (upd H a (.dT (putK kvs k v))):=.inr ⟨kvs,k,b,e,rfl,eb,hl,rfl⟩
section
variable {X:Cx}{ω:List (Gj×Obj)}{σ:St}{H:Hp}{s:Gh}{a:Gj}{y v:V}{u r:Gg}{o:Option V}{A:Around}{E:Gg->Gh->Prop}
theorem Inv.big (I:Inv X ω σ H s):sysModules<s.heap.objs.size:=by
 have h:mainGlobals<s.heap.objs.size:=(I.mod.glob.keeps I.bk).lt;exact Nat.lt_trans (by decide) h
theorem d_write {h':Heap}{t':Nat}{ob:HO}(I:Inv X ω σ H s)(mu:Mut (H a))(hs:qi a s.heap h')(he:∃ q,h'.get? a=Ga q)(new:ObjOk X.prog X.w (upd H a ob) h' a ob) :
  Inv X ω σ (upd H a ob) { s with heap:=h',toks:=t' } :=
 I.write (x:=a) (e:=a) mu (.inl rfl) (λb q hb z=>(hs.2 b hb).trans z) he new
end
section
variable {X:Cx}{ω:List (Gj×Obj)}{σ:St}{H:Hp}{s:Gh}{a:Gj}{kvs:List (Key×V)}{k:Key}{u:Gg}{A:Around}{E:Gg->Gh->Prop}
end
def NoSl (i:Expr):Prop:=∀ ov iv,subscripted i false ov iv=operate [ov,iv] (getItem ov iv)
theorem subD_of {prog:Program}{w:World}{A:Around}{E:Gg->Gh->Prop}{s:Gh}{ψ:Env}{value slice:Expr}{pos:Pos}{T id:String}{Q:Gg->Gh->Prop}
  (hl:typeLookup (.type T) "__getitem__"=pure (Ga (.builtin id))) (hs:NoSl slice)
  (h:wpAny (model prog w) A (eval value ψ) (λo s₁=>wpAny (model prog w) A (eval slice ψ) (λi s₂=>s₂.TypeIs o T/\wpAny (model prog w) A (getItem o i) Q E s₂) E s₁) E s) :
  wpAny (model prog w) A (eval (.Subscript value slice pos) ψ) Q E s:=by
 refine Subscript_ (wpAny_mono h (λo s₁ h₁=>wpAny_mono h₁ (λi s₂ h₂=>?_) λ_ _ x=>x) λ_ _ x=>x);obtain⟨hT,h₂⟩:=h₂;unfold subscriptTail;refine wpAny_bind ?_;rw[getitemInPython_of_ne hT.not_modules];refine wpAny_bind (wpAny_specialOf hT hl ?_);have fin:wpAny (model prog w) A (subscripted slice false o i) (λr s₃=>wpAny (model prog w) A (letTemporaryGo value o r >>= λ_=>pure r) Q E s₃) E s₂:=by
  rw[hs o i];exact wpAny_operating (wpAny_mono h₂ (λr s₃ h₃=>wpAny_bind (wpAny_letTemporaryGo (wpAny_pure h₃))) λ_ _ x=>x)
 first
  | exact wpAny_pure (wpAny_bind fin)
  | exact wpAny_bind (wpAny_pure (wpAny_bind fin))
  | exact wpAny_bind fin
section
variable {X:Cx}{o i e value:Expr}{pos pos' tpos:Pos}{td ty tv:TE}
end
section
variable {X:Cx}{pos:Pos}
end
structure M1 (X:Cx)(o:Expr)(m:Str)(apos:Pos)(e:Expr)(cpos:Pos):Prop where
 base:attributeBase o m X.env (eval o X.env)=eval o X.env
 few:((backTo cpos (starEach [e] X.env)).all (λx=>!x.1)&&(backToKw cpos (keywordEach [] X.env)).all (λx=>x.1.isSome)
  && decide (([e]:List Expr).length+([]:List Keyword).length+(if ([]:List Keyword).isEmpty then 0 else 1)<30))=true
 line:(apos.endLine==cpos.line)=true
 trees:backTo cpos (starEach [e] X.env)=[(false,eval e X.env)]
section
variable {X:Cx}{ω:List (Gj×Obj)}{σ:St}{H:Hp}{s:Gh}{a:Gj}{y d:V}{u r:Gg}{o:Option V}{A:Around}{E:Gg->Gh->Prop}
end
section
variable {X:Cx}{o e f:Expr}{apos cpos:Pos}{td ty tx:TE}
end
section
variable {X:Cx}{ω:List (Gj×Obj)}{σ:St}{H:Hp}{s:Gh}{a:Gj}{kvs:List (Key×V)}{A:Around}{E:Gg->Gh->Prop}
end
section
variable {X:Cx}{ω:List (Gj×Obj)}{σ:St}{H:Hp}{s:Gh}{a:Gj}{y:V}{u:Gg}{A:Around}{E:Gg->Gh->Prop}
end
end L2
namespace L2
open PySem PySem.Spec PyProof.Rows
section
variable {κ:Type}[DecidableEq κ]
end
end L2
set_option autoImplicit false
namespace T3
open PySem PySem.Spec
noncomputable instance decD:DecidableEq PyData:=λa b=>Classical.propDecidable (a=b)
mutual
def keyD:PyData->Nat->Bool
 | .none,_=>true
 | .int _,_=>true
 | .tuple _,0=>false
 | .tuple xs,n+1=>keyAll xs n
 | .bool _,_=>false
 | .str _,_=>false
 | .list _,_=>false
 | .dict _,_=>false
def keyAll:List PyData->Nat->Bool
 | [],_=>true
 | x::xs,n=>keyD x n&&keyAll xs n
end
mutual
def hashD:PyData->Int
 | .int i=>hashInt i
 | .tuple xs=>reduceHash (Builtin.Tuple.tupleHashOf (hashAll xs))
 | _=>0xFCA86420
def hashAll:List PyData->List Int
 | []=>[]
 | x::xs=>hashD x::hashAll xs
end
mutual
theorem znZ:∀ (d:PyData) (n:Nat),keyD d n=true->d.canLay0=true/\d.depth<=n
 | .none,_,_=>⟨rfl,j8 _⟩
 | .int _,_,_=>⟨rfl,j8 _⟩
 | .tuple xs,0,h=>by simp[keyD] at h
 | .tuple xs,n+1,h=>by
  rw[keyD] at h;have:=znG xs n h;exact⟨this.1,Nat.succ_le_succ this.2⟩
 | .bool _,_,h=>by simp[keyD] at h
 | .str _,_,h=>by simp[keyD] at h
 | .list _,_,h=>by simp[keyD] at h
 | .dict _,_,h=>by simp[keyD] at h
theorem znG:∀ (xs:List PyData) (n:Nat),keyAll xs n=true->kP xs=true/\ui xs<=n
 | [],_,_=>⟨rfl,j8 _⟩
 | x::xs,n,h=>by
  rw[keyAll,jI] at h;have a:=znZ x n h.1;have b:=znG xs n h.2;refine⟨?_,?_⟩
  .rw[kP,a.1,b.1];rfl
  .rw[ui];omega
end
mutual
theorem zs6:∀ (a b:PyData) (n m:Nat),keyD a n=true->keyD b m=true->kF a b=true->a=b
 | .none,.none,_,_,_,_,_=>rfl
 | .none,.int _,_,_,_,_,h=>by simp[kF] at h
 | .none,.tuple _,_,_,_,_,h=>by simp[kF] at h
 | .int _,.none,_,_,_,_,h=>by simp[kF] at h
 | .int i,.int j,_,_,_,_,h=>by simp only[kF] at h;rw[beq_iff_eq] at h;rw[h]
 | .int _,.tuple _,_,_,_,_,h=>by simp[kF] at h
 | .tuple _,.none,_,_,_,_,h=>by simp[kF] at h
 | .tuple _,.int _,_,_,_,_,h=>by simp[kF] at h
 | .tuple xs,.tuple ys,0,_,p,_,_=>by simp[keyD] at p
 | .tuple xs,.tuple ys,_+1,0,_,q,_=>by simp[keyD] at q
 | .tuple xs,.tuple ys,n+1,m+1,p,q,h=>by rw[kF] at h;rw[keyD] at p q;rw[znH xs ys n m p q h]
 | .bool _,_,_,_,p,_,_=>by simp[keyD] at p
 | .str _,_,_,_,p,_,_=>by simp[keyD] at p
 | .list _,_,_,_,p,_,_=>by simp[keyD] at p
 | .dict _,_,_,_,p,_,_=>by simp[keyD] at p
 | .none,.bool _,_,_,_,q,_=>by simp[keyD] at q
 | .none,.str _,_,_,_,q,_=>by simp[keyD] at q
 | .none,.list _,_,_,_,q,_=>by simp[keyD] at q
 | .none,.dict _,_,_,_,q,_=>by simp[keyD] at q
 | .int _,.bool _,_,_,_,q,_=>by simp[keyD] at q
 | .int _,.str _,_,_,_,q,_=>by simp[keyD] at q
 | .int _,.list _,_,_,_,q,_=>by simp[keyD] at q
 | .int _,.dict _,_,_,_,q,_=>by simp[keyD] at q
 | .tuple _,.bool _,_,_,_,q,_=>by simp[keyD] at q
 | .tuple _,.str _,_,_,_,q,_=>by simp[keyD] at q
 | .tuple _,.list _,_,_,_,q,_=>by simp[keyD] at q
 | .tuple _,.dict _,_,_,_,q,_=>by simp[keyD] at q
theorem znH:∀ (xs ys:List PyData) (n m:Nat),keyAll xs n=true->keyAll ys m=true->v5 xs ys=true->xs=ys
 | [],[],_,_,_,_,_=>rfl
 | [],_::_,_,_,_,_,h=>by simp[v5] at h
 | _::_,[],_,_,_,_,h=>by simp[v5] at h
 | x::xs,y::ys,n,m,p,q,h=>by
  rw[v5,jI] at h;rw[keyAll,jI] at p q;rw[zs6 x y n m p.1 q.1 h.1,znH xs ys n m p.2 q.2 h.2]
end
section
variable {prog:Program}{w:World}
end
end T3
namespace T3
open PySem PySem.Spec
section
variable {prog:Program}{w:World}{A:Around}{E:Gg->Gh->Prop}{s:Gh}
def DRaw (h:Heap)(d:Gj)(es:Array DictEntry)(ep:Nat):Prop:=∃ o,h.get? d=Ga o/\o.ExactDict/\o.data=.dict es ep
theorem DRaw.ty {d:Gj}{es:Array DictEntry}{ep:Nat}(x:DRaw s.heap d es ep):s.TypeIs (.ref d) "dict":=let ⟨o,ho,hc,_⟩:=x;⟨o,ho,hc.1⟩
theorem DRaw.kept {h h':Heap}{d:Gj}{es:Array DictEntry}{ep:Nat}(x:DRaw h d es ep)(k:∀ o,h.get? d=Ga o->h'.get? d=Ga o):DRaw h' d es ep:=let ⟨o,ho,r⟩:=x;⟨o,k _ ho,r⟩
theorem zvS {d:Gj}{es:Array DictEntry}{ep:Nat}{Q:Gg->Gh->Prop}(hd:(d==sysModules)=false)(hm:DRaw s.heap d es ep)
  (hQ:Q (.ref s.heap.objs.size) { s with heap:=s.heap.push { cls:=.type "dict_keyiterator",data:=.fields #[.ref d,.int 0 0,.int es.size 0,.int ep 0] } }):wpAny (model prog w) A (pyIter (.ref d)) Q E s:=by
 have hT:=hm.ty;obtain⟨o,ho,hc,hdat⟩:=hm;refine wpAny_pyIter_slot hT F.slot_dict_iter (wpAny_call_entry F.slot_dict_iter hT F.entry_dict_iter ?_ (F.args_dict_iter_1 _));unfold Builtin.«dict.__iter__» Builtin.Dict.dictSlotNone;refine wpAny_bind (wpAny_bind (wpAny_notOrdered_dict hT ?_));show wpAny _ _ (pure (kB d)) _ _ s;refine wpAny_pure ?_;show wpAny _ _ (qD d >>= _) _ _ s;unfold qD;rw[Gf (by rw[hd];exact jy)];refine wpAny_bind (wpAny_pure (wpAny_bind (wpAny_dictEntries ho hdat (wpAny_bind (wpAny_dictEpoch ho hdat ?_)))));exact wpAny_bind (wpAny_newObj_type (wpAny_pure ⟨_,rfl,"dict_keyiterator",_,⟨_,jA _ rfl,rfl⟩,F.slot_dict_keyiterator_next.lookup,hQ⟩))
theorem zvT {it d:Gj}{i ep:Nat}{es:Array DictEntry}{e:DictEntry}{Q:Option Gg->Gh->Prop}(hit:s.heap.IsKeyIter it d i es.size ep)(hm:DRaw s.heap d es ep)(hx:es[i]?=Ga e)
  (hQ:∀ h',h'.IsKeyIter it d (i+1) es.size ep->qi it s.heap h'->Q (Ga e.key) { s with heap:=h' }):wpAny (model prog w) A (pyNext (.ref it)) Q E s:=by
 obtain⟨o,ho,hc,hd⟩:=id hit;obtain⟨od,hod,hcd,hdd⟩:=id hm;unfold pyNext;refine wpAny_bind (wpAny_attempt (wpAny_callSpecial?_slot (name:=jl "__next__") hit.typeIs F.slot_dict_keyiterator_next (wpAny_call_entry F.slot_dict_keyiterator_next hit.typeIs F.entry_dict_keyiterator_next ?_ (F.args_dict_keyiterator_next_1 _))));refine wpAny_bind (wpAny_pure (wpAny_bind (wpAny_bind ?_)))
 first|refine wpAny_bind (wpAny_typeNameOfWhole_keyiter hit.typeIs (wpAny_pure ?_))|refine wpAny_bind (wpAny_typeNameOf_keyiter hit.typeIs (wpAny_pure ?_))
 refine wpAny_bind (wpAny_fieldsOf ho hd ?_);simp only[show vE "dict_keyiterator"=false by decide,ub,if_false];show wpAny _ _ (if (kB d==j5)=true then _ else _) _ _ s;rw[Gf (show ¬((kB d==j5)=true) from jy)];refine wpAny_bind (wpAny_pure (wpAny_bind (wpAny_dictEntries hod hdd ?_)));rw[Gf (by simp)];refine wpAny_bind (wpAny_pure (wpAny_bind (wpAny_dictEpoch hod hdd ?_)));rw[Gf (by simp)];refine wpAny_pure ?_;simp only[show ¬((i:Int)<0) from by omega,if_false,kN,hx];refine wpAny_bind ?_
 first|refine wpAny_bind (wpAny_typeNameOfWhole_keyiter hit.typeIs (wpAny_pure ?_))|refine wpAny_bind (wpAny_typeNameOf_keyiter hit.typeIs (wpAny_pure ?_))
 refine wpAny_bind (wpAny_isOneOf_keyiter hit.typeIs ?_);show wpAny _ _ (setField (.ref it) 1 (rawInt ((i:Int)+1)) >>= _) _ _ s;refine wpAny_bind (wpAny_setField ho hd (by simp) ?_);have hit':(s.heap.update it (vd (·.setIfInBounds 1 (rawInt ((i:Int)+1))))).IsKeyIter it d (i+1) es.size ep :=
  ⟨_,k9 _ ho (uR (uP hd _)),(Jg ..).trans hc,by rw[uP hd];simp[rawInt]⟩
 refine wpAny_bind (wpAny_holding (wpAny_bind (wpAny_isOneOf_keyiter (s:={ s with heap:=s.heap.update it (vd (·.setIfInBounds 1 (rawInt ((i:Int)+1)))) }) hit'.typeIs ?_)));show wpAny _ _ (pure e.key) _ _ _;exact wpAny_pure (wpAny_pure ⟨_,rfl,wpAny_pure (hQ _ hit' (ul ..))⟩)
theorem zvU {it d:Gj}{i ep:Nat}{es:Array DictEntry}{Q:Option Gg->Gh->Prop}(hh:A.handled=Gb)(hit:s.heap.IsKeyIter it d i es.size ep)(hm:DRaw s.heap d es ep)(hx:es.size<=i)
  (hQ:∀ h',Heap.ExtBut it s.heap h'->Q Gb { s with heap:=h' }):wpAny (model prog w) A (pyNext (.ref it)) Q E s:=by
 obtain⟨o,ho,hc,hd⟩:=id hit;obtain⟨od,hod,hcd,hdd⟩:=id hm;unfold pyNext;refine wpAny_bind (wpAny_attempt (wpAny_callSpecial?_slot (name:=jl "__next__") hit.typeIs F.slot_dict_keyiterator_next (wpAny_call_entry F.slot_dict_keyiterator_next hit.typeIs F.entry_dict_keyiterator_next ?_ (F.args_dict_keyiterator_next_1 _))));refine wpAny_bind (wpAny_pure (wpAny_bind (wpAny_bind ?_)))
 first|refine wpAny_bind (wpAny_typeNameOfWhole_keyiter hit.typeIs (wpAny_pure ?_))|refine wpAny_bind (wpAny_typeNameOf_keyiter hit.typeIs (wpAny_pure ?_))
 refine wpAny_bind (wpAny_fieldsOf ho hd ?_);simp only[show vE "dict_keyiterator"=false by decide,ub,if_false];show wpAny _ _ (if (kB d==j5)=true then _ else _) _ _ s;rw[Gf (show ¬((kB d==j5)=true) from jy)];refine wpAny_bind (wpAny_pure (wpAny_bind (wpAny_dictEntries hod hdd ?_)));rw[Gf (by simp)];refine wpAny_bind (wpAny_pure (wpAny_bind (wpAny_dictEpoch hod hdd ?_)));rw[Gf (by simp)];refine wpAny_pure ?_;simp only[show ¬((i:Int)<0) from by omega,if_false,kN,vp hx];refine wpAny_bind ?_
 first|refine wpAny_bind (wpAny_typeNameOfWhole_keyiter hit.typeIs (wpAny_pure ?_))|refine wpAny_bind (wpAny_typeNameOf_keyiter hit.typeIs (wpAny_pure ?_))
 show wpAny _ _ (setField (.ref it) 0 .none >>= _) _ _ s;refine wpAny_bind (wpAny_setField ho hd (by simp) ?_);show wpAny _ _ (newExc (.type "StopIteration") [] >>= _) _ _ _;refine wpAny_bind ?_;simp only[newExc,newTuple];refine wpAny_bind (wpAny_newObj_type (wpAny_bind (m:=firstArgMember _ _) (wpAny_of_eq (a:=j5) (by first|rfl|(simp only[firstArgMember];rfl)) (wpAny_newObj_type ?_ (by size_fits)))) (by size_fits));simp only[raiseNew];refine wpAny_bind (wpAny_handled ?_);rw[show A.in1.handled=Gb from hh];refine wpAny_bind (wpAny_pure (wpAny_throw ?_));refine(wpAny_bind (wpAny_isInstance (T:="StopIteration") (b:=true) ⟨_,jA _ rfl,rfl⟩ isSubtype_stop ?_));exact wpAny_pure (hQ _ (((ul ..).extBut.push _).push _))
theorem zs7 (hh:A.handled=Gb)(I d:Gj)(hne:d≠I)(es:Array DictEntry)(ep:Nat) :
  Walks prog w A I [I,d] [I] es.size (λi v=>∃ e,es[i]?=Ga e/\v=e.key) (λi h=>h.IsKeyIter I d i es.size ep/\DRaw h d es ep) where
 sub:=λb hb=>by simp at hb;simp[hb]
 frame:=λ_ _ _ st hk=>⟨st.1.at λo e=>hk I (by simp) o e,st.2.kept λo e=>hk d (by simp) o e⟩
 item:=λi s Q E hi st hQ=>by
  have hx:es[i]?=Ga es[i]:=u6 hi;refine zvT st.1 st.2 hx λh' hit' hs'=>?_;exact hQ _ h' s.toks ⟨_,hx,rfl⟩ ⟨hit',st.2.kept λo eo=>(hs'.2 d hne).trans eo⟩ λb o hb eo=>hs'.extBut b o (λh=>hb (by simp[h])) eo
 done:=λs Q E st hQ=>zvU hh st.1 st.2 (jk _) λh' he'=>hQ h' s.toks λb o hb eo=>he' b o (λh=>hb (by simp[h])) eo
 self:=λ_ _ _ _ st hQ=>wpAny_pyIter_keyiter st.1 hQ
end
end T3
namespace T3
open PySem PySem.Spec PyProof.Rows L2
abbrev St:=L2.St
abbrev D:=PySem.PyData
def GoodT (H:Hp)(l:List Gg):Prop:=TriplesOk l/\∀ pos cv,codeAmong pos l=Ga cv->∃ c o vs,∃ v:Str×Tok,cv=.ref c/\H c=Ga (.frz o (.own c))/\o.data=.fields vs/\vs[1]?=Ga (.str v.1 v.2)
def Gr (H:Hp)(o:HO)(H':Hp)(x:Option HO):Prop:=match o with
 | .tbl ps=>∃ qs,x=Ga (.tbl qs)/\(GoodT H ps.toList->GoodT H' qs.toList)
 | o=>x=Ga o
theorem Gr.some {H H':Hp}{o:HO}{x:Option HO}(g:Gr H o H' x):∃ u,x=Ga u:=by
 cases o<;>first|exact⟨_,g⟩|exact⟨_,g.choose_spec.1⟩
theorem Gr.of {H H':Hp}{o:HO}{x:Option HO}(e:x=Option.some o)(g:∀ l,GoodT H l->GoodT H' l):Gr H o H' x:=by
 cases o<;>first|exact e|exact⟨_,e,g _⟩
theorem Gr.to {H H' H2:Hp}{o:HO}{x:Option HO}(a:Gr H o H' x)(g:∀ l,GoodT H' l->GoodT H2 l):Gr H o H2 x:=by
 cases o<;>first|exact a|exact⟨a.choose,a.choose_spec.1,λz=>g _ (a.choose_spec.2 z)⟩
def Same (H H':Hp):Prop:=∀ b o,H b=Ga o->Gr H o H' (H' b)
theorem Same.refl (H:Hp):Same H H:=λ_ _ h=>.of h λ_ z=>z
theorem Same.trans {H H1 H2:Hp}(a:Same H H1)(b:Same H1 H2):Same H H2:=λc o h=>by
 have g:=a c o h;cases o<;>first
  | exact b c _ g
  | (obtain⟨qs,e,k⟩:=g
     obtain⟨rs,e2,k2⟩:=b c _ e;exact⟨rs,e2,λz=>k2 (k z)⟩)
theorem Same.free {H H':Hp}(e:Same H H'){l:Gj}(h:H' l=qK):H l=qK:=by
 cases q:H l with
 | none=>rfl
 | some o =>
  obtain⟨u,z⟩:=(e l o q).some;rw[z] at h;cases h
theorem Same.seq {K:ja}{H H':Hp}{a:Gj}{xs:List V}(e:Same H H')(h:SqL K H a xs):SqL K H' a xs:=by
 rcases h with (h|⟨o,h⟩)|h
 .exact .inl (.inl (e _ _ h))
 .exact .inl (.inr ⟨o,e _ _ h⟩)
 .exact .inr h
theorem GoodT.updG {H:Hp}{a:Gj}{ob:HO}(m:∀ o u,H a≠Ga (.frz o u)){l:List Gg}(g:GoodT H l):GoodT (upd H a ob) l :=
 ⟨g.1,λpos cv e=>by
  obtain⟨c,o,vs,v,e1,e2,e3⟩:=g.2 pos cv e;exact⟨c,o,vs,v,e1,by rw[upd_ne (λz=>by subst z;exact m _ _ e2)];exact e2,e3⟩⟩
theorem GoodT.sub {H H':Hp}(m:∀ c o,H c=Ga o->H' c=Ga o){l:List Gg}(g:GoodT H l):GoodT H' l :=
 ⟨g.1,λpos cv e=>by
  obtain⟨c,o,vs,v,e1,e2,e3⟩:=g.2 pos cv e;exact⟨c,o,vs,v,e1,m _ _ e2,e3⟩⟩
theorem Same.of {H H':Hp}(m:∀ c o,H c=Ga o->H' c=Ga o):Same H H':=λb o h=>.of (m b o h) λ_ z=>z.sub m
theorem Gr.from {H H1 H':Hp}{o:HO}{x:Option HO}(a:Gr H o H' x)(g:∀ l,GoodT H1 l->GoodT H l):Gr H1 o H' x:=by
 cases o<;>first|exact a|exact⟨a.choose,a.choose_spec.1,λz=>a.choose_spec.2 (g _ z)⟩
theorem Same.put {H0 H:Hp}{a:Gj}{ob:HO}(s:Same H0 H)(n:H0 a=Gb)(m:∀ o u,H a≠Ga (.frz o u)):Same H0 (upd H a ob):=λb o h=>by
 rw[upd_ne (ne_of_none h n)];exact(s b o h).to λ_=>GoodT.updG m
theorem Same.new {H:Hp}{a:Gj}{ob:HO}(n:H a=Gb):Same H (upd H a ob):=(Same.refl H).put n λo u z=>by rw[n] at z;cases z
def Ow:HO->Prop
 | .lst _=>True
 | .ext _=>True
 | _=>False
theorem Same.ow {H H':Hp}{a:Gj}{ob:HO}(s:Same H H')(h:H a=Ga ob)(o:Ow ob):H' a=Ga ob:=by
 have g:=s a ob h;cases ob<;>first|exact g|exact o.elim
theorem Ow.nf {H:Hp}{a:Gj}{ob:HO}(o:Ow ob)(h:H a=Ga ob):∀ x u,H a≠Ga (.frz x u):=λx u z=>by
 rw[h] at z;cases z;exact o
def Pl:HO->Prop
 | .lst _=>True
 | .tup _=>True
 | .ext _=>True
 | _=>False
theorem Ow.pl {ob:HO}(o:Ow ob):Pl ob:=by cases ob<;>first|exact o|trivial
theorem GoodT.un {F:Hp}{a:Gj}{ob:HO}(o:Pl ob){l:List Gg}(g:GoodT (upd F a ob) l):GoodT F l :=
 ⟨g.1,λpos cv e=>by
  obtain⟨c,x,vs,v,e1,e2,e3⟩:=g.2 pos cv e;have ne:c≠a:=λz=>by subst z;rw[upd_same] at e2;cases e2;exact o
  rw[upd_ne ne] at e2;exact⟨c,x,vs,v,e1,e2,e3⟩⟩
theorem Same.upL {F H:Hp}{a:Gj}{ob:HO}(s:Same F H)(ha:H a=Ga ob)(p:Pl ob):Same (upd F a ob) H:=λb o h=>by
 by_cases hb:b=a
 .subst hb;rw[upd_same] at h;cases h;cases ob<;>first|exact ha|exact p.elim
 .rw[upd_ne hb] at h;have g:=s b o h;cases o<;>first|exact g|exact⟨g.choose,g.choose_spec.1,λz=>g.choose_spec.2 (z.un p)⟩
theorem Same.up2 {F H:Hp}{a:Gj}{ob:HO}(s:Same F H)(nF:F a=Gb)(nH:H a=Gb)(p:Pl ob):Same (upd F a ob) (upd H a ob) :=
 (s.put nF λo u z=>by rw[nH] at z;cases z).upL upd_same p
theorem Pl.nf {H:Hp}{a:Gj}{ob:HO}(o:Pl ob)(h:H a=Ga ob):∀ x u,H a≠Ga (.frz x u):=λx u z=>by
 rw[h] at z;cases z;exact o
theorem Same.pl {H H':Hp}{a:Gj}{ob:HO}(s:Same H H')(h:H a=Ga ob)(o:Pl ob):H' a=Ga ob:=by
 have g:=s a ob h;cases ob<;>first|exact g|exact o.elim
theorem Same.swp {H0 H:Hp}{a:Gj}{o o':HO}(s:Same (upd H0 a o) H)(p:Pl o)(p':Pl o'):Same (upd H0 a o') (upd H a o'):=λb u h=>by
 have ha:=s.pl upd_same p;by_cases hb:b=a
 .subst hb;rw[upd_same] at h;cases h;rw[upd_same];cases o'<;>first|exact rfl|exact p'.elim
 .rw[upd_ne hb] at h ⊢;have g:=s b u (by rw[upd_ne hb];exact h);cases u<;>first
   | exact g
   | (obtain⟨qs,e,k⟩:=g
      refine⟨qs,e,λz=>(k ⟨z.1,λpos cv e=>?_⟩).updG (p.nf ha)⟩;obtain⟨c,x,vs,v,e1,e2,e3⟩:=z.2 pos cv e;have ne:c≠a:=λw=>by subst w;rw[upd_same] at e2;cases e2;exact p'
      rw[upd_ne ne] at e2;exact⟨c,x,vs,v,e1,by rw[upd_ne ne];exact e2,e3⟩)
def SameX (a:Gj)(H H':Hp):Prop:=∀ b o,b≠a->H b=Ga o->Gr H o H' (H' b)
theorem Same.x {H H':Hp}(s:Same H H')(a:Gj):SameX a H H':=λb o _ h=>s b o h
def dicE (ks:List D)(as:List Gj):List DictEntry:=(ks.zip as).map λp=>{ key:=.ref p.2,hash:=hashD p.1,val:=.bool true }
def DicP (a:Gj)(ks:List D)(as:List Gj)(ep:Nat):Heap->Prop:=λh=>∃ o es,h.get? a=Ga o/\o.ExactDict/\o.data=.dict es ep/\es.toList=dicE ks as
structure KeysOk (ks:List D):Prop where
 key:∀ k∈ks,keyD k 8=true
 tup:∀ k∈ks,∃ xs,k=.tuple xs
 nd:ks.Nodup
 len:ks.length<=1000000
abbrev dkD (ks:List D):D:=PyData.dict (ks.map λk=>(k,jW true))
inductive IntEs:List (Int×V)->List DictEntry->Prop where
 | nil:IntEs [] []
 | cons {k:Int} {v:V} {e:DictEntry} {ws:List (Int×V)} {es:List DictEntry} (hk:vB k e.key=true) (hh:e.hash=hashInt k) (hv:RelV v e.val) (t:IntEs ws es):IntEs ((k,v)::ws) (e::es)
def DiP (a:Gj)(ws:List (Int×V))(ep:Nat):Heap->Prop:=λh=>∃ o es,h.get? a=Ga o/\o.ExactDict/\o.data=.dict es ep/\IntEs ws es.toList
structure KvOk (kvs:List (Int×D)):Prop where
 nd:(kvs.map (·.1)).Nodup
 len:kvs.length<=1000000
def diD (kvs:List (Int×D)):D:=PyData.dict ((vY,vY)::kvs.map λp=>(jc p.1,p.2))
mutual
inductive Rep (K:ja)(H:Hp):D->V->Prop where
 | non:Rep K H .none .non
 | bl (b:Bool):Rep K H (.bool b) (.bl b)
 | int (i:Int):Rep K H (.int i) (.int i)
 | str (x:Str):Rep K H (.str x) (.str x)
 | tup {a:Gj} {xs:List V} {ds:List D} (h:SqT K H a xs) (r:Reps K H ds xs):Rep K H (.tuple ds) (.ref a)
 | lst {a:Gj} {xs:List V} {ds:List D} (h:SqL K H a xs) (r:Reps K H ds xs):Rep K H (.list ds) (.ref a)
 | dic {a:Gj} {ks:List D} {as:List Gj} {ep:Nat} (hs:(a==sysModules)=false) (h:H a=Ga (.ext (DicP a ks as ep))) (ok:KeysOk ks) (r:Reps K H ks (as.map V.ref)):Rep K H (.dict (ks.map λk=>(k,jW true))) (.ref a)
 | dci {a:Gj} {kvs:List (Int×D)} {ws:List (Int×V)} {ep:Nat} (hs:(a==sysModules)=false) (h:H a=Ga (.ext (DiP a ws ep))) (ok:KvOk kvs) (r:RepKV K H kvs ws):Rep K H (.dict ((vY,vY)::kvs.map λp=>(jc p.1,p.2))) (.ref a)
inductive Reps (K:ja)(H:Hp):List D->List V->Prop where
 | nil:Reps K H [] []
 | cons {d:D} {v:V} {ds:List D} {vs:List V} (h:Rep K H d v) (t:Reps K H ds vs):Reps K H (d::ds) (v::vs)
inductive RepKV (K:ja)(H:Hp):List (Int×D)->List (Int×V)->Prop where
 | nil:RepKV K H [] []
 | cons {k:Int} {d:D} {v:V} {l:List (Int×D)} {m:List (Int×V)} (h:Rep K H d v) (t:RepKV K H l m):RepKV K H ((k,d)::l) ((k,v)::m)
end
theorem seqT {K:ja}{H H':Hp}{a:Gj}{xs:List V}(e:Same H H')(h:SqT K H a xs):SqT K H' a xs:=by
 rcases h with (h|⟨o,h⟩)|h
 .exact .inl (.inl (e _ _ h))
 .exact .inl (.inr ⟨o,e _ _ h⟩)
 .exact .inr h
mutual
theorem Rep.mono {K:ja}{H H':Hp}(e:Same H H'):∀ {d:D} {v:V},Rep K H d v->Rep K H' d v
 | _,_,.non=>.non
 | _,_,.bl b=>.bl b
 | _,_,.int i=>.int i
 | _,_,.str x=>.str x
 | _,_,.tup h r=>.tup (seqT e h) (Reps.mono e r)
 | _,_,.lst h r=>.lst (e.seq h) (Reps.mono e r)
 | _,_,.dic hs h ok r=>.dic hs (e _ _ h) ok (Reps.mono e r)
 | _,_,.dci hs h ok r=>.dci hs (e _ _ h) ok (RepKV.mono e r)
theorem Reps.mono {K:ja}{H H':Hp}(e:Same H H'):∀ {ds:List D} {vs:List V},Reps K H ds vs->Reps K H' ds vs
 | _,_,.nil=>.nil
 | _,_,.cons h t=>.cons (Rep.mono e h) (Reps.mono e t)
theorem RepKV.mono {K:ja}{H H':Hp}(e:Same H H'):∀ {l:List (Int×D)} {m:List (Int×V)},RepKV K H l m->RepKV K H' l m
 | _,_,.nil=>.nil
 | _,_,.cons h t=>.cons (Rep.mono e h) (RepKV.mono e t)
end
theorem Reps.length {K:ja}{H:Hp}:∀ {ds:List D} {vs:List V},Reps K H ds vs->ds.length=vs.length
 | _,_,.nil=>rfl
 | _,_,.cons _ t=>congrArg Jz t.length
theorem Reps.get {K:ja}{H:Hp}:∀ {ds:List D} {vs:List V} {i:Nat} {d:D},Reps K H ds vs->ds[i]?=Ga d->∃ v,vs[i]?=Ga v/\Rep K H d v
 | _,_,_,_,.nil,e=>by simp at e
 | _,_,0,_,.cons h _,e=>by simp at e;subst e;exact⟨_,rfl,h⟩
 | _,_,i+1,d,.cons _ t,e=>by
  obtain⟨v,h1,h2⟩:=Reps.get (i:=i) (d:=d) t (by simpa using e);exact⟨v,by simpa using h1,h2⟩
theorem Reps.append {K:ja}{H:Hp}:∀ {ds es:List D} {vs ws:List V},Reps K H ds vs->Reps K H es ws->Reps K H (ds++es) (vs++ws)
 | _,_,_,_,.nil,q=>q
 | _,_,_,_,.cons h t,q=>.cons h (t.append q)
theorem Reps.take {K:ja}{H:Hp}:∀ {ds:List D} {vs:List V} (n:Nat),Reps K H ds vs->Reps K H (ds.take n) (vs.take n)
 | _,_,0,_=>.nil
 | _,_,_+1,.nil=>.nil
 | _,_,n+1,.cons h t=>.cons h (t.take n)
theorem Reps.drop {K:ja}{H:Hp}:∀ {ds:List D} {vs:List V} (n:Nat),Reps K H ds vs->Reps K H (ds.drop n) (vs.drop n)
 | _,_,0,r=>r
 | _,_,_+1,.nil=>.nil
 | _,_,n+1,.cons _ t=>t.drop n
theorem Reps.set {K:ja}{H:Hp}{d:D}{v:V}(q:Rep K H d v):∀ {ds:List D} {vs:List V} (i:Nat),Reps K H ds vs->Reps K H (ds.set i d) (vs.set i v)
 | _,_,_,.nil=>.nil
 | _,_,0,.cons _ t=>.cons q t
 | _,_,i+1,.cons h t=>.cons h (t.set q i)
theorem Reps.reverse {K:ja}{H:Hp}:∀ {ds:List D} {vs:List V},Reps K H ds vs->Reps K H ds.reverse vs.reverse
 | _,_,.nil=>.nil
 | _,_,.cons h t=>by
  rw[uA,uA];exact t.reverse.append (.cons h .nil)
theorem Reps.ints {K:ja}{H:Hp}:∀ (ns:List Int),Reps K H (ns.map jc) (ns.map V.int)
 | []=>.nil
 | n::ns=>.cons (.int n) (Reps.ints ns)
def Fz (H H':Hp):Prop:=∀ b x,H b=Ga (.frz x (.own b))->H' b=Ga (.frz x (.own b))
theorem Same.fz {H H':Hp}(s:Same H H'):Fz H H':=λ_ _ h=>s _ _ h
theorem Fz.upd {H:Hp}{a:Gj}{ob:HO}(m:∀ o u,H a≠Ga (.frz o u)):Fz H (upd H a ob):=λb x h=>by
 rw[upd_ne (λz=>by subst z;exact m _ _ h)];exact h
structure FnC where
 C:Gj->Hp->Hp->Prop
 mono:∀ f F F' H H',Same F F'->Fz H H'->C f F H->C f F' H'
inductive Sl where
 | no|val (d:D)|own (ds:List D)|dic (ks:List D)|dki (oa:Option Gj) (kvs:List (Int×D))|tab (P:Gj)|fn (c:FnC)|owk (a:Gj) (ds:List D)
 deriving Inhabited
abbrev En:=List Sl
def ownS:Sl->Bool
 | .own _=>true
 | .dic _=>true
 | .dki _ _=>true
 | .owk _ _=>true
 | _=>false
def New (F F' H:Hp):Prop:=∀ b o,F' b=Ga o->F b=Gb->H b=Gb
theorem New.refl (F H:Hp):New F F H:=λb o e n=>by rw[e] at n;cases n
theorem New.trans {F F1 F2 H H1:Hp}(a:New F F1 H)(b:New F1 F2 H1)(s:Same H H1):New F F2 H:=λc o e n=>by
 cases q:F1 c with
 | none=>exact s.free (b c o e q)
 | some u=>exact a c u q n
def RepSl (K:ja)(H0 F H:Hp):Sl->Option V->Prop
 | .no,_=>True
 | .val d,u=>∃ v,u=Ga v/\Rep K F d v
 | .own ds,u=>∃ a xs,u=Ga (.ref a)/\H a=Ga (.lst xs)/\F a=Gb/\H0 a=Gb/\Reps K F ds xs
 | .dic ks,u=>∃ a as ep,u=Ga (.ref a)/\H a=Ga (.ext (DicP a ks as ep))/\F a=Gb/\H0 a=Gb/\Reps K F ks (as.map V.ref)/\(a==sysModules)=false/\KeysOk ks
 | .dki oa kvs,u=>∃ a ws ep,u=Ga (.ref a)/\H a=Ga (.ext (DiP a ws ep))/\F a=Gb/\H0 a=Gb/\RepKV K F kvs ws/\(a==sysModules)=false/\KvOk kvs/\∀ x,oa=Ga x->a=x
 | .tab P,_=>∃ ps,H0 P=Ga (.tbl ps)/\GoodT H0 ps.toList
 | .fn c,u=>∃ f,u=Ga (.ref f)/\c.C f F H
 | .owk a ds,u=>∃ xs,u=Ga (.ref a)/\H a=Ga (.lst xs)/\F a=Gb/\H0 a=Gb/\Reps K F ds xs
structure RS (K:ja)(H0 F H:Hp)(ψ:En)(σ:St):Prop where
 h0:Same H0 H
 fh:Same F H
 sl:∀ (i:Nat) (s:Sl),ψ[i]?=Ga s->∃ u,σ[i]?=Ga u/\RepSl K H0 F H s u
 ap:∀ (i j:Nat) (a:Gj) (s t:Sl),ownS s=true->ownS t=true->ψ[i]?=Ga s->ψ[j]?=Ga t->σ[i]?=Ga (Ga (.ref a))->σ[j]?=Ga (Ga (.ref a))->i=j
section
variable {K:ja}{H0 F F' H H':Hp}{ψ:En}{σ:St}
theorem RepSl.at {s:Sl}{u:Option V}(r:RepSl K H0 F H s u)(o:ownS s=true):∃ a ob,u=Ga (.ref a)/\H a=Ga ob/\F a=Gb/\H0 a=Gb/\Ow ob:=by
 cases s with
 | no=>cases o
 | val d=>cases o
 | own ds=>obtain⟨a,xs,e,h,f,g,_⟩:=r;exact⟨a,_,e,h,f,g,trivial⟩
 | dic ks=>obtain⟨a,as,ep,e,h,f,g,_⟩:=r;exact⟨a,_,e,h,f,g,trivial⟩
 | dki oa kvs=>obtain⟨a,ws,ep,e,h,f,g,_⟩:=r;exact⟨a,_,e,h,f,g,trivial⟩
 | tab P=>cases o
 | fn c=>cases o
 | owk a ds=>obtain⟨xs,e,h,f,g,_⟩:=r;exact⟨a,_,e,h,f,g,trivial⟩
theorem RepSl.to {s:Sl}{u:Option V}(r:RepSl K H0 F H s u)(f:Same F F')(zz:Fz H H')(k:∀ a ob,ownS s=true->u=Ga (.ref a)->H a=Ga ob->F a=Gb->Ow ob->H' a=Ga ob/\F' a=Gb):RepSl K H0 F' H' s u:=by
 cases s with
 | no=>trivial
 | val d=>obtain⟨v,e2,q⟩:=r;exact⟨v,e2,q.mono f⟩
 | own ds =>
  obtain⟨a,xs,e2,ha,fa,h0a,q⟩:=r;obtain⟨k1,k2⟩:=k a _ rfl e2 ha fa trivial;exact⟨a,xs,e2,k1,k2,h0a,q.mono f⟩
 | dic ks =>
  obtain⟨a,as,ep,e2,ha,fa,h0a,q,r2⟩:=r;obtain⟨k1,k2⟩:=k a _ rfl e2 ha fa trivial;exact⟨a,as,ep,e2,k1,k2,h0a,q.mono f,r2⟩
 | dki oa kvs =>
  obtain⟨a,ws,ep,e2,ha,fa,h0a,q,r2⟩:=r;obtain⟨k1,k2⟩:=k a _ rfl e2 ha fa trivial;exact⟨a,ws,ep,e2,k1,k2,h0a,q.mono f,r2⟩
 | tab P=>exact r
 | fn c=>obtain⟨g,e,q⟩:=r;exact⟨g,e,c.mono _ _ _ _ _ f zz q⟩
 | owk a ds =>
  obtain⟨xs,e2,ha,fa,h0a,q⟩:=r;obtain⟨k1,k2⟩:=k a _ rfl e2 ha fa trivial;exact⟨xs,e2,k1,k2,h0a,q.mono f⟩
theorem RS.ne_free (r:RS K H0 F H ψ σ){a:Gj}(n:H a=Gb):∀ (j:Nat) (s:Sl),ownS s=true->ψ[j]?=Ga s->σ[j]?≠Ga (Ga (.ref a)):=λj s o e z=>by
 obtain⟨u,e1,q⟩:=r.sl j s e;obtain⟨b,ob,e2,hb,_⟩:=q.at o;rw[z] at e1;cases e1;cases e2;rw[n] at hb;cases hb
theorem RS.grow (r:RS K H0 F H ψ σ)(g:Same H H')(f:Same F F')(fh:Same F' H')(n:New F F' H):RS K H0 F' H' ψ σ:=by
 refine⟨r.h0.trans g,fh,λi s e=>?_,r.ap⟩;obtain⟨u,e1,q⟩:=r.sl i s e;refine⟨u,e1,q.to f g.fz λa ob _ _ ha fa ow=>⟨g.ow ha ow,?_⟩⟩;cases z:F' a with
 | none=>rfl
 | some o=>have:=n a o z fa;rw[ha] at this;cases this
theorem RS.later (r:RS K H0 F H ψ σ)(g:Same H H'):RS K H0 F H' ψ σ:=r.grow g (.refl _) (r.fh.trans g) (.refl _ _)
theorem RS.put (r:RS K H0 F H ψ σ){i:Nat}{d:D}{v:V}(hi:i<σ.length)(q:Rep K F d v):RS K H0 F H (ψ.set i (.val d)) (σ.set i (Ga v)):=by
 refine⟨r.h0,r.fh,λj s e=>?_,λj k a s t o1 o2 e1 e2 e3 e4=>?_⟩
 .by_cases h:i=j
  .subst h;refine⟨Ga v,by rw[jH hi],?_⟩;by_cases hl:i<ψ.length
   .rw[jH hl] at e;cases e;exact⟨v,rfl,q⟩
   .rw[kh (by simpa using hl)] at e;cases e
  .rw[jC h] at e ⊢;exact r.sl j s e
 .have nj:∀ (j:Nat) (s:Sl),ownS s=true->(ψ.set i (.val d))[j]?=Ga s->i≠j:=λj s o e z=>by
   subst z;by_cases hl:i<ψ.length
   .rw[jH hl] at e;cases e;cases o
   .rw[kh (by simpa using hl)] at e;cases e
  have n1:=nj j s o1 e1;have n2:=nj k t o2 e2;rw[jC n1] at e1 e3;rw[jC n2] at e2 e4;exact r.ap j k a s t o1 o2 e1 e2 e3 e4
theorem RS.putG (r:RS K H0 F H ψ σ){i:Nat}{s0:Sl}{a:Gj}(hi:i<σ.length)(q:RepSl K H0 F H s0 (Ga (.ref a)))
  (ne:∀ (j:Nat) (s:Sl),ownS s=true->j≠i->ψ[j]?=Ga s->σ[j]?≠Ga (Ga (.ref a))):RS K H0 F H (ψ.set i s0) (σ.set i (Ga (.ref a))):=by
 refine⟨r.h0,r.fh,λj s e=>?_,λj k b s t o1 o2 e1 e2 e3 e4=>?_⟩
 .by_cases h:i=j
  .subst h;refine⟨Ga (.ref a),by rw[jH hi],?_⟩;by_cases hl:i<ψ.length
   .rw[jH hl] at e;cases e;exact q
   .rw[kh (by simpa using hl)] at e;cases e
  .rw[jC h] at e ⊢;exact r.sl j s e
 .by_cases hj:i=j
  .by_cases hk:i=k
   .exact hj.symm.trans hk
   .subst hj;rw[jH hi] at e3;rw[jC hk] at e2 e4;cases e3;exact absurd e4 (ne k t o2 (kX hk) e2)
  .by_cases hk:i=k
   .subst hk;rw[jH hi] at e4;rw[jC hj] at e1 e3;cases e4;exact absurd e3 (ne j s o1 (kX hj) e1)
   .rw[jC hj] at e1 e3;rw[jC hk] at e2 e4;exact r.ap j k b s t o1 o2 e1 e2 e3 e4
theorem RS.putO (r:RS K H0 F H ψ σ){i:Nat}{ds:List D}{a:Gj}{xs:List V}(hi:i<σ.length)(ha:H a=Ga (.lst xs))(fa:F a=Gb)(h0a:H0 a=Gb)(q:Reps K F ds xs)
  (ne:∀ (j:Nat) (s:Sl),ownS s=true->j≠i->ψ[j]?=Ga s->σ[j]?≠Ga (Ga (.ref a))):RS K H0 F H (ψ.set i (.own ds)) (σ.set i (Ga (.ref a))) :=
 r.putG hi ⟨a,xs,rfl,ha,fa,h0a,q⟩ ne
theorem RS.chgG (r:RS K H0 F H ψ σ){i:Nat}{s0 s1:Sl}{a:Gj}{ob:HO}(e:ψ[i]?=Ga s0)(o0:ownS s0=true)(u:σ[i]?=Ga (Ga (.ref a)))(q:RepSl K H0 F (upd H a ob) s1 (Ga (.ref a))) :
  RS K H0 F (upd H a ob) (ψ.set i s1) σ:=by
 obtain⟨u',e',q'⟩:=r.sl i _ e;obtain⟨a',ob',z,ha,fa,h0a,ow0⟩:=q'.at o0;rw[u] at e';cases e';cases z;have hl:i<ψ.length:=(ji.mp e).1;refine⟨r.h0.put h0a (ow0.nf ha),r.fh.put fa (ow0.nf ha),λj s ej=>?_,λj k b s t o1 o2 e1 e2 e3 e4=>?_⟩
 .by_cases h:i=j
  .subst h;rw[jH hl] at ej;cases ej;exact⟨_,u,q⟩
  .rw[jC h] at ej;obtain⟨w,e2,q2⟩:=r.sl j s ej;refine⟨w,e2,q2.to (.refl _) (Fz.upd (ow0.nf ha)) λb ob2 ow z1 hb fb _=>⟨?_,fb⟩⟩;subst z1;rw[upd_ne (λz=>by subst z;exact h (r.ap i j b _ _ o0 ow e ej u e2))];exact hb
 .have f1:∀ (j:Nat) (s:Sl),ownS s=true->(ψ.set i s1)[j]?=Ga s->∃ s',ownS s'=true/\ψ[j]?=Ga s':=λj s o h=>by
   by_cases hj:i=j
   .subst hj;exact⟨_,o0,e⟩
   .rw[jC hj] at h;exact⟨_,o,h⟩
  obtain⟨_,o1,e1⟩:=f1 j _ o1 e1;obtain⟨_,o2,e2⟩:=f1 k _ o2 e2;exact r.ap j k b _ _ o1 o2 e1 e2 e3 e4
theorem RS.chg (r:RS K H0 F H ψ σ){i:Nat}{ds es:List D}{a:Gj}{ys:List V}(e:ψ[i]?=Ga (.own ds))(u:σ[i]?=Ga (Ga (.ref a)))(q:Reps K F es ys) :
  RS K H0 F (upd H a (.lst ys)) (ψ.set i (.own es)) σ:=by
 obtain⟨u',e',a',xs,z,ha,fa,h0a,_⟩:=r.sl i _ e;rw[u] at e';cases e';cases z;exact r.chgG e rfl u ⟨a,ys,rfl,upd_same,fa,h0a,q⟩
end
def frz1:Sl->Sl
 | .own ds=>.val (.list ds)
 | .dic ks=>.val (dkD ks)
 | .dki _ kvs=>.val (diD kvs)
 | .owk _ ds=>.val (.list ds)
 | s=>s
theorem zvV (s:Sl):ownS (frz1 s)=false:=by cases s<;>rfl
def frz (ψ:En):En:=ψ.map frz1
theorem RS.frz {K:ja}{H0 F H:Hp}{ψ:En}{σ:St}(r:RS K H0 F H ψ σ):RS K H0 H H (T3.frz ψ) σ:=by
 refine⟨r.h0,.refl _,λi s e=>?_,λi j a s t o1 o2 e1=>?_⟩
 .unfold T3.frz at e;rw[jz] at e;cases z:ψ[i]? with
  | none=>rw[z] at e;cases e
  | some s' =>
   rw[z] at e;obtain⟨u,e1,q⟩:=r.sl i s' z;refine⟨u,e1,?_⟩;cases s' with
   | no=>cases e;trivial
   | val d=>cases e;obtain⟨v,e2,q⟩:=q;exact⟨v,e2,q.mono r.fh⟩
   | own ds =>
    cases e;obtain⟨a,xs,e2,ha,fa,h0a,q⟩:=q;exact⟨_,e2,.lst (SqL.of ha) (q.mono r.fh)⟩
   | dic ks =>
    cases e;obtain⟨a,as,ep,e2,ha,fa,h0a,q,sm,ok⟩:=q;exact⟨_,e2,.dic sm ha ok (q.mono r.fh)⟩
   | dki oa kvs =>
    cases e;obtain⟨a,ws,ep,e2,ha,fa,h0a,q,sm,ok,_⟩:=q;exact⟨_,e2,.dci sm ha ok (q.mono r.fh)⟩
   | tab P=>cases e;exact q
   | fn c=>cases e;obtain⟨g,e2,q⟩:=q;exact⟨g,e2,c.mono _ _ _ _ _ r.fh (λ_ _ h=>h) q⟩
   | owk a ds =>
    cases e;obtain⟨xs,e2,ha,fa,h0a,q⟩:=q;exact⟨_,e2,.lst (SqL.of ha) (q.mono r.fh)⟩
 .exfalso;unfold T3.frz at e1;rw[jz] at e1;cases z:ψ[i]? with
  | none=>rw[z] at e1;cases e1
  | some s'=>rw[z] at e1;cases e1;rw[zvV] at o1;cases o1
def frzAt (i:Nat)(ψ:En):En:=match ψ[i]? with
 | some (.own ds)=>ψ.set i (.val (.list ds))
 | some (.dic ks)=>ψ.set i (.val (dkD ks))
 | some (.dki _ kvs)=>ψ.set i (.val (diD kvs))
 | _=>ψ
theorem RS.frzG {K:ja}{H0 F H:Hp}{ψ:En}{σ:St}(r:RS K H0 F H ψ σ){i:Nat}{s0 s1:Sl}{a:Gj}{ob:HO}(os:ownS s1=false)(e:ψ[i]?=Ga s0)(o0:ownS s0=true)(e1:σ[i]?=Ga (Ga (.ref a)))(ha:H a=Ga ob)(ow0:Ow ob)(fa:F a=Gb)(h0a:H0 a=Gb)
  (q:∀ F',Same F F'->F' a=Ga ob->RepSl K H0 F' H s1 (Ga (.ref a))):F a=Gb/\H a=Ga ob/\Ow ob/\Same F (upd F a ob)/\New F (upd F a ob) H0/\RS K H0 (upd F a ob) H (ψ.set i s1) σ:=by
 have hi:i<σ.length:=(ji.mp e1).1;have hl:i<ψ.length:=(ji.mp e).1;have sF:Same F (upd F a ob):=Same.new fa;refine⟨fa,ha,ow0,sF,λb o h n=>?_,⟨r.h0,λb o h=>?_,λj s ej=>?_,λj k b s t o1 o2 x1 x2 x3 x4=>?_⟩⟩
 .by_cases hb:b=a
  .subst hb;exact h0a
  .rw[upd_ne hb,n] at h;cases h
 .by_cases hb:b=a
  .subst hb;rw[upd_same] at h;cases h;cases ob<;>first|exact ha|exact ow0.elim
  .rw[upd_ne hb] at h;have g:=r.fh b o h;cases o<;>first|exact g|exact⟨g.choose,g.choose_spec.1,λz=>g.choose_spec.2 (z.un ow0.pl)⟩
 .by_cases h:i=j
  .subst h;rw[jH hl] at ej;cases ej;exact⟨_,e1,q _ sF upd_same⟩
  .rw[jC h] at ej;obtain⟨w,z1,q2⟩:=r.sl j s ej;refine⟨w,z1,q2.to sF (λ_ _ h=>h) λb ob2 ow z2 hb fb _=>⟨hb,?_⟩⟩;subst z2;rw[upd_ne (λz=>by subst z;exact h (r.ap i j b _ _ o0 ow e ej e1 z1))];exact fb
 .have f1:∀ (j:Nat) (s:Sl),ownS s=true->(ψ.set i s1)[j]?=Ga s->ψ[j]?=Ga s:=λj s o h=>by
   by_cases hj:i=j
   .subst hj;rw[jH hl] at h;cases h;rw[os] at o;cases o
   .rw[jC hj] at h;exact h
  exact r.ap j k b _ _ o1 o2 (f1 j _ o1 x1) (f1 k _ o2 x2) x3 x4
theorem RS.frzAt2 {K:ja}{H0 F H:Hp}{ψ:En}{σ:St}(r:RS K H0 F H ψ σ)(i:Nat):T3.frzAt i ψ=ψ\/∃ a ob,F a=Gb/\H a=Ga ob/\Ow ob/\Same F (upd F a ob)/\New F (upd F a ob) H0/\RS K H0 (upd F a ob) H (T3.frzAt i ψ) σ:=by
 unfold T3.frzAt;split
 .rename_i ds e;obtain⟨u,e1,a,xs,e2,ha,fa,h0a,q⟩:=r.sl i _ e;subst e2;exact .inr ⟨_,_,r.frzG rfl e rfl e1 ha trivial fa h0a λF' f h=>⟨_,rfl,.lst (SqL.of h) (q.mono f)⟩⟩
 .rename_i ks e;obtain⟨u,e1,a,as,ep,e2,ha,fa,h0a,q,sm,ok⟩:=r.sl i _ e;subst e2;exact .inr ⟨_,_,r.frzG rfl e rfl e1 ha trivial fa h0a λF' f h=>⟨_,rfl,.dic sm h ok (q.mono f)⟩⟩
 .rename_i oa kvs e;obtain⟨u,e1,a,ws,ep,e2,ha,fa,h0a,q,sm,ok,_⟩:=r.sl i _ e;subst e2;exact .inr ⟨_,_,r.frzG rfl e rfl e1 ha trivial fa h0a λF' f h=>⟨_,rfl,.dci sm h ok (q.mono f)⟩⟩
 .exact .inl rfl
theorem RS.frzAt {K:ja}{H0 F H:Hp}{ψ:En}{σ:St}(r:RS K H0 F H ψ σ)(i:Nat):∃ F',Same F F'/\New F F' H0/\RS K H0 F' H (T3.frzAt i ψ) σ:=by
 rcases r.frzAt2 i with e|⟨a,ob,_,_,_,f,n,q⟩
 .rw[e];exact⟨F,.refl _,.refl _ _,r⟩
 .exact⟨_,f,n,q⟩
end T3
namespace T3
open PySem PySem.Spec PyProof.Rows L2
abbrev FV:=En->Option D
abbrev FL:=En->Option (List D)
abbrev FB:=En->Option Bool
def tV (K:ja)(f:FV):TE:=λσ H Q=>∃ H0 F ψ d,RS K H0 F H ψ σ/\f ψ=Ga d/\∀ v H' F',Same H H'->Same F F'->Same F' H'->New F F' H->Rep K F' d v->Q v H'
def tO (K:ja)(f:FL):TE:=λσ H Q=>∃ H0 F ψ ds,RS K H0 F H ψ σ/\f ψ=Ga ds /\
 ∀ a xs H' F',Same H H'->Same F F'->Same F' H'->New F F' H->H a=Gb->F' a=Gb->H' a=Ga (.lst xs)->Reps K F' ds xs->Q (.ref a) H'
def tT (K:ja)(f:FB):TT:=λσ H Q=>∃ H0 F ψ b,RS K H0 F H ψ σ/\f ψ=Ga b/\∀ H',Same H H'->Q b H'
def tL (K:ja)(f:FL):TA:=λσ H Q=>∃ H0 F ψ ds,RS K H0 F H ψ σ/\f ψ=Ga ds/\∀ vs H' F',Same H H'->Same F F'->Same F' H'->New F F' H->Reps K F' ds vs->Q vs H'
abbrev PV (X:Cx)(e:Expr)(f:FV):Prop:=PE X e (tV X.K f)
abbrev PO (X:Cx)(e:Expr)(f:FL):Prop:=PE X e (tO X.K f)
abbrev PB (X:Cx)(e:Expr)(f:FB):Prop:=PT X e (tT X.K f)
abbrev PBW (X:Cx)(e:Expr)(f:FB):Prop:=PW X e (tT X.K f)
structure PL (X:Cx)(es:List Expr)(f:FL):Prop where
 pa:PA X es (tL X.K f)
 len:∀ ψ ds,f ψ=Ga ds->ds.length=es.length
theorem za7 {X:Cx}{e:Expr}{t t':TE}(h:PE X e t)(m:∀ σ H Q,t' σ H Q->t σ H Q):PE X e t':=λω s σ H Q I q=>h ω s σ H Q I (m σ H Q q)
theorem zj8 {X:Cx}{e:Expr}{t t':TT}(h:PT X e t)(m:∀ σ H Q,t' σ H Q->t σ H Q):PT X e t':=λω s σ H Q I q=>h ω s σ H Q I (m σ H Q q)
theorem zs8 {X:Cx}{e:Expr}{t t':TT}(h:PW X e t)(m:∀ σ H Q,t' σ H Q->t σ H Q):PW X e t':=λwh ω s σ H Q I q=>h wh ω s σ H Q I (m σ H Q q)
theorem zs9 {X:Cx}{e:List Expr}{t t':TA}(h:PA X e t)(m:∀ σ H Q,t' σ H Q->t σ H Q):PA X e t':=λp ω s σ H Q I q=>h p ω s σ H Q I (m σ H Q q)
theorem zn0 {X:Cx}{e:List Stmt}{t t':TS}(h:PSs X e t)(m:∀ D σ H,t' D σ H->t D σ H):PSs X e t':=λω s σ H D I q=>h ω s σ H D I (m D σ H q)
theorem zdD {X:Cx}{e:Stmt}{t t':TS}(h:PS X e t)(m:∀ D σ H,t' D σ H->t D σ H):PS X e t':=λω s σ H D I q=>h ω s σ H D I (m D σ H q)
theorem bind_some {α β:Type}{o:Option α}{f:α->Option β}{b:β}(h:o.bind f=Ga b):∃ a,o=Ga a/\f a=Ga b:=by
 cases o with
 | none=>cases h
 | some a=>exact⟨a,rfl,h⟩
section
variable {X:Cx}{pos:Pos}
theorem PO.v {e:Expr}{f:FL}(h:PO X e f):PV X e (λψ=>(f ψ).bind λds=>Ga (.list ds)):=by
 refine za7 h λσ H Q=>?_;rintro⟨H0,F,ψ,d,r,e,q⟩;obtain⟨ds,z,e⟩:=bind_some e;cases e
 .refine⟨H0,F,ψ,ds,r,z,λa xs H' F' g f1 fh n ha fa ha' rr=>?_⟩;have sF:Same F' (upd F' a (.lst xs)):=Same.new fa;refine q (.ref a) H' (upd F' a (.lst xs)) g (f1.trans sF) (λb o h=>?_) (λb o h nb=>?_) (.lst (SqL.of upd_same) (rr.mono sF))
  .exact Same.upL fh ha' trivial b o h
  .by_cases hb:b=a
   .subst hb;exact ha
   .rw[upd_ne hb] at h;exact n b o h nb
def gv (i:Nat):FV:=λψ=>match ψ[i]? with
 | some (.val d)=>Ga d
 | _=>Gb
theorem zaB (i:Nat){x:Str}(hN:X.N[i]?=Ga x:=by rfl)(hv:Vis X.env.scope x:=by first|exact uj rfl|exact kG (uj rfl)|exact kG (kG rfl))(hd:(x==("__debug__":Str))=false:=by decide)
  (hcd:(x==("__classdict__":Str))=false:=by decide):PV X (.Name x pos) (gv i):=by
 refine za7 (pe_var hN hv hd hcd) λσ H Q=>?_;rintro⟨H0,F,ψ,d,r,e,q⟩;unfold gv at e;cases z:ψ[i]? with
 | none=>rw[z] at e;cases e
 | some s =>
  rw[z] at e;cases s with
  | val d' =>
   cases e;obtain⟨u,e1,v,e2,h⟩:=r.sl i _ z;subst e2;exact⟨v,e1,q v H F (.refl _) (.refl _) r.fh (.refl _ _) h⟩
  | no=>cases e
  | own _=>cases e
  | dic _=>cases e
  | dki _ _=>cases e
  | tab _=>cases e
  | fn _=>cases e
  | owk _ _=>cases e
theorem zlW {e:Expr}{d:D}{v:V}(h:PE X e (tC v))(r:∀ K F,Rep K F d v):PV X e (λ_=>Ga d):=by
 refine za7 h λσ H Q=>?_;rintro⟨H0,F,ψ,d',rs,e,q⟩;cases e;exact q v H F (.refl _) (.refl _) rs.fh (.refl _ _) (r _ _)
theorem zaF {i j}:PV X (.Constant (.int i) j pos) (λ_=>Ga (.int i)):=zlW pe_int λ_ _=>.int i
theorem v_bl {b j}:PV X (.Constant (.bool b) j pos) (λ_=>Ga (.bool b)):=zlW pe_bl λ_ _=>.bl b
theorem zi2 {j}:PV X (.Constant .none j pos) (λ_=>Ga .none):=zlW pe_non λ_ _=>.non
theorem ztA {x:String}{j}:PV X (.Constant (.str x) j pos) (λ_=>Ga (.str x)):=zlW pe_str λ_ _=>.str _
theorem zaN:PL X [] (λ_=>Ga []):=by
 refine⟨zs9 pa_nil λσ H Q=>?_,λψ ds e=>by cases e;rfl⟩;rintro⟨H0,F,ψ,ds,r,e,q⟩;cases e;exact q [] H F (.refl _) (.refl _) r.fh (.refl _ _) .nil
theorem zaC {e:Expr}{es:List Expr}{f:FV}{g:FL}(ha:PV X e f)(hr:PL X es g)(hs:starEach (e::es) X.env=(false,eval e X.env)::starEach es X.env:=by rfl) :
  PL X (e::es) (λψ=>(f ψ).bind λd=>(g ψ).bind λds=>Ga (d::ds)):=by
 refine⟨zs9 (pa_cons ha hr.pa hs) λσ H Q=>?_,λψ ds e=>?_⟩
 .rintro⟨H0,F,ψ,ds,r,e,q⟩;obtain⟨d,e1,e⟩:=bind_some e;obtain⟨ds',e2,e⟩:=bind_some e;cases e;refine⟨H0,F,ψ,d,r,e1,λv H1 F1 g1 f1 fh1 n1 rv=>⟨H0,F1,ψ,ds',r.grow g1 f1 fh1 n1,e2,λvs H2 F2 g2 f2 fh2 n2 rvs=>?_⟩⟩;exact q (v::vs) H2 F2 (g1.trans g2) (f1.trans f2) fh2 (n1.trans n2 g1) (.cons (rv.mono f2) rvs)
 .obtain⟨d,e1,e⟩:=bind_some e;obtain⟨ds',e2,e⟩:=bind_some e;cases e;exact congrArg Jz (hr.len ψ _ e2)
theorem zf8 {es:List Expr}{x1}{g:FL}(h:PL X es g)(hz:es.length<=1000:=by decide):PV X (.Tuple es x1 pos) (λψ=>(g ψ).bind λds=>Ga (.tuple ds)):=by
 refine za7 (pe_tup h.pa) λσ H Q=>?_;rintro⟨H0,F,ψ,d,r,e,q⟩;obtain⟨ds,e1,e⟩:=bind_some e;cases e;refine⟨H0,F,ψ,ds,r,e1,λvs H1 F1 g1 f1 fh1 n1 rv=>⟨?_,λp hp=>?_⟩⟩
 .rw[<- rv.length,h.len ψ ds e1];exact uz (small1000 hz)
 .have fp:F1 p=Gb:=fh1.free hp;have s1:Same F1 (upd F1 p (.tup vs)):=Same.new fp;have s2:Same H1 (upd H1 p (.tup vs)):=Same.new hp;refine q (.ref p) (upd H1 p (.tup vs)) (upd F1 p (.tup vs)) (g1.trans s2) (f1.trans s1) (λb o h=>?_) (λb o h nb=>?_) (.tup (SqT.of upd_same) (rv.mono s1))
  .exact Same.up2 (ob:=.tup vs) fh1 fp hp trivial b o h
  .by_cases hb:b=p
   .subst hb;exact g1.free hp
   .rw[upd_ne hb] at h;exact n1 b o h nb
theorem ziL {es:List Expr}{g:FL}(h:PL X es g)(hz:es.length<=1000:=by decide):PO X (.List es pos) g:=by
 refine za7 (pe_lst h.pa) λσ H Q=>?_;rintro⟨H0,F,ψ,ds,r,e1,q⟩;refine⟨H0,F,ψ,ds,r,e1,λvs H1 F1 g1 f1 fh1 n1 rv=>⟨?_,λp hp=>?_⟩⟩
 .rw[<- rv.length,h.len ψ ds e1];exact uz (small1000 hz)
 .have s2:Same H1 (upd H1 p (.lst vs)):=Same.new hp;exact q p vs (upd H1 p (.lst vs)) F1 (g1.trans s2) f1 (fh1.trans s2) n1 (g1.free hp) (fh1.free hp) upd_same rv
def R2V (K:ja)(r:R2)(g:D->D->Option D):Prop:=∀ (F H:Hp) (x y:V) (a b d:D) (Q:VK),Same F H->Rep K F a x->Rep K F b y->g a b=Ga d ->
 (∀ v H' F',Same H H'->Same F F'->Same F' H'->New F F' H->Rep K F' d v->Q v H')->r x y H Q
theorem zvW {K:ja}{r:R2}{g:D->D->Option D}(hr:R2V K r g){fa fb:FV}{σ:St}{H:Hp}{Q:VK}(h:tV K (λψ=>(fa ψ).bind λa=>(fb ψ).bind λb=>g a b) σ H Q):tOp r (tV K fa) (tV K fb) σ H Q:=by
 obtain⟨H0,F,ψ,d,rs,e,q⟩:=h;obtain⟨a,e1,e⟩:=bind_some e;obtain⟨b,e2,e⟩:=bind_some e;refine⟨H0,F,ψ,a,rs,e1,λv H1 F1 g1 f1 fh1 n1 rv=>⟨H0,F1,ψ,b,rs.grow g1 f1 fh1 n1,e2,λu H2 F2 g2 f2 fh2 n2 ru=>?_⟩⟩;refine hr F2 H2 v u a b d Q fh2 (rv.mono f2) ru e λw H3 F3 g3 f3 fh3 n3 rw3=>?_;exact q w H3 F3 ((g1.trans g2).trans g3) ((f1.trans f2).trans f3) fh3 ((n1.trans n2 g1).trans n3 (g1.trans g2)) rw3
theorem v_op {op:Operator}{r:R2}{g:D->D->Option D}(ho:OpR X (binaryOp op) r)(hr:R2V X.K r g){a b:Expr}{fa fb:FV}(ha:PV X a fa)(hb:PV X b fb) :
  PV X (.BinOp a op b pos) (λψ=>(fa ψ).bind λx=>(fb ψ).bind λy=>g x y):=za7 (pe_op ho ha hb) λ_ _ _ h=>zvW hr h
theorem zr0 {op:CmpOp}{r:R2}{g:D->D->Option D}(ho:OpR X (compareOp op) r)(hr:R2V X.K r g){a b:Expr}{fa fb:FV}(ha:PV X a fa)(hb:PV X b fb)(hm:behindInMarks op b=false:=by first|exact nomark _|rfl|with_unfolding_all rfl) :
  PV X (.Compare a [op] [b] pos) (λψ=>(fa ψ).bind λx=>(fb ψ).bind λy=>g x y):=za7 (pe_cmpR ho ha hb hm) λ_ _ _ h=>zvW hr h
def toB:D->Option Bool
 | .bool b=>Ga b
 | _=>Gb
theorem zf9 {d:D}{b:Bool}(h:toB d=Ga b):d=.bool b:=by cases d<;>cases h;rfl
theorem tV_B {K:ja}{f:FV}{σ:St}{H:Hp}{Q:Bool->Hp->Prop}(h:tT K (λψ=>(f ψ).bind toB) σ H Q):tV K f σ H (λx H'=>∃ k,x=.bl k/\Q k H'):=by
 obtain⟨H0,F,ψ,b,rs,e,q⟩:=h;obtain⟨d,e1,e2⟩:=bind_some e;cases zf9 e2;refine⟨H0,F,ψ,_,rs,e1,λv H1 F1 g1 f1 fh1 n1 rv=>?_⟩;cases rv;exact⟨b,rfl,q H1 g1⟩
theorem zmS {op:CmpOp}{r:R2}{g:D->D->Option D}(ho:OpR X (compareOp op) r)(hr:R2V X.K r g){a b:Expr}{fa fb:FV}(ha:PV X a fa)(hb:PV X b fb)(hm:behindInMarks op b=false:=by first|exact nomark _|rfl|with_unfolding_all rfl) :
  PB X (.Compare a [op] [b] pos) (λψ=>((fa ψ).bind λx=>(fb ψ).bind λy=>g x y).bind toB):=by
 refine zj8 (pt_cmpR ho ha hb hm) λσ H Q h=>?_;exact zvW hr (tV_B h)
def tru:D->Option Bool
 | .none=>Ga false
 | .bool b=>Ga b
 | .int i=>Ga (i !=0)
 | .tuple xs=>Ga (!xs.isEmpty)
 | .list xs=>Ga (!xs.isEmpty)
 | _=>Gb
theorem Reps.isEmpty {K:ja}{H:Hp}{ds:List D}{vs:List V}(r:Reps K H ds vs):ds.isEmpty=vs.isEmpty:=by cases r<;>rfl
theorem zDN {K:ja}{F H:Hp}{d:D}{v:V}{b:Bool}(e:tru d=Ga b)(r:Rep K F d v)(s:Same F H):TruV K v H b:=by
 cases r with
 | non=>cases e;rfl
 | bl c=>cases e;rfl
 | int i=>cases e;rfl
 | str x=>cases e
 | tup h r=>cases e;exact .inr (.inl ⟨_,seqT s h,by rw[r.isEmpty]⟩)
 | lst h r=>cases e;exact .inl ⟨_,s.seq h,by rw[r.isEmpty]⟩
 | dic hs h ok r=>cases e
 | dci hs h ok r=>cases e
theorem zeU {e:Expr}{f:FV}(h:PV X e f)(he:∀ whole,isTrue e X.env whole=(do let v <- whole;standAt e.pos;holding [v] (truthy v)):=by intro _;rfl):PB X e (λψ=>(f ψ).bind tru):=by
 refine zj8 (pt_truth h he) λσ H Q=>?_;rintro⟨H0,F,ψ,b,rs,e,q⟩;obtain⟨d,e1,e2⟩:=bind_some e;exact⟨H0,F,ψ,d,rs,e1,λv H1 F1 g1 f1 fh1 n1 rv=>⟨b,zDN e2 rv fh1,q H1 g1⟩⟩
theorem ziM {e:Expr}{f:FB}(h:PB X e f):PB X (.UnaryOp .Not e pos) (λψ=>(f ψ).bind λc=>Ga (!c)):=by
 refine zj8 (pt_not h) λσ H Q=>?_;rintro⟨H0,F,ψ,b,rs,e,q⟩;obtain⟨c,z,e⟩:=bind_some e;cases e;exact⟨H0,F,ψ,c,rs,z,q⟩
theorem zo4 {a:Expr}{f:FB}(h:PB X a f):PBW X (.BoolOp .And [a] pos) f:=pw_and1 h
theorem zqC {a:Expr}{f:FB}(h:PB X a f):PBW X (.BoolOp .Or [a] pos) f:=pw_or1 h
theorem ztB {a b:Expr}{rest:List Expr}{f g:FB}(ha:PB X a f)(hb:PBW X (.BoolOp .And (b::rest) pos) g):PBW X (.BoolOp .And (a::b::rest) pos) (λψ=>(f ψ).bind λc=>if c then g ψ else Ga false):=by
 refine zs8 (pw_and ha hb) λσ H Q=>?_;rintro⟨H0,F,ψ,b,rs,e,q⟩;obtain⟨c,e1,e2⟩:=bind_some e;refine⟨H0,F,ψ,c,rs,e1,λH1 g1=>?_⟩;cases c with
 | true=>exact iteT ⟨H0,F,ψ,b,rs.later g1,e2,λH2 g2=>q H2 (g1.trans g2)⟩
 | false=>cases e2;exact iteF (q H1 g1)
theorem b_or {a b:Expr}{rest:List Expr}{f g:FB}(ha:PB X a f)(hb:PBW X (.BoolOp .Or (b::rest) pos) g):PBW X (.BoolOp .Or (a::b::rest) pos) (λψ=>(f ψ).bind λc=>if c then Ga true else g ψ):=by
 refine zs8 (pw_or ha hb) λσ H Q=>?_;rintro⟨H0,F,ψ,b,rs,e,q⟩;obtain⟨c,e1,e2⟩:=bind_some e;refine⟨H0,F,ψ,c,rs,e1,λH1 g1=>?_⟩;cases c with
 | false=>exact iteF ⟨H0,F,ψ,b,rs.later g1,e2,λH2 g2=>q H2 (g1.trans g2)⟩
 | true=>cases e2;exact iteT (q H1 g1)
theorem PBW.b {e:Expr}{f:FB}(h:PBW X e f):PB X e f:=PW.pt h
theorem zo5 {op}{a:Expr}{f:FV}(h:PV X a f):PV X (.BoolOp op [a] pos) f:=pe_one h
theorem zr1 {a b:Expr}{rest:List Expr}{f g:FV}(ha:PV X a f)(hb:PV X (.BoolOp .And (b::rest) pos) g):PV X (.BoolOp .And (a::b::rest) pos) (λψ=>((f ψ).bind toB).bind λc=>if c then g ψ else Ga (.bool false)):=by
 refine za7 (pe_and ha hb) λσ H Q=>?_;rintro⟨H0,F,ψ,d,rs,e,q⟩;obtain⟨c,e1,e2⟩:=bind_some e;obtain⟨d',e3,e4⟩:=bind_some e1;cases zf9 e4;refine⟨H0,F,ψ,_,rs,e3,λv H1 F1 g1 f1 fh1 n1 rv=>?_⟩;cases rv;refine⟨c,rfl,?_⟩;cases c with
 | true=>exact iteT ⟨H0,F1,ψ,d,rs.grow g1 f1 fh1 n1,e2,λw H2 F2 g2 f2 fh2 n2 rw2=>q w H2 F2 (g1.trans g2) (f1.trans f2) fh2 (n1.trans n2 g1) rw2⟩
 | false=>cases e2;exact iteF (q (.bl false) H1 F1 g1 f1 fh1 n1 (.bl false))
theorem v_or {a b:Expr}{rest:List Expr}{f g:FV}(ha:PV X a f)(hb:PV X (.BoolOp .Or (b::rest) pos) g):PV X (.BoolOp .Or (a::b::rest) pos) (λψ=>((f ψ).bind toB).bind λc=>if c then Ga (.bool true) else g ψ):=by
 refine za7 (pe_or ha hb) λσ H Q=>?_;rintro⟨H0,F,ψ,d,rs,e,q⟩;obtain⟨c,e1,e2⟩:=bind_some e;obtain⟨d',e3,e4⟩:=bind_some e1;cases zf9 e4;refine⟨H0,F,ψ,_,rs,e3,λv H1 F1 g1 f1 fh1 n1 rv=>?_⟩;cases rv;refine⟨c,rfl,?_⟩;cases c with
 | false=>exact iteF ⟨H0,F1,ψ,d,rs.grow g1 f1 fh1 n1,e2,λw H2 F2 g2 f2 fh2 n2 rw2=>q w H2 F2 (g1.trans g2) (f1.trans f2) fh2 (n1.trans n2 g1) rw2⟩
 | true=>cases e2;exact iteT (q (.bl true) H1 F1 g1 f1 fh1 n1 (.bl true))
theorem zy1 {a:Expr}{f:FV}(ha:PV X a f):PV X (.UnaryOp .Not a pos) (λψ=>((f ψ).bind toB).bind λc=>Ga (.bool (!c))):=by
 refine za7 (pe_not ha) λσ H Q=>?_;rintro⟨H0,F,ψ,d,rs,e,q⟩;obtain⟨c,e1,e2⟩:=bind_some e;obtain⟨d',e3,e4⟩:=bind_some e1;cases zf9 e4;cases e2;refine⟨H0,F,ψ,_,rs,e3,λv H1 F1 g1 f1 fh1 n1 rv=>?_⟩;cases rv;exact⟨c,rfl,q (.bl (!c)) H1 F1 g1 f1 fh1 n1 (.bl _)⟩
theorem v_if {c a b:Expr}{fc:FB}{f g:FV}(hc:PB X c fc)(ha:PV X a f)(hb:PV X b g):PV X (.IfExp c a b pos) (λψ=>(fc ψ).bind λk=>if k then f ψ else g ψ):=by
 refine za7 (pe_ifExp hc ha hb) λσ H Q=>?_;rintro⟨H0,F,ψ,d,rs,e,q⟩;obtain⟨k,e1,e2⟩:=bind_some e;refine⟨H0,F,ψ,k,rs,e1,λH1 g1=>?_⟩;cases k with
 | true=>exact iteT ⟨H0,F,ψ,d,rs.later g1,e2,λw H2 F2 g2 f2 fh2 n2 rw2=>q w H2 F2 (g1.trans g2) f2 fh2 (λb o h nb=>g1.free (n2 b o h nb)) rw2⟩
 | false=>exact iteF ⟨H0,F,ψ,d,rs.later g1,e2,λw H2 F2 g2 f2 fh2 n2 rw2=>q w H2 F2 (g1.trans g2) f2 fh2 (λb o h nb=>g1.free (n2 b o h nb)) rw2⟩
end
end T3
namespace T3
open PySem PySem.Spec PyProof.Rows L2
section
variable {X:Cx}{ω:List (Gj×Obj)}{σ:St}{F H:Hp}{s:Gh}
mutual
def plD:D->Bool
 | .dict _=>false
 | .list xs=>plAll xs
 | .tuple xs=>plAll xs
 | _=>true
def plAll:List D->Bool
 | []=>true
 | x::xs=>plD x&&plAll xs
end
mutual
theorem zi3:∀ {d:D},d.canLay0=true->plD d=true
 | .none,_=>by rw[plD]<;>(intros;contradiction)
 | .bool _,_=>by rw[plD]<;>(intros;contradiction)
 | .int _,_=>by rw[plD]<;>(intros;contradiction)
 | .str _,_=>by rw[plD]<;>(intros;contradiction)
 | .list xs,h=>by rw[qL] at h;rw[plD];exact zhL h
 | .tuple xs,h=>by rw[qL] at h;rw[plD];exact zhL h
 | .dict _,h=>by rw[qL] at h;cases h
theorem zhL:∀ {ds:List D},kP ds=true->plAll ds=true
 | [],_=>by rw[plAll]
 | x::xs,h=>by
  rw[kP,jI] at h;rw[plAll,zi3 h.1,zhL h.2];rfl
end
mutual
theorem Rep.reads (I:Inv X ω σ H s)(g:Same F H):∀ {d:D} {v:V},Rep X.K F d v->plD d=true->∀ {u:Gg},RelV v u->∃ as,Reads s.heap u d as
 | _,_,.non,_,u,r=>by cases r;exact⟨_,.none⟩
 | _,_,.bl b,_,u,r=>by cases r;exact⟨_,.bool b⟩
 | _,_,.int i,_,u,r=>by obtain⟨t,rfl⟩:=r;exact⟨_,.int i t⟩
 | _,_,.str x,_,u,r=>by obtain⟨t,rfl⟩:=r;exact⟨_,.str x t⟩
 | _,_,.tup h q,pl,u,r=>by
  cases r;rw[plD] at pl;obtain⟨its,rv,⟨o,e,c,n,d⟩,_⟩:=I.tuple (seqT g h);obtain⟨as,ra⟩:=Reps.reads I g q pl rv;exact⟨_,.tuple e c d (by simpa using ra)⟩
 | _,_,.lst h q,pl,u,r=>by
  cases r;rw[plD] at pl;obtain⟨its,rv,⟨o,n,e,c,_,d⟩,_⟩:=I.list (g.seq h);obtain⟨as,ra⟩:=Reps.reads I g q pl rv;exact⟨_,.list e c d (by simpa using ra)⟩
 | _,_,.dic _ _ _ _,pl,u,r=>by rw[plD] at pl;cases pl
 | _,_,.dci _ _ _ _,pl,u,r=>by rw[plD] at pl;cases pl
theorem Reps.reads (I:Inv X ω σ H s)(g:Same F H):∀ {ds:List D} {vs:List V},Reps X.K F ds vs->plAll ds=true->∀ {us:List Gg},Vals vs us->∃ as,ReadsAll s.heap us ds as
 | _,_,.nil,_,us,r=>by cases r;exact⟨_,.nil⟩
 | _,_,.cons h t,pl,us,r=>by
  rw[plAll,jI] at pl;cases r with
  | cons r1 r2 =>
   obtain⟨as,a⟩:=Rep.reads I g h pl.1 r1;obtain⟨bs,b⟩:=Reps.reads I g t pl.2 r2;exact⟨_,.cons a b⟩
end
end
def okEq (a b:D):Bool:=a.canLay0&&b.canLay0&&decide (min a.depth b.depth<=100)
def dEq (a b:D):Option D:=if okEq a b then Ga (.bool (kF a b)) else Gb
def dNe (a b:D):Option D:=if okEq a b then Ga (.bool (!PyData.eqv a b)) else Gb
def rEqD (K:ja)(g:D->D->Option D):R2:=λx y H Q=>∃ F a b d,Same F H/\Rep K F a x/\Rep K F b y/\g a b=Ga d/\∀ k,d=.bool k->Q (.bl k) H
theorem ztC {a b:D}(h:okEq a b=true):a.canLay0=true/\b.canLay0=true/\min a.depth b.depth<=100:=by
 unfold okEq at h;simp only[jI,decide_eq_true_eq] at h;exact⟨h.1.1,h.1.2,h.2⟩
theorem zx3 {X:Cx}(hu:X.A.units+100<cLine):OpR X (compareOp .Eq) (rEqD X.K dEq):=by
 intro ω s σ H x y v u Q I rx ry h;obtain⟨F,a,b,d,g,ra,rb,e,q⟩:=h;unfold dEq at e;split at e
 .rename_i ok;obtain⟨h1,h2,h3⟩:=ztC ok;obtain⟨as,ha⟩:=ra.reads I g (zi3 h1) rx;obtain⟨bs,hb⟩:=rb.reads I g (zi3 h2) ry;refine SeqAt.compareEq_reads ha hb h1 h2 (by omega) ⟨.bl _,H,I,rfl,q _ (jE e).symm⟩
 .cases e
theorem zx4 {X:Cx}(hu:X.A.units+100<cLine):OpR X (compareOp .NotEq) (rEqD X.K dNe):=by
 intro ω s σ H x y v u Q I rx ry h;obtain⟨F,a,b,d,g,ra,rb,e,q⟩:=h;unfold dNe at e;split at e
 .rename_i ok;obtain⟨h1,h2,h3⟩:=ztC ok;obtain⟨as,ha⟩:=ra.reads I g (zi3 h1) rx;obtain⟨bs,hb⟩:=rb.reads I g (zi3 h2) ry;refine SeqAt.compareNe_reads ha hb h1 h2 (by omega) ⟨.bl _,H,I,rfl,q _ (jE e).symm⟩
 .cases e
theorem zjK {K:ja}{g:D->D->Option D}(hg:∀ a b d,g a b=Ga d->∃ k,d=.bool k):R2V K (rEqD K g) g:=by
 intro F H x y a b d Q s ra rb e q;refine⟨F,a,b,d,s,ra,rb,e,λk ek=>?_⟩;subst ek;exact q (.bl k) H F (.refl _) (.refl _) s (.refl _ _) (.bl k)
theorem zx5:∀ a b d,dEq a b=Ga d->∃ k,d=.bool k:=λa b d h=>by unfold dEq at h;split at h<;>cases h;exact⟨_,rfl⟩
theorem zx6:∀ a b d,dNe a b=Ga d->∃ k,d=.bool k:=λa b d h=>by unfold dNe at h;split at h<;>cases h;exact⟨_,rfl⟩
def dI (C:Int->Int->Bool)(g:Int->Int->D):D->D->Option D
 | .int i,.int j=>if C i j then Ga (g i j) else Gb
 | _,_=>Gb
theorem r2_I {K:ja}{C:Int->Int->Prop}{C':Int->Int->Bool}{g:Int->Int->V}{g':Int->Int->D}(hC:∀ i j,C' i j=true->C i j)(hg:∀ i j F,Rep K F (g' i j) (g i j)):R2V K (rI C g) (dI C' g'):=by
 intro F H x y a b d Q s ra rb e q;cases ra<;>cases rb<;>first|(cases e;done)|skip
 rename_i i j;unfold dI at e;dsimp only at e;split at e
 .rename_i c;cases e;exact⟨i,j,rfl,rfl,hC i j c,q _ H F (.refl _) (.refl _) s (.refl _ _) (hg i j F)⟩
 .cases e
def dI0 (g:Int->Int->D):D->D->Option D
 | .int i,.int j=>Ga (g i j)
 | _,_=>Gb
theorem zhM {K:ja}{g:Int->Int->V}{g':Int->Int->D}(hg:∀ i j F,Rep K F (g' i j) (g i j)):R2V K (rI0 g) (dI0 g'):=by
 intro F H x y a b d Q s ra rb e q;cases ra<;>cases rb<;>first|(cases e;done)|skip
 rename_i i j;cases e;exact⟨i,j,rfl,rfl,q _ H F (.refl _) (.refl _) s (.refl _ _) (hg i j F)⟩
def dSub:D->D->Option D:=dI0 λi j=>.int (i-j)
def cMul (i j:Int):Bool:=(decide (-(2^64)<i)&&decide (i<2^64))||(decide (-(2^64)<j)&&decide (j<2^64))
def dMul:D->D->Option D:=dI cMul λi j=>.int (i*j)
def dDiv:D->D->Option D:=dI (λ_ j=>decide (0<j)&&decide (j<1073741824)) λi j=>.int (i/j)
def dMod:D->D->Option D:=dI (λ_ j=>decide (0<j)) λi j=>.int (i%j)
def dPow:D->D->Option D:=dI (λi j=>decide (0<=j)&&decide (j<=1000000)&&decide (i.natAbs<2^64)) λi j=>.int (i^j.toNat)
def dAnd:D->D->Option D:=dI0 λi j=>.int (uI i j)
def dOr:D->D->Option D:=dI0 λi j=>.int (qT i j)
def dLt:D->D->Option D:=dI0 λi j=>.bool (decide (i<j))
def dLe:D->D->Option D:=dI0 λi j=>.bool (decide (i<=j))
def dGt:D->D->Option D:=dI0 λi j=>.bool (decide (j<i))
def dGe:D->D->Option D:=dI0 λi j=>.bool (decide (j<=i))
def dAdd:D->D->Option D
 | .int i,.int j=>Ga (.int (i+j))
 | .tuple xs,.tuple ys=>if xs.length+ys.length<=sizeLine then Ga (.tuple (xs++ys)) else Gb
 | .list xs,.list ys=>if xs.length+ys.length<=sizeLine then Ga (.list (xs++ys)) else Gb
 | .str x,.str y=>if x.length+y.length<=sizeLine then Ga (.str (x++y)) else Gb
 | _,_=>Gb
section
variable {X:Cx}
theorem zvX {ω:List (Gj×Obj)}{s:Gh}{σ:St}{H:Hp}{a b:Gj}{ys:List V}{Q:Gg->Gh->Prop}(I:Inv X ω σ H s)(ha:SqT X.K H a [])(hb:SqT X.K H b ys)(h:Q (.ref b) s) :
  wpAny (model X.prog X.w) X.A (binaryOp .Add (.ref a) (.ref b)) Q X.xe s:=by
 obtain⟨its,r1,p1,_⟩:=I.tuple ha;obtain⟨its2,r2,p2,_⟩:=I.tuple hb;cases r1;obtain⟨⟨cls,dd,data,sl⟩,ho,hc,n,hd⟩:=id p1;obtain⟨⟨cls2,dd2,data2,sl2⟩,ho2,hc2,n2,hd2⟩:=id p2;simp only at hc hd hc2 hd2;subst hc hd hc2 hd2;exact concat_meets ⟨_,ho,rfl⟩ ⟨_,ho2,rfl⟩ noFill_tuple_add seq_tuple_add vn vg (va _ _)
   (tuple_addW0 a b #[] its2.toArray n n2 dd dd2 sl sl2 (by rfl)) ⟨ho,ho2,h⟩
def rAddD (K:ja):R2:=λx y H Q=>∃ F a b d,Same F H/\Rep K F a x/\Rep K F b y/\dAdd a b=Ga d/\∀ v H' F',Same H H'->Same F F'->Same F' H'->New F F' H->Rep K F' d v->Q v H'
theorem grow1 {F H:Hp}{p:Gj}{o:HO}(g:Same F H)(hp:H p=Gb)(pl:Pl o:=by trivial):Same H (upd H p o)/\Same F (upd F p o)/\Same (upd F p o) (upd H p o)/\New F (upd F p o) H:=by
 have fp:F p=Gb:=g.free hp;refine⟨Same.new hp,Same.new fp,Same.up2 g fp hp pl,λb u h nb=>?_⟩
 .by_cases hb:b=p
  .subst hb;exact hp
  .rw[upd_ne hb,nb] at h;cases h
theorem zy2:OpR X (binaryOp .Add) (rAddD X.K):=by
 intro ω s σ H x y v u Q I rx ry h;obtain⟨F,a,b,d,g,ra,rb,e,q⟩:=h;cases ra with
 | int i =>
  cases rb<;>first|(cases e;done)|skip
  cases e;exact op_add ω s σ H _ _ v u Q I rx ry ⟨i,_,rfl,rfl,q _ H F (.refl _) (.refl _) g (.refl _ _) (.int _)⟩
 | str i =>
  cases rb<;>first|(cases e;done)|skip
  unfold dAdd at e;dsimp only at e;split at e
  .rename_i c;cases e;exact op_add_str ω s σ H _ _ v u Q I rx ry ⟨i,_,rfl,rfl,c,q _ H F (.refl _) (.refl _) g (.refl _ _) (.str _)⟩
  .cases e
 | @tup p xs ds h1 q1 =>
  cases rb<;>first|(cases e;done)|skip
  rename_i p2 xs2 ds2 h2 q2;unfold dAdd at e;dsimp only at e;split at e
  .rename_i c;cases e;by_cases hx:xs=[]
   .subst hx;cases q1;cases rx;cases ry;exact zvX I (seqT g h1) (seqT g h2) ⟨.ref p2,H,I,rfl,q _ H F (.refl _) (.refl _) g (.refl _ _) (.tup h2 q2)⟩
   .refine op_catT ω s σ H _ _ v u Q I rx ry ⟨p,p2,xs,xs2,rfl,rfl,seqT g h1,seqT g h2,hx,by rw[<- q1.length,<- q2.length];exact c,λz=>?_,λz l hl=>?_⟩
    .subst z;cases q2;exact q _ H F (.refl _) (.refl _) g (.refl _ _) (by rw[j7];exact .tup h1 q1)
    .obtain⟨s1,s2,s3,s4⟩:=grow1 (o:=.tup (xs++xs2)) g hl;exact q _ _ _ s1 s2 s3 s4 (.tup (SqT.of upd_same) ((q1.append q2).mono s2))
  .cases e
 | @lst p xs ds h1 q1 =>
  cases rb<;>first|(cases e;done)|skip
  rename_i p2 xs2 ds2 h2 q2;unfold dAdd at e;dsimp only at e;split at e
  .rename_i c;cases e;cases rx;cases ry;obtain⟨its,r,pl,hz⟩:=I.list (g.seq h1);obtain⟨its2,r2,pl2,hz2⟩:=I.list (g.seq h2);obtain⟨o,n,e1,c1,d1,k1⟩:=pl;obtain⟨o2,n2,e2,c2,d2,k2⟩:=pl2;have l1:=q1.length;have l2:=q2.length;have l3:=r.length;have l4:=r2.length;obtain⟨oc,od,oda,osl⟩:=o;obtain⟨oc2,od2,oda2,osl2⟩:=o2;simp only at c1 d1 k1 c2 d2 k2;subst c1 d1 k1 c2 d2 k2;refine concat_meets ⟨_,e1,rfl⟩ ⟨_,e2,rfl⟩ noFill_list_add seq_list_add PySem.F.slot_list_add PySem.F.entry_list_add (PySem.F.args_list_add_2 _ _)
    (list_addW p p2 its.toArray its2.toArray n n2 _ _ _ _ (by rw[jo,jo];omega)) ⟨e1,e2,?_⟩
   have ea:its.toArray++its2.toArray=(its++its2).toArray:=by simp
   rw[ea];obtain⟨s1,s2,s3,s4⟩:=grow1 (o:=.lst (xs++xs2)) g I.fresh;exact⟨.ref _,_,I.lnew (t':=s.toks) (r.append r2) (by rw[jh];omega),rfl,q _ _ _ s1 s2 s3 s4 (.lst (SqL.of upd_same) ((q1.append q2).mono s2))⟩
  .cases e
 | non=>cases e
 | bl k=>cases e
 | dic hs h ok r=>cases e
 | dci hs h ok r=>cases e
theorem zBl {K:ja}:R2V K (rAddD K) dAdd:=λF H x y a b d Q s ra rb e q=>⟨F,a,b,d,s,ra,rb,e,q⟩
end
section
variable {X:Cx}{pos:Pos}{a b:Expr}{f g:FV}
theorem zc6 (ha:PV X a f)(hb:PV X b g):PV X (.BinOp a .Add b pos) (λψ=>(f ψ).bind λx=>(g ψ).bind λy=>dAdd x y):=v_op zy2 zBl ha hb
theorem zgA (ha:PV X a f)(hb:PV X b g):PV X (.BinOp a .Sub b pos) (λψ=>(f ψ).bind λx=>(g ψ).bind λy=>dSub x y):=v_op op_sub (zhM λ_ _ _=>.int _) ha hb
theorem zmT (ha:PV X a f)(hb:PV X b g):PV X (.BinOp a .Mult b pos) (λψ=>(f ψ).bind λx=>(g ψ).bind λy=>dMul x y) :=
 v_op op_mul (r2_I (λi j h=>by simpa [cMul,CMul] using h) λ_ _ _=>.int _) ha hb
theorem zjL (ha:PV X a f)(hb:PV X b g):PV X (.BinOp a .FloorDiv b pos) (λψ=>(f ψ).bind λx=>(g ψ).bind λy=>dDiv x y) :=
 v_op op_fdiv (r2_I (λi j h=>by simpa [CDiv] using h) λ_ _ _=>.int _) ha hb
theorem zf2 (ha:PV X a f)(hb:PV X b g):PV X (.BinOp a .Mod b pos) (λψ=>(f ψ).bind λx=>(g ψ).bind λy=>dMod x y) :=
 v_op op_mod (r2_I (λi j h=>by simpa using h) λ_ _ _=>.int _) ha hb
theorem ztD (ha:PV X a f)(hb:PV X b g):PV X (.BinOp a .Pow b pos) (λψ=>(f ψ).bind λx=>(g ψ).bind λy=>dPow x y) :=
 v_op op_pow (r2_I (λi j h=>by simpa [CPow,and_assoc] using h) λ_ _ _=>.int _) ha hb
theorem zBm (ha:PV X a f)(hb:PV X b g):PV X (.BinOp a .BitAnd b pos) (λψ=>(f ψ).bind λx=>(g ψ).bind λy=>dAnd x y):=v_op op_and (zhM λ_ _ _=>.int _) ha hb
theorem zDO (ha:PV X a f)(hb:PV X b g):PV X (.BinOp a .BitOr b pos) (λψ=>(f ψ).bind λx=>(g ψ).bind λy=>dOr x y):=v_op op_or (zhM λ_ _ _=>.int _) ha hb
theorem v_lt (ha:PV X a f)(hb:PV X b g):PV X (.Compare a [.Lt] [b] pos) (λψ=>(f ψ).bind λx=>(g ψ).bind λy=>dLt x y):=zr0 op_lt (zhM λ_ _ _=>.bl _) ha hb
theorem v_le (ha:PV X a f)(hb:PV X b g):PV X (.Compare a [.LtE] [b] pos) (λψ=>(f ψ).bind λx=>(g ψ).bind λy=>dLe x y):=zr0 op_le (zhM λ_ _ _=>.bl _) ha hb
theorem v_gt (ha:PV X a f)(hb:PV X b g):PV X (.Compare a [.Gt] [b] pos) (λψ=>(f ψ).bind λx=>(g ψ).bind λy=>dGt x y):=zr0 op_gt (zhM λ_ _ _=>.bl _) ha hb
theorem v_eq (hu:X.A.units+100<cLine)(ha:PV X a f)(hb:PV X b g):PV X (.Compare a [.Eq] [b] pos) (λψ=>(f ψ).bind λx=>(g ψ).bind λy=>dEq x y):=zr0 (zx3 hu) (zjK zx5) ha hb
theorem v_ne (hu:X.A.units+100<cLine)(ha:PV X a f)(hb:PV X b g):PV X (.Compare a [.NotEq] [b] pos) (λψ=>(f ψ).bind λx=>(g ψ).bind λy=>dNe x y):=zr0 (zx4 hu) (zjK zx6) ha hb
theorem b_lt (ha:PV X a f)(hb:PV X b g):PB X (.Compare a [.Lt] [b] pos) (λψ=>((f ψ).bind λx=>(g ψ).bind λy=>dLt x y).bind toB):=zmS op_lt (zhM λ_ _ _=>.bl _) ha hb
theorem b_le (ha:PV X a f)(hb:PV X b g):PB X (.Compare a [.LtE] [b] pos) (λψ=>((f ψ).bind λx=>(g ψ).bind λy=>dLe x y).bind toB):=zmS op_le (zhM λ_ _ _=>.bl _) ha hb
theorem b_gt (ha:PV X a f)(hb:PV X b g):PB X (.Compare a [.Gt] [b] pos) (λψ=>((f ψ).bind λx=>(g ψ).bind λy=>dGt x y).bind toB):=zmS op_gt (zhM λ_ _ _=>.bl _) ha hb
theorem b_ge (ha:PV X a f)(hb:PV X b g):PB X (.Compare a [.GtE] [b] pos) (λψ=>((f ψ).bind λx=>(g ψ).bind λy=>dGe x y).bind toB):=zmS op_ge (zhM λ_ _ _=>.bl _) ha hb
theorem b_eq (hu:X.A.units+100<cLine)(ha:PV X a f)(hb:PV X b g):PB X (.Compare a [.Eq] [b] pos) (λψ=>((f ψ).bind λx=>(g ψ).bind λy=>dEq x y).bind toB):=zmS (zx3 hu) (zjK zx5) ha hb
theorem b_ne (hu:X.A.units+100<cLine)(ha:PV X a f)(hb:PV X b g):PB X (.Compare a [.NotEq] [b] pos) (λψ=>((f ψ).bind λx=>(g ψ).bind λy=>dNe x y).bind toB):=zmS (zx4 hu) (zjK zx6) ha hb
end
end T3
namespace T3
open PySem PySem.Spec PyProof.Rows L2
def tSh (K:ja)(f:FL):TE:=λσ H Q=>∃ H0 F ψ ds,RS K H0 F H ψ σ/\f ψ=Ga ds /\
 ∀ a xs H' F',Same H H'->Same F F'->Same F' H'->New F F' H->SqL K H' a xs->Reps K F' ds xs->Q (.ref a) H'
abbrev PSh (X:Cx)(e:Expr)(f:FL):Prop:=PE X e (tSh X.K f)
def toL:D->Option (List D)
 | .list xs=>Ga xs
 | _=>Gb
def toT:D->Option (List D)
 | .tuple xs=>Ga xs
 | _=>Gb
theorem zq9 {d:D}{xs:List D}(h:toL d=Ga xs):d=.list xs:=by cases d<;>cases h;rfl
theorem zvY {d:D}{xs:List D}(h:toT d=Ga xs):d=.tuple xs:=by cases d<;>cases h;rfl
def gl (i:Nat):FL:=λψ=>match ψ[i]? with
 | some (.own ds)=>Ga ds
 | some (.val (.list ds))=>Ga ds
 | _=>Gb
section
variable {X:Cx}{pos:Pos}
theorem PV.sh {e:Expr}{f:FV}(h:PV X e f):PSh X e (λψ=>(f ψ).bind toL):=by
 refine za7 h λσ H Q=>?_;rintro⟨H0,F,ψ,ds,r,e,q⟩;obtain⟨d,e1,e2⟩:=bind_some e;cases zq9 e2;refine⟨H0,F,ψ,_,r,e1,λv H' F' g f1 fh n rv=>?_⟩;cases rv with
 | lst h1 h2=>exact q _ _ H' F' g f1 fh n (fh.seq h1) h2
theorem PO.sh {e:Expr}{f:FL}(h:PO X e f):PSh X e f:=by
 refine za7 h λσ H Q=>?_;rintro⟨H0,F,ψ,ds,r,e,q⟩;exact⟨H0,F,ψ,ds,r,e,λa xs H' F' g f1 fh n ha fa ha' rr=>q a xs H' F' g f1 fh n (SqL.of ha') rr⟩
theorem zo6 (i:Nat){x:Str}(hN:X.N[i]?=Ga x:=by rfl)(hv:Vis X.env.scope x:=by first|exact uj rfl|exact kG (uj rfl)|exact kG (kG rfl))(hd:(x==("__debug__":Str))=false:=by decide)
  (hcd:(x==("__classdict__":Str))=false:=by decide):PSh X (.Name x pos) (gl i):=by
 refine za7 (pe_var hN hv hd hcd) λσ H Q=>?_;rintro⟨H0,F,ψ,ds,r,e,q⟩;unfold gl at e;split at e
 .rename_i ds' z;cases e;obtain⟨u,e1,a,xs,e2,ha,fa,h0a,rr⟩:=r.sl i _ z;subst e2;exact⟨.ref a,e1,q a xs H F (.refl _) (.refl _) r.fh (.refl _ _) (SqL.of ha) rr⟩
 .rename_i ds' z;cases e;obtain⟨u,e1,v,e2,h⟩:=r.sl i _ z;subst e2;cases h with
  | lst h1 h2=>exact⟨_,e1,q _ _ H F (.refl _) (.refl _) r.fh (.refl _ _) (r.fh.seq h1) h2⟩
 .cases e
def dIx:D->D->Option D
 | .list xs,.int i=>atI xs i
 | .tuple xs,.int i=>atI xs i
 | _,_=>Gb
theorem Reps.at {K:ja}{F:Hp}{ds:List D}{vs:List V}(r:Reps K F ds vs){i:Int}{d:D}(h:atI ds i=Ga d):∃ v,atI vs i=Ga v/\Rep K F d v:=by
 unfold atI at h ⊢;rw[<- r.length];obtain⟨j,e1,e2⟩:=bind_some h;obtain⟨v,e3,e4⟩:=r.get e2;exact⟨v,by rw[e1];exact e3,e4⟩
theorem zDP {K:ja}:R2V K (rIx K) dIx:=by
 intro F H x y a b d Q s ra rb e q;cases ra<;>first|(cases e;done)|skip
 .rename_i p xs ds h1 h2;cases rb<;>first|(cases e;done)|skip
  rename_i i;obtain⟨v,e1,e2⟩:=h2.at e;exact .inr (.inl ⟨p,xs,i,v,rfl,rfl,seqT s h1,e1,q v H F (.refl _) (.refl _) s (.refl _ _) e2⟩)
 .rename_i p xs ds h1 h2;cases rb<;>first|(cases e;done)|skip
  rename_i i;obtain⟨v,e1,e2⟩:=h2.at e;exact .inl ⟨p,xs,i,v,rfl,rfl,s.seq h1,e1,q v H F (.refl _) (.refl _) s (.refl _ _) e2⟩
theorem v_ix {a b:Expr}{f g:FV}(ha:PV X a f)(hb:PV X b g)(hs:PlainIx b:=by exact λ_ _=>rfl):PV X (.Subscript a b pos) (λψ=>(f ψ).bind λx=>(g ψ).bind λy=>dIx x y) :=
 za7 (pe_ix ix_seq ha hb hs) λ_ _ _ h=>zvW zDP h
def dIxL (xs:List D):D->Option D
 | .int i=>atI xs i
 | _=>Gb
theorem zo7 {a b:Expr}{f:FL}{g:FV}(ha:PSh X a f)(hb:PV X b g)(hs:PlainIx b:=by exact λ_ _=>rfl):PV X (.Subscript a b pos) (λψ=>(f ψ).bind λx=>(g ψ).bind λy=>dIxL x y):=by
 refine za7 (pe_ix ix_list ha hb hs) λσ H Q=>?_;rintro⟨H0,F,ψ,d,r,e,q⟩;obtain⟨ds,e1,e⟩:=bind_some e;obtain⟨b,e2,e⟩:=bind_some e;refine⟨H0,F,ψ,ds,r,e1,λp xs H1 F1 g1 f1 fh1 n1 hl rr=>⟨H0,F1,ψ,b,r.grow g1 f1 fh1 n1,e2,λu H2 F2 g2 f2 fh2 n2 ru=>?_⟩⟩;cases ru<;>first|(cases e;done)|skip
 rename_i i;obtain⟨v,e3,e4⟩:=rr.at e;exact⟨p,xs,i,v,rfl,rfl,g2.seq hl,e3,q v H2 F2 (g1.trans g2) (f1.trans f2) fh2 (n1.trans n2 g1) (e4.mono f2)⟩
theorem cB1 {e:Expr}{te:TE}{p:Pos}{x:Str}{id:String}{r:List V->Hp->VK->Prop}(hc:CallR X (.builtin id) r)(hg:Gl X x)(hm:X.mg x=Gb)(hv:bootBuiltins x=Ga (.builtin id))(ha:PE X e te)
  (hn:x≠"__name__":=by decide) (hdb:(x==("__debug__":Str))=false:=by decide) (hs:starEach [e] X.env=[(false,eval e X.env)]:=by rfl):PE X (.Call (.Name x p) [e] [] pos) (λσ H Q=>te σ H λv H1=>r [v] H1 Q) :=
 za7 (pe_callB hc hg hm hv (pa_cons ha pa_nil hs) hn hdb hs (by rfl)) λσ H Q h=>h
theorem cT1 {e:Expr}{te:TE}{p:Pos}{x:Str}{id:String}{r:List V->Hp->VK->Prop}(hc:CallR X (.type id) r)(hg:Gl X x)(hm:X.mg x=Gb)(hv:bootBuiltins x=Ga (.type id))(ha:PE X e te)
  (hn:x≠"__name__":=by decide) (hdb:(x==("__debug__":Str))=false:=by decide) (hs:starEach [e] X.env=[(false,eval e X.env)]:=by rfl):PE X (.Call (.Name x p) [e] [] pos) (λσ H Q=>te σ H λv H1=>r [v] H1 Q) :=
 za7 (pe_callTy hc hg hm hv (pa_cons ha pa_nil hs) hn hdb hs (by rfl)) λσ H Q h=>h
def dLen:D->Option D
 | .list xs=>Ga (.int xs.length)
 | .tuple xs=>Ga (.int xs.length)
 | _=>Gb
theorem zjM {e:Expr}{f:FV}{p:Pos}(hg:Gl X "len")(hm:X.mg "len"=Gb)(ha:PV X e f)(hs:starEach [e] X.env=[(false,eval e X.env)]:=by rfl):PV X (.Call (.Name "len" p) [e] [] pos) (λψ=>(f ψ).bind dLen):=by
 refine za7 (cB1 call_len_seq hg hm JA ha (hs:=hs)) λσ H Q=>?_;rintro⟨H0,F,ψ,d,r,e,q⟩;obtain⟨d',e1,e⟩:=bind_some e;refine⟨H0,F,ψ,d',r,e1,λv H1 F1 g1 f1 fh1 n1 rv=>?_⟩;cases rv<;>first|(cases e;done)|skip
 .rename_i p xs ds h1 h2;cases e;exact⟨p,xs,rfl,.inr (seqT fh1 h1),q _ H1 F1 g1 f1 fh1 n1 (by rw[h2.length];exact .int _)⟩
 .rename_i p xs ds h1 h2;cases e;exact⟨p,xs,rfl,.inl (fh1.seq h1),q _ H1 F1 g1 f1 fh1 n1 (by rw[h2.length];exact .int _)⟩
theorem zfH {e:Expr}{f:FL}{p:Pos}(hg:Gl X "tuple")(hm:X.mg "tuple"=Gb)(ha:PSh X e f)(hs:starEach [e] X.env=[(false,eval e X.env)]:=by rfl):PV X (.Call (.Name "tuple" p) [e] [] pos) (λψ=>(f ψ).bind λxs=>Ga (.tuple xs)):=by
 refine za7 (cT1 call_tuple_of hg hm boot_tuple ha (hs:=hs)) λσ H Q=>?_;rintro⟨H0,F,ψ,d,r,e,q⟩;obtain⟨ds,e1,e⟩:=bind_some e;cases e;refine⟨H0,F,ψ,ds,r,e1,λp xs H1 F1 g1 f1 fh1 n1 hl rr=>⟨p,xs,rfl,.inl ⟨hl,λl hl'=>?_⟩⟩⟩;obtain⟨s1,s2,s3,s4⟩:=grow1 (o:=.tup xs) fh1 hl';exact q _ _ _ (g1.trans s1) (f1.trans s2) s3 (n1.trans s4 g1) (.tup (SqT.of upd_same) (rr.mono s2))
def tyN:D->String
 | .none=>"NoneType"|.bool _=>"bool"|.int _=>"int"|.str _=>"str"|.list _=>"list"|.tuple _=>"tuple"|.dict _=>"dict"
def isT (T:String)(d:D):Bool:=tyN d==T||(T=="int"&&tyN d=="bool")
def Tys:List String:=["int","bool","str","list","tuple"]
theorem zy3 {K:ja}{T:String}(hT:T∈Tys)(d:D):jR K (.type (tyN d)) (.type T)=Ga (isT T d):=by
 simp only[Tys,jt,kK,or_false] at hT;rcases hT with rfl|rfl|rfl|rfl|rfl<;>cases d<;>kernel_rfl
theorem zDQ {ω:List (Gj×Obj)}{σ:St}{F H:Hp}{s:Gh}(I:Inv X ω σ H s)(g:Same F H){d:D}{v:V}(r:Rep X.K F d v){u:Gg}(ru:RelV v u):∃ P,PySem.W.KitX X.K u (.type (tyN d)) P/\P s.heap:=by
 cases r with
 | non=>cases ru;exact⟨_,PySem.W.kitx_none,True.intro⟩
 | bl b=>cases ru;exact⟨_,PySem.W.kitx_bool,True.intro⟩
 | int i=>obtain⟨t,rfl⟩:=ru;exact⟨_,PySem.W.kitx_int,True.intro⟩
 | str x=>obtain⟨t,rfl⟩:=ru;exact⟨_,PySem.W.kitx_str,True.intro⟩
 | tup h q=>cases ru;obtain⟨its,rv,⟨o,e,c,n,d⟩,_⟩:=I.tuple (seqT g h);exact⟨_,PySem.W.kitx_tuple,⟨o,e,c⟩⟩
 | lst h q=>cases ru;obtain⟨its,rv,⟨o,n,e,c,_,d⟩,_⟩:=I.list (g.seq h);exact⟨_,PySem.W.kitx_list,⟨o,e,c⟩⟩
 | dic sm h ok q=>cases ru;obtain⟨⟨o,es,e,c,d,k⟩,_,_⟩:=(show ObjOk X.prog X.w H s.heap _ (.ext _) from I.hok _ _ (g _ _ h));exact⟨_,Jh,⟨o,e,c.1⟩⟩
 | dci sm h ok q=>cases ru;obtain⟨⟨o,es,e,c,d,k⟩,_,_⟩:=(show ObjOk X.prog X.w H s.heap _ (.ext _) from I.hok _ _ (g _ _ h));exact⟨_,Jh,⟨o,e,c.1⟩⟩
theorem zr2 {v:V}{u:Gg}(r:RelV v u):u≠.builtin "__main__.__loader__#opaque":=by
 intro z;subst z;cases v<;>first|(cases r;done)|(obtain⟨t,q⟩:=r;cases q)
theorem ztE {T:String}(hT:T∈Tys):CallR X (.builtin "isinstance") (λxs H Q=>∃ F d x,xs=[x,.ty T]/\Same F H/\Rep X.K F d x/\Q (.bl (isT T d)) H):=by
 intro ω s σ H xs us Q I r h;obtain⟨F,d,x,rfl,g,rx,q⟩:=h;obtain⟨u,w',rfl,r1,r2⟩:=vals2 r;cases r2;obtain⟨P,Z,z⟩:=zDQ I g rx r1;exact Ju Z I.kIn z (zy3 hT d) (zr2 r1) λtk=>⟨.bl _,H,I.tok tk,rfl,q⟩
theorem zDR {x:Str}{T:String}(hg:Gl X x)(hm:X.mg x=Gb)(hv:bootBuiltins x=Ga (.type T))(hn:x≠"__name__":=by decide)(hd:(x==("__debug__":Str))=false:=by decide):PE X (.Name x pos) (tC (.ty T)) :=
 λ_ _ _ H _ I h=>ld_blt I hg hm hv ⟨.ty T,H,I,rfl,h⟩ hn hd
theorem zr3 {e:Expr}{f:FV}{p p2:Pos}{x:Str}{T:String}(hT:T∈Tys)(hg:Gl X "isinstance")(hm:X.mg "isinstance"=Gb)(hg2:Gl X x)(hm2:X.mg x=Gb)(hv:bootBuiltins x=Ga (.type T))(ha:PV X e f)
  (hn:x≠"__name__":=by decide) (hd:(x==("__debug__":Str))=false:=by decide)
  (hs:starEach [e,.Name x p2] X.env=(false,eval e X.env)::starEach [.Name x p2] X.env:=by rfl) (hs2:starEach [.Name x p2] X.env=[(false,eval (.Name x p2) X.env)]:=by rfl) :
  PV X (.Call (.Name "isinstance" p) [e,.Name x p2] [] pos) (λψ=>(f ψ).bind λd=>Ga (.bool (isT T d))):=by
 refine za7 (pe_callB (ztE hT) hg hm boot_isinstance (pa_cons ha (pa_cons (zDR (pos:=p2) hg2 hm2 hv hn hd) pa_nil hs2) hs) (by decide) (by decide) hs (by rw[hs2];rfl)) λσ H Q=>?_;rintro⟨H0,F,ψ,d,r,e,q⟩;obtain⟨d',e1,e⟩:=bind_some e;cases e;refine⟨H0,F,ψ,d',r,e1,λv H1 F1 g1 f1 fh1 n1 rv=>?_⟩;exact⟨F1,d',v,rfl,fh1,rv,q _ H1 F1 g1 f1 fh1 n1 (.bl _)⟩
end
end T3
namespace T3
open PySem PySem.Spec PyProof.Rows L2
inductive Out where
 | nx (ψ:En)|rt (d:D)|ro (ds:List D)|bk (ψ:En)|ct (ψ:En)|rm (a:Gj) (kvs:List (Int×D))|rc (d:D) (ψ:En)
abbrev FS:=En->Option Out
def Post (K:ja)(H0 F:Hp)(E:Ends):Out->Prop
 | .nx ψ=>∀ σ' H' F',Same F F'->New F F' H0->RS K H0 F' H' ψ σ'->E.nx σ' H'
 | .bk ψ=>∀ σ' H' F',Same F F'->New F F' H0->RS K H0 F' H' ψ σ'->E.bk σ' H'
 | .ct ψ=>∀ σ' H' F',Same F F'->New F F' H0->RS K H0 F' H' ψ σ'->E.ct σ' H'
 | .rt d=>∀ v H' F',Same H0 H'->Same F F'->Same F' H'->New F F' H0->Rep K F' d v->E.rt v H'
 | .ro ds=>∀ a xs H' F',Same H0 H'->Same F F'->Same F' H'->New F F' H0->H0 a=Gb->F' a=Gb->H' a=Ga (.lst xs)->Reps K F' ds xs->E.rt (.ref a) H'
 | .rm a kvs=>∀ ws ep H' F',Same H0 H'->Same F F'->Same F' H'->New F F' H0->F' a=Gb->H' a=Ga (.ext (DiP a ws ep))->RepKV K F' kvs ws->KvOk kvs->E.rt (.ref a) H'
 | .rc d ψ=>∀ v σ' H' F',Same F F'->New F F' H0->RS K H0 F' H' ψ σ'->Rep K F' d v->E.rt v H'
theorem New.up {F F1 F2 H0:Hp}(a:New F F1 H0)(b:New F1 F2 H0):New F F2 H0:=a.trans b (.refl _)
theorem New.dn {F F1 H H0:Hp}(a:New F F1 H)(s:Same H0 H):New F F1 H0:=λb o h n=>s.free (a b o h n)
theorem Post.mono {K:ja}{H0 F F1:Hp}{E:Ends}{o:Out}(f:Same F F1)(n:New F F1 H0)(p:Post K H0 F E o):Post K H0 F1 E o:=by
 cases o with
 | nx ψ=>exact λσ' H' F' f2 n2 r=>p σ' H' F' (f.trans f2) (n.up n2) r
 | bk ψ=>exact λσ' H' F' f2 n2 r=>p σ' H' F' (f.trans f2) (n.up n2) r
 | ct ψ=>exact λσ' H' F' f2 n2 r=>p σ' H' F' (f.trans f2) (n.up n2) r
 | rt d=>exact λv H' F' g f2 fh n2 r=>p v H' F' g (f.trans f2) fh (n.up n2) r
 | ro ds=>exact λa xs H' F' g f2 fh n2 h1 h2 h3 r=>p a xs H' F' g (f.trans f2) fh (n.up n2) h1 h2 h3 r
 | rm a kvs=>exact λws ep H' F' g f2 fh n2 h1 h2 h3 r=>p ws ep H' F' g (f.trans f2) fh (n.up n2) h1 h2 h3 r
 | rc d ψ=>exact λv σ' H' F' f2 n2 r q=>p v σ' H' F' (f.trans f2) (n.up n2) r q
def tStm (K:ja)(g:FS):TS:=λE σ H=>∃ H0 F ψ o,RS K H0 F H ψ σ/\g ψ=Ga o/\Post K H0 F E o
abbrev PSt (X:Cx)(st:Stmt)(g:FS):Prop:=PS X st (tStm X.K g)
abbrev PSts (X:Cx)(st:List Stmt)(g:FS):Prop:=PSs X st (tStm X.K g)
def thenD (o:Option Out)(k:FS):Option Out:=o.bind λo=>match o with
 | .nx ψ=>k ψ
 | o=>Ga o
section
variable {X:Cx}{pos:Pos}
theorem zd0:PSts X [] (λψ=>Ga (.nx ψ)):=by
 refine zn0 pss_nil λE σ H=>?_;rintro⟨H0,F,ψ,o,r,e,p⟩;cases e;exact p σ H F (.refl _) (.refl _ _) r
theorem zaJ {st:Stmt}{rest:List Stmt}{g k:FS}(h1:PSt X st g)(h2:PSts X rest k):PSts X (st::rest) (λψ=>thenD (g ψ) k):=by
 refine zn0 (pss_cons h1 h2) λE σ H=>?_;rintro⟨H0,F,ψ,o,r,e,p⟩;obtain⟨o1,e1,e2⟩:=bind_some e;refine⟨H0,F,ψ,o1,r,e1,?_⟩;cases o1 with
 | nx env1=>exact λσ' H' F' f n r'=>⟨H0,F',env1,o,r',e2,p.mono f n⟩
 | rt d=>cases e2;exact p
 | ro d=>cases e2;exact p
 | rm a d=>cases e2;exact p
 | rc a d=>cases e2;exact p
 | bk d=>cases e2;exact p
 | ct d=>cases e2;exact p
theorem zaS {st:Stmt}{g:FS}(h1:PSt X st g):PSts X [st] g:=pss_one h1
theorem zDS (i:Nat){st:Stmt}{g:FS}(h:PSt X st g):PSt X st (λψ=>g (frzAt i ψ)):=by
 refine zdD h λE σ H=>?_;rintro⟨H0,F,ψ,o,r,e,p⟩;obtain⟨F',f,n,r'⟩:=r.frzAt i;exact⟨H0,F',_,o,r',e,p.mono f n⟩
theorem zbR {e:Expr}{f:FV}(h:PV X e f):PSt X (.Return (Ga e) pos) (λψ=>(f ψ).bind λd=>Ga (.rt d)):=by
 refine zdD (ps_ret h) λE σ H=>?_;rintro⟨H0,F,ψ,o,r,e,p⟩;obtain⟨d,e1,e⟩:=bind_some e;cases e;exact⟨H0,F,ψ,d,r,e1,λv H' F' g f1 fh n rv=>p v H' F' (r.h0.trans g) f1 fh (n.dn r.h0) rv⟩
theorem ztF {e:Expr}{f:FL}(h:PO X e f):PSt X (.Return (Ga e) pos) (λψ=>(f ψ).bind λd=>Ga (.ro d)):=by
 refine zdD (ps_ret h) λE σ H=>?_;rintro⟨H0,F,ψ,o,r,e,p⟩;obtain⟨d,e1,e⟩:=bind_some e;cases e;exact⟨H0,F,ψ,d,r,e1,λa xs H' F' g f1 fh n ha fa ha' rr=>p a xs H' F' (r.h0.trans g) f1 fh (n.dn r.h0) (r.h0.free ha) fa ha' rr⟩
def go (i:Nat):FL:=λψ=>match ψ[i]? with
 | some (.own ds)=>Ga ds
 | _=>Gb
theorem znI (i:Nat){x:Str}{p:Pos}(hN:X.N[i]?=Ga x:=by rfl)(hv:Vis X.env.scope x:=by first|exact uj rfl|exact kG (uj rfl)|exact kG (kG rfl))(hd:(x==("__debug__":Str))=false:=by decide)
  (hcd:(x==("__classdict__":Str))=false:=by decide):PSt X (.Return (Ga (.Name x p)) pos) (λψ=>(go i ψ).bind λd=>Ga (.ro d)):=by
 refine zdD (ps_ret (pe_var hN hv hd hcd)) λE σ H=>?_;rintro⟨H0,F,ψ,o,r,e,p⟩;obtain⟨ds,e1,e⟩:=bind_some e;cases e;unfold go at e1;split at e1
 .rename_i ds' z;cases e1;obtain⟨u,e1,a,xs,e2,ha,fa,h0a,rr⟩:=r.sl i _ z;subst e2;exact⟨.ref a,e1,p a xs H F r.h0 (.refl _) r.fh (.refl _ _) h0a fa ha rr⟩
 .cases e1
theorem s_if {c:Expr}{a b:List Stmt}{fc:FB}{g k:FS}(hc:PB X c fc)(ha:PSts X a g)(hb:PSts X b k):PSt X (.If c a b pos) (λψ=>(fc (frz ψ)).bind λt=>if t then g ψ else k ψ):=by
 refine zdD (ps_if hc ha hb) λE σ H=>?_;rintro⟨H0,F,ψ,o,r,e,p⟩;obtain⟨t,e1,e⟩:=bind_some e;refine⟨H0,H,frz ψ,t,r.frz,e1,λH' g'=>?_⟩;cases t with
 | true=>exact iteT ⟨H0,F,ψ,o,r.later g',e,p⟩
 | false=>exact iteF ⟨H0,F,ψ,o,r.later g',e,p⟩
theorem zbE (i:Nat){x:Str}{e:Expr}{f:FV}{pos':Pos}(h:PV X e f)(hN:X.N.Nodup)(hi:X.N[i]?=Ga x:=by rfl)(hx:Loc X.env.scope x:=by first|exact uj rfl|exact kG rfl)
  (hs:swapsWith e (Ga (.Name x pos')) pos.line X.env=pure false:=by rfl) (hf:X.fn x=true\/X.env.scope.names.lookup x=Ga .local:=by first|exact .inl rfl|exact .inr rfl) :
  PSt X (.Assign [.Name x pos'] e pos) (λψ=>(f ψ).bind λd=>Ga (.nx (ψ.set i (.val d)))):=by
 intro ω s σ H D I hw;refine ps_set hN hi hx h hs hf ω s σ H D I ?_;obtain⟨H0,F,ψ,o,r,e,p⟩:=hw;obtain⟨d,e1,e⟩:=bind_some e;cases e;have hl:i<σ.length:=by rw[I.len];exact(ji.mp hi).1
 exact⟨H0,F,ψ,d,r,e1,λv H' F' g f1 fh n rv=>p _ H' F' f1 (n.dn r.h0) ((r.grow g f1 fh n).put hl rv)⟩
theorem znJ (i:Nat){x:Str}{e:Expr}{f:FL}{pos':Pos}(h:PO X e f)(hN:X.N.Nodup)(hi:X.N[i]?=Ga x:=by rfl)(hx:Loc X.env.scope x:=by first|exact uj rfl|exact kG rfl)
  (hs:swapsWith e (Ga (.Name x pos')) pos.line X.env=pure false:=by rfl) (hf:X.fn x=true\/X.env.scope.names.lookup x=Ga .local:=by first|exact .inl rfl|exact .inr rfl) :
  PSt X (.Assign [.Name x pos'] e pos) (λψ=>(f ψ).bind λd=>Ga (.nx (ψ.set i (.own d)))):=by
 intro ω s σ H D I hw;refine ps_set hN hi hx h hs hf ω s σ H D I ?_;obtain⟨H0,F,ψ,o,r,e,p⟩:=hw;obtain⟨d,e1,e⟩:=bind_some e;cases e;have hl:i<σ.length:=by rw[I.len];exact(ji.mp hi).1
 refine⟨H0,F,ψ,d,r,e1,λa xs H' F' g f1 fh n ha fa ha' rr=>p _ H' F' f1 (n.dn r.h0) ((r.grow g f1 fh n).putO hl ha' fa (r.h0.free ha) rr ?_)⟩;exact λj s o _ ej=>r.ne_free ha j s o ej
theorem zn1 (i:Nat){x:Str}{e:Expr}{f:FV}{p p2 p3:Pos}(h:PV X e f)(hN:X.N[i]?=Ga x:=by rfl)(hv:Vis X.env.scope x:=by first|exact uj rfl|exact kG (uj rfl)|exact kG (kG rfl))
  (hst:starEach [e] X.env=[(false,eval e X.env)]:=by rfl) (hline:(p2.endLine==p3.line)=true:=by rfl)
  (hd:(x==("__debug__":Str))=false:=by decide) (hcd:(x==("__classdict__":Str))=false:=by decide)
  (hs:swapsWith (.Call (.Attribute (.Name x p) "append" p2) [e] [] p3) Gb pos.line X.env=pure false:=by rfl) :
  PSt X (.Expr (.Call (.Attribute (.Name x p) "append" p2) [e] [] p3) pos) (λψ=>(go i ψ).bind λds=>(f ψ).bind λd=>if ds.length<1000000 then Ga (.nx (ψ.set i (.own (ds++[d])))) else Gb):=by
 refine zdD (ps_expr (pe_bm qc PySem.F.slot_list_append PySem.F.type_list_append mt_append (pe_var (pos:=p) hN hv hd hcd) (pa_cons h pa_nil hst) rfl (by rw[hst];rfl) hline hst rfl) hs) λE σ H=>?_;rintro⟨H0,F,ψ,o,r,e,p⟩;obtain⟨ds,e1,e⟩:=bind_some e;obtain⟨d,e2,e⟩:=bind_some e;split at e;rotate_left
 .cases e
 rename_i hz;cases e;unfold go at e1;split at e1;rotate_left
 .cases e1
 rename_i ds' z;cases e1;obtain⟨u,e3,a,xs,e4,ha,fa,h0a,rr⟩:=r.sl i _ z;subst e4;refine⟨.ref a,e3,.inl ⟨rfl,xs,SqL.of ha⟩,H0,F,ψ,d,r,e2,λv H' F' g f1 fh n rv=>?_⟩;have r2:=r.grow g f1 fh n;obtain⟨u2,e5,a2,xs2,e6,ha2,fa2,h0a2,rr2⟩:=r2.sl i _ z;rw[e3] at e5;cases e5;cases e6;have ex:xs2=xs:=by have:=g a _ ha;rw[ha2] at this;cases this;rfl
 subst ex;refine⟨a,xs2,v,rfl,rfl,ha2,?_,?_⟩
 .rw[<- rr2.length];exact jq hz (by rw[sizeLine_eq];decide)
 .exact p σ _ F' f1 (n.dn r.h0) (r2.chg z e3 (rr2.append (.cons rv .nil)))
abbrev FT:=D->En->Option En
def tG (K:ja)(t:FT):TG:=λv σ H Q=>∃ H0 F ψ d env',RS K H0 F H ψ σ/\Rep K F d v/\t d ψ=Ga env'/\∀ σ',RS K H0 F H env' σ'->Q σ' H
abbrev PTg (X:Cx)(tg:Expr)(t:FT):Prop:=PG X tg (tG X.K t)
theorem ztG (i:Nat){x:Str}(hN:X.N.Nodup)(hi:X.N[i]?=Ga x:=by rfl)(hx:Loc X.env.scope x:=by first|exact uj rfl|exact kG rfl)(hf:X.fn x=true\/X.env.scope.names.lookup x=Ga .local:=by first|exact .inl rfl|exact .inr rfl) :
  PTg X (.Name x pos) (λd ψ=>Ga (ψ.set i (.val d))):=by
 intro ω s σ H v u Q I r hw;refine pg_name hN hi hx hf ω s σ H v u Q I r ?_;obtain⟨H0,F,ψ,d,env',rs,rv,e,q⟩:=hw;cases e;have hl:i<σ.length:=by rw[I.len];exact(ji.mp hi).1
 exact q _ (rs.put hl rv)
def forD (t:FT)(body:FS):List D->FS
 | [],ψ=>Ga (.nx ψ)
 | x::r,ψ=>(t x ψ).bind λe1=>(body e1).bind λo=>match o with
  | .nx e=>forD t body r e
  | .ct e=>forD t body r e
  | .bk e=>Ga (.nx e)
  | .rt d=>Ga (.rt d)
  | .ro ds=>Ga (.ro ds)
  | .rm a kvs=>Ga (.rm a kvs)
  | .rc d e=>Ga (.rc d e)
def Yields (K:ja)(J:It)(F:Hp)(items:List D):Prop:=∀ (H:Hp),Same F H->∀ i,(items.length<=i->J.stop i H) /\
 ∀ d,items[i]?=Ga d->J.go i H/\∀ x H',J.yld i H x H'->Same H H'/\∃ F',Same F F'/\Same F' H'/\New F F' H/\Rep K F' d x
def tI (K:ja)(f:FL):TI:=λσ H R=>∃ H0 F ψ ds,RS K H0 F H ψ σ/\f ψ=Ga ds/\∀ J H' F',Same H H'->Same F F'->Same F' H'->New F F' H->(∀ F2,Same F' F2->Yields K J F2 ds)->R J H'
abbrev PIt (X:Cx)(tg iter:Expr)(f:FL):Prop:=PI X tg iter (tI X.K f)
theorem zqD {tg it:Expr}{t t':TI}(h:PI X tg it t)(m:∀ σ H Q,t' σ H Q->t σ H Q):PI X tg it t':=λω s σ H Q I q=>h ω s σ H Q I (m σ H Q q)
theorem zhN {tg iter:Expr}{body:List Stmt}{f:FL}{t:FT}{g:FS}(hp:PassesOwn (model X.prog X.w) X.A X.env X.xe)(hc:X.calm=true)(hi:PIt X tg iter f)(hg:PTg X tg t)(hb:PSts X body g)
  (hs:∀ x,foldedSetIterable iter X.env x=pure x:=by intro _;rfl):PSt X (.For tg iter body [] pos) (λψ=>(f ψ).bind λds=>forD t g ds ψ):=by
 refine zdD (ps_for hp hc hi hg hb hs) λE σ H=>?_;rintro⟨H0,F,ψ,o,r,e,p⟩;obtain⟨ds,e1,e⟩:=bind_some e;refine⟨H0,F,ψ,ds,r,e1,λJ H1 F1 g1 f1 fh1 n1 Y=>?_⟩;have p1:=p.mono f1 (n1.dn r.h0);have r1:=r.grow g1 f1 fh1 n1;refine⟨λi m σ H=>i+m=ds.length/\∃ F2 ψ,RS X.K H0 F2 H ψ σ/\Same F1 F2/\New F1 F2 H0/\forD t g (ds.drop i) ψ=Ga o,⟨ds.length,by omega,F1,ψ,r1,.refl _,.refl _ _,e⟩,?_⟩;rintro i m σ' H' ⟨hm,F2,env2,r2,f2,n2,e2⟩;have p2:=p1.mono f2 n2;obtain⟨yd,yg⟩:=Y F2 f2 H' r2.fh i;by_cases hlt:i<ds.length
 .obtain⟨go,yy⟩:=yg ds[i] (by simp[hlt]);rw[vU hlt] at e2;unfold forD at e2;obtain⟨e3,x1,x2⟩:=bind_some e2;obtain⟨o1,x3,x4⟩:=bind_some x2;refine .inr ⟨go,λσ3 H3=>i+1+(m-1)=ds.length/\∃ F3 ψ,RS X.K H0 F3 H3 ψ σ3/\Same F1 F3/\New F1 F3 H0/\forD t g (ds.drop (i+1)) ψ=Ga o,λσ3 H3 h3=>⟨m-1,by omega,h3⟩,λx Hx yl=>?_⟩;obtain⟨gx,F4,f4,fh4,n4,rx⟩:=yy x Hx yl;have r4:=r2.grow gx f4 fh4 n4;refine⟨H0,F4,env2,ds[i],e3,r4,rx,x1,λσ5 r5=>⟨H0,F4,e3,o1,r5,x3,?_⟩⟩;have p4:=p2.mono f4 (n4.dn r2.h0);cases o1 with
  | nx e5=>exact λσ6 H6 F6 f6 n6 r6=>⟨by omega,F6,e5,r6,f2.trans (f4.trans f6),n2.up ((n4.dn r2.h0).up n6),x4⟩
  | ct e5=>exact λσ6 H6 F6 f6 n6 r6=>⟨by omega,F6,e5,r6,f2.trans (f4.trans f6),n2.up ((n4.dn r2.h0).up n6),x4⟩
  | bk e5=>cases x4;exact p4
  | rt d=>cases x4;exact p4
  | ro d=>cases x4;exact p4
  | rm a d=>cases x4;exact p4
  | rc a d=>cases x4;exact p4
 .rw[qm (by omega)] at e2;cases e2;exact .inl ⟨yd (by omega),p2 σ' H' F2 (.refl _) (.refl _ _) r2⟩
def toS:D->Option (List D)
 | .list xs=>Ga xs
 | .tuple xs=>Ga xs
 | _=>Gb
theorem zqE {K:ja}{F:Hp}{a:Gj}{xs:List V}{ds:List D}(h:SqL K F a xs)(r:Reps K F ds xs):Yields K (Itl K a) F ds:=by
 intro H g i;refine⟨λhi=>⟨xs,g.seq h,by rw[<- r.length];exact hi⟩,λd hd=>?_⟩;obtain⟨v,e1,e2⟩:=r.get hd;refine⟨⟨xs,v,g.seq h,e1⟩,λx H' y=>?_⟩;obtain⟨rfl,y⟩:=y;have:=y xs (g.seq h);rw[e1] at this;cases this;exact⟨.refl _,F,.refl _,g,.refl _ _,e2⟩
theorem zr4 {K:ja}{F:Hp}{a:Gj}{xs:List V}{ds:List D}(h:SqT K F a xs)(r:Reps K F ds xs):Yields K (Itt K a) F ds:=by
 intro H g i;refine⟨λhi=>⟨xs,seqT g h,by rw[<- r.length];exact hi⟩,λd hd=>?_⟩;obtain⟨v,e1,e2⟩:=r.get hd;refine⟨⟨xs,v,seqT g h,e1⟩,λx H' y=>?_⟩;obtain⟨rfl,y⟩:=y;have:=y xs (seqT g h);rw[e1] at this;cases this;exact⟨.refl _,F,.refl _,g,.refl _ _,e2⟩
end
end T3
namespace T3
open PySem PySem.Spec PyProof.Rows L2
theorem ziF {ψ:Env}:∀ (names:List (Str×NameKind)) (cs:List (Str×Gj)),(∀ y∈names,y.2=.free->∃ c,ψ.cells.lookup y.1=Ga c)->(∀ x c,cs.lookup x=Ga c->ψ.cells.lookup x=Ga c) ->
  ∃ cl,(forIn names cs λ(y:Str×NameKind) (r:List (Str×Gj))=>(if (y.2==.free)=true then(do let a <- cellOf ψ y.1;pure (ForInStep.yield ((y.1,a)::r))) else pure (ForInStep.yield r):Sem (ForInStep (List (Str×Gj)))))=(pure cl:Sem (List (Str×Gj))) /\
   (∀ x c,cl.lookup x=Ga c->ψ.cells.lookup x=Ga c)/\(∀ x,(x,j0)∈names->∃ c,cl.lookup x=Ga c)/\∀ x c,cs.lookup x=Ga c->∃ c',cl.lookup x=Ga c'
 | [],cs,_,h2=>⟨cs,rfl,h2,λx hx=>by simp at hx,λx c h=>⟨c,h⟩⟩
 | (n,k)::r,cs,h1,h2=>by
  have h1':∀ y∈r,y.2=.free->∃ c,ψ.cells.lookup y.1=Ga c:=λy hy=>h1 y (je _ hy);by_cases hk:k=.free
  .obtain⟨c,hc⟩:=h1 (n,k) jg hk;have h2':∀ x c',((n,c)::cs).lookup x=Ga c'->ψ.cells.lookup x=Ga c':=λx c' h=>by
    rw[jY] at h;cases hx:x==n with
    | true=>rw[hx] at h;cases h;rw[beq_iff_eq.mp hx];exact hc
    | false=>rw[hx] at h;exact h2 x c' h
   obtain⟨cl,e,a,b,d⟩:=ziF r ((n,c)::cs) h1' h2';refine⟨cl,?_,a,λx hx=>?_,λx c' h=>?_⟩
   .rw[Jv];have hb:(k==j0)=true:=by simp[hk]
    simp only[hb,if_true];have hcell:cellOf ψ n=pure c:=by unfold cellOf;rw[hc]
    rw[hcell];exact e
   .rcases jt.mp hx with z|z
    .cases z;exact d n c (by simp[jY])
    .exact b x z
   .cases hx:x==n with
    | true=>exact d x c (by rw[jY,hx])
    | false=>exact d x c' (by rw[jY,hx];exact h)
  .obtain⟨cl,e,a,b,d⟩:=ziF r cs h1' h2;refine⟨cl,?_,a,λx hx=>?_,d⟩
   .rw[Jv];have hb:(k==j0)=false:=by simpa using hk
    simp only[hb,ub,if_false];exact e
   .rcases jt.mp hx with z|z
    .cases z;exact absurd rfl hk
    .exact b x z
theorem zjN {scope:Scope}{ψ:Env}:closureFor scope ψ=(forIn scope.names [] λ(y:Str×NameKind) (r:List (Str×Gj))=>(if (y.2==.free)=true then(do let a <- cellOf ψ y.1;pure (ForInStep.yield ((y.1,a)::r))) else pure (ForInStep.yield r):Sem (ForInStep (List (Str×Gj))))) >>= pure:=by
 unfold closureFor;rfl
theorem zhO {ψ:Env}:∀ {names:List (Str×NameKind)} {x:Str},names.lookup x=Ga .free ->
  (names.map λ(n,k)=>if (k==j0&&ψ.scope.kind==.function&&ψ.kindOf n==Ga .cell) then(n,ve) else(n,k)).lookup x=Ga .cell \/
  (names.map λ(n,k)=>if (k==j0&&ψ.scope.kind==.function&&ψ.kindOf n==Ga .cell) then(n,ve) else(n,k)).lookup x=Ga .free
 | [],_,h=>by simp at h
 | (n,k)::r,x,h=>by
  have ih:=@zhO ψ r x;show List.lookup x ((if (k==j0&&ψ.scope.kind==.function&&ψ.kindOf n==Ga .cell)=true then(n,ve) else(n,k))::_)=_\/List.lookup x ((if (k==j0&&ψ.scope.kind==.function&&ψ.kindOf n==Ga .cell)=true then(n,ve) else(n,k))::_)=_;cases hx:x==n with
  | true =>
   simp only[jY,hx] at h;cases h;by_cases hc:(j0==j0&&ψ.scope.kind==.function&&ψ.kindOf n==Ga .cell)=true
   .rw[Ge hc];simp[jY,hx]
   .rw[Gf hc];simp[jY,hx]
  | false =>
   simp only[jY,hx] at h;by_cases hc:(k==j0&&ψ.scope.kind==.function&&ψ.kindOf n==Ga .cell)=true
   .rw[Ge hc];simp only[jY,hx];exact ih h
   .rw[Gf hc];simp only[jY,hx];exact ih h
structure CompSc (N:List Str)(osc:Scope)(scope:Scope)(x:Str)(fr:List Str)(ix:List Nat):Prop where
 kind:scope.kind=.function
 nocell:∀ y∈scope.names,y.2≠.cell
 locs:∀ y∈scope.names,y.2=.local->scope.names.lookup y.1=Ga .local
 tgt:scope.names.lookup x=Ga .local
 outs:∀ y∈scope.names,y.2=.free->osc.names.lookup y.1=Ga .cell\/osc.names.lookup y.1=Ga .free
 free:∀ y∈fr,scope.names.lookup y=Ga .free
 len:fr.length=ix.length
 at_:∀ (j i:Nat) (y:Str),ix[j]?=Ga i->fr[j]?=Ga y->N[i]?=Ga y
 apart:ix.Nodup
def prj (ix:List Nat)(σ:St):St:=Gb::ix.map λi=>(σ[i]?).join
def cxComp (X:Cx)(scope:Scope)(cl:List (Str×Gj))(C:Gj)(N':List Str)(s:Gh)(H:Hp)(fp:List Gj)(ω:List (Gj×Obj)):Cx :=
 { X with N:=N',s₀:=s,H₀:=H,env:=compEnvC scope cl C X.env,outer:=X.stack,ex:=fp,fn:=λ_=>false,pn:=X.pn++ω,xe:=λ_ _=>False }
def CompW (J:It)(g:TG)(tc:TT)(te:TE)(D0:Gj)(σ:St)(H:Hp)(Qv:Hp->Prop):Prop:=∃ W:Nat->Nat->St->Hp->Prop,(∃ m,W 0 m σ H)/\∀ i m σ H,W i m σ H ->
 (J.stop i H/\Qv H)\/(J.go i H/\∃ N:St->Hp->Prop,(∀ σ' H',N σ' H'->∃ m',m'<m/\W (i+1) m' σ' H') /\
  ∀ x H',J.yld i H x H'->g x σ H' λσ2 H2=>tc σ2 H2 λb H3=>if b=true then te σ2 H3 λy H4=>∃ ys,H4 D0=Ga (.lst ys)/\ys.length<sizeLine/\N σ2 (upd H4 D0 (.lst (ys++[y]))) else N σ2 H3)
def PIf (X:Cx):List Expr->TT->Prop
 | [],t=>t=λ_ H Q=>Q true H
 | [c],t=>PT X c t
 | _,_=>False
section
variable {X:Cx}{ω:List (Gj×Obj)}{σ:St}{H2:Hp}{s2:Gh}{elt iter:Expr}{x:Str}{px pos:Pos}{ifs:List Expr}{scope:Scope}{cl:List (Str×Gj)}{fr:List Str}{ix:List Nat}
theorem zo8 {E:Gg->Gh->Prop}(S:CompSc X.N X.env.scope scope x fr ix)(hl1:∀ x c,cl.lookup x=Ga c->X.env.cells.lookup x=Ga c)(hl2:∀ x,(x,j0)∈scope.names->∃ c,cl.lookup x=Ga c)
  {it:Gj} {fp:List Gj} {tn:Nat->Heap->Prop} {J:It} (I:Inv X ω σ H2 s2) (T:Turn X.prog X.w X.K (.Name x px) J fp it tn) (st:tn 0 s2.heap) (hf:∀ b∈fp,FpOk X ω H2 b) (hc:X.calm=true)
  {Qv:Gj->Hp->Prop} {g:TG} {tc:TT} {te:TE}
  (hblk:∀ C s H,PG (cxComp X scope cl C (x::fr) s H fp ω) (.Name x px) g/\PIf (cxComp X scope cl C (x::fr) s H fp ω) ifs tc/\PE (cxComp X scope cl C (x::fr) s H fp ω) elt te)
  (hW:∀ D0,H2 D0=Gb->CompW J g tc te D0 (prj ix σ) (upd H2 D0 (.lst [])) (Qv D0))
  {RR:Gg->Gj->Result->Gh->Prop}
  (hRR:∀ D0 C s' H',Inv X ω σ H' s'->s2.heap.objs.size<=C->(∃ m,s'.heap.Ns C m)->H' C=Gb->Qv D0 H'->RR (.ref D0) C (.ok .next) s') :
  wpAny (model X.prog X.w) X.A (newList []) (λacc s3=>wpAny (model X.prog X.w) X.A (newFunctionEnv scope X.env.globals cl [] X.env.qual Gb .none (Ga X.env)) (λcenv s4 =>
   codeAny (model X.prog X.w) X.A (.compStart (.ListComp elt [⟨.Name x px,iter,ifs,0⟩] scope pos) 0 (.ref it) acc { cenv with scope:=relabel scope X.env }) (RR acc cenv.locals) s4) E s3) E s2:=by
 have hD0:H2 s2.heap.objs.size=Gb:=I.fresh;obtain⟨W,⟨m0,w0⟩,turn⟩:=hW s2.heap.objs.size hD0;have I3:=I.lnew (t':=s2.toks) (ys:=[]) (its:=[]) .nil (j8 _);refine wpAny_newList (wpAny_newFunctionEnv S.nocell (by intro y hy;simp at hy) (λh1 hns hsb=>?_) S.kind);dsimp only at hns hsb ⊢;generalize hHp:s2.heap.push { cls:=.type "list",dict:=Gb,data:=.seq ([]:List Gg).toArray }=P2 at hns hsb I3 ⊢;have hC:P2.objs.size=s2.heap.objs.size+1:=by rw[<- hHp,qM]
 have keep:∀ b o,P2.get? b=Ga o->h1.get? b=Ga o:=λb o e=>hsb.extBut b o (jK (jm e)) (jd _ e);have neC:∀ b o,P2.get? b=Ga o->b≠P2.objs.size:=λb o e=>jK (jm e);have keep2:∀ b o,s2.heap.get? b=Ga o->P2.get? b=Ga o:=λb o e=>by rw[<- hHp];exact jd _ e
 have fpo:∀ b∈fp,∃ o,s2.heap.get? b=Ga o/\∀ v,o.data≠.cell v:=λb hb=>T.obj 0 _ st b hb;have fpC:∀ b∈fp,b≠P2.objs.size:=λb hb=>by obtain⟨o,e,_⟩:=fpo b hb;exact neC b o (keep2 b o e)
 have fpD:∀ b∈fp,b≠s2.heap.objs.size:=λb hb=>by obtain⟨o,e,_⟩:=fpo b hb;exact jK (jm e)
 have fpS:∀ b∈fp,b∉frs X.stack:=λb hb z=>by
  obtain⟨_,f1,f2,_⟩:=hf b hb;rcases jt.mp (I.stkSub b z) with q|q
  .exact f1 q
  .exact f2 q
 have cellK:∀ x c,cl.lookup x=Ga c->∃ v,P2.IsCell c v:=λx c e=>by
  obtain⟨v,o,ho,hd⟩:=I.cell x c (hl1 x c e);exact⟨v,o,keep2 c o ho,hd⟩
 have okB:(cxComp X scope cl P2.objs.size (x::fr) { s2 with heap:=P2 } (upd H2 s2.heap.objs.size (.lst [])) fp ω).Ok:=by
  refine⟨I.ok.mod,by show(relabel scope X.env).kind=_;exact S.kind,I.ok.glob,I.ok.blt,jk _,λy z c e1 e2=>?_,λy hy=>?_,λy c hfn _=>?_,I.ok.hd,I.ok.frames,.inl rfl,λb hb=>⟨fpC b hb,λy c e=>?_⟩,λb o e=>?_,?_,λb o e hb=>?_,fpS,I3.stack,I3.stkFree⟩
  .exact I.ok.inj y z c (hl1 y c e1) (hl1 z c e2)
  .
   have hy':(relabel scope X.env).names.lookup y=Ga .cell\/(relabel scope X.env).names.lookup y=Ga .free:=hy;have mem:(y,j0)∈scope.names:=by
    have hfind:∀ (names:List (Str×NameKind)),(∀ z∈names,z.2≠.cell)->((names.map λ(n,k)=>if (k==j0&&X.env.scope.kind==.function&&X.env.kindOf n==Ga .cell) then(n,ve) else(n,k)).lookup y=Ga .cell \/
      (names.map λ(n,k)=>if (k==j0&&X.env.scope.kind==.function&&X.env.kindOf n==Ga .cell) then(n,ve) else(n,k)).lookup y=Ga .free)->(y,j0)∈names:=by
     intro names;induction names with
     | nil=>intro _ h;simp at h
     | cons p r ih =>
      obtain⟨n,k⟩:=p;intro hn h;have ih':=ih (λz hz=>hn z (je _ hz));have hk:k≠.cell:=hn (n,k) jg;rw[jQ] at h;dsimp only at h;by_cases hcnd:(k==j0&&X.env.scope.kind==.function&&X.env.kindOf n==Ga .cell)=true
      .rw[Ge hcnd] at h;have hkf:k=.free:=by simp only[jI,beq_iff_eq] at hcnd;exact hcnd.1.1
       cases hx:y==n with
       | true=>rw[beq_iff_eq.mp hx,hkf];exact jg
       | false =>
        rw[jY,hx] at h;exact je _ (ih' h)
      .rw[Gf hcnd] at h;cases hx:y==n with
       | true =>
        rw[jY,hx] at h;rcases h with h|h
        .exact absurd (jE h) hk
        .rw[beq_iff_eq.mp hx,<- jE h];exact jg
       | false =>
        rw[jY,hx] at h;exact je _ (ih' h)
    exact hfind scope.names S.nocell hy'
   exact hl2 y mem
  .cases hfn
  .obtain⟨_,_,_,_,f4,_⟩:=hf b hb;exact f4 y c (hl1 y c e)
  .obtain⟨e1,e2⟩:=I3.bs b o e;exact⟨e1,e2⟩
  .exact jn I.ok.bsz I3.sz
  .obtain⟨_,_,_,f3,_⟩:=hf b hb;rcases f3 with z|z
   .exact I.ok.noex b o e z
   .exact absurd (jq (jm e) (jn I.ok.bsz z)) (jP _)
 have i4:Inv (cxComp X scope cl P2.objs.size (x::fr) { s2 with heap:=P2 } (upd H2 s2.heap.objs.size (.lst [])) fp ω) [] (prj ix σ) (upd H2 s2.heap.objs.size (.lst [])) { s2 with heap:=h1,toks:=s2.toks+([]:List (Str×Gg)).length }:=by
  refine⟨okB,rfl,I.bare,Un.kept keep,⟨_,hns,λi y v e1 e2 e3=>?_⟩,λy c e=>?_,?_,λy c e=>?_,λp hp=>?_,I3.hok.kept keep,?_⟩
  .cases i with
   | zero=>simp[prj] at e2
   | succ j =>
    have e1':fr[j]?=Ga y:=by simpa [cxComp] using e1
    have hj:j<ix.length:=by rw[<- S.len];exact(ji.mp e1').1
    have eix:ix[j]?=Ga ix[j]:=jw hj;have e2':(σ[ix[j]]?).join=Ga v:=by simpa [prj,eix] using e2
    have e2'':σ[ix[j]]?=Ga (Ga v):=by
     cases z:σ[ix[j]]? with
     | none=>rw[z] at e2';cases e2'
     | some w=>rw[z] at e2';cases e2';rfl
    have hN:=S.at_ j ix[j] y eix e1';have hfree:=S.free y (ky e1');have hmem:(y,j0)∈scope.names:=kC hfree;have hout:=S.outs _ hmem rfl;obtain⟨m,hn,hl⟩:=I.loc;obtain⟨u,ru,lk⟩:=hl ix[j] y v hN e2'' (hout.elim (λz=>.inr (.inl z)) λz=>.inr (.inr z));refine⟨u,ru,.inr ?_⟩;rcases lk with ⟨k,_⟩|⟨k,c,ec,hcell⟩
    .exfalso;have k':X.env.scope.names.lookup y=Ga .local:=k;rcases hout with z|z
     .rw[z] at k';cases k'
     .rw[z] at k';cases k'
    .obtain⟨c',ec'⟩:=hl2 y hmem;have:c'=c:=by have:=hl1 y c' ec';rw[ec] at this;cases this;rfl
     subst this;obtain⟨o,ho,hd⟩:=hcell;exact⟨zhO (ψ:=X.env) hfree,c',ec',o,keep _ o (keep2 _ o ho),hd⟩
  .obtain⟨v,o,ho,hd⟩:=cellK y c e;exact⟨v,o,keep _ o ho,hd⟩
  .show upd H2 s2.heap.objs.size (.lst []) P2.objs.size=Gb;exact I3.hok.fresh (jk _)
  .exact I3.freeC y c (hl1 y c e)
  .have hp':p∈X.pn++ω:=by simpa [cxComp] using hp
   obtain⟨e,n,ne,nf,d⟩:=I3.pin p hp';refine⟨keep _ _ e,n,neC _ _ e,λz=>?_,d⟩;rcases jt.mp (I.stkSub _ z) with q|q
   .exact ne q
   .exact nf q
  .simp[prj,cxComp,S.len]
 obtain⟨hg,hif,he⟩:=hblk P2.objs.size { s2 with heap:=P2 } (upd H2 s2.heap.objs.size (.lst []));generalize hX':cxComp X scope cl P2.objs.size (x::fr) { s2 with heap:=P2 } (upd H2 s2.heap.objs.size (.lst [])) fp ω=X' at okB i4 hg hif he;have xA:X'.A=X.A:=by rw[<- hX'];rfl
 have xP:X'.prog=X.prog:=by rw[<- hX'];rfl
 have xw:X'.w=X.w:=by rw[<- hX'];rfl
 have xK:X'.K=X.K:=by rw[<- hX'];rfl
 have xc:X'.calm=true:=by rw[<- hX'];exact hc
 have xe:X'.env=compEnvC scope cl P2.objs.size X.env:=by rw[<- hX'];rfl
 have xx:∀ v s,X'.xe v s->False:=by rw[<- hX'];exact λ_ _ z=>z
 have stat:∀ {H':Hp},(∀ b∈fp,H' b=Gb)->∀ b∈fp,FpOk X' [] H' b:=λhn b hb=>by
  obtain⟨_,f1,f2,f3,f4,f5⟩:=hf b hb;refine⟨hn b hb,?_,?_,?_,?_,?_⟩
  .rw[xe];exact fpC b hb
  .rw[<- hX'];exact fpS b hb
  .rw[<- hX'];exact .inl hb
  .rw[<- hX'];exact λy c e=>f4 y c (hl1 y c e)
  .rw[<- hX'];intro p hp;exact f5 p (by simpa [cxComp] using hp)
 have st1:tn 0 h1:=T.keep 0 _ _ st λb hb o e=>keep b o (keep2 b o e);have fr0:∀ b∈fp,upd H2 s2.heap.objs.size (.lst []) b=Gb:=λb hb=>by rw[upd_ne (fpD b hb)];exact(hf b hb).1
 have loop:∀ s4:Gh,s4={ s2 with heap:=h1,toks:=s2.toks+([]:List (Str×Gg)).length } ->
   codeAny (model X.prog X.w) X.A (.compLoop (.ListComp elt [⟨.Name x px,iter,ifs,0⟩] scope pos) 0 (.ref it) (.ref s2.heap.objs.size) (compEnvC scope cl P2.objs.size X.env)) (RR (.ref s2.heap.objs.size) P2.objs.size) s4:=by
  rintro s4 rfl;refine codeAny_compLoop_tests (λn s'=>∃ i σ' H',Inv X' [] σ' H' s'/\tn i s'.heap/\(∀ b∈fp,H' b=Gb)/\W i n σ' H') ?_ m0 ⟨0,_,_,i4,st1,fr0,w0⟩;rintro n s5 ⟨i,σ5,H5,I5,st5,fr5,w5⟩;rcases turn i n σ5 H5 w5 with ⟨stop,qn⟩|⟨go,N,hN,step⟩
  .have dn:=T.done X' xP xw xK xc i [] s5 σ5 H5 (λ_ _=>False) I5 (stat fr5) st5 stop;rw[xA] at dn;refine wpAny_mono dn (λr s6 ⟨hr,I6⟩=>?_) λ_ _ z=>z.elim;subst hr;have base6:Un (frs X.stack) fp (upd H2 s2.heap.objs.size (.lst [])) H5 P2 s6.heap:=by have:=I6.base;rw[<- hX'] at this;exact this
   have os6:s6.os=s2.os:=by have:=I6.os;rw[<- hX'] at this;exact this
   have hok6:HOk X.prog X.w H5 s6.heap:=by have:=I6.hok;rw[xP,xw] at this;exact this
   have I7:Inv X ω σ H5 s6:=Inv.call' (s:={ s2 with heap:=P2,toks:=s2.toks }) I3 os6 base6 hok6 I6.bare λb hb=>by
    obtain⟨_,f1,_,f3,f4,f5⟩:=hf b hb;exact⟨f3,f1,f4,f5⟩
   refine hRR _ _ s6 H5 I7 (by rw[hC];exact Nat.le_succ _) ?_ ?_ qn
   .obtain⟨m,hm,_⟩:=I6.loc;rw[xe] at hm;exact⟨m,hm⟩
   .have:=I6.free;rw[xe] at this;exact this
  .have itm:=T.item X' xP xw xK xc i [] s5 σ5 H5 (λ_ _=>False) I5 (stat fr5) st5 go;rw[xA] at itm;refine wpAny_mono itm (λr s6 ⟨u,hr,h6⟩=>?_) λ_ _ z=>z.elim;subst hr;show wpAny _ _ ((letOwnedTupleGo (.Name x px) (.ref it) u) >>= λ_=>assign (.Name x px) (compEnvC scope cl P2.objs.size X.env) u) _ _ _;refine wpAny_bind (wpAny_mono h6 (λ_ s7 ⟨xv,H7,I7,r7,y7,st7,fr7⟩=>?_) λ_ _ z=>z.elim);have I7':=I7.pinned (stat fr7) (T.obj _ _ st7);have stepx:=step xv H7 y7;have asg:=hg _ s7 σ5 H7 xv u _ I7' r7 stepx;rw[xA,xP,xw,xe] at asg;refine wpAny_mono asg (λ_ s8 ⟨σ8,H8,I8,q8⟩=>?_) λ_ _ z=>(xx _ _ z).elim;have again:∀ {H9:Hp} {s9:Gh},Inv X' ([]++pinsAt fp s7.heap) σ8 H9 s9->N σ8 H9->∃ m,m<n/\∃ i σ' H',Inv X' [] σ' H' s9/\tn i s9.heap/\(∀ b∈fp,H' b=Gb)/\W i m σ' H':=λ{H9 s9} I9 n9=>by
    obtain⟨m',hm,w9⟩:=hN σ8 H9 n9;refine⟨m',hm,i+1,σ8,H9,I9.unpinned,T.keep _ _ _ st7 λb hb o e=>(I9.pin (b,o) (jS _ (jS _ (mem_pinsAt hb e)))).1,λb hb=>?_,w9⟩;obtain⟨o,e,d⟩:=T.obj _ _ st7 b hb;exact(I9.pin (b,o) (jS _ (jS _ (mem_pinsAt hb e)))).2.1
   have fin:∀ (ok:Bool) (H9:Hp) (s9:Gh),Inv X' ([]++pinsAt fp s7.heap) σ8 H9 s9->(if ok=true then te σ8 H9 λy H4=>∃ ys,H4 s2.heap.objs.size=Ga (.lst ys)/\ys.length<sizeLine/\N σ8 (upd H4 s2.heap.objs.size (.lst (ys++[y]))) else N σ8 H9) ->
     if ok=true then wpAny (model X.prog X.w) X.A (eval elt (compEnvC scope cl P2.objs.size X.env)) (λxv s10=>wpAny (model X.prog X.w) X.A (call (.builtin "list.append") [.ref s2.heap.objs.size,xv]) (λ_ s11=>∃ m,m<n/\∃ i σ' H',Inv X' [] σ' H' s11/\tn i s11.heap/\(∀ b∈fp,H' b=Gb)/\W i m σ' H')
      (notedBy (model X.prog X.w) X.A (compEnvC scope cl P2.objs.size X.env) λe s'=>RR (.ref s2.heap.objs.size) P2.objs.size (.error e) s') s10) (notedBy (model X.prog X.w) X.A (compEnvC scope cl P2.objs.size X.env) λe s'=>RR (.ref s2.heap.objs.size) P2.objs.size (.error e) s') s9
     else ∃ m,m<n/\∃ i σ' H',Inv X' [] σ' H' s9/\tn i s9.heap/\(∀ b∈fp,H' b=Gb)/\W i m σ' H':=by
    intro ok H9 s9 I9 q9;cases ok with
    | false =>
     rw[Gf jy] at q9 ⊢;exact again I9 q9
    | true =>
     rw[Ge rfl] at q9 ⊢;have ev:=he _ s9 σ8 H9 _ I9 q9;rw[xA,xP,xw,xe] at ev;refine wpAny_mono ev (λu s10 ⟨y,H10,I10,r10,ys,hys,hz,q10⟩=>?_) λ_ _ z=>(xx _ _ z).elim;have ap:=mt_append (X:=X') _ s10 σ8 H10 (.ref s2.heap.objs.size) [y] (.ref s2.heap.objs.size) [u] (λ_ H'=>N σ8 H') I10 rfl (.cons r10 .nil) ⟨_,ys,y,rfl,rfl,hys,hz,q10⟩;rw[xA,xP,xw] at ap;refine wpAny_mono ap (λ_ s11 ⟨_,H11,I11,_,q11⟩=>again I11 q11) λ_ _ z=>(xx _ _ z).elim
   match ifs,hif with
   | [],hif=>exact wpAny_tests_nil (by
     have hif':tc=λ_ H Q=>Q true H:=hif;rw[hif'] at q8;exact fin true H8 s8 I8 q8)
   | [c],hif =>
    have tst:=(show PT X' c tc from hif) _ s8 σ8 H8 _ I8 q8;rw[xA,xP,xw,xe] at tst;exact wpAny_tests_one (wpAny_mono tst (λok s9 ⟨H9,I9,q9⟩=>fin ok H9 s9 I9 q9) λ_ _ z=>(xx _ _ z).elim)
   | _::_::_,hif=>exact hif.elim
 exact codeAny_compStart_list (loop _ rfl) (T.self _ 0 _ _ _ st1 (loop _ rfl))
end
end T3
namespace T3
open PySem PySem.Spec PyProof.Rows L2
def slv:Option Sl->Sl
 | some (.val d)=>.val d
 | some (.own ds)=>.own ds
 | some (.fn c)=>.fn c
 | _=>.no
def prjE (ix:List Nat)(ψ:En):En:=ix.map λ(i:Nat)=>slv ψ[i]?
def compD (fc:FB)(fe:FV)(base:En):List D->Option (List D)
 | []=>Ga []
 | x::r=>(fc (.val x::base)).bind λb=>if b then(fe (.val x::base)).bind λy=>(compD fc fe base r).bind λys=>Ga (y::ys) else compD fc fe base r
theorem RS.lend {K:ja}{H0 F H:Hp}{ψ:En}{σ:St}(r:RS K H0 F H ψ σ){a:Gj}{o:HO}(ha:H a=Gb)(pl:Pl o:=by trivial):RS K (upd H0 a o) F (upd H a o) ψ σ:=by
 have fa:=r.fh.free ha;refine⟨Same.up2 r.h0 (r.h0.free ha) ha pl,r.fh.put fa (λx u z=>by rw[ha] at z;cases z),λi s e=>?_,r.ap⟩
 .obtain⟨u,e1,q⟩:=r.sl i s e;refine⟨u,e1,?_⟩;cases s with
  | no=>trivial
  | val d=>exact q
  | own ds=>obtain⟨b,xs,e2,hb,fb,h0b,rr⟩:=q;have n:=ne_of_none hb ha;exact⟨b,xs,e2,by rw[upd_ne n];exact hb,fb,by rw[upd_ne n];exact h0b,rr⟩
  | owk b ds=>obtain⟨xs,e2,hb,fb,h0b,rr⟩:=q;have n:=ne_of_none hb ha;exact⟨xs,e2,by rw[upd_ne n];exact hb,fb,by rw[upd_ne n];exact h0b,rr⟩
  | dic ks=>obtain⟨b,as,ep,e2,hb,fb,h0b,rr⟩:=q;have n:=ne_of_none hb ha;exact⟨b,as,ep,e2,by rw[upd_ne n];exact hb,fb,by rw[upd_ne n];exact h0b,rr⟩
  | dki oa kvs=>obtain⟨b,ws,ep,e2,hb,fb,h0b,rr⟩:=q;have n:=ne_of_none hb ha;exact⟨b,ws,ep,e2,by rw[upd_ne n];exact hb,fb,by rw[upd_ne n];exact h0b,rr⟩
  | tab P=>obtain⟨ps,q,g⟩:=q;exact⟨ps,by rw[upd_ne (ne_of_none q (r.h0.free ha))];exact q,g.updG λx u z=>by rw[r.h0.free ha] at z;cases z⟩
  | fn c=>obtain⟨g,e,q⟩:=q;exact⟨g,e,c.mono _ _ _ _ _ (.refl _) (Fz.upd λx u z=>by rw[ha] at z;cases z) q⟩
theorem GoodT.swp {H:Hp}{a:Gj}{o o':HO}(p:Pl o){l:List Gg}(g:GoodT (upd H a o) l):GoodT (upd H a o') l :=
 ⟨g.1,λpos cv e=>by
  obtain⟨c,x,vs,v,e1,e2,e3⟩:=g.2 pos cv e;have ne:c≠a:=λz=>by subst z;rw[upd_same] at e2;cases e2;exact p
  rw[upd_ne ne] at e2;exact⟨c,x,vs,v,e1,by rw[upd_ne ne];exact e2,e3⟩⟩
theorem RS.swap {K:ja}{H0 F H:Hp}{ψ:En}{σ:St}{a:Gj}{o o':HO}(r:RS K (upd H0 a o) F H ψ σ)(fa:F a=Gb)(pl:Pl o:=by trivial)(pl':Pl o':=by trivial):RS K (upd H0 a o') F (upd H a o') ψ σ:=by
 refine⟨r.h0.swp pl pl',r.fh.put fa (pl.nf (r.h0.pl upd_same pl)),λi s e=>?_,r.ap⟩
 .obtain⟨u,e1,q⟩:=r.sl i s e;have ne:∀ b,upd H0 a o b=Gb->b≠a:=λb h z=>by subst z;rw[upd_same] at h;cases h
  refine⟨u,e1,?_⟩;cases s with
  | no=>trivial
  | val d=>exact q
  | own ds=>obtain⟨b,xs,e2,hb,fb,h0b,rr⟩:=q;have n:=ne b h0b;exact⟨b,xs,e2,by rw[upd_ne n];exact hb,fb,by rw[upd_ne n] at h0b ⊢;exact h0b,rr⟩
  | owk b ds=>obtain⟨xs,e2,hb,fb,h0b,rr⟩:=q;have n:=ne b h0b;exact⟨xs,e2,by rw[upd_ne n];exact hb,fb,by rw[upd_ne n] at h0b ⊢;exact h0b,rr⟩
  | dic ks=>obtain⟨b,as,ep,e2,hb,fb,h0b,rr⟩:=q;have n:=ne b h0b;exact⟨b,as,ep,e2,by rw[upd_ne n];exact hb,fb,by rw[upd_ne n] at h0b ⊢;exact h0b,rr⟩
  | dki oa kvs=>obtain⟨b,ws,ep,e2,hb,fb,h0b,rr⟩:=q;have n:=ne b h0b;exact⟨b,ws,ep,e2,by rw[upd_ne n];exact hb,fb,by rw[upd_ne n] at h0b ⊢;exact h0b,rr⟩
  | tab P =>
   obtain⟨ps,q,g⟩:=q;have n:P≠a:=λz=>by subst z;rw[upd_same] at q;cases q;exact pl
   exact⟨ps,by rw[upd_ne n] at q ⊢;exact q,g.swp pl⟩
  | fn c=>obtain⟨g,e,q⟩:=q;exact⟨g,e,c.mono _ _ _ _ _ (.refl _) (Fz.upd (pl.nf (r.h0.pl upd_same pl))) q⟩
theorem zrA {ix:List Nat}{ψ:En}{j:Nat}{s:Sl}(h:(prjE ix ψ)[j]?=Ga s)(o:ownS s=true):∃ k ds,ix[j]?=Ga k/\ψ[k]?=Ga (.own ds)/\s=.own ds:=by
 unfold prjE at h;rw[jz] at h;cases z:ix[j]? with
 | none=>rw[z] at h;cases h
 | some k =>
  rw[z] at h;have h2:=jE h;unfold slv at h2;dsimp only at h2;split at h2
  .subst h2;cases o
  .rename_i ds hd;subst h2;exact⟨k,ds,rfl,hd,rfl⟩
  .subst h2;cases o
  .subst h2;cases o
theorem RS.prj {K:ja}{H0 F H:Hp}{ψ:En}{σ:St}(r:RS K H0 F H ψ σ)(ix:List Nat)(nd:ix.Nodup):RS K H0 F H (.no::prjE ix ψ) (T3.prj ix σ):=by
 refine⟨r.h0,r.fh,λi s e=>?_,λi j a s t o1 o2 e1 e2 e3 e4=>?_⟩
 .cases i with
  | zero=>simp at e;subst e;exact⟨Gb,rfl,trivial⟩
  | succ j =>
   have e':(prjE ix ψ)[j]?=Ga s:=by simpa using e
   unfold prjE at e';rw[jz] at e';cases z:ix[j]? with
   | none=>rw[z] at e';cases e'
   | some k =>
    rw[z] at e';have e2:=jE e';refine⟨(σ[k]?).join,by simp[T3.prj,z],?_⟩;unfold slv at e2;dsimp only at e2;split at e2
    .rename_i d hd;subst e2;obtain⟨u,e3,v,e4,rv⟩:=r.sl k _ hd;exact⟨v,by rw[e3,e4];rfl,rv⟩
    .rename_i ds hd;subst e2;obtain⟨u,e3,a,xs,e4,rv⟩:=r.sl k _ hd;exact⟨a,xs,by rw[e3,e4];rfl,rv⟩
    .rename_i c hd;subst e2;obtain⟨u,e3,f,e4,rv⟩:=r.sl k _ hd;exact⟨f,by rw[e3,e4];rfl,rv⟩
    .subst e2;trivial
 .cases i with
  | zero=>simp at e1;subst e1;cases o1
  | succ i =>
   cases j with
   | zero=>simp at e2;subst e2;cases o2
   | succ j =>
    obtain⟨k1,d1,x1,y1,z1⟩:=zrA (by simpa using e1) o1;obtain⟨k2,d2,x2,y2,z2⟩:=zrA (by simpa using e2) o2;have g1:σ[k1]?=Ga (Ga (.ref a)):=by
     obtain⟨u,e5,b,xs,e6,_⟩:=r.sl k1 _ y1;have:(T3.prj ix σ)[i+1]?=Ga ((σ[k1]?).join):=by simp[T3.prj,x1]
     rw[e3] at this;rw[e5,e6] at this ⊢;exact congrArg Ga (jE this).symm
    have g2:σ[k2]?=Ga (Ga (.ref a)):=by
     obtain⟨u,e5,b,xs,e6,_⟩:=r.sl k2 _ y2;have:(T3.prj ix σ)[j+1]?=Ga ((σ[k2]?).join):=by simp[T3.prj,x2]
     rw[e4] at this;rw[e5,e6] at this ⊢;exact congrArg Ga (jE this).symm
    have ek:k1=k2:=r.ap k1 k2 a _ _ rfl rfl y1 y2 g1 g2;subst ek;have hi:i<ix.length:=(ji.mp x1).1;have hj:j<ix.length:=(ji.mp x2).1;have:i=j:=(Jm (h₀:=hi) (h₁:=hj) nd).mp (by rw[(ji.mp x1).2,(ji.mp x2).2]);rw[this]
theorem znK {K:ja}{J:It}{H0 F1 H1:Hp}{ψ:En}{σ:St}{ds rs:List D}{fc:FB}{fe:FV}{ix:List Nat}{tc:TT}{D0:Gj}{Qv:Hp->Prop}{g:TG}
  (hg:∀ v σ H Q,tG K (λd ψ=>Ga (ψ.set 0 (.val d))) v σ H Q->g v σ H Q)
  (htc:∀ σ H Q,tT K fc σ H Q->tc σ H Q) (nd:ix.Nodup) (r:RS K H0 F1 H1 ψ σ) (Y:∀ F2,Same F1 F2->Yields K J F2 ds) (e:compD fc fe (prjE ix ψ) ds=Ga rs) (hz:ds.length<=1000000) (hD:H1 D0=Gb)
  (q:∀ xs H' F',Same H1 H'->Same F1 F'->Same F' H'->New F1 F' H1->F' D0=Gb->H' D0=Ga (.lst xs)->Reps K F' rs xs->Qv H') :
  CompW J g tc (tV K fe) D0 (prj ix σ) (upd H1 D0 (.lst [])) Qv:=by
 have fD:F1 D0=Gb:=r.fh.free hD;have h0D:H0 D0=Gb:=r.h0.free hD;have g0:Same H1 (upd H1 D0 (.lst [])):=Same.new hD;refine⟨λi m σ' H'=>i+m=ds.length/\∃ F2 sx don ys rest,RS K (upd H0 D0 (.lst ys)) F2 H' (sx::prjE ix ψ) σ'/\Same F1 F2/\New F1 F2 H1/\Same H1 H'/\F2 D0=Gb/\H' D0=Ga (.lst ys)/\Reps K F2 don ys/\don.length<=i /\
  compD fc fe (prjE ix ψ) (ds.drop i)=Ga rest/\rs=don++rest,⟨ds.length,by omega,F1,.no,[],[],rs,(r.prj ix nd).lend hD,.refl _,.refl _ _,g0,fD,upd_same,.nil,jk _,e,rfl⟩,?_⟩
 rintro i m σ' H' ⟨hm,F2,sx,don,ys,rest,r2,f2,n2,g2,fd2,hd2,rr2,hl2,e2,ers⟩;obtain⟨yd,yg⟩:=Y F2 f2 H' r2.fh i;by_cases hlt:i<ds.length
 .obtain⟨go,yy⟩:=yg ds[i] (by simp[hlt]);rw[vU hlt] at e2;unfold compD at e2;obtain⟨b,x1,x2⟩:=bind_some e2;refine .inr ⟨go,λσ3 H3=>i+1+(m-1)=ds.length/\∃ F2 sx don ys rest,RS K (upd H0 D0 (.lst ys)) F2 H3 (sx::prjE ix ψ) σ3/\Same F1 F2/\New F1 F2 H1/\Same H1 H3/\F2 D0=Gb/\H3 D0=Ga (.lst ys)/\Reps K F2 don ys/\don.length<=i+1 /\
   compD fc fe (prjE ix ψ) (ds.drop (i+1))=Ga rest/\rs=don++rest,λσ3 H3 h3=>⟨m-1,by omega,h3⟩,λx Hx yl=>?_⟩
  obtain⟨gx,F4,f4,fh4,n4,rx⟩:=yy x Hx yl;have r4:=r2.grow gx f4 fh4 n4;have noD:∀ {F F' H:Hp},F D0=Gb->(∃ o,H D0=Ga o)->New F F' H->F' D0=Gb:=λ{F F' H} a ⟨o,b⟩ n=>by
   cases z:F' D0 with
   | none=>rfl
   | some o'=>have:=n D0 o' z a;rw[b] at this;cases this
  have fd4:F4 D0=Gb:=noD fd2 ⟨_,hd2⟩ n4;refine hg _ _ _ _ ⟨upd H0 D0 (.lst ys),F4,sx::prjE ix ψ,ds[i],.val ds[i]::prjE ix ψ,r4,rx,rfl,λσ5 r5=>?_⟩;refine htc _ _ _ ⟨upd H0 D0 (.lst ys),F4,.val ds[i]::prjE ix ψ,b,r5,x1,λH6 g6=>?_⟩;have r6:=r5.later g6;have hd6:H6 D0=Ga (.lst ys):=g6 _ _ (gx _ _ hd2);have s6:Same H1 H6:=g2.trans (gx.trans g6);have nn4:New F1 F4 H1:=n2.trans n4 g2;cases b with
  | true =>
   obtain⟨y,x3,x4⟩:=bind_some x2;obtain⟨ys',x5,x6⟩:=bind_some x4;cases x6;refine iteT ⟨upd H0 D0 (.lst ys),F4,.val ds[i]::prjE ix ψ,y,r6,x3,λv H7 F7 g7 f7 fh7 n7 rv=>⟨ys,g7 _ _ hd6,?_,by omega,F7,.val ds[i],don++[y],ys++[v],ys',?_,f2.trans (f4.trans f7),?_,?_,noD fd4 ⟨_,hd6⟩ n7,upd_same,?_,?_,x5,?_⟩⟩
   .rw[<- rr2.length];have:don.length<1000000:=by omega
    exact jq this (by rw[sizeLine_eq];decide)
   .exact(r6.grow g7 f7 fh7 n7).swap (noD fd4 ⟨_,hd6⟩ n7)
   .exact nn4.trans n7 s6
   .exact(s6.trans g7).put hD (Ow.nf (ob:=.lst ys) trivial (g7 _ _ hd6))
   .exact((rr2.mono f4).mono f7).append (.cons rv .nil)
   .rw[jh,jV];omega
   .rw[ers,vq];rfl
  | false =>
   exact iteF ⟨by omega,F4,.val ds[i],don,ys,rest,r6,f2.trans f4,nn4,s6,fd4,hd6,rr2.mono f4,by omega,x2,ers⟩
 .rw[qm (by omega)] at e2;cases e2;refine .inl ⟨yd (by omega),q ys H' F2 g2 f2 r2.fh n2 fd2 hd2 ?_⟩;rw[ers,j7];exact rr2
def compF (fi:FL)(fc:FB)(fe:FV)(ix:List Nat):FL:=λψ=>(fi ψ).bind λds=>if ds.length<=1000000 then compD fc fe (prjE ix ψ) ds else Gb
section
variable {X:Cx}{elt iter:Expr}{x:Str}{px pos:Pos}{ifs:List Expr}{scope:Scope}{fr:List Str}{ix:List Nat}{fi:FL}{fc:FB}{fe:FV}
def tcOf (K:ja)(ifs:List Expr)(fc:FB):TT:=match ifs with
 | []=>λ_ H Q=>Q true H
 | _=>tT K fc
structure Blk (X:Cx)(scope:Scope)(x:Str)(px:Pos)(fr:List Str)(ifs:List Expr)(elt:Expr)(fc:FB)(fe:FV):Prop where
 h:∀ cl C s H fp ω,PTg (cxComp X scope cl C (x::fr) s H fp ω) (.Name x px) (λd ψ=>Ga (ψ.set 0 (.val d))) /\
  PIf (cxComp X scope cl C (x::fr) s H fp ω) ifs (tcOf X.K ifs fc)/\PV (cxComp X scope cl C (x::fr) s H fp ω) elt fe
 hn:ifs=[]->fc=λ_=>Ga true
theorem blk0 (nd:(x::fr).Nodup)(hl:scope.names.lookup x=Ga .local)(he:∀ cl C s H fp ω,PV (cxComp X scope cl C (x::fr) s H fp ω) elt fe):Blk X scope x px fr [] elt (λ_=>Ga true) fe :=
 ⟨λcl C s H fp ω=>⟨ztG 0 nd rfl (.inl (lookup_relabel_local hl)) (.inr (lookup_relabel_local hl)),rfl,he cl C s H fp ω⟩,λ_=>rfl⟩
theorem blk1 {c:Expr}(nd:(x::fr).Nodup)(hl:scope.names.lookup x=Ga .local)(hc:∀ cl C s H fp ω,PB (cxComp X scope cl C (x::fr) s H fp ω) c fc)(he:∀ cl C s H fp ω,PV (cxComp X scope cl C (x::fr) s H fp ω) elt fe) :
  Blk X scope x px fr [c] elt fc fe :=
 ⟨λcl C s H fp ω=>⟨ztG 0 nd rfl (.inl (lookup_relabel_local hl)) (.inr (lookup_relabel_local hl)),hc cl C s H fp ω,he cl C s H fp ω⟩,λh=>nomatch h⟩
theorem Blk.tc (B:Blk X scope x px fr ifs elt fc fe):∀ σ H Q,tT X.K fc σ H Q->tcOf X.K ifs fc σ H Q:=by
 intro σ H Q h;cases ifs with
 | nil =>
  obtain⟨H0,F,ψ,b,r,e,q⟩:=h;rw[B.hn rfl] at e;cases e;exact q H (.refl _)
 | cons c r=>exact h
theorem ztH {ω:List (Gj×Obj)}{σ:St}{H:Hp}{s:Gh}(I:Inv X ω σ H s)(S:CompSc X.N X.env.scope scope x fr ix):∃ cl,closureFor scope X.env=pure cl/\(∀ x c,cl.lookup x=Ga c->X.env.cells.lookup x=Ga c)/\∀ x,(x,j0)∈scope.names->∃ c,cl.lookup x=Ga c:=by
 obtain⟨cl,e,a,b,_⟩:=ziF (ψ:=X.env) scope.names [] (λy hy hf=>I.ok.has y.1 (S.outs y hy hf)) (λx c h=>by simp at h);refine⟨cl,?_,a,b⟩;rw[zjN,e];rfl
theorem zd1 (hc:X.calm=true)(S:CompSc X.N X.env.scope scope x fr ix)(hi:PIt X (.Name x px) iter fi)(B:Blk X scope x px fr ifs elt fc fe)(hs:∀ v,foldedSetIterable iter X.env v=pure v:=by intro _;rfl) :
  PO X (.ListComp elt [⟨.Name x px,iter,ifs,0⟩] scope pos) (compF fi fc fe ix):=by
 intro ω s σ H Q I hw;obtain⟨cl,hclos,hl1,hl2⟩:=ztH I S;obtain⟨H0,F,ψ,rs,r,e,q⟩:=hw;obtain⟨ds,e1,e⟩:=bind_some e;split at e;rotate_left
 .cases e
 rename_i hz;rw[eval_ListComp];refine wpAny_comprehension_free (use:=Gb) rfl hs hclos S.kind S.locs (wpAny_mono (hi ω s σ H (λJ H1=>∃ F1,Same H H1/\Same F F1/\Same F1 H1/\New F F1 H/\∀ F2,Same F1 F2->Yields X.K J F2 ds) I ⟨H0,F,ψ,ds,r,e1,λJ H1 F1 g1 f1 fh1 n1 Y=>⟨F1,g1,f1,fh1,n1,Y⟩⟩)
  (λxv s1 h1=>wpAny_mono h1 (λitv s2 h2=>?_) λ_ _ z=>z) λ_ _ z=>z)
 obtain⟨it,fp,tn,J,H2,eit,I2,T,st2,f2,F1,g1,f1,fh1,n1,Y⟩:=h2;subst eit;refine zo8 (g:=tG X.K (λd ψ=>Ga (ψ.set 0 (.val d)))) (te:=tV X.K fe) (tc:=tcOf X.K ifs fc) (RR:=λacc C=>compPost (model X.prog X.w) X.A X.xe Gb (EP X ω σ Q) acc C) (Qv:=λD0 H'=>Q (.ref D0) H') S hl1 hl2 I2 T st2 f2 hc (λC s' H'=>B.h cl C s' H' fp ω) (λD0 hD=>?_) λD0 C s' H' I' hC hn hf hq=>?_
 .exact znK (λ_ _ _ _ h=>h) B.tc S.apart (r.grow g1 f1 fh1 n1) Y e hz hD λxs H' F' g2 f2' fh2 n2 fd hd rr=>q D0 xs H' F' (g1.trans g2) (f1.trans f2') fh2 (n1.trans n2 g1) (g1.free hD) fd hd rr
 .obtain⟨m,hm⟩:=hn;refine⟨m,hm,λh' sb=>?_⟩;have nC:∀ p o,s2.heap.get? p=Ga o->p≠C:=λp o e=>jK (jq (jm e) hC);refine⟨.ref D0,H',?_,rfl,hq⟩;refine I'.turned (it:=C) (t':=s'.toks) (λb o hb e=>sb.extBut b o hb e) hf (uN (jq I2.lt hC)) (.inr (jn I2.sz hC)) (λy c ec z=>?_) λp hp z=>?_
  .obtain⟨v,qv⟩:=I2.cell y c ec;exact absurd (jq qv.lt (by rw[z];exact hC)) (jP _)
  .exact nC _ _ (I2.pin p hp).1 z
end
end T3
namespace T3
open PySem PySem.Spec PyProof.Rows L2
section
variable {X:Cx}{elt iter:Expr}{x y:Str}{px py pos spos:Pos}{ifs:List Expr}{scope:Scope}{fr:List Str}{ix:List Nat}{fi:FL}{fc:FB}{fe:FV}
theorem zkZ (i:Nat)(hc:X.calm=true)(S:CompSc X.N X.env.scope scope x fr ix)(hit:PIt X (.Name x px) iter fi)(B:Blk X scope x px fr ifs elt fc fe)(hN:X.N.Nodup)(hi:X.N[i]?=Ga y:=by rfl)(hy:X.env.scope.names.lookup y=Ga .local:=by rfl)
  (hsw:swapsWith (.ListComp elt [⟨.Name x px,iter,ifs,0⟩] scope pos) (Ga (.Name y py)) spos.line X.env=pure true:=by rfl) (hs:∀ v,foldedSetIterable iter X.env v=pure v:=by intro _;rfl) :
  PSt X (.Assign [.Name y py] (.ListComp elt [⟨.Name x px,iter,ifs,0⟩] scope pos) spos) (λψ=>(compF fi fc fe ix ψ).bind λd=>Ga (.nx (ψ.set i (.own d)))):=by
 intro ω s σ H D I hw;obtain⟨cl,hclos,hl1,hl2⟩:=ztH I S;obtain⟨H0,F,ψ,o,r,e,p⟩:=hw;obtain⟨rs,e0,e⟩:=bind_some e;cases e;obtain⟨ds,e1,e⟩:=bind_some e0;split at e;rotate_left
 .cases e
 rename_i hz;have hl:i<σ.length:=by rw[I.len];exact(ji.mp hi).1
 rw[exec_Assign_Name_used _ _ _ _ hsw];refine wpAny_bind (wpAny_standAt (wpAny_bind ?_));show wpAny _ X.A (do let _ <- comprehension (.ListComp elt [⟨.Name x px,iter,ifs,0⟩] scope pos) scope X.env _ (newList []) false (eval iter X.env) (Ga (assign (.Name y py) X.env))) _ _ s;refine wpAny_bind (wpAny_mono (wpAny_comprehension_free (use:=Ga (assign (.Name y py) X.env)) (Q:=λ_ s'=>SP X ω D .next s') rfl hs hclos S.kind S.locs
  (wpAny_mono (hit ω s σ H (λJ H1=>∃ F1,Same H H1/\Same F F1/\Same F1 H1/\New F F1 H/\∀ F2,Same F1 F2->Yields X.K J F2 ds) I ⟨H0,F,ψ,ds,r,e1,λJ H1 F1 g1 f1 fh1 n1 Y=>⟨F1,g1,f1,fh1,n1,Y⟩⟩)
  (λxv s1 h1=>wpAny_mono h1 (λitv s2 h2=>?_) λ_ _ z=>z) λ_ _ z=>z)) (λ_ s' hq=>wpAny_pure (wpAny_pure hq)) λ_ _ z=>z)
 obtain⟨it,fp,tn,J,H2,eit,I2,T,st2,f2,F1,g1,f1,fh1,n1,Y⟩:=h2;subst eit;refine zo8 (g:=tG X.K (λd ψ=>Ga (ψ.set 0 (.val d)))) (te:=tV X.K fe) (tc:=tcOf X.K ifs fc) (RR:=λacc C=>compPost (model X.prog X.w) X.A X.xe (Ga (assign (.Name y py) X.env)) (λ_ s'=>SP X ω D .next s') acc C) (Qv:=λD0 H'=>D.nx (σ.set i (Ga (.ref D0))) H') S hl1 hl2 I2 T st2 f2 hc
  (λC s' H'=>B.h cl C s' H' fp ω) (λD0 hD=>?_) λD0 C s' H' I' hC hn hf hq=>?_
 .refine znK (λ_ _ _ _ h=>h) B.tc S.apart (r.grow g1 f1 fh1 n1) Y e hz hD λxs H' F' g2 f2' fh2 n2 fd hd rr=>?_;have nn:New F F' H:=n1.trans n2 g1;have r':=r.grow (g1.trans g2) (f1.trans f2') fh2 nn;refine p _ H' F' (f1.trans f2') (nn.dn r.h0) (r'.putO hl hd fd (r.h0.free (g1.free hD)) rr ?_);exact λj s o _ ej=>r.ne_free (g1.free hD) j s o ej
 .obtain⟨m,hm⟩:=hn;have nC:∀ p o,s2.heap.get? p=Ga o->p≠C:=λp o e=>jK (jq (jm e) hC);have cC:∀ y c,X.env.cells.lookup y=Ga c->c≠C:=λy c ec z=>by
   obtain⟨v,qv⟩:=I2.cell y c ec;exact absurd (jq qv.lt (by rw[z];exact hC)) (jP _)
  have lC:C≠X.env.locals:=uN (jq I2.lt hC);show wpAny _ X.A (assign (.Name y py) X.env (.ref D0)) _ _ _;refine wpAny_assign_Name (store_ok2 I' hN hi (.inl hy) (v:=.ref D0) rfl (λs'' I'' ⟨a,sb,ha⟩=>?_) (.inr hy));have aC:C≠a:=by
   rcases ha with z|z
   .rw[z];exact lC
   .exact(cC _ _ z).symm
  refine⟨m,hm.sameBut sb aC,λh' sb2=>⟨_,H',?_,hq⟩⟩;refine I''.turned (it:=C) (t':=s''.toks) (λb o hb e=>sb2.extBut b o hb e) hf lC (.inr (jn I2.sz hC)) cC λp hp z=>nC _ _ (I2.pin p hp).1 z
end
def frzO (i:Nat):Out->Out
 | .nx e=>.nx (frzAt i e)
 | o=>o
theorem zo9 (i:Nat){X:Cx}{st:Stmt}{g:FS}(h:PSt X st g):PSt X st (λψ=>(g ψ).bind λo=>Ga (frzO i o)):=by
 refine zdD h λE σ H=>?_;rintro⟨H0,F,ψ,o,r,e,p⟩;obtain⟨o1,e1,e2⟩:=bind_some e;cases e2;refine⟨H0,F,ψ,o1,r,e1,?_⟩;cases o1 with
 | nx e3 =>
  intro σ' H' F' f n r';obtain⟨F2,f2,n2,r2⟩:=r'.frzAt i;exact p σ' H' F2 (f.trans f2) (n.up n2) r2
 | rt d=>exact p
 | ro d=>exact p
 | rm a d=>exact p
 | rc a d=>exact p
 | bk d=>exact p
 | ct d=>exact p
section
variable {X:Cx}{tg:Expr}{pos:Pos}
theorem zBn {l:Expr}{tl:TE}(hl:PE X l tl):PI X tg l (λσ H R=>tl σ H λx H1=>∃ a,x=.ref a/\(((∃ xs,SqL X.K H1 a xs)/\R (Itl X.K a) H1)\/((∃ xs,SqT X.K H1 a xs)/\R (Itt X.K a) H1))):=by
 intro ω s σ H R I h;refine thn (hl ω s σ H _ I h) λv s1 ⟨x,H1,I1,r1,a,e,q1⟩=>?_;subst e;cases r1;rcases q1 with ⟨⟨xs,hq⟩,q⟩|⟨⟨xs,hq⟩,q⟩
 .obtain⟨its,rv,p,hz⟩:=I1.list hq;refine wpAny_pyIter_list p.isList ⟨s1.heap.objs.size,[s1.heap.objs.size],_,_,H1,rfl,I1.kept (t':=s1.toks) λb o e=>jd _ e,turn_list a _,⟨_,jA _ rfl,rfl,rfl⟩,λb hb=>?_,q⟩;cases jv.mp hb;exact I1.fpOk (jk _) I1.fresh
 .obtain⟨its,rv,p,hz⟩:=I1.tuple hq;refine wpAny_pyIter_tuple (show s1.heap.IsTuple a its.toArray from p) ⟨s1.heap.objs.size,[s1.heap.objs.size],_,_,H1,rfl,I1.kept (t':=s1.toks) λb o e=>jd _ e,turn_tuple a _,⟨_,jA _ rfl,rfl,rfl⟩,λb hb=>?_,q⟩;cases jv.mp hb;exact I1.fpOk (jk _) I1.fresh
theorem zeV {l:Expr}{f:FV}(h:PV X l f):PIt X tg l (λψ=>(f ψ).bind toS):=by
 refine zqD (zBn h) λσ H R=>?_;rintro⟨H0,F,ψ,ds,r,e,q⟩;obtain⟨d,e1,e2⟩:=bind_some e;refine⟨H0,F,ψ,d,r,e1,λv H1 F1 g1 f1 fh1 n1 rv=>?_⟩;cases rv<;>first|(cases e2;done)|skip
 .rename_i a xs ds' h1 rr;cases e2;exact⟨a,rfl,.inr ⟨⟨xs,seqT fh1 h1⟩,q _ H1 F1 g1 f1 fh1 n1 λF2 f2=>zr4 (seqT f2 h1) (rr.mono f2)⟩⟩
 .rename_i a xs ds' h1 rr;cases e2;exact⟨a,rfl,.inl ⟨⟨xs,fh1.seq h1⟩,q _ H1 F1 g1 f1 fh1 n1 λF2 f2=>zqE (f2.seq h1) (rr.mono f2)⟩⟩
def rngD (lo:Int)(n:Nat):List D:=(jf n).map λk=>.int (lo+(k:Nat))
theorem znL {K:ja}{F:Hp}{lo:Int}{n:Nat}:Yields K (Itr lo n) F (rngD lo n):=by
 intro H g i;refine⟨λhi=>(by simpa [rngD] using hi:n<=i),λd hd=>?_⟩;have hi:i<n:=by have:=(ji.mp hd).1;simpa [rngD] using this
 refine⟨hi,λx H' y=>?_⟩;obtain⟨rfl,rfl⟩:=y;have:d=.int (lo+(i:Nat)):=by
  have h2:(rngD lo n)[i]?=Ga (.int (lo+(i:Nat))):=by simp[rngD,hi]
  rw[h2] at hd;exact(jE hd).symm
 subst this;exact⟨.refl _,F,.refl _,g,.refl _ _,.int _⟩
def rng1:D->Option (List D)
 | .int j=>if -(2^62)<=j/\j<2^62 then Ga (rngD 0 j.toNat) else Gb
 | _=>Gb
def rng2:D->D->Option (List D)
 | .int i,.int j=>if -(2^62)<=i/\i<2^62/\-(2^62)<=j/\j<2^62 then Ga (rngD i (j-i).toNat) else Gb
 | _,_=>Gb
theorem zeT {a:Expr}{f:FV}{p:Pos}(hg:Gl X "range")(hm:X.mg "range"=Gb)(ha:PV X a f)(hs:starEach [a] X.env=[(false,eval a X.env)]:=by rfl):PIt X tg (.Call (.Name "range" p) [a] [] pos) (λψ=>(f ψ).bind rng1):=by
 refine zqD (pi_range1 hg hm (pa_cons ha pa_nil hs) hs) λσ H R=>?_;rintro⟨H0,F,ψ,ds,r,e,q⟩;obtain⟨d,e1,e2⟩:=bind_some e;refine⟨H0,F,ψ,d,r,e1,λv H1 F1 g1 f1 fh1 n1 rv=>?_⟩;cases rv<;>first|(cases e2;done)|skip
 rename_i j;unfold rng1 at e2;dsimp only at e2;split at e2
 .rename_i c;cases e2;exact⟨j,rfl,c.1,c.2,q _ H1 F1 g1 f1 fh1 n1 λF2 f2=>znL⟩
 .cases e2
theorem ztI {a b:Expr}{f g:FV}{p:Pos}(hg:Gl X "range")(hm:X.mg "range"=Gb)(ha:PV X a f)(hb:PV X b g)(hs:starEach [a,b] X.env=[(false,eval a X.env),(false,eval b X.env)]:=by rfl)(hs2:starEach [b] X.env=[(false,eval b X.env)]:=by rfl) :
  PIt X tg (.Call (.Name "range" p) [a,b] [] pos) (λψ=>(f ψ).bind λx=>(g ψ).bind λy=>rng2 x y):=by
 refine zqD (pi_range2 hg hm (pa_cons ha (pa_cons hb pa_nil hs2) (by rw[hs,hs2])) hs hs2) λσ H R=>?_;rintro⟨H0,F,ψ,ds,r,e,q⟩;obtain⟨d,e1,e2⟩:=bind_some e;obtain⟨d2,e3,e4⟩:=bind_some e2;refine⟨H0,F,ψ,d,r,e1,λv H1 F1 g1 f1 fh1 n1 rv=>⟨H0,F1,ψ,d2,r.grow g1 f1 fh1 n1,e3,λv2 H2 F2 g2 f2 fh2 n2 rv2=>?_⟩⟩;cases rv<;>first|(cases e4;done)|skip
 cases rv2<;>first|(cases e4;done)|skip
 rename_i i j;unfold rng2 at e4;dsimp only at e4;split at e4
 .rename_i c;cases e4;exact⟨i,j,rfl,c,q _ H2 F2 (g1.trans g2) (f1.trans f2) fh2 (n1.trans n2 g1) λF2 f2=>znL⟩
 .cases e4
end
def spV (K:ja)(fm:List D->Option D):Sp:=λvs H Q _=>∃ F ds d,Same F H/\Reps K F ds vs/\fm ds=Ga d/\∀ v H' F',Same H H'->Same F F'->Same F' H'->New F F' H->Rep K F' d v->Q v H'
def spO (K:ja)(fm:List D->Option (List D)):Sp:=λvs H Q _=>∃ F ds d,Same F H/\Reps K F ds vs/\fm ds=Ga d/\∀ a xs H' F',Same H H'->Same F F'->Same F' H'->New F F' H->H a=Gb->F' a=Gb->H' a=Ga (.lst xs)->Reps K F' d xs->Q (.ref a) H'
def startE (n:Nat)(ds:List D):En:=ds.map Sl.val++qI (n-ds.length) Sl.no
theorem RS.start {K:ja}{F H:Hp}{N:List Str}{ds:List D}{vs:List V}(g:Same F H)(r:Reps K F ds vs):RS K H F H (startE N.length ds) (start N vs):=by
 have hl:=r.length;refine⟨.refl _,g,λi s e=>?_,λi j a s t o1 o2 e1=>?_⟩
 .unfold startE at e;by_cases hi:i<ds.length
  .rw[ux (by simpa using hi),jz] at e;obtain⟨v,e1,e2⟩:=r.get (jw hi);rw[jw hi] at e;cases e;refine⟨Ga v,?_,v,rfl,e2⟩;unfold L2.start;rw[ux (by rw[jb];omega),jz,e1];rfl
  .rw[uu (by simpa using hi),uJ] at e;split at e
   .rename_i hlt;cases e;refine⟨Gb,?_,trivial⟩;unfold L2.start;rw[uu (by rw[jb];omega),uJ];rw[jb] at hlt ⊢;rw[Ge (by omega)]
   .cases e
 .exfalso;unfold startE at e1;by_cases hi:i<ds.length
  .rw[ux (by simpa using hi),jz,jw hi] at e1;cases e1;cases o1
  .rw[uu (by simpa using hi),uJ] at e1;split at e1<;>cases e1;cases o1
section
variable {P:Program}{w:World}{K:ja}{mg:Str->Option Gg}{base:Heap}{x qual:Str}{st:Stmt}{f:Gj}{fd:Gi}{N ps:List Str}{k:Nat}
theorem fnV {fm:List D->Option D}(F:Fun K x qual st f fd)(S:FnScope N ps (defScope st))(hlen:∀ ds d,fm ds=Ga d->ds.length=ps.length)
  (hb:∀ (cdv:Gg) (A:Around) (outer:List Env) (s:Gh) (H:Hp) (E:XK),Room k (A.deeper (envOfC qual (defScope st) s.heap.objs.size f cdv)) ->
   ∃ g,PSts (cxOf CX0 P w K mg base N qual (defScope st) f cdv A outer s H E).nox (defBody st) g/\∀ ds d,fm ds=Ga d->g (startE N.length ds)=Ga (.rt d)\/(∃ xs,d=.list xs/\g (startE N.length ds)=Ga (.ro xs))) :
  FnOk P w K mg base CX0 (k+1) f fd ps (spV K fm):=by
 refine F.ok S (λvs H Q E h=>?_) (λcdv A outer s H vs Q E hr h=>?_)
 .obtain⟨F0,ds,d,_,r,e,_⟩:=h;rw[<- r.length];exact hlen ds d e
 .obtain⟨F0,ds,d,g0,r,e,q⟩:=h;obtain⟨g,hg,hm⟩:=hb cdv A outer s H E hr;rcases hm ds d e with z|⟨xs,rfl,z⟩
  .exact⟨_,hg,H,F0,_,_,RS.start g0 r,z,λv H' F' g1 f1 fh1 n1 rv=>q v H' F' g1 f1 fh1 n1 rv⟩
  .refine⟨_,hg,H,F0,_,_,RS.start g0 r,z,λa ys H' F' g1 f1 fh1 n1 ha fa ha' rr=>?_⟩;have sF:Same F' (upd F' a (.lst ys)):=Same.new fa;refine q (.ref a) H' (upd F' a (.lst ys)) g1 (f1.trans sF) (λb o h=>?_) (λb o h nb=>?_) (.lst (SqL.of upd_same) (rr.mono sF))
   .exact Same.upL fh1 ha' trivial b o h
   .by_cases hb:b=a
    .subst hb;exact ha
    .rw[upd_ne hb] at h;exact n1 b o h nb
theorem fnO {fm:List D->Option (List D)}(F:Fun K x qual st f fd)(S:FnScope N ps (defScope st))(hlen:∀ ds d,fm ds=Ga d->ds.length=ps.length)
  (hb:∀ (cdv:Gg) (A:Around) (outer:List Env) (s:Gh) (H:Hp) (E:XK),Room k (A.deeper (envOfC qual (defScope st) s.heap.objs.size f cdv)) ->
   ∃ g,PSts (cxOf CX0 P w K mg base N qual (defScope st) f cdv A outer s H E).nox (defBody st) g/\∀ ds d,fm ds=Ga d->g (startE N.length ds)=Ga (.ro d)) :
  FnOk P w K mg base CX0 (k+1) f fd ps (spO K fm):=by
 refine F.ok S (λvs H Q E h=>?_) (λcdv A outer s H vs Q E hr h=>?_)
 .obtain⟨F0,ds,d,_,r,e,_⟩:=h;rw[<- r.length];exact hlen ds d e
 .obtain⟨F0,ds,d,g0,r,e,q⟩:=h;obtain⟨g,hg,hm⟩:=hb cdv A outer s H E hr;exact⟨_,hg,H,F0,_,_,RS.start g0 r,hm ds d e,λa xs H' F' g1 f1 fh1 n1 ha fa ha' rr=>q a xs H' F' g1 f1 fh1 n1 ha fa ha' rr⟩
end
section
variable {X:Cx}{k:Nat}{f:Gj}{fd:Gi}{ps:List Str}{x:Str}{p pos:Pos}{e:Expr}{es:List Expr}{g:FL}
theorem zpA {fm:List D->Option D}(F:FnOk X.prog X.w X.K X.mg X.base CX0 k f fd ps (spV X.K fm))(hr:Room k X.A)(hm:X.mg x=Ga (.ref f))(hk:kR X.K (.ref f)=true)(hb:Binds X.K fd ps [])(ha:PL X (e::es) g)(hg:Gl X x:=by rfl)
  (hdb:(x==("__debug__":Str))=false:=by decide) (he:starEach (e::es) X.env=(false,eval e X.env)::starEach es X.env:=by rfl) (hpl:(backTo pos (starEach es X.env)).any (·.1)=false:=by rfl) :
  PV X (.Call (.Name x p) (e::es) [] pos) (λψ=>(g ψ).bind fm):=by
 refine za7 (pe_call F hr hg hm hk hb .nil pass0 ha.pa hdb he hpl) λσ H Q=>?_;rintro⟨H0,F,ψ,d,r,e,q⟩;obtain⟨ds,e1,e2⟩:=bind_some e;refine⟨H0,F,ψ,ds,r,e1,λvs H1 F1 g1 f1 fh1 n1 rv=>⟨F1,ds,d,fh1,by rw[j7];exact rv,e2,λv H2 F2 g2 f2 fh2 n2 rv2=>?_⟩⟩;exact q v H2 F2 (g1.trans g2) (f1.trans f2) fh2 (n1.trans n2 g1) rv2
theorem zf3 {fm:List D->Option (List D)}(F:FnOk X.prog X.w X.K X.mg X.base CX0 k f fd ps (spO X.K fm))(hr:Room k X.A)(hm:X.mg x=Ga (.ref f))(hk:kR X.K (.ref f)=true)(hb:Binds X.K fd ps [])(ha:PL X (e::es) g)(hg:Gl X x:=by rfl)
  (hdb:(x==("__debug__":Str))=false:=by decide) (he:starEach (e::es) X.env=(false,eval e X.env)::starEach es X.env:=by rfl) (hpl:(backTo pos (starEach es X.env)).any (·.1)=false:=by rfl) :
  PO X (.Call (.Name x p) (e::es) [] pos) (λψ=>(g ψ).bind fm):=by
 refine za7 (pe_call F hr hg hm hk hb .nil pass0 ha.pa hdb he hpl) λσ H Q=>?_;rintro⟨H0,F,ψ,d,r,e,q⟩;obtain⟨ds,e1,e2⟩:=bind_some e;refine⟨H0,F,ψ,ds,r,e1,λvs H1 F1 g1 f1 fh1 n1 rv=>⟨F1,ds,d,fh1,by rw[j7];exact rv,e2,λa xs H2 F2 g2 f2 fh2 n2 ha fa ha' rr=>?_⟩⟩;exact q a xs H2 F2 (g1.trans g2) (f1.trans f2) fh2 (n1.trans n2 g1) (g1.free ha) fa ha' rr
end
end T3
namespace T3
open PySem PySem.Spec PyProof.Rows L2
def isTag:D->D->Option Bool
 | .none,.none=>Ga true
 | _,.none=>Ga false
 | .bool a,.bool b=>Ga (a==b)
 | _,.bool _=>Ga false
 | _,_=>Gb
def dIs (a b:D):Option D:=(isTag a b).bind λk=>Ga (.bool k)
def dIsnt (a b:D):Option D:=(isTag a b).bind λk=>Ga (.bool (!k))
section
variable {X:Cx}{pos:Pos}{a b:Expr}{f g:FV}
theorem zpB {K:ja}{F:Hp}{a b:D}{x y:V}{u v:Gg}{k:Bool}(ra:Rep K F a x)(rb:Rep K F b y)(rx:RelV x u)(ry:RelV y v)(e:isTag a b=Ga k):plainIs u v=true/\(u==v)=k:=by
 cases rb<;>first|(cases ra<;>cases e;done)|skip
 .cases ry;cases ra<;>cases e<;>first
   | (cases rx;exact⟨rfl,rfl⟩)
   | (obtain⟨t,rfl⟩:=rx;exact⟨rfl,rfl⟩)
 .rename_i c;cases ry;cases ra<;>cases e<;>first
   | (cases rx;exact⟨rfl,rfl⟩)
   | (cases rx;rename_i b;cases b<;>cases c<;>exact⟨rfl,rfl⟩)
   | (obtain⟨t,rfl⟩:=rx;exact⟨rfl,rfl⟩)
theorem zx7:OpR X (compareOp .Is) (rEqD X.K dIs):=by
 intro ω s σ H x y v u Q I rx ry h;obtain⟨F,a,b,d,g,ra,rb,e,q⟩:=h;obtain⟨k,e1,e2⟩:=bind_some e;obtain⟨z1,z2⟩:=zpB ra rb rx ry e1;cases e2;exact wpAny_is_plain z1 (by rw[z2];exact⟨.bl k,H,I,rfl,q k rfl⟩)
theorem zvZ:OpR X (compareOp .IsNot) (rEqD X.K dIsnt):=by
 intro ω s σ H x y v u Q I rx ry h;obtain⟨F,a,b,d,g,ra,rb,e,q⟩:=h;obtain⟨k,e1,e2⟩:=bind_some e;obtain⟨z1,z2⟩:=zpB ra rb rx ry e1;cases e2;exact wpAny_isNot_plain z1 (by rw[z2];exact⟨.bl (!k),H,I,rfl,q _ rfl⟩)
theorem zx8:∀ a b d,dIs a b=Ga d->∃ k,d=.bool k:=λa b d h=>by obtain⟨k,_,e⟩:=bind_some h;cases e;exact⟨_,rfl⟩
theorem zv0:∀ a b d,dIsnt a b=Ga d->∃ k,d=.bool k:=λa b d h=>by obtain⟨k,_,e⟩:=bind_some h;cases e;exact⟨_,rfl⟩
theorem v_is (ha:PV X a f)(hb:PV X b g):PV X (.Compare a [.Is] [b] pos) (λψ=>(f ψ).bind λx=>(g ψ).bind λy=>dIs x y):=zr0 zx7 (zjK zx8) ha hb
theorem b_is (ha:PV X a f)(hb:PV X b g):PB X (.Compare a [.Is] [b] pos) (λψ=>((f ψ).bind λx=>(g ψ).bind λy=>dIs x y).bind toB):=zmS zx7 (zjK zx8) ha hb
theorem zx9 (ha:PV X a f)(hb:PV X b g):PB X (.Compare a [.IsNot] [b] pos) (λψ=>((f ψ).bind λx=>(g ψ).bind λy=>dIsnt x y).bind toB):=zmS zvZ (zjK zv0) ha hb
def okIn (a:D)(xs:List D):Bool:=a.canLay0&&kP xs&&decide (min (ui xs) a.depth<=90)
def dIn (a b:D):Option D:=(toS b).bind λxs=>if okIn a xs then Ga (.bool (xs.any λy=>kF y a)) else Gb
def dNin (a b:D):Option D:=(toS b).bind λxs=>if okIn a xs then Ga (.bool (!xs.any λy=>kF y a)) else Gb
theorem ztJ {a:D}{xs:List D}(h:okIn a xs=true):a.canLay0=true/\kP xs=true/\min (ui xs) a.depth<=90:=by
 unfold okIn at h;simp only[jI,decide_eq_true_eq] at h;exact⟨h.1.1,h.1.2,h.2⟩
theorem zBo (hu:X.A.units+100<cLine):OpR X (compareOp .In) (rEqD X.K dIn):=by
 intro ω s σ H x y v u Q I rx ry h;obtain⟨F,a,b,d,g,ra,rb,e,q⟩:=h;obtain⟨xs,e1,e2⟩:=bind_some e;split at e2
 .rename_i ok;obtain⟨h1,h2,h3⟩:=ztJ ok;obtain⟨as,ha⟩:=ra.reads I g (zi3 h1) rx;obtain⟨bs,hb⟩:=rb.reads I g (by cases b<;>cases e1<;>(rw[plD];exact zhL h2)) ry;cases b<;>cases e1
  .exact SeqAt.in_list_reads hb ha h2 h1 (by omega) ⟨.bl _,H,I,rfl,q _ (jE e2).symm⟩
  .exact SeqAt.in_tuple_reads hb ha h2 h1 (by omega) ⟨.bl _,H,I,rfl,q _ (jE e2).symm⟩
 .cases e2
theorem zy4 (hu:X.A.units+100<cLine):OpR X (compareOp .NotIn) (rEqD X.K dNin):=by
 intro ω s σ H x y v u Q I rx ry h;obtain⟨F,a,b,d,g,ra,rb,e,q⟩:=h;obtain⟨xs,e1,e2⟩:=bind_some e;split at e2
 .rename_i ok;obtain⟨h1,h2,h3⟩:=ztJ ok;obtain⟨as,ha⟩:=ra.reads I g (zi3 h1) rx;obtain⟨bs,hb⟩:=rb.reads I g (by cases b<;>cases e1<;>(rw[plD];exact zhL h2)) ry;cases b<;>cases e1
  .exact SeqAt.notIn_list_reads hb ha h2 h1 (by omega) ⟨.bl _,H,I,rfl,q _ (jE e2).symm⟩
  .exact SeqAt.notIn_tuple_reads hb ha h2 h1 (by omega) ⟨.bl _,H,I,rfl,q _ (jE e2).symm⟩
 .cases e2
theorem zBp:∀ a b d,dIn a b=Ga d->∃ k,d=.bool k:=λa b d h=>by obtain⟨k,_,e⟩:=bind_some h;split at e<;>cases e;exact⟨_,rfl⟩
theorem zy5:∀ a b d,dNin a b=Ga d->∃ k,d=.bool k:=λa b d h=>by obtain⟨k,_,e⟩:=bind_some h;split at e<;>cases e;exact⟨_,rfl⟩
theorem b_in (hu:X.A.units+100<cLine)(ha:PV X a f)(hb:PV X b g)(hm:behindInMarks .In b=false:=by first|rfl|with_unfolding_all rfl):PB X (.Compare a [.In] [b] pos) (λψ=>((f ψ).bind λx=>(g ψ).bind λy=>dIn x y).bind toB):=zmS (zBo hu) (zjK zBp) ha hb hm
theorem zDT (hu:X.A.units+100<cLine)(ha:PV X a f)(hb:PV X b g)(hm:behindInMarks .NotIn b=false:=by first|rfl|with_unfolding_all rfl):PB X (.Compare a [.NotIn] [b] pos) (λψ=>((f ψ).bind λx=>(g ψ).bind λy=>dNin x y).bind toB):=zmS (zy4 hu) (zjK zy5) ha hb hm
def dNeg:D->Option D
 | .int i=>Ga (.int (-i))
 | _=>Gb
theorem zk8 (ha:PV X a f):PV X (.UnaryOp .USub a pos) (λψ=>(f ψ).bind dNeg):=by
 refine za7 (pe_un un_neg ha) λσ H Q=>?_;rintro⟨H0,F,ψ,d,r,e,q⟩;obtain⟨d',e1,e⟩:=bind_some e;refine⟨H0,F,ψ,d',r,e1,λv H1 F1 g1 f1 fh1 n1 rv=>?_⟩;cases rv<;>first|(cases e;done)|skip
 cases e;exact⟨_,rfl,q _ H1 F1 g1 f1 fh1 n1 (.int _)⟩
def dBits:D->Option D
 | .int i=>Ga (.int (kM i))
 | _=>Gb
theorem zy6:MtR X "int.bit_length" (λx xs H Q=>∃ i,x=.int i/\xs=[]/\Q (.int (kM i)) H):=by
 intro ω s σ H x xs v us Q I rx rv h;obtain⟨i,rfl,rfl,q⟩:=h;obtain⟨t,rfl⟩:=rx;cases rv;exact call_int_bit_length ⟨.int _,H,I.tok _,⟨_,rfl⟩,q⟩
theorem zBq {p p2:Pos}(ha:PV X a f)(hbase:attributeBase a "bit_length" X.env (eval a X.env)=eval a X.env:=by rfl)(hline:(p.endLine==p2.line)=true:=by rfl):PV X (.Call (.Attribute a "bit_length" p) [] [] p2) (λψ=>(f ψ).bind dBits):=by
 refine za7 (pe_bm0 PySem.F.plainAttrs_int PySem.F.slot_int_bit_length PySem.F.type_int_bit_length zy6 ha hbase hline) λσ H Q=>?_;rintro⟨H0,F,ψ,d,r,e,q⟩;obtain⟨d',e1,e⟩:=bind_some e;refine⟨H0,F,ψ,d',r,e1,λv H1 F1 g1 f1 fh1 n1 rv=>?_⟩;cases rv<;>first|(cases e;done)|skip
 rename_i i;cases e;exact⟨rfl,i,rfl,rfl,q _ H1 F1 g1 f1 fh1 n1 (.int _)⟩
def intsD:List D->Option (List Int)
 | []=>Ga []
 | .int i::r=>(intsD r).bind λis=>Ga (i::is)
 | _=>Gb
theorem zj9:∀ {ds:List D} {is:List Int},intsD ds=Ga is->ds=is.map jc
 | [],_,h=>by cases h;rfl
 | .int i::r,is,h=>by
  obtain⟨js,e1,e2⟩:=bind_some (show(intsD r).bind (λis=>Ga (i::is))=Ga is from h);cases e2;rw[zj9 e1];rfl
 | .none::_,_,h=>by cases h
 | .bool _::_,_,h=>by cases h
 | .str _::_,_,h=>by cases h
 | .list _::_,_,h=>by cases h
 | .tuple _::_,_,h=>by cases h
 | .dict _::_,_,h=>by cases h
theorem Reps.ints_inv {K:ja}{F:Hp}:∀ {is:List Int} {vs:List V},Reps K F (is.map jc) vs->vs=is.map V.int
 | [],_,h=>by cases h;rfl
 | i::is,_,h=>by
  cases h with
  | cons h t=>cases h;rw[Reps.ints_inv t];rfl
theorem zBr {x:Str}{v:V}{u:Gg}{d:D}(hm:X.mg x=Ga u)(r:RelV v u)(rd:∀ K F,Rep K F d v)(hg:Gl X x:=by rfl)(hd:(x==("__debug__":Str))=false:=by decide):PV X (.Name x pos) (λ_=>Ga d):=zlW (pe_glob hg hm r hd) rd
theorem ztK {op op':CmpOp}{r r':R2}{k k':D->D->Option D}{c:Expr}{h:FV}(ho:OpR X (compareOp op) r)(ho':OpR X (compareOp op') r')(hr:R2V X.K r k)(hr':R2V X.K r' k')(ha:PV X a f)(hb:PV X b g)(hc:PV X c h)
  (hm:lastMarks [op,op'] [b,c]=false:=by with_unfolding_all rfl) :
  PV X (.Compare a [op,op'] [b,c] pos) (λψ=>(f ψ).bind λx=>(g ψ).bind λy=>((k x y).bind toB).bind λt=>if t then(h ψ).bind λz=>k' y z else Ga (.bool false)):=by
 refine za7 (pe_chain ho ho' ha hb hc hm) λσ H Q=>?_;rintro⟨H0,F,ψ,d,rs,e,q⟩;obtain⟨x,e1,e⟩:=bind_some e;obtain⟨y,e2,e⟩:=bind_some e;obtain⟨t,e3,e⟩:=bind_some e;obtain⟨d1,e4,e5⟩:=bind_some e3;cases zf9 e5;refine⟨H0,F,ψ,x,rs,e1,λv H1 F1 g1 f1 fh1 n1 rv=>⟨H0,F1,ψ,y,rs.grow g1 f1 fh1 n1,e2,λu H2 F2 g2 f2 fh2 n2 ru=>?_⟩⟩;refine hr F2 H2 v u x y _ _ fh2 (rv.mono f2) ru e4 λw H3 F3 g3 f3 fh3 n3 rw3=>?_;cases rw3;refine⟨t,rfl,?_⟩;have gg:Same H H3:=(g1.trans g2).trans g3;have ff:Same F F3:=(f1.trans f2).trans f3;have nn:New F F3 H:=(n1.trans n2 g1).trans n3 (g1.trans g2);cases t with
 | true =>
  obtain⟨z,e6,e7⟩:=bind_some (show(h ψ).bind (λz=>k' y z)=Ga d from e);refine iteT ⟨H0,F3,ψ,z,rs.grow gg ff fh3 nn,e6,λw4 H4 F4 g4 f4 fh4 n4 rw4=>?_⟩;refine hr' F4 H4 u w4 y z d Q fh4 ((ru.mono f3).mono f4) rw4 e7 λw5 H5 F5 g5 f5 fh5 n5 rw5=>?_;exact q w5 H5 F5 ((gg.trans g4).trans g5) ((ff.trans f4).trans f5) fh5 ((nn.trans n4 gg).trans n5 (gg.trans g4)) rw5
 | false=>cases e;exact iteF (q _ H3 F3 gg ff fh3 nn (.bl false))
end
end T3
namespace T3
open PySem PySem.Spec PyProof.Rows L2
section
variable {prog:Program}{w:World}{A:Around}{E:Gg->Gh->Prop}{s:Gh}
variable {z ti tp i1 i2:Gj}{I1 I2:Nat->Heap->Prop}{k1 k2:Heap->Prop}{xs ys:List Gg}{i:Nat}
end
end T3
namespace T3
open PySem PySem.Spec PyProof.Rows L2
def SqX (t:Bool)(K:ja)(H:Hp)(a:Gj)(xs:List V):Prop:=if t then SqT K H a xs else SqL K H a xs
def IsX (t:Bool)(h:Heap)(a:Gj)(its:List Gg):Prop:=if t then h.IsTuple a its.toArray else h.IsList a its.toArray
theorem IsX.at {t:Bool}{h h':Heap}{a:Gj}{its:List Gg}(x:IsX t h a its)(k:∀ o,h.get? a=Ga o->h'.get? a=Ga o):IsX t h' a its:=by
 cases t with
 | true=>obtain⟨o,e,r⟩:=(x:h.IsTuple a its.toArray);exact(⟨o,k o e,r⟩:h'.IsTuple a its.toArray)
 | false=>exact Heap.IsList.at (x:h.IsList a its.toArray) k
theorem SqX.same {t:Bool}{K:ja}{H H':Hp}{a:Gj}{xs:List V}(g:Same H H')(h:SqX t K H a xs):SqX t K H' a xs:=by
 cases t with
 | true=>exact seqT g h
 | false=>exact g.seq h
section
variable {X:Cx}{ω:List (Gj×Obj)}{σ:St}{H:Hp}{s:Gh}
end
section
variable {X:Cx}{pos:Pos}
end
end T3
namespace T3
open PySem PySem.Spec PyProof.Rows L2
abbrev cst (d:D):FV:=λ_=>Ga d
abbrev bin (op:D->D->Option D)(f g:FV):FV:=λψ=>(f ψ).bind λx=>(g ψ).bind λy=>op x y
abbrev un (op:D->Option D)(f:FV):FV:=λψ=>(f ψ).bind op
abbrev unL (op:List D->Option D)(f:FL):FV:=λψ=>(f ψ).bind op
abbrev tst (f:FV):FB:=λψ=>(f ψ).bind tru
abbrev cmpB (op:D->D->Option D)(f g:FV):FB:=λψ=>((f ψ).bind λx=>(g ψ).bind λy=>op x y).bind toB
abbrev notB (f:FB):FB:=λψ=>(f ψ).bind λc=>Ga (!c)
abbrev andB (f g:FB):FB:=λψ=>(f ψ).bind λc=>if c then g ψ else Ga false
abbrev orB (f g:FB):FB:=λψ=>(f ψ).bind λc=>if c then Ga true else g ψ
abbrev andV (f g:FV):FV:=λψ=>((f ψ).bind toB).bind λc=>if c then g ψ else Ga (.bool false)
abbrev orV (f g:FV):FV:=λψ=>((f ψ).bind toB).bind λc=>if c then Ga (.bool true) else g ψ
abbrev notV (f:FV):FV:=λψ=>((f ψ).bind toB).bind λc=>Ga (.bool (!c))
abbrev ifV (c:FB)(f g:FV):FV:=λψ=>(c ψ).bind λk=>if k then f ψ else g ψ
abbrev chainV (k k':D->D->Option D)(f g h:FV):FV:=λψ=>(f ψ).bind λx=>(g ψ).bind λy=>((k x y).bind toB).bind λt=>if t then(h ψ).bind λz=>k' y z else Ga (.bool false)
abbrev nilL:FL:=λ_=>Ga []
abbrev consL (f:FV)(g:FL):FL:=λψ=>(f ψ).bind λd=>(g ψ).bind λds=>Ga (d::ds)
abbrev tupV (g:FL):FV:=λψ=>(g ψ).bind λds=>Ga (.tuple ds)
abbrev lstV (g:FL):FV:=λψ=>(g ψ).bind λds=>Ga (.list ds)
abbrev callV (fm:List D->Option D)(g:FL):FV:=λψ=>(g ψ).bind fm
abbrev callO (fm:List D->Option (List D))(g:FL):FL:=λψ=>(g ψ).bind fm
abbrev shV (f:FV):FL:=λψ=>(f ψ).bind toL
abbrev tL1 (f:FV):FL:=λψ=>(f ψ).bind toT
abbrev seqI (f:FV):FL:=λψ=>(f ψ).bind toS
abbrev un1L (op:D->Option (List D))(f:FV):FL:=λψ=>(f ψ).bind op
abbrev binL (op:D->D->Option (List D))(f g:FV):FL:=λψ=>(f ψ).bind λx=>(g ψ).bind λy=>op x y
def dIsT (T:String)(d:D):Option D:=Ga (.bool (isT T d))
def dTupL (xs:List D):Option D:=Ga (.tuple xs)
abbrev nxS:FS:=λψ=>Ga (.nx ψ)
abbrev seqS (g k:FS):FS:=λψ=>thenD (g ψ) k
abbrev retS (f:FV):FS:=λψ=>(f ψ).bind λd=>Ga (.rt d)
abbrev retO (f:FL):FS:=λψ=>(f ψ).bind λd=>Ga (.ro d)
abbrev ifS (c:FB)(g k:FS):FS:=λψ=>(c (frz ψ)).bind λt=>if t then g ψ else k ψ
abbrev setS (i:Nat)(f:FV):FS:=λψ=>(f ψ).bind λd=>Ga (.nx (ψ.set i (.val d)))
abbrev setO (i:Nat)(f:FL):FS:=λψ=>(f ψ).bind λd=>Ga (.nx (ψ.set i (.own d)))
abbrev fixS (i:Nat)(g:FS):FS:=λψ=>(g ψ).bind λo=>Ga (frzO i o)
abbrev frzS (i:Nat)(g:FS):FS:=λψ=>g (frzAt i ψ)
abbrev appS (i:Nat)(f:FV):FS:=λψ=>(go i ψ).bind λds=>(f ψ).bind λd=>if ds.length<1000000 then Ga (.nx (ψ.set i (.own (ds++[d])))) else Gb
abbrev forS (f:FL)(t:FT)(g:FS):FS:=λψ=>(f ψ).bind λds=>forD t g ds ψ
abbrev tgN (i:Nat):FT:=λd ψ=>Ga (ψ.set i (.val d))
abbrev FTs:=List D->En->Option En
abbrev tgNil:FTs:=λds ψ=>match ds with|[]=>Ga ψ|_=>Gb
abbrev tgCons (t:FT)(u:FTs):FTs:=λds ψ=>match ds with|d::r=>(t d ψ).bind λenv1=>u r env1|[]=>Gb
abbrev tgT (u:FTs):FT:=λd ψ=>(toT d).bind λds=>u ds ψ
section
variable {X:Cx}{pos:Pos}
theorem zcV (i:Nat){x:Str}(hN:X.N.Nodup)(hi:X.N[i]?=Ga x:=by rfl)(hx:Loc X.env.scope x:=by first|exact uj rfl|exact kG rfl)(hf:X.fn x=true\/X.env.scope.names.lookup x=Ga .local:=by first|exact .inl rfl|exact .inr rfl):PTg X (.Name x pos) (tgN i):=ztG i hN hi hx hf
end
structure Fn (K:ja)(mg:Str->Option Gg)(x:Str)(st:Stmt)(ps:List Str)(a:Gj)(fd:Gi):Prop where
 F:Fun K x x st a fd
 b:Binds K fd ps []
 m:mg x=Ga (.ref a)
theorem zDU {K:ja}{mg:Str->Option Gg}{h:Heap}{x:Str}{st:Stmt}{ps:List Str}{f:Gj}{oc:Gg}{od an:Option Gj}{osl:Array (Option Gg)}{kV doc pm cdv ct:Gg}(X:K.In h)(G:h.Ns mainGlobals mg)
  (a:j4 K mainGlobals x=Ga (Ga (.ref f))) (l:K.lookup f=Ga ⟨oc,od,.func (kZ x x (defArgs st) (defBody st) (defScope st) .none kV doc pm an cdv ct),osl⟩) (c:vm K cdv x=true) (k:kR K (.ref f)=true)
  (hb:∀ (kV doc pm:Gg) (an:Option Gj) (cdv ct:Gg) (us:List Gg),us.length=ps.length->bindArgs (kZ x x (defArgs st) (defBody st) (defScope st) .none kV doc pm an cdv ct) ⟨us,[]⟩=pure (ps.zip us)) :
  Fn K mg x st ps f (kZ x x (defArgs st) (defBody st) (defScope st) .none kV doc pm an cdv ct):=by
 have F:=fun_mk (st:=st) l c k;exact⟨F,F.binds hb,ut X G a⟩
theorem zdP {k:Nat}{A:Around}(r:Room k A):A.units+100<cLine:=by have:=r.un;omega
end T3
namespace T3
open PySem PySem.Spec PyProof.Rows L2
def outV:Option Out->Option D
 | some (.rt d)=>Ga d
 | some (.ro xs)=>Ga (.list xs)
 | _=>Gb
def outO:Option Out->Option (List D)
 | some (.ro xs)=>Ga xs
 | _=>Gb
def runV (np n:Nat)(g:FS)(ds:List D):Option D:=if ds.length=np then outV (g (startE n ds)) else Gb
def runO (np n:Nat)(g:FS)(ds:List D):Option (List D):=if ds.length=np then outO (g (startE n ds)) else Gb
section
variable {P:Program}{w:World}{K:ja}{mg:Str->Option Gg}{base:Heap}{x qual:Str}{st:Stmt}{f:Gj}{fd:Gi}{N ps:List Str}{k:Nat}{g:FS}
theorem okV (F:Fun K x qual st f fd)(S:FnScope N ps (defScope st))
  (hb:∀ (cdv:Gg) (A:Around) (outer:List Env) (s:Gh) (H:Hp) (E:XK),Room k (A.deeper (envOfC qual (defScope st) s.heap.objs.size f cdv))->PSts (cxOf CX0 P w K mg base N qual (defScope st) f cdv A outer s H E).nox (defBody st) g) :
  FnOk P w K mg base CX0 (k+1) f fd ps (spV K (runV ps.length N.length g)):=by
 refine fnV F S (λds d h=>?_) (λcdv A outer s H E hr=>⟨g,hb cdv A outer s H E hr,λds d h=>?_⟩)
 .unfold runV at h;split at h
  .assumption
  .cases h
 .unfold runV at h;split at h
  .unfold outV at h;split at h
   .rename_i e;cases h;exact .inl e
   .rename_i e;cases h;exact .inr ⟨_,rfl,e⟩
   .cases h
  .cases h
theorem okO (F:Fun K x qual st f fd)(S:FnScope N ps (defScope st))
  (hb:∀ (cdv:Gg) (A:Around) (outer:List Env) (s:Gh) (H:Hp) (E:XK),Room k (A.deeper (envOfC qual (defScope st) s.heap.objs.size f cdv))->PSts (cxOf CX0 P w K mg base N qual (defScope st) f cdv A outer s H E).nox (defBody st) g) :
  FnOk P w K mg base CX0 (k+1) f fd ps (spO K (runO ps.length N.length g)):=by
 refine fnO F S (λds d h=>?_) (λcdv A outer s H E hr=>⟨g,hb cdv A outer s H E hr,λds d h=>?_⟩)
 .unfold runO at h;split at h
  .assumption
  .cases h
 .unfold runO at h;split at h
  .unfold outO at h;split at h
   .rename_i e;cases h;exact e
   .cases h
  .cases h
end
theorem zES {K:ja}{fm:List D->Option D}{H:Hp}{a:Gj}{ns:List Int}(hS:SqL K H a (ns.map V.int))(h:fm [.list (ns.map jc)]=Ga (.bool true)):spV K fm [.ref a] H (λv _=>v=.bl true) λ_ _ _=>False :=
 ⟨H,[.list (ns.map jc)],.bool true,.refl _,.cons (.lst hS (Reps.ints ns)) .nil,h,λv H' F' _ _ _ _ r=>by cases r;rfl⟩
end T3
namespace T3
open PySem
theorem ztL (d:List D):outO (Ga (.ro d))=Ga d:=rfl
theorem zd2 {g k:FS}{ψ e:En}(h:g ψ=Ga (.nx e)):seqS g k ψ=k e:=by show thenD (g ψ) k=_;rw[h];rfl
theorem znM {g k:FS}{ψ:En}{d:D}(h:g ψ=Ga (.rt d)):seqS g k ψ=Ga (.rt d):=by show thenD (g ψ) k=_;rw[h];rfl
theorem if_t {c:FB}{g k:FS}{ψ:En}(h:c (frz ψ)=Ga true):ifS c g k ψ=g ψ:=by show(c (frz ψ)).bind _=_;rw[h];rfl
theorem if_f {c:FB}{g k:FS}{ψ:En}(h:c (frz ψ)=Ga false):ifS c g k ψ=k ψ:=by show(c (frz ψ)).bind _=_;rw[h];rfl
theorem zkA {f:FV}{ψ:En}{d:D}(h:f ψ=Ga d):retS f ψ=Ga (.rt d):=by show(f ψ).bind _=_;rw[h];rfl
theorem zBs {f:FL}{ψ:En}{d:List D}(h:f ψ=Ga d):retO f ψ=Ga (.ro d):=by show(f ψ).bind _=_;rw[h];rfl
theorem zqF {i:Nat}{f:FV}{ψ:En}{d:D}(h:f ψ=Ga d):setS i f ψ=Ga (.nx (ψ.set i (.val d))):=by show(f ψ).bind _=_;rw[h];rfl
theorem zn2 {op:D->D->Option D}{f g:FV}{ψ:En}{a b:D}(h1:f ψ=Ga a)(h2:g ψ=Ga b):bin op f g ψ=op a b:=by show(f ψ).bind _=_;rw[h1];show(g ψ).bind _=_;rw[h2];rfl
theorem un_v {op:D->Option D}{f:FV}{ψ:En}{a:D}(h1:f ψ=Ga a):un op f ψ=op a:=by show(f ψ).bind _=_;rw[h1];rfl
theorem zBt {op:List D->Option D}{f:FL}{ψ:En}{a:List D}(h1:f ψ=Ga a):unL op f ψ=op a:=by show(f ψ).bind _=_;rw[h1];rfl
theorem zdL {fm:List D->Option D}{g:FL}{ψ:En}{ds:List D}(h:g ψ=Ga ds):callV fm g ψ=fm ds:=by show(g ψ).bind _=_;rw[h];rfl
theorem zyA {fm:List D->Option (List D)}{g:FL}{ψ:En}{ds:List D}(h:g ψ=Ga ds):callO fm g ψ=fm ds:=by show(g ψ).bind _=_;rw[h];rfl
theorem zk0 {f:FV}{g:FL}{ψ:En}{d:D}{ds:List D}(h1:f ψ=Ga d)(h2:g ψ=Ga ds):consL f g ψ=Ga (d::ds):=by show(f ψ).bind _=_;rw[h1];show(g ψ).bind _=_;rw[h2];rfl
theorem zv1 {g:FL}{ψ:En}{ds:List D}(h:g ψ=Ga ds):lstV g ψ=Ga (.list ds):=by show(g ψ).bind _=_;rw[h];rfl
theorem zBu {g:FL}{ψ:En}{ds:List D}(h:g ψ=Ga ds):tupV g ψ=Ga (.tuple ds):=by show(g ψ).bind _=_;rw[h];rfl
theorem sh_v {f:FV}{ψ:En}{ds:List D}(h:f ψ=Ga (.list ds)):shV f ψ=Ga ds:=by show(f ψ).bind _=_;rw[h];rfl
theorem zBv {op:D->Option (List D)}{f:FV}{ψ:En}{a:D}(h1:f ψ=Ga a):un1L op f ψ=op a:=by show(f ψ).bind _=_;rw[h1];rfl
theorem zy7 {f:FL}{t:FT}{g:FS}{ψ:En}{ds:List D}(h:f ψ=Ga ds):forS f t g ψ=forD t g ds ψ:=by show(f ψ).bind _=_;rw[h];rfl
theorem zpC {f:FV}{ψ:En}{d:D}{b:Bool}(h:f ψ=Ga d)(h2:tru d=Ga b):tst f ψ=Ga b:=by show(f ψ).bind _=_;rw[h];exact h2
theorem zr5 {op:D->D->Option D}{f g:FV}{ψ:En}{x y:D}{b:Bool}(h1:f ψ=Ga x)(h2:g ψ=Ga y)(h3:op x y=Ga (.bool b)):cmpB op f g ψ=Ga b:=by
 show((f ψ).bind _).bind _=_;rw[h1];show((g ψ).bind _).bind _=_;rw[h2];show(op x y).bind _=_;rw[h3];rfl
theorem ztM {f:FB}{ψ:En}{b:Bool}(h:f ψ=Ga b):notB f ψ=Ga (!b):=by show(f ψ).bind _=_;rw[h];rfl
theorem or_t {f g:FB}{ψ:En}(h:f ψ=Ga true):orB f g ψ=Ga true:=by show(f ψ).bind _=_;rw[h];rfl
theorem or_f {f g:FB}{ψ:En}(h:f ψ=Ga false):orB f g ψ=g ψ:=by show(f ψ).bind _=_;rw[h];rfl
theorem zpD {fi:FL}{fc:FB}{fe:FV}{ix:List Nat}{ψ:En}{ds:List D}(h:fi ψ=Ga ds)(hz:ds.length<=1000000):compF fi fc fe ix ψ=compD fc fe (prjE ix ψ) ds:=by
 show(fi ψ).bind _=_;rw[h];exact Ge hz
theorem zn3 {fe:FV}{base:En}{F:D->D}:∀ {ds:List D},(∀ d∈ds,fe (.val d::base)=Ga (F d))->compD (λ_=>Ga true) fe base ds=Ga (ds.map F)
 | [],_=>rfl
 | x::r,h=>by
  unfold compD;rw[jr,Ge rfl,h x jg,jr,zn3 λd hd=>h d (je _ hd)];rfl
theorem zgB {fc:FB}{fe:FV}{base:En}{p:D->Bool}{F:D->D}:∀ {ds:List D},(∀ d∈ds,fc (.val d::base)=Ga (p d))->(∀ d∈ds,p d=true->fe (.val d::base)=Ga (F d))->compD fc fe base ds=Ga ((ds.filter p).map F)
 | [],_,_=>rfl
 | x::r,h1,h2=>by
  have ih:=zgB (fc:=fc) (fe:=fe) (base:=base) (p:=p) (F:=F) (ds:=r) (λd hd=>h1 d (je _ hd)) (λd hd=>h2 d (je _ hd));unfold compD;rw[h1 x jg,jr];cases hp:p x with
  | true=>rw[Ge rfl,h2 x jg hp,jr,ih,jU hp];rfl
  | false=>rw[Gf jy,ih,kj (by rw[hp];exact jy)]
theorem zqG (a b:Int):kF (.int a) (.int b)=(a==b):=by simp only[kF]
theorem zn4 (a b:Int):dNe (.int a) (.int b)=Ga (.bool (!(a==b))):=by
 unfold dNe;have:okEq (.int a) (.int b)=true:=rfl;rw[Ge this,zqG]
theorem zi4 (a b:Int):dEq (.int a) (.int b)=Ga (.bool (a==b)):=by
 unfold dEq;have:okEq (.int a) (.int b)=true:=rfl;rw[Ge this,zqG]
theorem zrB {d:D}(h:d.canLay0=true)(hd:d.depth<=100):dNe d d=Ga (.bool false):=by
 unfold dNe;have:okEq d d=true:=by unfold okEq;rw[h,Nat.min_self,Gc hd];rfl
 rw[Ge this,SeqAt.eqv_refl d h];rfl
theorem zqH:∀ {xs:List D},(∀ x∈xs,x.canLay0=true)->kP xs=true
 | [],_=>rfl
 | y::r,h=>by rw[kP,h y jg,zqH λx hx=>h x (je _ hx)];rfl
theorem zpE {n:Nat}:∀ {xs:List D},(∀ x∈xs,x.depth<=n)->ui xs<=n
 | [],_=>j8 _
 | y::r,h=>by rw[ui];exact Nat.max_le.mpr ⟨h y jg,zpE λx hx=>h x (je _ hx)⟩
theorem zv2 (ns:List Int):kP (ns.map jc)=true:=zqH λx hx=>by obtain⟨n,_,rfl⟩:=jx.mp hx;rfl
theorem zr6 (ns:List Int):ui (ns.map jc)<=0:=zpE λx hx=>by obtain⟨n,_,rfl⟩:=jx.mp hx;exact jk _
theorem zrC (a:Int)(ns:List Int):dIn (.int a) (.list (ns.map jc))=Ga (.bool (ns.contains a)):=by
 have h0:=zr6 ns;have ok:okIn (.int a) (ns.map jc)=true:=by
  unfold okIn;rw[zv2];have:min (ui (ns.map jc)) (PyData.depth (.int a))<=90:=by omega
  rw[Gc this];rfl
 show(if okIn (.int a) (ns.map jc)=true then Ga (jW ((ns.map jc).any λy=>kF y (.int a))) else Gb)=_;rw[Ge ok,List.any_map]
 congr 2
 rw[List.contains_eq_any_beq]
 congr 1
 funext x
 show kF (.int x) (.int a)=(a==x);rw[zqG];rw[kA,beq_iff_eq,beq_iff_eq];exact eq_comm
end T3
namespace T3
open PySem PySem.Spec PyProof.Rows L2
def runK {α:Type}(lt:Nat->Nat->Option Bool):qo α->Option α
 | .ret a=>Ga a
 | .ask i j k=>(lt i j).bind λb=>runK lt (k b)
theorem ztN {α:Type}{lt:Nat->Nat->Option Bool}{cmp:Nat->Nat->(Bool->Gh->Prop)->Gh->Prop}{s:Gh}(hc:∀ i j b C,lt i j=Ga b->C b s->cmp i j C s){G:α->Gh->Prop} :
  ∀ {t:qo α} {a:α},runK lt t=Ga a->G a s->t.kasWp cmp G s
 | .ret x,a,e,g=>by cases e;exact g
 | .ask i j k,a,e,g=>by
  obtain⟨b,e1,e2⟩:=bind_some (show(lt i j).bind (λb=>runK lt (k b))=Ga a from e);exact hc i j b _ e1 (ztN hc e2 g)
section
variable {prog:Program}{w:World}{A:Around}{E:Gg->Gh->Prop}{s:Gh}{vs:List Gg}
theorem zy8 {a:Gj}{n:Nat}{P:JF->Gh->Prop}{lt:Nat->Nat->Option Bool}{p:Array Nat}(ho:s.heap.get? a=Ga (seqObj "list" vs.toArray n))(h2:2<=vs.length)(h64:vs.length<64)
  (hp:runK lt (uY vs.length)=Ga p)
  (hk:∀ s1:Gh,(∀ b o,b≠a->s.heap.get? b=Ga o->s1.heap.get? b=Ga o)->∃ κ,(∀ Q:SortKind->Gh->Prop,Q κ s1->wpAny (model prog w) A (keyKind' vs.toArray) Q (λ_ _=>False) s1) /\
   ∀ i j b (C:Bool->Gh->Prop),lt i j=Ga b->C b s1->vF prog w A κ vs i j C s1)
  (h:∀ h' c,(∀ b o,b≠a->s.heap.get? b=Ga o->h'.get? b=Ga o)->h'.get? a=Ga (seqObj "list" (uo (p.toList.map λi=>vs.getD i j5)) c)->P (.done (.ret .none)) { s with heap:=h' }) :
  wpAny (model prog w) A (Builtin.«list.sort» ⟨[.ref a],[]⟩) P E s:=by
 have s1:=ul s.heap a (kr λ_=>(#[]:Array Gg));obtain⟨e1,ho1⟩:∃ e1,(s.heap.update a (kr λ_=>(#[]:Array Gg))).get? a=Ga (seqObj "list" #[] e1):=⟨_,get?_update_seq ho λ_=>#[]⟩;generalize hh1:s.heap.update a (kr λ_=>(#[]:Array Gg))=h1 at s1 ho1;have sl:vs.length<=sizeLine:=by rw[sizeLine_eq];omega
 rw[list_sort_plain];refine wpAny_bind (listItems_at ho rfl (wpAny_bind (listUpdate_at ho rfl ?_ (by rw[jo];exact sl) (j8 _))));rw[hh1];refine wpAny_bind (seqEpoch_at ho1 rfl (wpAny_bind (wpAny_newTuple (wpAny_bind (wpAny_newList (wpAny_holding ?_) (j8 _))) sl)));generalize hh3:(h1.push { cls:=.type "tuple",data:=.seq vs.toArray }).push { cls:=.type "list",data:=.seq ([]:List Gg).toArray }=h3;have k3:∀ b o,h1.get? b=Ga o->h3.get? b=Ga o:=λb o e=>by rw[<- hh3];exact jd _ (jd _ e)
 have keep:∀ b o,b≠a->s.heap.get? b=Ga o->h3.get? b=Ga o:=λb o nb e=>k3 b o (s1.extBut b o nb e);dsimp only;have n2:¬vs.toArray.size<2:=by rw[jo];omega
 rw[Gf n2,Gf n2];obtain⟨κ,hkind,hask⟩:=hk { s with heap:=h3 } keep;refine wpAny_bind (wpAny_mono (hkind (λκ' s'=>κ'=κ/\s'={ s with heap:=h3 }) ⟨rfl,rfl⟩) (λκ' s' ⟨x1,x2⟩=>?_) λ_ _ z=>z.elim);subst x1 x2;refine wpAny_bind (wpAny_mono (PySem.W.kat_run (Q:=λst' s'=>arrOf st'=p.map (PySem.W.kas_item (vs.toArray.zip vs.toArray))/\failedOf st'=Gb/\p.size=vs.length/\s'={ s with heap:=h3 }) (G:=λp' s'=>p'=p/\s'={ s with heap:=h3 })
  rfl h2 h64 (λp' st' s' a1 a2 a3 a4=>⟨by rw[<- a4.1];exact a2,a3,by rw[<- a4.1];exact a1,a4.2⟩) (ztN (λi j b C e c=>hask i j b C e c) hp ⟨rfl,rfl⟩)) ?_ λ_ _ e=>e)
 rintro⟨⟨⟩,st'⟩ s' ⟨har,hf,hsz,rfl⟩;dsimp only;rw[PySem.W.kat_snds rfl har];have ho3:h3.get? a=Ga (seqObj "list" #[] e1):=k3 _ _ ho1;have hz:(uo (p.toList.map λi=>vs.getD i j5)).size<=sizeLine:=by rw[jo,jb,ku,hsz];exact sl
 refine wpAny_bind (seqEpoch_at (s:={ s with heap:=h3 }) ho3 rfl (wpAny_bind (listUpdate_at (s:={ s with heap:=h3 }) ho3 rfl ?_ (j8 _) (Ji hz))));rw[hf];simp only[bne_self_eq_false,ub,if_false];have s4:=ul h3 a (kr λ_=>uo (p.toList.map λi=>vs.getD i j5));obtain⟨c,hc⟩:∃ c,(h3.update a (kr λ_=>uo (p.toList.map λi=>vs.getD i j5))).get? a=Ga (seqObj "list" (uo (p.toList.map λi=>vs.getD i j5)) c):=⟨_,get?_update_seq ho3 λ_=>_⟩;exact wpAny_pure (h _ c (λb o nb e=>s4.extBut b o nb (keep b o nb e)) hc)
theorem zr7 {a:Gj}{n:Nat}{P:JF->Gh->Prop}(ho:s.heap.get? a=Ga (seqObj "list" vs.toArray n))(h2:vs.length<2)
  (h:∀ h' c,(∀ b o,b≠a->s.heap.get? b=Ga o->h'.get? b=Ga o)->h'.get? a=Ga (seqObj "list" vs.toArray c)->P (.done (.ret .none)) { s with heap:=h' }) :
  wpAny (model prog w) A (Builtin.«list.sort» ⟨[.ref a],[]⟩) P E s:=by
 have s1:=ul s.heap a (kr λ_=>(#[]:Array Gg));obtain⟨e1,ho1⟩:∃ e1,(s.heap.update a (kr λ_=>(#[]:Array Gg))).get? a=Ga (seqObj "list" #[] e1):=⟨_,get?_update_seq ho λ_=>#[]⟩;generalize hh1:s.heap.update a (kr λ_=>(#[]:Array Gg))=h1 at s1 ho1;have sl:vs.length<=sizeLine:=by rw[sizeLine_eq];omega
 rw[list_sort_plain];refine wpAny_bind (listItems_at ho rfl (wpAny_bind (listUpdate_at ho rfl ?_ (by rw[jo];exact sl) (j8 _))));rw[hh1];refine wpAny_bind (seqEpoch_at ho1 rfl (wpAny_bind (wpAny_newTuple (wpAny_bind (wpAny_newList (wpAny_holding ?_) (j8 _))) sl)));generalize hh3:(h1.push { cls:=.type "tuple",data:=.seq vs.toArray }).push { cls:=.type "list",data:=.seq ([]:List Gg).toArray }=h3;have k3:∀ b o,h1.get? b=Ga o->h3.get? b=Ga o:=λb o e=>by rw[<- hh3];exact jd _ (jd _ e)
 have keep:∀ b o,b≠a->s.heap.get? b=Ga o->h3.get? b=Ga o:=λb o nb e=>k3 b o (s1.extBut b o nb e);dsimp only;have n2:vs.toArray.size<2:=by rw[jo];omega
 rw[Ge n2,Ge n2];refine wpAny_bind (wpAny_pure ?_);rw[StateT.run_pure];refine wpAny_bind (wpAny_pure ?_);dsimp only;have hout:(arrOf (SortSt.mk' general' (vs.toArray.zip vs.toArray) #[] 7 Gb)).map (·.2)=vs.toArray:=by
  show(vs.toArray.zip vs.toArray).map (·.2)=vs.toArray;apply Array.toList_inj.mp;rw[Array.toList_map,Array.toList_zip];exact List.map_snd_zip (jk _)
 rw[hout];have ho3:h3.get? a=Ga (seqObj "list" #[] e1):=k3 _ _ ho1;refine wpAny_bind (seqEpoch_at (s:={ s with heap:=h3 }) ho3 rfl (wpAny_bind (listUpdate_at (s:={ s with heap:=h3 }) ho3 rfl ?_ (j8 _) (Ji (by rw[jo];exact sl)))));simp only[bne_self_eq_false,ub,if_false];have s4:=ul h3 a (kr λ_=>vs.toArray);obtain⟨c,hc⟩:∃ c,(h3.update a (kr λ_=>vs.toArray)).get? a=Ga (seqObj "list" vs.toArray c):=⟨_,get?_update_seq ho3 λ_=>_⟩;exact wpAny_pure (h _ c (λb o nb e=>s4.extBut b o nb (keep b o nb e)) hc)
end
end T3
namespace T3
open PySem PySem.Spec PyProof.Rows L2
def lexI:List Int->List Int->Bool
 | [],[]=>false
 | [],_::_=>true
 | _::_,[]=>false
 | x::xs,y::ys=>if x==y then lexI xs ys else decide (x<y)
def ltD:D->D->Option Bool
 | .int i,.int j=>Ga (decide (i<j))
 | .tuple xs,.tuple ys=>(intsD xs).bind λis=>(intsD ys).bind λjs=>Ga (lexI is js)
 | _,_=>Gb
def isI:D->Bool
 | .int _=>true
 | _=>false
def isTI:D->Bool
 | .tuple (x::xs)=>(intsD (x::xs)).isSome
 | _=>false
def okSort (ds:List D):Bool:=ds.all isI||ds.all isTI
def ltAt (ds:List D)(i j:Nat):Option Bool:=(ds[i]?).bind λa=>(ds[j]?).bind λb=>ltD a b
def sortD (ds:List D):Option (List D):=if ds.length<2 then Ga ds else if (decide (ds.length<64)&&okSort ds)=true then(runK (ltAt ds) (uY ds.length)).bind λp=>(if p.size<=64 then Ga (p.toList.map λi=>ds.getD i .none) else Gb) else Gb
section
variable {prog:Program}{w:World}{A:Around}{E:Gg->Gh->Prop}{s:Gh}
theorem zyB {b fin:Bool}{Q:Bool->Gh->Prop}:∀ {is js:List Int} {us ws:List Gg} {i:Nat},IntsAre us is->IntsAre ws js->(i=0->b=true)->fin=decide (is.length<js.length)->Q (lexI is js) s->PySem.W.KatLex prog w A b fin Q (us.zip ws) i s
 | [],[],_,_,i,.nil,.nil,_,hf,q=>by
  rw[hf];exact q
 | [],y::ys,_,_,i,.nil,.cons _ _ _,_,hf,q=>by
  have e:decide (([]:List Int).length<(y::ys).length)=true:=Gc (Nat.succ_pos _);rw[hf,e];exact q
 | _::_,[],_,_,i,.cons _ _ _,.nil,_,hf,q=>by
  rw[hf];exact q
 | x::is,y::js,_,_,i,.cons _ t h1,.cons _ u h2,hb,hf,q=>by
  show wpAny _ _ (eqBool (.int x t) (.int y u)) _ _ s;refine wpAny_eqBool_int ?_;have q':Q (if (x==y)=true then lexI is js else decide (x<y)) s:=q;cases hxy:(x==y) with
  | true =>
   rw[hxy,Ge rfl] at q';rw[Ge rfl];exact zyB (i:=i+1) h1 h2 (λz=>absurd z (Jq _)) (by rw[hf];simp only[jJ,Nat.add_lt_add_iff_right]) q'
  | false =>
   rw[hxy,Gf jy] at q';rw[Gf jy];by_cases hi:i=0
   .subst hi;rw[hb rfl];exact oneLt_int q'
   .have e:(b&&i==0)=false:=by rw[beq_eq_false_iff_ne.mpr hi,uv]
    rw[e];exact PySem.W.kat_one _ _ (lt_int q')
end
section
variable {X:Cx}{ω:List (Gj×Obj)}{σ:St}{F H:Hp}{s:Gh}
theorem zk1:∀ {is:List Int} {xs:List V} {us:List Gg},Reps X.K F (is.map jc) xs->Vals xs us->IntsAre us is
 | [],_,_,.nil,r=>by cases r;exact .nil
 | i::is,_,_,.cons h t,r=>by
  cases r with
  | cons r1 r2 =>
   cases h;obtain⟨tk,rfl⟩:=r1;exact .cons _ _ (zk1 t r2)
theorem tupI {is:List Int}{v:V}{u:Gg}(I:Inv X ω σ H s)(g:Same F H)(r:Rep X.K F (.tuple (is.map jc)) v)(ru:RelV v u):∃ a o its n,u=.ref a/\s.heap.get? a=Ga o/\o.cls=.type "tuple"/\o.data=.seq its.toArray n/\IntsAre its is:=by
 cases r with
 | tup h q =>
  cases ru;obtain⟨its,rv,⟨o,e,c,n,d⟩,_⟩:=I.tuple (seqT g h);exact⟨_,o,its,n,rfl,e,c,d,zk1 q rv⟩
theorem ztO {d:D}(h:isTI d=true):∃ i is,d=.tuple ((i::is).map jc):=by
 cases d with
 | tuple xs =>
  cases xs with
  | nil=>cases h
  | cons x xs =>
   have h':(intsD (x::xs)).isSome=true:=h;obtain⟨is,e⟩:=u9.mp h';have e2:=zj9 e;cases is with
   | nil=>cases e2
   | cons i is=>exact⟨i,is,by rw[e2]⟩
 | _=>cases h
theorem zv3 {d:D}(h:isI d=true):∃ i,d=.int i:=by cases d<;>first|exact⟨_,rfl⟩|cases h
theorem zjO:∀ is:List Int,intsD (is.map jc)=Ga is
 | []=>rfl
 | i::is=>by
  show(intsD (is.map jc)).bind (λr=>Ga (i::r))=_;rw[zjO is];rfl
theorem ztP (is js:List Int):ltD (.tuple (is.map jc)) (.tuple (js.map jc))=Ga (lexI is js):=by
 show(intsD _).bind _=_;rw[zjO];show(intsD _).bind _=_;rw[zjO];rfl
theorem vget {xs:List V}{its:List Gg}{ds:List D}(rv:Vals xs its)(rr:Reps X.K F ds xs){i:Nat}{d:D}(e:ds[i]?=Ga d):∃ v u,Rep X.K F d v/\RelV v u/\its.getD i j5=u:=by
 obtain⟨v,e1,r1⟩:=rr.get e;obtain⟨u,e2,r2⟩:=rv.get e1;exact⟨v,u,r1,r2,by rw[jB,e2];rfl⟩
theorem ztQ {A:Around}{xs:List V}{its:List Gg}{ds:List D}(I:Inv X ω σ H s)(g:Same F H)(rv:Vals xs its)(rr:Reps X.K F ds xs)(h2:2<=its.length)(ok:okSort ds=true){s1:Gh}(k:∀ b o,s.heap.get? b=Ga o->s1.heap.get? b=Ga o) :
  ∃ κ,(∀ Q:SortKind->Gh->Prop,Q κ s1->wpAny (model X.prog X.w) A (keyKind' its.toArray) Q (λ_ _=>False) s1)/\∀ i j b (C:Bool->Gh->Prop),ltAt ds i j=Ga b->C b s1->vF X.prog X.w A κ its i j C s1:=by
 have hlen:ds.length=its.length:=rr.length.trans rv.length;have look:∀ (i j:Nat) (b:Bool),ltAt ds i j=Ga b->∃ d e,ds[i]?=Ga d/\ds[j]?=Ga e/\ltD d e=Ga b:=λi j b h=>by
  obtain⟨d,e1,h⟩:=bind_some h;obtain⟨e,e2,h⟩:=bind_some h;exact⟨d,e,e1,e2,h⟩
 unfold okSort at ok;rw[vG] at ok;rcases ok with ok|ok
 .have ai:∀ (i:Nat) (d:D),ds[i]?=Ga d->∃ n,d=jc n:=λi d e=>zv3 (jF.mp ok d (ky e));have av:∀ v∈its,∃ n t,v=qa n t:=λv hv=>by
   obtain⟨i,hi⟩:=List.mem_iff_getElem?.mp hv;have hl:i<ds.length:=by rw[hlen];exact(ji.mp hi).1
   obtain⟨n,hn⟩:=ai i _ (jw hl);obtain⟨v',u,r1,r2,e⟩:=vget rv rr (jw hl);rw[hn] at r1;cases r1;obtain⟨t,rfl⟩:=r2;rw[jB,hi] at e;exact⟨n,t,e⟩
  refine⟨oneType',λQ q=>PySem.W.kas_kind (T:=.type "int") h2 (λv hv=>?_) (by decide) (by decide) q,λi j b C e c=>?_⟩
  .obtain⟨n,t,rfl⟩:=av v hv;exact qE rfl
  .obtain⟨d,d2,e1,e2,e3⟩:=look i j b e;obtain⟨n,rfl⟩:=ai i d e1;obtain⟨m,rfl⟩:=ai j d2 e2;obtain⟨v1,u1,r1,r2,x1⟩:=vget rv rr e1;obtain⟨v2,u2,r3,r4,x2⟩:=vget rv rr e2;cases r1;cases r3;obtain⟨t,rfl⟩:=r2;obtain⟨t2,rfl⟩:=r4;unfold vF;rw[x1,x2];cases e3;exact PySem.W.kat_lt_int c
 .have ai:∀ (i:Nat) (d:D),ds[i]?=Ga d->∃ n is,d=jT ((n::is).map jc):=λi d e=>ztO (jF.mp ok d (ky e));have tup:∀ (i:Nat) (d:D),ds[i]?=Ga d->∃ n is a o us k,d=jT ((n::is).map jc)/\its.getD i j5=kB a/\s1.heap.get? a=Ga o/\o.cls=.type "tuple"/\o.data=.seq us k/\IntsAre us.toList (n::is):=λi d e=>by
   obtain⟨n,is,rfl⟩:=ai i d e;obtain⟨v,u,r1,r2,x1⟩:=vget rv rr e;obtain⟨a,o,us,kk,rfl,e1,c,dd,hi⟩:=tupI I g r1 r2;exact⟨n,is,a,o,us.toArray,kk,rfl,x1,k a o e1,c,dd,by simpa using hi⟩
  have kt:∀ (ws:List Gg) (es:List D),(∀ (i:Nat) v,ws[i]?=Ga v->∃ n is a o us kk,v=kB a/\s1.heap.get? a=Ga o/\o.cls=.type "tuple"/\o.data=.seq us kk/\IntsAre us.toList (n::is))->∃ fs,PySem.W.KatTups s1.heap ws fs/\fs.length=ws.length/\∀ v∈fs,∃ n t,v=qa n t:=by
   intro ws es;induction ws with
   | nil=>intro _;exact⟨[],.nil,rfl,λv hv=>by simp at hv⟩
   | cons v r ih =>
    intro hall;obtain⟨n,is,a,o,us,kk,rfl,e1,c,dd,hi⟩:=hall 0 v rfl;obtain⟨fs,h1,h2,h3⟩:=ih λi v e=>hall (i+1) v (by simpa using e);cases hu:us.toList with
    | nil=>rw[hu] at hi;cases hi
    | cons f fr =>
     rw[hu] at hi;cases hi with
     | cons _ t hi' =>
      have hf:us[0]?=Ga (qa n t):=by rw[<- ua,hu];rfl
      refine⟨qa n t::fs,.cons e1 c dd hf h1,by rw[jJ,jJ,h2],λv hv=>?_⟩;rcases jt.mp hv with rfl|hv
      .exact⟨n,t,rfl⟩
      .exact h3 v hv
  obtain⟨fs,t1,t2,t3⟩:=kt its ds λi v e=>by
   have hl:i<ds.length:=by rw[hlen];exact(ji.mp e).1
   obtain⟨n,is,a,o,us,kk,_,x1,x2⟩:=tup i _ (jw hl);rw[jB,e] at x1;exact⟨n,is,a,o,us,kk,x1,x2⟩
  refine⟨tuples' true,λQ q=>PySem.W.kat_kind (T:=.type "int") t1 (by omega) (λv hv=>?_) (by decide) q,λi j b C e c=>?_⟩
  .obtain⟨n,t,rfl⟩:=t3 v hv;exact qE rfl
  .obtain⟨d,d2,e1,e2,e3⟩:=look i j b e;obtain⟨n,is,a,o,us,kk,rfl,x1,y1,_,z1,w1⟩:=tup i d e1;obtain⟨n',is',a',o',us',kk',rfl,x2,y2,_,z2,w2⟩:=tup j d2 e2;unfold vF;rw[x1,x2];rw[ztP] at e3;cases e3;refine PySem.W.kat_lt y1 z1 y2 z2 (zyB w1 w2 (λ_=>rfl) ?_ c);have l1:=w1.length;have l2:=w2.length;rw[ku] at l1 l2;rw[l1,l2]
end
end T3
namespace T3
open PySem PySem.Spec PyProof.Rows L2
section
variable {X:Cx}{pos:Pos}
def dMin2:D->D->Option D:=dI0 λi j=>.int (if j<i then j else i)
def dMax2:D->D->Option D:=dI0 λi j=>.int (if j>i then j else i)
theorem cB2 {a b:Expr}{f g:FV}{p:Pos}{x:Str}{id:String}{op:Int->Int->Int}(hc:CallR X (.builtin id) (λxs H Q=>∃ i j,xs=[.int i,.int j]/\Q (.int (op i j)) H))(hg:Gl X x)(hm:X.mg x=Gb)(hv:bootBuiltins x=Ga (.builtin id))(ha:PV X a f)(hb:PV X b g)
  (hn:x≠"__name__":=by decide) (hdb:(x==("__debug__":Str))=false:=by decide) (hs:starEach [a,b] X.env=(false,eval a X.env)::starEach [b] X.env:=by rfl) (hs2:starEach [b] X.env=[(false,eval b X.env)]:=by rfl) :
  PV X (.Call (.Name x p) [a,b] [] pos) (λψ=>(f ψ).bind λx=>(g ψ).bind λy=>dI0 (λi j=>.int (op i j)) x y):=by
 refine za7 (pe_callB hc hg hm hv (pa_cons ha (pa_cons hb pa_nil hs2) hs) hn hdb hs (by rw[hs2];rfl)) λσ H Q=>?_;rintro⟨H0,F,ψ,d,r,e,q⟩;obtain⟨d1,e1,e3⟩:=bind_some e;obtain⟨d2,e2,e4⟩:=bind_some e3;clear e e3;refine⟨H0,F,ψ,d1,r,e1,λv H1 F1 g1 f1 fh1 n1 rv=>⟨H0,F1,ψ,d2,r.grow g1 f1 fh1 n1,e2,λv2 H2 F2 g2 f2 fh2 n2 rv2=>?_⟩⟩;cases rv<;>first|(cases e4;done)|skip
 cases rv2<;>first|(cases e4;done)|skip
 cases e4;exact⟨_,_,rfl,q _ H2 F2 (g1.trans g2) (f1.trans f2) fh2 (n1.trans n2 g1) (.int _)⟩
theorem ztR {a b:Expr}{f g:FV}{p:Pos}(hc:X.calm=true)(hg:Gl X "min")(hm:X.mg "min"=Gb)(ha:PV X a f)(hb:PV X b g)(hs:starEach [a,b] X.env=(false,eval a X.env)::starEach [b] X.env:=by rfl)(hs2:starEach [b] X.env=[(false,eval b X.env)]:=by rfl) :
  PV X (.Call (.Name "min" p) [a,b] [] pos) (λψ=>(f ψ).bind λx=>(g ψ).bind λy=>dMin2 x y):=cB2 (call_min2 hc) hg hm boot_min ha hb (hs:=hs) (hs2:=hs2)
theorem zBw {a b:Expr}{f g:FV}{p:Pos}(hc:X.calm=true)(hg:Gl X "max")(hm:X.mg "max"=Gb)(ha:PV X a f)(hb:PV X b g)(hs:starEach [a,b] X.env=(false,eval a X.env)::starEach [b] X.env:=by rfl)(hs2:starEach [b] X.env=[(false,eval b X.env)]:=by rfl) :
  PV X (.Call (.Name "max" p) [a,b] [] pos) (λψ=>(f ψ).bind λx=>(g ψ).bind λy=>dMax2 x y):=cB2 (call_max2 hc) hg hm boot_max ha hb (hs:=hs) (hs2:=hs2)
def whileD (c:FB)(g:FS):Nat->FS
 | 0,_=>Gb
 | n+1,ψ=>(c (frz ψ)).bind λb=>if b then(g ψ).bind λo=>match o with
   | .nx e=>whileD c g n e
   | .ct e=>whileD c g n e
   | .bk e=>Ga (.nx e)
   | .rt d=>Ga (.rt d)
   | .ro ds=>Ga (.ro ds)
   | .rm a kvs=>Ga (.rm a kvs)
   | .rc d e=>Ga (.rc d e)
  else Ga (.nx ψ)
theorem zqI (n:Nat){c:Expr}{body:List Stmt}{fc:FB}{g:FS}(hp:PassesOwn (model X.prog X.w) X.A X.env X.xe)(hc:PB X c fc)(hb:PSts X body g):PSt X (.While c body [] pos) (whileD fc g n):=by
 refine zdD (ps_while hp hc hb) λE σ H=>?_;rintro⟨H0,F,ψ,o,r,e,p⟩;refine⟨λm σ H=>∃ F2 ψ,RS X.K H0 F2 H ψ σ/\Same F F2/\New F F2 H0/\whileD fc g m ψ=Ga o,⟨n,F,ψ,r,.refl _,.refl _ _,e⟩,?_⟩;rintro m σ' H' ⟨F2,env2,r2,f2,n2,e2⟩;cases m with
 | zero=>cases e2
 | succ m =>
  obtain⟨b,x1,x2⟩:=bind_some (show(fc (frz env2)).bind _=Ga o from e2);refine⟨H0,H',frz env2,b,r2.frz,x1,λH3 g3=>?_⟩;have r3:=r2.later g3;have p2:=p.mono f2 n2;cases b with
  | false =>
   cases x2;exact iteF (p2 σ' H3 F2 (.refl _) (.refl _ _) r3)
  | true =>
   obtain⟨o1,x3,x4⟩:=bind_some (show(g env2).bind _=Ga o from x2);refine iteT ⟨λσ4 H4=>∃ F4 ψ,RS X.K H0 F4 H4 ψ σ4/\Same F F4/\New F F4 H0/\whileD fc g m ψ=Ga o,λσ4 H4 h4=>⟨m,uK _,h4⟩,H0,F2,env2,o1,r3,x3,?_⟩;cases o1 with
   | nx e5=>exact λσ6 H6 F6 f6 n6 r6=>⟨F6,e5,r6,f2.trans f6,n2.up n6,x4⟩
   | ct e5=>exact λσ6 H6 F6 f6 n6 r6=>⟨F6,e5,r6,f2.trans f6,n2.up n6,x4⟩
   | bk e5=>cases x4;exact p2
   | rt d=>cases x4;exact p2
   | ro d=>cases x4;exact p2
   | rm a d=>cases x4;exact p2
   | rc a d=>cases x4;exact p2
theorem zy9 {op op':CmpOp}{r r':R2}{k k':D->D->Option D}{a b c:Expr}{f g h:FV}(ho:OpR X (compareOp op) r)(ho':OpR X (compareOp op') r')(hr:R2V X.K r k)(hr':R2V X.K r' k')(ha:PV X a f)(hb:PV X b g)(hc:PV X c h)
  (hm:lastMarks [op,op'] [b,c]=false:=by with_unfolding_all rfl) :
  PB X (.Compare a [op,op'] [b,c] pos) (λψ=>((f ψ).bind λx=>(g ψ).bind λy=>((k x y).bind toB).bind λt=>if t then(h ψ).bind λz=>k' y z else Ga (.bool false)).bind toB):=by
 refine zj8 (pt_chain ho ho' ha hb hc hm) λσ H Q=>?_;rintro⟨H0,F,ψ,bb,rs,e0,q⟩;obtain⟨d,e,eb⟩:=bind_some e0;cases zf9 eb;obtain⟨x,e1,e⟩:=bind_some e;obtain⟨y,e2,e⟩:=bind_some e;obtain⟨t,e3,e⟩:=bind_some e;obtain⟨d1,e4,e5⟩:=bind_some e3;cases zf9 e5;refine⟨H0,F,ψ,x,rs,e1,λv H1 F1 g1 f1 fh1 n1 rv=>⟨H0,F1,ψ,y,rs.grow g1 f1 fh1 n1,e2,λu H2 F2 g2 f2 fh2 n2 ru=>?_⟩⟩;refine hr F2 H2 v u x y _ _ fh2 (rv.mono f2) ru e4 λw H3 F3 g3 f3 fh3 n3 rw3=>?_;cases rw3;refine⟨t,rfl,?_⟩;have gg:Same H H3:=(g1.trans g2).trans g3;have ff:Same F F3:=(f1.trans f2).trans f3;have nn:New F F3 H:=(n1.trans n2 g1).trans n3 (g1.trans g2);cases t with
 | true =>
  obtain⟨z,e6,e7⟩:=bind_some (show(h ψ).bind (λz=>k' y z)=Ga (.bool bb) from e);refine iteT ⟨H0,F3,ψ,z,rs.grow gg ff fh3 nn,e6,λw4 H4 F4 g4 f4 fh4 n4 rw4=>?_⟩;refine hr' F4 H4 u w4 y z _ _ fh4 ((ru.mono f3).mono f4) rw4 e7 λw5 H5 F5 g5 f5 fh5 n5 rw5=>?_;cases rw5;exact⟨bb,rfl,q H5 ((gg.trans g4).trans g5)⟩
 | false=>cases e;exact iteF ⟨false,rfl,q H3 gg⟩
end
abbrev chainB (k k':D->D->Option D)(f g h:FV):FB:=λψ=>((f ψ).bind λx=>(g ψ).bind λy=>((k x y).bind toB).bind λt=>if t then(h ψ).bind λz=>k' y z else Ga (.bool false)).bind toB
abbrev sortL (f:FL):FL:=λψ=>(f ψ).bind sortD
abbrev ixS (f:FL)(g:FV):FV:=λψ=>(f ψ).bind λx=>(g ψ).bind λy=>dIxL x y
end T3
namespace T3
open PySem PySem.Spec PyProof.Rows L2
section
variable {X:Cx}{tg:Expr}{pos:Pos}
end
end T3
namespace T3
open PySem L2
def chkK (n:Nat):qo (Array Nat)->Bool
 | .ret p=>p.toList.isPerm (jf n)
 | .ask i j k=>decide (i<n)&&decide (j<n)&&chkK n (k true)&&chkK n (k false)
theorem zv4:∀ n<7,chkK n (uY n)=true:=by decide +kernel
theorem zrD {n:Nat}(h:n<1000000):rng1 (.int (n:Int))=Ga (rngD 0 n):=by
 unfold rng1;dsimp only;rw[Ge (by constructor<;>omega),kN]
theorem ztS (n:Nat):rngD 0 n=(jf n).map λ(k:Nat)=>jc (k:Int):=by
 unfold rngD;apply km;intro k _;rw[Jj]
theorem zv5 (lo:Int)(n:Nat):(rngD lo n).length=n:=by unfold rngD;rw[jb,jG]
theorem zgC {i j:Int}(h:0<j):dMod (.int i) (.int j)=Ga (.int (i%j)):=by
 show(if decide (0<j) then _ else _)=_;rw[Ge (Gc h)]
theorem zkB {i j:Int}(h:0<j)(h2:j<1073741824):dDiv (.int i) (.int j)=Ga (.int (i/j)):=by
 show(if decide (0<j)&&decide (j<1073741824) then _ else _)=_;rw[Gc h,Gc h2];rfl
theorem zBx {i j:Int}(h:cMul i j=true):dMul (.int i) (.int j)=Ga (.int (i*j)):=by
 show(if cMul i j then _ else _)=_;rw[Ge h]
end T3
namespace T3
open PySem PySem.Spec PyProof.Rows L2
abbrev FP:=En->Option (Option Int)
def tPt (K:ja)(f:FP):TO:=λσ H Q=>∃ H0 F ψ o,RS K H0 F H ψ σ/\f ψ=Ga o/\∀ H' F',Same H H'->Same F F'->Same F' H'->New F F' H->Q o H'
abbrev PPt (X:Cx)(e:Option Expr)(f:FP):Prop:=L2.PO X e (tPt X.K f)
abbrev noP:FP:=λ_=>Ga Gb
def toI:D->Option (Option Int)
 | .int i=>Ga (Ga i)
 | _=>Gb
abbrev someP (f:FV):FP:=λψ=>(f ψ).bind toI
def cutD (xs:List D)(lo hi:Option Int):List D:=(xs.drop (HT.sIx xs.length 0 lo)).take (HT.sIx xs.length xs.length hi-HT.sIx xs.length 0 lo)
def dSl:D->Option Int->Option Int->Option D
 | .list xs,lo,hi=>Ga (.list (cutD xs lo hi))
 | .tuple xs,lo,hi=>if HT.sIx xs.length 0 lo=0/\HT.sIx xs.length xs.length hi=xs.length then Gb else Ga (.tuple (cutD xs lo hi))
 | _,_,_=>Gb
theorem Reps.cut {K:ja}{F:Hp}{ds:List D}{xs:List V}(r:Reps K F ds xs)(lo hi:Option Int):Reps K F (cutD ds lo hi) (cutV xs lo hi):=by
 unfold cutD cutV;rw[r.length];exact(r.drop _).take _
section
variable {X:Cx}{pos p2:Pos}
theorem zfP:PPt X Gb noP:=by
 intro ω s σ H Q I h;obtain⟨H0,F,ψ,o,r,e,q⟩:=h;cases e;exact po_none ω s σ H Q I (q H F (.refl _) (.refl _) r.fh (.refl _ _))
theorem zfQ {e:Expr}{f:FV}(h:PV X e f):PPt X (Ga e) (someP f):=by
 intro ω s σ H Q I hw;obtain⟨H0,F,ψ,o,r,e1,q⟩:=hw;obtain⟨d,e2,e3⟩:=bind_some e1;refine po_some h ω s σ H Q I ⟨H0,F,ψ,d,r,e2,λv H' F' g1 f1 fh1 n1 rv=>?_⟩;cases rv<;>first|(cases e3;done)|skip
 cases e3;exact⟨_,rfl,q H' F' g1 f1 fh1 n1⟩
theorem zfR {a:Expr}{lo hi:Option Expr}{f:FV}{g h:FP}(ha:PV X a f)(hl:PPt X lo g)(hh:PPt X hi h):PV X (.Subscript a (.Slice lo hi Gb p2) pos) (λψ=>(f ψ).bind λx=>(g ψ).bind λl=>(h ψ).bind λu=>dSl x l u):=by
 refine za7 (pe_slice (sl_list.or sl_tup) ha hl hh) λσ H Q=>?_;rintro⟨H0,F,ψ,d,r,e,q⟩;obtain⟨x,e1,e4⟩:=bind_some e;obtain⟨l,e2,e5⟩:=bind_some e4;obtain⟨u,e3,e6⟩:=bind_some e5;clear e e4 e5;refine⟨H0,F,ψ,x,r,e1,λv H1 F1 g1 f1 fh1 n1 rv=>⟨H0,F1,ψ,l,r.grow g1 f1 fh1 n1,e2,λH2 F2 g2 f2 fh2 n2=>⟨H0,F2,ψ,u,(r.grow g1 f1 fh1 n1).grow g2 f2 fh2 n2,e3,λH3 F3 g3 f3 fh3 n3=>?_⟩⟩⟩;have rv3:=rv.mono (f2.trans f3);cases rv3<;>first|(cases e6;done)|skip
 case lst a xs ds h1 h2 =>
  cases e6;refine uj ⟨a,xs,rfl,fh3.seq h1,λp hp=>?_⟩;obtain⟨s1,s2,s3,s4⟩:=grow1 (o:=.lst (cutV xs l u)) fh3 hp;exact q _ _ _ (((g1.trans g2).trans g3).trans s1) (((f1.trans f2).trans f3).trans s2) s3 (((n1.trans n2 g1).trans n3 (g1.trans g2)).trans s4 ((g1.trans g2).trans g3)) (.lst (SqL.of upd_same) ((h2.cut l u).mono s2))
 case tup a xs ds h1 h2 =>
  unfold dSl at e6;dsimp only at e6;split at e6
  .cases e6
  .rename_i hw;cases e6;refine kG ⟨a,xs,rfl,seqT fh3 h1,by rw[<- h2.length];exact hw,λp hp=>?_⟩;obtain⟨s1,s2,s3,s4⟩:=grow1 (o:=.tup (cutV xs l u)) fh3 hp;exact q _ _ _ (((g1.trans g2).trans g3).trans s1) (((f1.trans f2).trans f3).trans s2) s3 (((n1.trans n2 g1).trans n3 (g1.trans g2)).trans s4 ((g1.trans g2).trans g3)) (.tup (SqT.of upd_same) ((h2.cut l u).mono s2))
end
abbrev slV (f:FV)(g h:FP):FV:=λψ=>(f ψ).bind λx=>(g ψ).bind λl=>(h ψ).bind λu=>dSl x l u
end T3
namespace T3
open PySem PySem.Spec PyProof.Rows L2
section
variable {X:Cx}{pos:Pos}
end
end T3
namespace T3
open PySem PySem.Spec PyProof.Rows L2
def minI:List Int->Option Int
 | []=>Gb
 | i::r=>Ga (r.foldl (λa b=>if b<a then b else a) i)
def maxI:List Int->Option Int
 | []=>Gb
 | i::r=>Ga (r.foldl (λa b=>if a<b then b else a) i)
def dMaxL (ds:List D):Option D:=(intsD ds).bind λis=>(maxI is).bind λm=>Ga (.int m)
theorem foldMin:∀ (r:List Int) (i:Int),(r.foldl (λa b=>if b<a then b else a) i=i\/r.foldl (λa b=>if b<a then b else a) i∈r)/\r.foldl (λa b=>if b<a then b else a) i<=i/\∀ a∈r,r.foldl (λa b=>if b<a then b else a) i<=a
 | [],i=>⟨.inl rfl,kQ _,λa h=>by cases h⟩
 | b::r,i=>by
  obtain⟨h1,h2,h3⟩:=foldMin r (if b<i then b else i);rw[k7];refine⟨?_,?_,λa ha=>?_⟩
  .rcases h1 with z|z
   .by_cases hb:b<i
    .rw[Ge hb] at z ⊢;exact .inr (by rw[z];exact jg)
    .rw[Gf hb] at z ⊢;exact .inl z
   .exact .inr (je _ z)
  .refine uq h2 ?_;split
   .rename_i hb;exact Int.le_of_lt hb
   .exact kQ _
  .rcases jt.mp ha with rfl|ha
   .refine uq h2 ?_;split
    .exact kQ _
    .rename_i hb;exact Int.not_lt.mp hb
   .exact h3 a ha
theorem foldMax:∀ (r:List Int) (i:Int),(r.foldl (λa b=>if a<b then b else a) i=i\/r.foldl (λa b=>if a<b then b else a) i∈r)/\i<=r.foldl (λa b=>if a<b then b else a) i/\∀ a∈r,a<=r.foldl (λa b=>if a<b then b else a) i
 | [],i=>⟨.inl rfl,kQ _,λa h=>by cases h⟩
 | b::r,i=>by
  obtain⟨h1,h2,h3⟩:=foldMax r (if i<b then b else i);rw[k7];refine⟨?_,?_,λa ha=>?_⟩
  .rcases h1 with z|z
   .by_cases hb:i<b
    .rw[Ge hb] at z ⊢;exact .inr (by rw[z];exact jg)
    .rw[Gf hb] at z ⊢;exact .inl z
   .exact .inr (je _ z)
  .refine uq ?_ h2;split
   .rename_i hb;exact Int.le_of_lt hb
   .exact kQ _
  .rcases jt.mp ha with rfl|ha
   .refine uq ?_ h2;split
    .exact kQ _
    .rename_i hb;exact Int.not_lt.mp hb
   .exact h3 a ha
theorem ztT {is:List Int}{m:Int}(h:minI is=Ga m):m∈is/\∀ a∈is,m<=a:=by
 cases is with
 | nil=>cases h
 | cons i r =>
  cases h;obtain⟨h1,h2,h3⟩:=foldMin r i;refine⟨?_,λa ha=>?_⟩
  .rcases h1 with z|z
   .rw[z];exact jg
   .exact je _ z
  .rcases jt.mp ha with rfl|ha
   .exact h2
   .exact h3 a ha
theorem ztU {is:List Int}{m:Int}(h:maxI is=Ga m):m∈is/\∀ a∈is,a<=m:=by
 cases is with
 | nil=>cases h
 | cons i r =>
  cases h;obtain⟨h1,h2,h3⟩:=foldMax r i;refine⟨?_,λa ha=>?_⟩
  .rcases h1 with z|z
   .rw[z];exact jg
   .exact je _ z
  .rcases jt.mp ha with rfl|ha
   .exact h2
   .exact h3 a ha
section
variable {X:Cx}{pos:Pos}
theorem zBy (hc:X.calm=true):CallR X (.builtin "min") (λxs H Q=>∃ (p:Gj) (is:List Int) (m:Int),xs=[.ref p]/\SqL X.K H p (is.map V.int)/\minI is=Ga m/\Q (.int m) H):=by
 intro ω s σ H xs us Q I r h;obtain⟨p,is,m,rfl,hl,hm,q⟩:=h;obtain⟨hm,hle⟩:=ztT hm;obtain⟨u,rfl,ru⟩:=vals1 r;cases ru;obtain⟨its,rv,pl,hz⟩:=I.list hl;have hi:IntsAre its is:=intsAre_of rv;obtain⟨ys,ey⟩:=hi.allInts.items;have en:is=ys.toList.map (·.1):=hi.numsOf.symm.trans (by rw[<- nums_intItems,<- ey]);have el:is.length=ys.size:=by rw[en,jb,ku]
 have hne:0<ys.size:=by rw[<- el];exact vt hm
 have hl':s.heap.IsList p (intItems ys):=by rw[<- ey];exact pl.isList
 refine min_intList (I.ok.hd hc) hl' hne λv h' tk hv hk=>?_;obtain⟨t,rfl⟩:=intItems_at hv;obtain⟨b1,b2⟩:=argBest_lt (numAt ys) (ys.size-1);have mem:numAt ys (argBest (λi j=>decide (numAt ys i<numAt ys j)) (ys.size-1))∈is:=by rw[numAt_eq,<- en];exact JB (by omega)
 have le:numAt ys (argBest (λi j=>decide (numAt ys i<numAt ys j)) (ys.size-1))<=m:=by
  obtain⟨j,hj,ej⟩:=JC hm;have:=b2 j (by omega);rw[numAt_eq ys j,<- en,ej] at this;exact this
 exact⟨.int m,H,I.kept hk,⟨t,by rw[Int.le_antisymm le (hle _ mem)]⟩,q⟩
theorem ztV (hc:X.calm=true):CallR X (.builtin "max") (λxs H Q=>∃ (p:Gj) (is:List Int) (m:Int),xs=[.ref p]/\SqL X.K H p (is.map V.int)/\maxI is=Ga m/\Q (.int m) H):=by
 intro ω s σ H xs us Q I r h;obtain⟨p,is,m,rfl,hl,hm,q⟩:=h;obtain⟨hm,hle⟩:=ztU hm;obtain⟨u,rfl,ru⟩:=vals1 r;cases ru;obtain⟨its,rv,pl,hz⟩:=I.list hl;have hi:IntsAre its is:=intsAre_of rv;obtain⟨ys,ey⟩:=hi.allInts.items;have en:is=ys.toList.map (·.1):=hi.numsOf.symm.trans (by rw[<- nums_intItems,<- ey]);have el:is.length=ys.size:=by rw[en,jb,ku]
 have hne:0<ys.size:=by rw[<- el];exact vt hm
 have hl':s.heap.IsList p (intItems ys):=by rw[<- ey];exact pl.isList
 refine max_intList (I.ok.hd hc) hl' hne λv h' tk hv hk=>?_;obtain⟨t,rfl⟩:=intItems_at hv;obtain⟨b1,b2⟩:=argBest_gt (numAt ys) (ys.size-1);have mem:numAt ys (argBest (λi j=>decide (numAt ys i>numAt ys j)) (ys.size-1))∈is:=by rw[numAt_eq,<- en];exact JB (by omega)
 have le:m<=numAt ys (argBest (λi j=>decide (numAt ys i>numAt ys j)) (ys.size-1)):=by
  obtain⟨j,hj,ej⟩:=JC hm;have:=b2 j (by omega);rw[numAt_eq ys j,<- en,ej] at this;exact this
 exact⟨.int m,H,I.kept hk,⟨t,by rw[Int.le_antisymm (hle _ mem) le]⟩,q⟩
theorem zBz {p:Pos}{e:Expr}{fl:FL}(hc:X.calm=true)(hg:Gl X "max")(hm:X.mg "max"=Gb)(ha:PSh X e fl)(hs:starEach [e] X.env=[(false,eval e X.env)]:=by rfl) :
  PV X (.Call (.Name "max" p) [e] [] pos) (unL dMaxL fl):=by
 refine za7 (cB1 (ztV hc) hg hm boot_max ha (hs:=hs)) λσ H Q=>?_;rintro⟨H0,F,ψ,d,r,e,q⟩;obtain⟨ds,e1,e⟩:=bind_some e;obtain⟨is,e2,e⟩:=bind_some e;obtain⟨m,e3,e⟩:=bind_some e;cases e;refine⟨H0,F,ψ,ds,r,e1,λp xs H1 F1 g1 f1 fh1 n1 hl rr=>⟨p,is,m,rfl,?_,e3,q _ H1 F1 g1 f1 fh1 n1 (.int _)⟩⟩;rw[zj9 e2] at rr;rw[<- rr.ints_inv];exact hl
def boolsD:List D->Option (List Bool)
 | []=>Ga []
 | .bool b::r=>(boolsD r).bind λbs=>Ga (b::bs)
 | _=>Gb
theorem zlX:∀ {ds:List D} {bs:List Bool},boolsD ds=Ga bs->ds=bs.map jW
 | [],bs,h=>by cases h;rfl
 | .bool b::r,bs,h=>by
  obtain⟨cs,e1,e2⟩:=bind_some (show(boolsD r).bind (λbs=>Ga (b::bs))=Ga bs from h);cases e2;rw[zlX e1];rfl
 | .none::_,_,h=>by cases h
 | .int _::_,_,h=>by cases h
 | .str _::_,_,h=>by cases h
 | .list _::_,_,h=>by cases h
 | .tuple _::_,_,h=>by cases h
 | .dict _::_,_,h=>by cases h
theorem ziG:∀ bs:List Bool,boolsD (bs.map jW)=Ga bs
 | []=>rfl
 | b::r=>by show(boolsD (r.map jW)).bind _=_;rw[ziG r];rfl
theorem Reps.bools_inv {K:ja}{F:Hp}:∀ {bs:List Bool} {vs:List V},Reps K F (bs.map jW) vs->vs=bs.map V.bl
 | [],_,h=>by cases h;rfl
 | b::r,_,h=>by
  cases h with
  | cons h t=>cases h;rw[Reps.bools_inv t];rfl
def dAll (ds:List D):Option D:=(boolsD ds).bind λbs=>Ga (.bool (bs.all id))
theorem ztW (bs:List Bool):(jf bs.length).all (λi=>bs.getD i false)=bs.all id:=by
 rw[kA,jF,jF];constructor
 .intro h x hx;obtain⟨i,hi,rfl⟩:=List.getElem_of_mem hx;have:=h i (jp.mpr hi);rw[jB,jw hi] at this;exact this
 .intro h i hi;have hi:=jp.mp hi;rw[jB,jw hi];exact h _ (qd hi)
theorem zv6 {bs:List Bool}{its:List Gg}(rv:Vals (bs.map V.bl) its):∀ (i:Nat) (v:Gg),its.toArray[i]?=Ga v->v=qX (bs.getD i false):=by
 intro i v hv;have hv':its[i]?=Ga v:=by simpa using hv
 have hlen:(bs.map V.bl).length=its.length:=rv.length;have:i<its.length:=(ji.mp hv').1;have hk:i<bs.length:=by rw[jb] at hlen;omega
 obtain⟨w',e1,e2⟩:=rv.get (i:=i) (x:=.bl bs[i]) (by rw[jz,jw hk];rfl);rw[hv'] at e1;cases e1;cases e2;rw[jB,jw hk];rfl
theorem ztX (hc:X.calm=true):CallR X (.builtin "all") (λxs H Q=>∃ (p:Gj) (bs:List Bool),xs=[.ref p]/\SqL X.K H p (bs.map V.bl)/\Q (.bl (bs.all id)) H):=by
 intro ω s σ H xs us Q I r h;obtain⟨p,bs,rfl,hl,q⟩:=h;obtain⟨u,rfl,ru⟩:=vals1 r;cases ru;obtain⟨its,rv,pl,hz⟩:=I.list hl;have hp:p<s.heap.objs.size:=by obtain⟨o,n,e,_⟩:=pl;exact jm e
 refine call_all_walk (wpAny_pyIter_list pl.isList ⟨s.heap.objs.size,[s.heap.objs.size,p],[s.heap.objs.size],_,_,_,λj=>bs.getD j false,rfl,Walks.list (show X.A.in1.handled=Gb from I.ok.hd hc) _ p (jK hp) its.toArray,⟨⟨_,jA _ rfl,rfl,rfl⟩,?_⟩,?_,?_⟩)
 .obtain⟨o,n,e,c,_,d⟩:=pl;exact⟨o,jd _ e,c,n,d⟩
 .intro i v s1 Q1 E1 hv hQ;rw[zv6 rv i v hv];exact wpAny_truthy_bool hQ
 .intro h' tk hk;have el:its.toArray.size=bs.length:=by rw[jo,<- rv.length,jb]
  rw[el,ztW];refine⟨.bl (bs.all id),H,I.kept λb o e=>hk b o ?_ (jd _ e),rfl,q⟩;intro z;cases jv.mp z;exact absurd (jm e) (jP _)
theorem zzA {p:Pos}{e:Expr}{fl:FL}(hc:X.calm=true)(hg:Gl X "all")(hm:X.mg "all"=Gb)(ha:PSh X e fl)(hs:starEach [e] X.env=[(false,eval e X.env)]:=by rfl) :
  PV X (.Call (.Name "all" p) [e] [] pos) (unL dAll fl):=by
 refine za7 (cB1 (ztX hc) hg hm boot_all ha (hs:=hs)) λσ H Q=>?_;rintro⟨H0,F,ψ,d,r,e,q⟩;obtain⟨ds,e1,e⟩:=bind_some e;obtain⟨bs,e2,e⟩:=bind_some e;cases e;refine⟨H0,F,ψ,ds,r,e1,λp xs H1 F1 g1 f1 fh1 n1 hl rr=>⟨p,bs,rfl,?_,q _ H1 F1 g1 f1 fh1 n1 (.bl _)⟩⟩;rw[zlX e2] at rr;rw[<- rr.bools_inv];exact hl
def dInt:D->Option D
 | .int i=>Ga (.int i)
 | .bool b=>Ga (.int (if b then 1 else 0))
 | _=>Gb
theorem zBA {e:Expr}{f:FV}{p:Pos}(hg:Gl X "int")(hm:X.mg "int"=Gb)(ha:PV X e f)(hs:starEach [e] X.env=[(false,eval e X.env)]:=by rfl):PV X (.Call (.Name "int" p) [e] [] pos) (un dInt f):=by
 refine za7 (cT1 call_int1 hg hm boot_int ha (hs:=hs)) λσ H Q=>?_;rintro⟨H0,F,ψ,d,r,e,q⟩;obtain⟨d',e1,e⟩:=bind_some e;refine⟨H0,F,ψ,d',r,e1,λv H1 F1 g1 f1 fh1 n1 rv=>?_⟩;cases rv<;>first|(cases e;done)|skip
 .rename_i b;cases e;exact .inr ⟨b,rfl,q _ H1 F1 g1 f1 fh1 n1 (.int _)⟩
 .rename_i i;cases e;exact .inl ⟨i,rfl,q _ H1 F1 g1 f1 fh1 n1 (.int _)⟩
abbrev nevS:FS:=λ_=>Gb
theorem zn5 {st:Stmt}:PSt X st nevS:=by
 intro ω s σ H D I hw;obtain⟨H0,F,ψ,o,r,e,p⟩:=hw;cases e
end
section
variable {X:Cx}{tg:Expr}{pos:Pos}
end
section
variable {prog:Program}{w:World}{A:Around}{E:Gg->Gh->Prop}{s:Gh}
theorem zr8:typeLookup (.type "list_reverseiterator") "__len__"=pure Gb:=by rw[typeLookup_type,builtinLookup_eq_fast];kernel_rfl
theorem zv7:typeLookup (.type "list_reverseiterator") "__length_hint__"=pure (Ga (.builtin "list_reverseiterator.__length_hint__")):=by rw[typeLookup_type,builtinLookup_eq_fast];kernel_rfl
theorem zv8 {x:Gj}{Q:Bool->Gh->Prop}(hT:s.TypeIs (.ref x) "list_reverseiterator")(hQ:Q false s):wpAny (model prog w) A (kY (.ref x)) Q E s:=by
 unfold kY;refine wpAny_bind (wpAny_specialOf hT zr8 ?_);show wpAny _ _ (specialOf (kB x) (jl "__length_hint__") >>= _) _ _ _;refine wpAny_bind (wpAny_specialOf hT zv7 ?_);generalize hid:("list_reverseiterator.__length_hint__":String)=id0
 wp_delta
 rw[show splitId id0=Ga ("list_reverseiterator","__length_hint__") from by subst hid;decide +kernel];subst hid;refine wpAny_bind (wpAny_isInstance (T:="list_reverseiterator") (b:=true) hT (by rw[isSubtype_type];kernel_rfl) ?_);refine wpAny_ite_split (λz=>absurd z (by decide)) λ_=>?_;refine wpAny_ite_split (λ_=>?_) λz=>absurd (by decide +kernel) z;refine wpAny_ite_split (λz=>absurd z (by decide +kernel)) λ_=>?_;exact wpAny_pure hQ
theorem zzB {I:Gj}{fp wr:List Gj}{n:Nat}{P:Nat->Gg->Prop}{St:Nat->Heap->Prop}{Q:Gg->Gh->Prop}
  (W:Walks prog w A.in1.in1 I fp wr n P St) (hT:∀ i (s:Gh),St i s.heap->s.TypeIs (.ref I) "list_reverseiterator")
  (hint:∀ (s1:Gh) (Q1:Bool->Gh->Prop) (E1:Gg->Gh->Prop),s1.TypeIs (.ref I) "list_reverseiterator"->Q1 false s1->wpAny (model prog w) A.in1.in1 (kY (.ref I)) Q1 E1 s1)
  (st0:St 0 s.heap) (hfp:s.heap.objs.size∉fp) (hI:I∈fp) (hn:n<=sizeLine)
  (hQ:∀ h' tk acc c,(∀ b o,b∉wr->s.heap.get? b=Ga o->h'.get? b=Ga o)->h'.get? s.heap.objs.size=Ga { cls:=.type "list",data:=.seq acc c }->ItemsOf P acc n->Q (.ref s.heap.objs.size) { s with heap:=h',toks:=tk }) :
  wpAny (model prog w) A (call (.type "list") [.ref I]) Q E s:=by
 have W':=W.toS;refine callType_codes (Q₁:=λob s1=>ob=kB s.heap.objs.size/\s1={ s with heap:=s.heap.push { cls:=.type "list",data:=.seq #[] } }) F.called_list (F.typeCall_list_1 _) F.entry_list_init (code_list_new _ ⟨rfl,rfl⟩) λob s1 z=>?_;obtain⟨rfl,rfl⟩:=z;have n0:(s.heap.push { cls:=.type "list",data:=.seq #[] }).get? s.heap.objs.size=Ga { cls:=.type "list",data:=.seq #[] }:=jA _ rfl;have nI:s.heap.objs.size≠I:=λz=>hfp (z▸hI);refine⟨⟨_,n0,rfl⟩,F.args_list_init_2 _ _,?_⟩;show wpAny _ _ (qp (.ref s.heap.objs.size) >>= λold=>Builtin.List.listUpdate (.ref s.heap.objs.size) (λ_=>#[]) >>= λ_=>letGo old.toList.reverse >>= λ_=>jX (.ref s.heap.objs.size) (.ref I) .none) _ _ _;refine wpAny_bind ?_;unfold qp;refine wpAny_bind (wpAny_seqItems n0 rfl (wpAny_pure ?_));show wpAny _ _ (updateSeq s.heap.objs.size (λ_=>#[]) >>= λ_=>letGo (#[]:Array Gg).toList.reverse >>= λ_=>jX (.ref s.heap.objs.size) (.ref I) .none) _ _ _;refine wpAny_bind (wpAny_updateSeq n0 rfl ?_);have n1:=k9 (kr (λ_=>(#[]:Array Gg))) n0 rfl;have kp:∀ b o,s.heap.get? b=Ga o->((s.heap.push { cls:=.type "list",data:=.seq #[] }).update s.heap.objs.size (kr (λ_=>(#[]:Array Gg)))).get? b=Ga o:=λb o e =>
  (kq _ _ (kX (jK (jm e)))).trans (jd _ e)
 have st1:=W.frame 0 _ _ st0 λb _ o e=>kp b o e;generalize (s.heap.push { cls:=.type "list",data:=.seq #[] }).update s.heap.objs.size (kr (λ_=>(#[]:Array Gg)))=h1 at n1 kp st1;refine wpAny_bind (wpAny_letGo ?_);unfold jX;refine wpAny_bind (wpAny_typeOf (hT 0 { s with heap:=h1 } st1) ?_);rw[show uH (.ref s.heap.objs.size) (.ref I)=false from by simp[uH,nI]];simp only[show(uM "list_reverseiterator"==uM "list")=false by decide,show(uM "list_reverseiterator"==uM "tuple")=false by decide,uG,ub,if_false];refine wpAny_bind (W.self 0 _ _ _ st1 ?_);refine wpAny_bind (wpAny_holding (hint _ _ _ (hT 0 { s with heap:=h1 } st1) ?_));refine wpAny_ite_split (λz=>absurd z (by decide)) λ_=>?_;refine wpAny_pure ⟨plainId_quiet F.plain_extend_loop _,codeAny_extend_loopS W' hn s.heap.objs.size hfp .none n 0 { s with heap:=h1 } #[] _ rfl (j8 _) st1 n1 (ItemsOf.nil P) λs' acc c m nn it=>?_⟩;refine⟨rfl,?_⟩;rw[Moved.eq_with m];refine hQ s'.heap s'.toks acc c (λb o hb e=>m.heap b o (λz=>?_) (kp b o e)) nn it;rcases jt.mp z with z|z
 .exact absurd (jm e) (by rw[z];exact jP _)
 .exact hb z
end
abbrev revL (f:FL):FL:=λψ=>(f ψ).bind λxs=>Ga xs.reverse
section
variable {X:Cx}{pos:Pos}
theorem zqJ:∀ (xs:List V) (us:List Gg),xs.length=us.length->(∀ (i:Nat) (x:V) (u:Gg),xs[i]?=Ga x->us[i]?=Ga u->RelV x u)->Vals xs us
 | [],[],_,_=>.nil
 | [],_::_,h,_=>by cases h
 | _::_,[],h,_=>by cases h
 | x::xs,u::us,h,r=>.cons (r 0 x u rfl rfl) (zqJ xs us (Nat.succ.inj h) λi y z e1 e2=>r (i+1) y z e1 e2)
theorem zpF {e:Expr}{f:FL}{p p2 pos2:Pos}(hc:X.calm=true)(hg:Gl X "list")(hm:X.mg "list"=Gb)(hg2:Gl X "reversed")(hm2:X.mg "reversed"=Gb)(ha:PSh X e f)(hs:starEach [e] X.env=[(false,eval e X.env)]:=by rfl)
  (hs2:starEach [.Call (.Name "reversed" p2) [e] [] pos2] X.env=[(false,eval (.Call (.Name "reversed" p2) [e] [] pos2) X.env)]:=by rfl) :
  PO X (.Call (.Name "list" p) [.Call (.Name "reversed" p2) [e] [] pos2] [] pos) (revL f):=by
 intro ω s σ H Q I h;obtain⟨H0,F,ψ,ds,r,e0,q⟩:=h;obtain⟨d1,e1,e2⟩:=bind_some e0;cases e2;clear e0;refine Call_ (ld_blt I hg hm boot_list (PyProof.Rows.callWith_type1 ?_ hs2 (by rfl)));rw[hs2];refine qZ ?_;refine Call_ (ld_blt I hg2 hm2 boot_reversed (PyProof.Rows.callWith_type1 (thn (pa_cons ha pa_nil hs pos2 ω s σ H (λvs H2=>∃ l xs F2,vs=[.ref l]/\SqL X.K H2 l xs/\Same H H2/\Same F F2/\Same F2 H2/\New F F2 H/\Reps X.K F2 d1 xs) I
  ⟨H0,F,ψ,d1,r,e1,λa xs H1 F1 g1 f1 fh1 n1 hl rr=>⟨a,xs,F1,rfl,hl,g1,f1,fh1,n1,rr⟩⟩) λus s1 ⟨vs,H2,I2,rvs,l,xs,F2,ev,hl,g2,f2,fh2,n2,rr⟩=>?_) hs (by rfl)))
 subst ev;obtain⟨u,rfl,ru⟩:=vals1 rvs;cases ru;obtain⟨its,rv,pl,hz⟩:=I2.list hl;have ll:l<s1.heap.objs.size:=by obtain⟨o,n,e,_⟩:=pl;exact jm e
 refine call_reversed_list pl.isList ?_;refine Je ?_;have I3:Inv X ω σ H2 { s1 with heap:=s1.heap.push (revObj l ((its.toArray.size:Int)-1)),toks:=s1.toks }:=I2.kept λb o e=>jd _ e;have hit:(s1.heap.push (revObj l ((its.toArray.size:Int)-1))).IsRevIter s1.heap.objs.size l ((its.toArray.size:Int)-1):=⟨_,jA _ rfl,rfl,rfl⟩;have hl3:(s1.heap.push (revObj l ((its.toArray.size:Int)-1))).IsList l its.toArray:=by obtain⟨o,n,e,c,_,d⟩:=pl;exact⟨o,jd _ e,c,n,d⟩
 have W:=Walks.listRev (prog:=X.prog) (w:=X.w) (A:=X.A.in1.in1) (show X.A.in1.in1.handled=Gb from I2.ok.hd hc) s1.heap.objs.size l (jK ll) its.toArray;refine zzB W (λi s2 z=>z.2.1.typeIs) (λs2 Q2 E2 z1 z2=>zv8 z1 z2) ⟨j8 _,(by rw[show(its.toArray.size:Int)-1-((0:Nat):Int)=(its.toArray.size:Int)-1 by omega];exact hit),hl3⟩ ?_ (by simp) ?_ λh' tk acc c k na it=>?_
 .rw[qM];simp only[jt,kK,or_false,not_or];exact⟨Nat.succ_ne_self _,uN (Nat.lt_succ_of_lt ll)⟩
 .rw[jo,<- rv.length];exact hz
 .have sz:acc.size=its.length:=by rw[it.1,jo]
  have vr:Vals xs.reverse acc.toList:=by
   refine zqJ _ _ (by have a:=rv.length;have b:=ku (xs:=acc);rw[kD];omega) λi x u hx hu=>?_;have hu':=it.2 i u (by rw[<- ua];exact hu);have li:i<xs.length:=by have:=(ji.mp hx).1;rw[kD] at this;exact this
   rw[List.getElem?_reverse li] at hx;obtain⟨u',e1,e2⟩:=rv.get hx;have e3:its[its.length-1-i]?=Ga u:=by rw[jo,List.getElem?_toArray] at hu';exact hu'
   rw[<- rv.length,e1] at e3;cases e3;exact e2
  have hS:s1.heap.objs.size<(s1.heap.push (revObj l ((its.toArray.size:Int)-1))).objs.size:=by rw[qM];exact uK _
  have f3:H2 (s1.heap.push (revObj l ((its.toArray.size:Int)-1))).objs.size=Gb:=I3.fresh;have I4:Inv X ω σ (upd H2 (s1.heap.push (revObj l ((its.toArray.size:Int)-1))).objs.size (.lst xs.reverse)) { s1 with heap:=h',toks:=tk }:=by
   refine Inv.laid (X:=X) (s:=s1) (t':=tk) I2 (λb o e=>k b o ?_ (jd _ e)) (uz hS) ?_
   .intro z;cases jv.mp z;exact absurd (jm e) (jP _)
   .refine⟨by rw[kD];exact hz,acc.toList,c,vr,?_⟩;rw[Array.toArray_toList];exact na
  have s2:Same H2 (upd H2 (s1.heap.push (revObj l ((its.toArray.size:Int)-1))).objs.size (.lst xs.reverse)):=Same.new f3;exact⟨.ref _,_,I4,rfl,q _ xs.reverse _ F2 (g2.trans s2) f2 (fh2.trans s2) n2 (g2.free f3) (fh2.free f3) upd_same rr.reverse⟩
end
theorem zqK {X:Cx}{pos:Pos}{x:Str}{n:Int}(hm:∃ t,X.mg x=Ga (.int n t))(hg:Gl X x:=by rfl)(hd:(x==("__debug__":Str))=false:=by decide):PV X (.Name x pos) (λ_=>Ga (.int n)):=by
 obtain⟨t,h⟩:=hm;exact zBr (v:=.int n) h ⟨_,rfl⟩ (λ_ _=>.int _) hg hd
end T3
namespace T3
open PySem PySem.Spec PyProof.Rows L2
section
variable {X:Cx}{ω:List (Gj×Obj)}{σ:St}{F H:Hp}{s:Gh}{a:Gj}{ks:List D}{as:List Gj}{ep:Nat}
end
section
variable {X:Cx}{pos:Pos}
end
section
variable {prog:Program}{w:World}{A:Around}{E:Gg->Gh->Prop}{s:Gh}
theorem zqL:typeLookup (.type "dict") "__len__"=pure (Ga (.builtin "dict.__len__")):=by rw[typeLookup_type,builtinLookup_eq_fast];kernel_rfl
theorem ztY {x:Gj}{Q:Bool->Gh->Prop}(hT:s.TypeIs (.ref x) "dict")(hQ:Q false s):wpAny (model prog w) A (kY (.ref x)) Q E s:=by
 unfold kY;refine wpAny_bind (wpAny_specialOf hT zqL ?_);generalize hid:("dict.__len__":String)=id0
 wp_delta
 rw[show splitId id0=Ga ("dict","__len__") from by subst hid;decide +kernel];subst hid;refine wpAny_bind (wpAny_isInstance (T:="dict") (b:=true) hT (by rw[isSubtype_type];kernel_rfl) ?_);refine wpAny_ite_split (λz=>absurd z (by decide)) λ_=>?_;refine wpAny_ite_split (λ_=>?_) λz=>absurd (by decide +kernel) z;exact wpAny_bind (wpAny_typeOf hT (wpAny_pure hQ))
end
section
variable {X:Cx}{pos:Pos}
end
end T3
namespace T3
open PySem PySem.Spec PyProof.Rows L2
section
variable {X:Cx}{pos:Pos}
end
end T3
namespace T3
open PySem PySem.Spec PyProof.Rows L2
theorem zv9 {a:Gj}{ws:List (Int×V)}{ep:Nat}:∀ h1 h2:Heap,DiP a ws ep h1->(∀ o,h1.get? a=Ga o->h2.get? a=Ga o)->DiP a ws ep h2:=by
 rintro h1 h2 ⟨o,es,ho,r⟩ k;exact⟨o,es,k _ ho,r⟩
theorem zyC {P:Program}{w:World}{H:Hp}{h:Heap}{a:Gj}{ws:List (Int×V)}{ep:Nat}(p:DiP a ws ep h):ObjOk P w H h a (.ext (DiP a ws ep)):=by
 obtain⟨o,es,ho,r⟩:=id p;exact⟨p,⟨o,ho⟩,zv9⟩
theorem zyD {P:Program}{w:World}{H:Hp}{h:Heap}{a:Gj}{ws:List (Int×V)}{ep:Nat}(ok:HOk P w H h)(e:H a=Ga (.ext (DiP a ws ep))):DiP a ws ep h:=(show ObjOk P w H h a (.ext _) from ok a _ e).1
theorem IntEs.pairs {P:Program}{w:World}:∀ {ws:List (Int×V)} {es:List DictEntry},IntEs ws es->∃ vs:List (Int×Gg),KV ws vs/\Pairs (intKind P w) es vs
 | _,_,.nil=>⟨[],.nil,.nil⟩
 | _,_,.cons (k:=k) (e:=e) hk hh hv t=>by
  obtain⟨vs,h1,h2⟩:=t.pairs (P:=P) (w:=w);exact⟨(k,e.val)::vs,.cons ⟨rfl,hv⟩ h1,.cons hk rfl h2⟩
theorem IntEs.keys {P:Program}{w:World}:∀ {ws:List (Int×V)} {es:List DictEntry},IntEs ws es->∀ e∈es,∃ k,(intKind P w).is k e.key=true/\e.hash=(intKind P w).hash k
 | _,_,.nil,e,h=>by cases h
 | _,_,.cons (k:=k) hk hh hv t,e,h=>by
  rcases jt.mp h with rfl|h
  .exact⟨k,hk,hh⟩
  .exact t.keys e h
theorem zrE {P:Program}{w:World}:∀ {ws:List (Int×V)} {vs:List (Int×Gg)} {es:List DictEntry},KV ws vs->Pairs (intKind P w) es vs->(∀ e∈es,∃ k,(intKind P w).is k e.key=true/\e.hash=(intKind P w).hash k)->IntEs ws es
 | _,_,_,.nil,.nil,_=>.nil
 | (k,v)::ws,kv::vs,e::es,.cons a t,.cons h1 h2 t2,hk=>by
  obtain⟨k',z1,z2⟩:=hk e jg;have ek:k'=kv.1:=(intKind P w).inj _ _ _ z1 h1;have e0:k=kv.1:=a.1;refine .cons ?_ ?_ ?_ (zrE t t2 λe h=>hk e (je _ h))
  .rw[e0];exact h1
  .rw[z2,ek,e0];rfl
  .rw[h2];exact a.2
theorem zyE {κ:Type}:∀ {ws:List (κ×V)} {vs:List (κ×Gg)},KV ws vs->vs.map (·.1)=ws.map (·.1)
 | _,_,.nil=>rfl
 | _,_,.cons h t=>by
  rw[jQ,jQ,zyE t];exact congrArg (·::_) h.1.symm
theorem RepKV.fst {K:ja}{F:Hp}:∀ {l:List (Int×D)} {m:List (Int×V)},RepKV K F l m->m.map (·.1)=l.map (·.1)
 | _,_,.nil=>rfl
 | _,_,.cons h t=>congrArg (_::·) t.fst
def putD (kvs:List (Int×D))(k:Int)(d:D):List (Int×D) :=
 if (kvs.any λkv=>decide (kv.1=k))=true then kvs.map (λkv=>if kv.1=k then(kv.1,d) else kv) else kvs++[(k,d)]
theorem RepKV.anyk {K:ja}{F:Hp}(k:Int):∀ {l:List (Int×D)} {m:List (Int×V)},RepKV K F l m->(m.any λkv=>decide (kv.1=k))=(l.any λkv=>decide (kv.1=k))
 | _,_,.nil=>rfl
 | _,_,.cons h t=>by rw[vz,vz,t.anyk k]
theorem RepKV.mapk {K:ja}{F:Hp}{k:Int}{d:D}{v:V}(q:Rep K F d v):∀ {l:List (Int×D)} {m:List (Int×V)},RepKV K F l m->RepKV K F (l.map λkv=>if kv.1=k then(kv.1,d) else kv) (m.map λkv=>if kv.1=k then(kv.1,v) else kv)
 | _,_,.nil=>.nil
 | (j,e)::_,(_,u)::_,.cons h t=>by
  rw[jQ,jQ];by_cases c:j=k
  .rw[Ge c,Ge c];exact .cons q (t.mapk q)
  .rw[Gf c,Gf c];exact .cons h (t.mapk q)
theorem RepKV.app {K:ja}{F:Hp}:∀ {l l2:List (Int×D)} {m m2:List (Int×V)},RepKV K F l m->RepKV K F l2 m2->RepKV K F (l++l2) (m++m2)
 | _,_,_,_,.nil,q=>q
 | _,_,_,_,.cons h t,q=>.cons h (t.app q)
theorem RepKV.put {K:ja}{F:Hp}{k:Int}{d:D}{v:V}{l:List (Int×D)}{m:List (Int×V)}(r:RepKV K F l m)(q:Rep K F d v):RepKV K F (putD l k d) (putK m k v):=by
 unfold putD putK;rw[r.anyk k];split
 .exact r.mapk q
 .exact r.app (.cons q .nil)
theorem zn6 (kvs:List (Int×D))(k:Int)(d:D):(kvs.map λkv=>if kv.1=k then(kv.1,d) else kv).map (·.1)=kvs.map (·.1):=by
 rw[jL];refine km λx _=>?_;show(if x.1=k then(x.1,d) else x).1=x.1;split<;>rfl
theorem zzC {kvs:List (Int×D)}{k:Int}{d:D}(ok:KvOk kvs)(hl:kvs.length<1000000):KvOk (putD kvs k d):=by
 unfold putD;split
 .exact⟨by rw[zn6];exact ok.nd,by rw[jb];exact ok.len⟩
 .rename_i c;refine⟨?_,by rw[jh];exact hl⟩;rw[jO,uU];refine⟨ok.nd,ka.mpr ⟨by simp,vw⟩,λx hx y hy=>?_⟩;rw[jv.mp hy];rintro rfl;obtain⟨p,h1,h2⟩:=jx.mp hx;exact c (Jr.mpr ⟨p,h1,Gc h2⟩)
section
variable {X:Cx}{ω:List (Gj×Obj)}{σ:St}{F H:Hp}{s:Gh}{a:Gj}{kvs:List (Int×D)}{ws:List (Int×V)}{ep:Nat}
theorem diH (I:Inv X ω σ H s)(e:H a=Ga (.ext (DiP a ws ep)))(nd:(ws.map (·.1)).Nodup):∃ vs:List (Int×Gg),KV ws vs/\s.heap.DictOf (intKind X.prog X.w) a vs:=by
 obtain⟨o,es,ho,hc,hd,he⟩:=zyD I.hok e;obtain⟨vs,h1,h2⟩:=he.pairs (P:=X.prog) (w:=X.w);exact⟨vs,h1,o,es,ep,ho,hc,hd,λe h=>he.keys e (vC.mpr h),h2,by rw[zyE h1];exact nd⟩
theorem zBB {k:Int}{v:V}{u r:Gg}{A:Around}{E:Gg->Gh->Prop}{Q:Unit->Gh->Prop}(I:Inv X ω σ H s)(e:H a=Ga (.ext (DiP a ws ep)))(nd:(ws.map (·.1)).Nodup)(hz:ws.length<=1000000)(ru:RelV (.int k) u)(rv:RelV v r)
  (h:∀ s' ep',Inv X ω σ (upd H a (.ext (DiP a (putK ws k v) ep'))) s'->Q () s'):wpAny (model X.prog X.w) A (setItem (.ref a) u r) Q E s:=by
 obtain⟨vs,rel,dd⟩:=diH I e nd;obtain⟨t,rfl⟩:=ru;have hz':vs.length<=sizeLine:=by rw[<- rel.length,sizeLine_eq];exact jn hz (by decide)
 refine wpAny_setItem_pairs (knd:=intKind X.prog X.w) (hsz:=hz') (k:=k) (show vB k (.int k t)=true by simp[vB]) dd λh' dd' hs=>?_;obtain⟨o',es',ep',ho,hc,hd,hk,hp,_⟩:=dd';refine h _ ep' (d_write I (by rw[e];trivial) hs ⟨o',ho⟩ (zyC ⟨o',es',ho,hc,hd,?_⟩));exact zrE (rel.put k rv) hp λe h=>hk e (vC.mp h)
end
end T3
namespace T3
open PySem PySem.Spec PyProof.Rows L2
theorem RepKV.length {K:ja}{F:Hp}:∀ {l:List (Int×D)} {m:List (Int×V)},RepKV K F l m->l.length=m.length
 | _,_,.nil=>rfl
 | _,_,.cons _ t=>congrArg Jz t.length
theorem RepKV.nd {K:ja}{F:Hp}{l:List (Int×D)}{m:List (Int×V)}(r:RepKV K F l m)(ok:KvOk l):(m.map (·.1)).Nodup:=by rw[r.fst];exact ok.nd
theorem RepKV.le {K:ja}{F:Hp}{l:List (Int×D)}{m:List (Int×V)}(r:RepKV K F l m)(ok:KvOk l):m.length<=1000000:=by rw[<- r.length];exact ok.len
section
variable {X:Cx}{pos:Pos}
theorem zwA:PE X (.Dict [] [] pos) (λσ H Q=>∀ p,H p=Gb->(p==sysModules)=false->Q (.ref p) (upd H p (.ext (DiP p [] 0)))):=λω s σ H Q I h =>
 wpAny_Dict_empty ⟨.ref s.heap.objs.size,_,I.laid (a:=s.heap.objs.size) (o:=.ext (DiP s.heap.objs.size [] 0)) (t':=s.toks) (λ_ _ q=>jd _ q) (jk _) (zyC ⟨_,#[],jA _ rfl,⟨rfl,rfl,rfl⟩,rfl,.nil⟩),rfl,
  h _ (I.hok.fresh (jk _)) (beq_eq_false_iff_ne.mpr (kX (jK I.big)))⟩
abbrev newI (i:Nat):FS:=λψ=>Ga (.nx (ψ.set i (.dki Gb [])))
theorem zzD (i:Nat){x:Str}{p pos':Pos}(hN:X.N.Nodup)(hi:X.N[i]?=Ga x:=by rfl)(hx:Loc X.env.scope x:=by first|exact uj rfl|exact kG rfl)
  (hs:swapsWith (.Dict [] [] p) (Ga (.Name x pos')) pos.line X.env=pure false:=by rfl) (hf:X.fn x=true\/X.env.scope.names.lookup x=Ga .local:=by first|exact .inl rfl|exact .inr rfl) :
  PSt X (.Assign [.Name x pos'] (.Dict [] [] p) pos) (newI i):=by
 intro ω s σ H D I hw;refine ps_set hN hi hx zwA hs hf ω s σ H D I ?_;obtain⟨H0,F,ψ,o,r,e,p⟩:=hw;cases e;have hl:i<σ.length:=by rw[I.len];exact(ji.mp hi).1
 intro a ha sm;have g:Same H (upd H a (.ext (DiP a [] 0))):=Same.new ha;exact p _ _ F (.refl _) (.refl _ _) ((r.later g).putG hl ⟨a,[],0,rfl,upd_same,r.fh.free ha,r.h0.free ha,.nil,sm,⟨vw,j8 _⟩,λ_ z=>by cases z⟩ λj s o _ ej=>r.ne_free ha j s o ej)
def sIPut (td ty tv:TE):TS:=λD σ H=>tv σ H λv H1=>td σ H1 λx H2=>ty σ H2 λy H3=>∃ (a:Gj) (ws:List (Int×V)) (ep:Nat) (k:Int),x=.ref a/\y=.int k/\H3 a=Ga (.ext (DiP a ws ep))/\(ws.map (·.1)).Nodup/\ws.length<=1000000 /\
 ∀ ep',D.nx σ (upd H3 a (.ext (DiP a (putK ws k v) ep')))
theorem zzE {o i value:Expr}{pos':Pos}{td ty tv:TE}(ho:PE X o td)(hi:PE X i ty)(hv:PE X value tv)(hs:swapsWith value (Ga (.Subscript o i pos')) pos.line X.env=pure false) :
  PS X (.Assign [.Subscript o i pos'] value pos) (sIPut td ty tv):=by
 intro ω s σ H D I h;refine wpAny_Assign_Subscript (thn (hv ω s σ H _ I h) λr s1 ⟨v,H1,I1,rv,q1⟩=>thn (ho ω s1 σ H1 _ I1 q1) λu s2 ⟨x,H2,I2,rx,q2⟩=>thn (hi ω s2 σ H2 _ I2 q2) λiv s3 ⟨y,H3,I3,ry,a,ws,ep,k,ex,ey,g,nd,hz,q3⟩=>?_) hs;subst ex ey;obtain rfl:u=kB a:=rx;exact zBB I3 g nd hz ry rv λs4 ep' I4=>⟨σ,_,I4,q3 ep'⟩
def setI (i:Nat)(f g:FV):FS:=λψ=>(g ψ).bind λv=>(f ψ).bind λk=>match ψ[i]?,k with
 | some (.dki oa kvs),.int n=>if kvs.length<1000000 then Ga (.nx (ψ.set i (.dki oa (putD kvs n v)))) else Gb
 | _,_=>Gb
theorem zzF (i:Nat){x:Str}{ke value:Expr}{f g:FV}{p p2:Pos}(hk:PV X ke f)(hval:PV X value g)(hN:X.N[i]?=Ga x:=by rfl)(hv:Vis X.env.scope x:=by first|exact uj rfl|exact kG (uj rfl)|exact kG (kG rfl))
  (hd:(x==("__debug__":Str))=false:=by decide) (hcd:(x==("__classdict__":Str))=false:=by decide)
  (hs:swapsWith value (Ga (.Subscript (.Name x p) ke p2)) pos.line X.env=pure false:=by rfl) :
  PSt X (.Assign [.Subscript (.Name x p) ke p2] value pos) (setI i f g):=by
 refine zdD (zzE (pe_var (pos:=p) hN hv hd hcd) hk hval hs) λE σ H=>?_;rintro⟨H0,F,ψ,o,r,e,p⟩;obtain⟨v,e0,e⟩:=bind_some e;obtain⟨k,e1,e2⟩:=bind_some e;clear e;split at e2;rotate_left
 .cases e2
 rename_i oa kvs n z;split at e2;rotate_left
 .cases e2
 rename_i c;cases e2;refine⟨H0,F,ψ,v,r,e0,λvv H1 F1 g1 f1 fh1 n1 rv=>?_⟩;have r1:=r.grow g1 f1 fh1 n1;obtain⟨u,x3,a,ws,ep,x4,ha1,fa,h0a,rr,sm,ok,ho⟩:=r1.sl i _ z;subst x4;refine⟨.ref a,x3,H0,F1,ψ,.int n,r1,e1,λkk H2 F2 g2 f2 fh2 n2 rk=>?_⟩;cases rk;have r2:=r1.grow g2 f2 fh2 n2;obtain⟨u,x5,a',ws',ep',x6,ha2,fa2,h0a2,rr2,sm2,ok2,ho2⟩:=r2.sl i _ z;subst x6;rw[x3] at x5;cases x5;refine⟨a,ws',ep',n,rfl,rfl,ha2,rr2.nd ok2,rr2.le ok2,λep2=>?_⟩;exact p σ _ F2 (f1.trans f2) (((n1.dn r.h0).up (n2.dn r1.h0))) (r2.chgG z rfl x3 ⟨a,_,ep2,rfl,upd_same,fa2,h0a2,rr2.put (rv.mono f2),sm2,zzC ok2 c,ho2⟩)
theorem IntEs.length:∀ {ws:List (Int×V)} {es:List DictEntry},IntEs ws es->es.length=ws.length
 | _,_,.nil=>rfl
 | _,_,.cons _ _ _ t=>congrArg Jz t.length
theorem IntEs.get:∀ {ws:List (Int×V)} {es:List DictEntry} {i:Nat} {k:Int},IntEs ws es->(ws.map (·.1))[i]?=Ga k->∃ e t,es[i]?=Ga e/\e.key=.int k t
 | _,_,i,_,.nil,h=>by simp at h
 | _,_,0,_,.cons hk _ _ _,h=>by
  cases h;obtain⟨t,z⟩:=Jd hk;exact⟨_,t,rfl,z⟩
 | _,_,i+1,k,.cons _ _ _ t,h=>t.get (i:=i) (k:=k) h
theorem zwB {h:Heap}{d:Gj}{ws:List (Int×V)}{ep:Nat}(p:DiP d ws ep h):∃ es,DRaw h d es ep/\IntEs ws es.toList:=by
 obtain⟨o,es,ho,hc,hd,he⟩:=p;exact⟨es,⟨o,ho,hc,hd⟩,he⟩
def ofE:List (D×D)->Option (List (Int×D))
 | []=>Ga []
 | (.int k,d)::r=>(ofE r).bind λl=>Ga ((k,d)::l)
 | _=>Gb
def kvI:D->Option (List (Int×D))
 | .dict ((.none,.none)::l)=>ofE l
 | _=>Gb
theorem ztZ:∀ kvs:List (Int×D),ofE (kvs.map λp=>(jc p.1,p.2))=Ga kvs
 | []=>rfl
 | (k,d)::r=>by
  show(ofE (r.map λp=>(jc p.1,p.2))).bind _=_;rw[ztZ r];rfl
theorem zc7 (kvs:List (Int×D)):kvI (diD kvs)=Ga kvs:=ztZ kvs
theorem Rep.int_dict {K:ja}{F:Hp}{d:D}{v:V}{kvs:List (Int×D)}(r:Rep K F d v)(e:kvI d=Ga kvs):∃ a ws ep,v=.ref a/\(a==sysModules)=false/\F a=Ga (.ext (DiP a ws ep))/\KvOk kvs/\RepKV K F kvs ws:=by
 cases r with
 | @dci a kvs' ws ep hs h ok r =>
  have e':kvI (diD kvs')=Ga kvs:=e;rw[zc7] at e';cases e';exact⟨a,ws,ep,rfl,hs,h,ok,r⟩
 | @dic a ks as ep hs h ok r =>
  cases ks with
  | nil=>cases e
  | cons k r=>cases k<;>cases e
 | _=>cases e
def keysI (d:D):Option (List D):=(kvI d).bind λkvs=>Ga (kvs.map λp=>.int p.1)
def atK (kvs:List (Int×D))(k:Int):Option D:=(kvs.find? λp=>decide (p.1=k)).map (·.2)
theorem RepKV.at {K:ja}{F:Hp}(k:Int):∀ {l:List (Int×D)} {m:List (Int×V)},RepKV K F l m->(atK l k=Gb/\valV m k=Gb)\/∃ d v,atK l k=Ga d/\valV m k=Ga v/\Rep K F d v
 | _,_,.nil=>.inl ⟨rfl,rfl⟩
 | (j,d)::l,(_,v)::m,.cons h t=>by
  unfold atK valV;by_cases c:j=k
  .exact .inr ⟨d,v,by rw[kL (p:=λ(p:Int×D)=>decide (p.1=k)) (Gc c)];rfl,by rw[kL (p:=λ(kv:Int×V)=>decide (kv.1=k)) (Gc c)];rfl,h⟩
  .rw[kz (p:=λ(p:Int×D)=>decide (p.1=k)) (by simpa using c),kz (p:=λ(kv:Int×V)=>decide (kv.1=k)) (by simpa using c)];exact t.at k
def dIxI (d:D):D->Option D
 | .int k=>(kvI d).bind λkvs=>atK kvs k
 | _=>Gb
def dLenI (d:D):Option D:=(kvI d).bind λkvs=>Ga (.int kvs.length)
theorem zwC {k:Int}{u:Gg}(r:RelV (.int k) u):(intKind X.prog X.w).is k u=true:=by
 obtain⟨t,rfl⟩:=r;show vB k (.int k t)=true;simp[vB]
theorem zDV {a b:Expr}{f g:FV}(ha:PV X a f)(hb:PV X b g)(hs:NoSl b:=by exact λ_ _=>rfl):PV X (.Subscript a b pos) (bin dIxI f g):=by
 intro ω s σ H Q I hw;obtain⟨H0,F,ψ,d,r,e,q⟩:=hw;obtain⟨x,e1,e⟩:=bind_some e;obtain⟨y,e2,e⟩:=bind_some e;obtain⟨k,rfl⟩:∃ k:Int,y=.int k:=by cases y<;>first|(cases e;done)|exact⟨_,rfl⟩
 refine subD_of PySem.F.slot_dict_getitem.lookup hs (thn (ha ω s σ H (λv H1=>∃ F1,Same H H1/\Same F F1/\Same F1 H1/\New F F1 H/\Rep X.K F1 x v) I ⟨H0,F,ψ,x,r,e1,λv H1 F1 g1 f1 fh1 n1 rv=>⟨F1,g1,f1,fh1,n1,rv⟩⟩) λu s1 ⟨v,H1,I1,rx,F1,g1,f1,fh1,n1,rv⟩=>?_);refine thn (hb ω s1 σ H1 (λv2 H2=>∃ F2,Same H1 H2/\Same F1 F2/\Same F2 H2/\New F1 F2 H1/\Rep X.K F2 (.int k) v2) I1 ⟨H0,F1,ψ,.int k,r.grow g1 f1 fh1 n1,e2,λv2 H2 F2 g2 f2 fh2 n2 rv2=>⟨F2,g2,f2,fh2,n2,rv2⟩⟩) λu2 s2 ⟨v2,H2,I2,rx2,F2,g2,f2,fh2,n2,rv2⟩=>?_;cases rv2;obtain⟨kvs,e3,e4⟩:=bind_some (show(kvI x).bind (λkvs=>atK kvs k)=Ga d from e);obtain⟨a,ws,ep,rfl,sm,fa,ok,rr⟩:=(rv.mono f2).int_dict e3;cases rx;obtain⟨vs,rel,dd⟩:=diH I2 (fh2 _ _ fa) (rr.nd ok);rcases rr.at k with ⟨z1,z2⟩|⟨d',v',z1,z2,z3⟩
 .rw[z1] at e4;cases e4
 .rw[z1] at e4;cases e4;obtain⟨w',hw,rw'⟩:=RelO.some_of (v:=v') (o:=valueAt vs k) (by rw[<- z2];exact rel.val k);exact⟨dd.typeIs,wpAny_getItem_of (zwC rx2) dd.mapOf hw ⟨v',H2,I2.tok _,rw',q v' H2 F2 (g1.trans g2) (f1.trans f2) fh2 (n1.trans n2 g1) z3⟩⟩
theorem zt0:CallR X (.builtin "len") (λxs H Q=>∃ a ws ep,xs=[V.ref a]/\(a==sysModules)=false/\H a=Ga (.ext (DiP a ws ep))/\(ws.map (·.1)).Nodup/\ws.length<=1000000/\Q (.int ws.length) H):=by
 intro ω s σ H xs us Q I r h;obtain⟨a,ws,ep,rfl,sm,ha,nd,hz,q⟩:=h;obtain⟨u,rfl,ru⟩:=vals1 r;cases ru;obtain⟨vs,rel,dd⟩:=diH I ha nd;refine call_len_dict sm dd (by rw[<- rel.length];omega) ?_;rw[<- rel.length];exact⟨.int ws.length,H,I.tok _,⟨_,rfl⟩,q⟩
theorem zBC {e:Expr}{f:FV}{p:Pos}(hg:Gl X "len")(hm:X.mg "len"=Gb)(ha:PV X e f)(hs:starEach [e] X.env=[(false,eval e X.env)]:=by rfl):PV X (.Call (.Name "len" p) [e] [] pos) (un dLenI f):=by
 refine za7 (cB1 zt0 hg hm JA ha (hs:=hs)) λσ H Q=>?_;rintro⟨H0,F,ψ,d,r,e,q⟩;obtain⟨d',e1,e⟩:=bind_some e;obtain⟨kvs,e3,e4⟩:=bind_some e;cases e4;refine⟨H0,F,ψ,d',r,e1,λv H1 F1 g1 f1 fh1 n1 rv=>?_⟩;obtain⟨a,ws,ep,rfl,sm,fa,ok,rr⟩:=rv.int_dict e3;exact⟨a,ws,ep,rfl,sm,fh1 _ _ fa,rr.nd ok,rr.le ok,q _ H1 F1 g1 f1 fh1 n1 (by rw[rr.length];exact .int _)⟩
end
end T3
namespace T3
open PySem PySem.Spec PyProof.Rows L2
section
variable {P:Program}{w:World}{K:ja}{mg:Str->Option Gg}{base:Heap}{x qual:Str}{st:Stmt}{f:Gj}{fd:Gi}{N ps:List Str}{k:Nat}{g:FS}
end
section
variable {X:Cx}{pos:Pos}
variable {k:Nat}{f:Gj}{fd:Gi}{ps:List Str}{x:Str}{p pc:Pos}{e:Expr}{es:List Expr}{g:FL}
end
end T3
namespace T3
open PySem PySem.Spec PyProof.Rows L2
section
variable {prog:Program}{w:World}{A:Around}{E:Gg->Gh->Prop}{s:Gh}
end
section
variable {X:Cx}{pos:Pos}
end
end T3
namespace T3
open PySem PySem.Spec PyProof.Rows L2
section
variable {prog:Program}{w:World}{A:Around}{R:Result->Gh->Prop}{s:Gh}
end
section
variable {X:Cx}{ω:List (Gj×Obj)}{σ:St}{H2:Hp}{s2:Gh}{elt iter tg:Expr}{x xb:Str}{px pos:Pos}{ifs:List Expr}{scope:Scope}{cl:List (Str×Gj)}{fr:List Str}{ix:List Nat}
end
abbrev tg2:FT:=tgT (tgCons (tgN 0) (tgCons (tgN 1) tgNil))
section
variable {X:Cx}{elt iter tg:Expr}{x xb:Str}{px pxb pt pos:Pos}{tk:Nat}{ifs:List Expr}{scope:Scope}{fr:List Str}{ix:List Nat}{fi:FL}{fc:FB}{fe:FV}
structure Blk2 (X:Cx)(scope:Scope)(tg:Expr)(x xb:Str)(fr:List Str)(ifs:List Expr)(elt:Expr)(fc:FB)(fe:FV):Prop where
 h:∀ cl C s H fp ω,PTg (cxComp X scope cl C (x::xb::fr) s H fp ω) tg tg2 /\
  PIf (cxComp X scope cl C (x::xb::fr) s H fp ω) ifs (tcOf X.K ifs fc)/\PV (cxComp X scope cl C (x::xb::fr) s H fp ω) elt fe
 hn:ifs=[]->fc=λ_=>Ga true
theorem Blk2.tc (B:Blk2 X scope tg x xb fr ifs elt fc fe):∀ σ H Q,tT X.K fc σ H Q->tcOf X.K ifs fc σ H Q:=by
 intro σ H Q h;cases ifs with
 | nil =>
  obtain⟨H0,F,ψ,b,r,e,q⟩:=h;rw[B.hn rfl] at e;cases e;exact q H (.refl _)
 | cons c r=>exact h
end
end T3
namespace T3
open PySem PySem.Spec PyProof.Rows L2
def dXor:D->D->Option D:=dI0 λi j=>.int (vk i j)
section
variable {X:Cx}{pos:Pos}
theorem zBD {a b:Expr}{f g:FV}(ha:PV X a f)(hb:PV X b g):PV X (.BinOp a .BitXor b pos) (λψ=>(f ψ).bind λx=>(g ψ).bind λy=>dXor x y):=v_op op_xor (zhM λ_ _ _=>.int _) ha hb
theorem zr9:MtR X "list.extend" (λx vs H Q=>∃ l b xs zs,x=.ref l/\vs=[.ref b]/\H l=Ga (.lst xs)/\SqL X.K H b zs/\xs.length+zs.length<=1000000/\Q .non (upd H l (.lst (xs++zs)))):=by
 intro ω s σ H x vs v us Q I rx rv h;obtain⟨l,b,xs,zs,rfl,rfl,hH,hB,hz,q⟩:=h;cases rx;obtain⟨u,rfl,ru⟩:=rv.one;cases ru;obtain⟨z,its,n,r,hl,e⟩:=I.lstM hH;obtain⟨its2,r2,⟨o2,n2,e2,c2,k2,d2⟩,z2⟩:=I.list hB;have hl2:=r2.length;have hsz:its.length+its2.length<=sizeLine:=by rw[sizeLine_eq];omega
 refine wpAny_call_entry v6 ⟨_,e,rfl⟩ PySem.F.entry_list_extend ?_ (PySem.F.args_list_extend_2 _ _);show wpAny _ _ (jX (.ref l) (.ref b) .none) _ _ s;unfold jX;refine wpAny_bind (wpAny_typeOf (T:="list") ⟨o2,e2,c2⟩ ?_);rw[Ge (by simp)];refine wpAny_bind (listItems_at e2 d2 ?_);refine wpAny_bind (listItems_at e rfl ?_);rw[Gf (by
  rw[show vb (its.toArray.size+its2.toArray.size)=false from notLongL (by rw[jo,jo];exact hsz),uv];exact jy)]
 refine wpAny_bind (listUpdate_at e rfl ?_ (by rw[jo];omega) (by rw[Jk,jo,jo];omega));refine wpAny_pure ?_;exact⟨_,rfl,.non,_,I.lset (t':=s.toks) (its':=its++its2) hH e (by simp) (r.append r2) (by rw[jh];omega),rfl,q⟩
def extL (ds es:List D):Option (List D):=if ds.length+es.length<=1000000 then Ga (ds++es) else Gb
abbrev extS (i:Nat)(f:FV):FS:=λψ=>(go i ψ).bind λds=>(f ψ).bind λd=>(toL d).bind λes=>(extL ds es).bind λrs=>Ga (.nx (ψ.set i (.own rs)))
theorem zgD (i:Nat){x:Str}{e:Expr}{f:FV}{p p2 p3:Pos}(h:PV X e f)(hN:X.N[i]?=Ga x:=by rfl)(hv:Vis X.env.scope x:=by first|exact uj rfl|exact kG (uj rfl)|exact kG (kG rfl))
  (hst:starEach [e] X.env=[(false,eval e X.env)]:=by rfl) (hline:(p2.endLine==p3.line)=true:=by rfl)
  (hd:(x==("__debug__":Str))=false:=by decide) (hcd:(x==("__classdict__":Str))=false:=by decide)
  (hs:swapsWith (.Call (.Attribute (.Name x p) "extend" p2) [e] [] p3) Gb pos.line X.env=pure false:=by rfl) :
  PSt X (.Expr (.Call (.Attribute (.Name x p) "extend" p2) [e] [] p3) pos) (extS i f):=by
 refine zdD (ps_expr (pe_bm qc v6 PySem.F.type_list_extend zr9 (pe_var (pos:=p) hN hv hd hcd) (pa_cons h pa_nil hst) rfl (by rw[hst];rfl) hline hst rfl) hs) λE σ H=>?_;rintro⟨H0,F,ψ,o,r,e,p⟩;obtain⟨ds,e1,e⟩:=bind_some e;obtain⟨d,e2,e⟩:=bind_some e;obtain⟨es,e3,e⟩:=bind_some e;obtain⟨rs,e4,e⟩:=bind_some e;cases e;cases zq9 e3;unfold extL at e4;split at e4;rotate_left
 .cases e4
 rename_i hz;cases e4;unfold go at e1;split at e1;rotate_left
 .cases e1
 rename_i ds' z;cases e1;obtain⟨u,e3,a,xs,e4,ha,fa,h0a,rr⟩:=r.sl i _ z;subst e4;refine⟨.ref a,e3,.inl ⟨rfl,xs,SqL.of ha⟩,H0,F,ψ,.list es,r,e2,λv H' F' g f1 fh n rv=>?_⟩;have r2:=r.grow g f1 fh n;obtain⟨u2,e5,a2,xs2,e6,ha2,fa2,h0a2,rr2⟩:=r2.sl i _ z;rw[e3] at e5;cases e5;cases e6;cases rv with
 | lst hb rb =>
  refine⟨a,_,xs2,_,rfl,rfl,ha2,fh.seq hb,?_,?_⟩
  .rw[<- rr2.length,<- rb.length];exact hz
  .exact p σ _ F' f1 (n.dn r.h0) (r2.chg z e3 (rr2.append rb))
end
section
variable {prog:Program}{w:World}{A:Around}{E:Gg->Gh->Prop}{s:Gh}{vs:List Gg}
theorem zqM {l:Gj}{Q:List Gg->Gh->Prop}(hl:IsTup s.heap l vs.toArray)
  (h:∀ h',(∀ b o,s.heap.get? b=Ga o->h'.get? b=Ga o)->(∃ o,h'.get? s.heap.objs.size=Ga o)->Q vs { s with heap:=h' }) (hsz:vs.length<=sizeLine) :
  wpAny (model prog w) A (collect (.ref l)) Q E s:=by
 obtain⟨o,ho,hc,n,hd⟩:=id hl;unfold collect;refine wpAny_bind (wpAny_runValue (codeAny_builtin entry_proto_collect' ?_));show wpAny _ _ (do again (.builtin "list.__iadd__" ⟨[<- newList [],.ref l],[]⟩)) _ _ s;refine wpAny_bind (wpAny_newList (wpAny_pure ⟨Code.quiet_builtin _ (by decide +kernel),codeAny_builtin entry_list_iadd' ?_⟩));show wpAny _ _ (jX (.ref s.heap.objs.size) (.ref l) (.ref s.heap.objs.size)) _ _ { s with heap:=s.heap.push (seqObj "list" #[] 0) };unfold jX;have ho':(s.heap.push (seqObj "list" #[] 0)).get? l=Ga o:=jd _ ho;refine wpAny_bind (wpAny_typeOf (T:="tuple") ⟨o,ho',hc⟩ ?_);rw[Ge (by simp)];refine wpAny_bind (listItems_at ho' hd ?_);refine wpAny_bind (listItems_at (xs:=#[]) (n:=0) (jA _ rfl) rfl ?_);rw[Gf (by simp)];refine wpAny_bind (listUpdate_at (xs:=#[]) (n:=0) (jA _ rfl) rfl ?_ (j8 _) (by show(#[]++vs.toArray).size<=sizeLine+1;simp only[Jk,jo,vH];omega));refine wpAny_pure ?_;show wpAny (model prog w) A (do
   let o <- load s.heap.objs.size
   match o.data with
   | .seq xs _=>pure xs.toList
   | _=>unsupported "internal:collect") Q E { s with heap:=(s.heap.push (seqObj "list" #[] 0)).update s.heap.objs.size (kr (·++vs.toArray)) }
 refine wpAny_bind (wpAny_load (get?_update_seq (jA _ rfl) _) ?_);show wpAny _ _ (pure ((#[]:Array Gg)++vs.toArray).toList) Q E _;rw[show((#[]:Array Gg)++vs.toArray).toList=vs by simp];refine wpAny_pure (h _ (λb o hb=>?_) ⟨_,get?_update_seq (jA _ rfl) _⟩);exact(kq _ _ (uN (jm hb))).trans (jd _ hb)
theorem zqN {d:Gj}{es:Array DictEntry}{ep:Nat}{Q:List Gg->Gh->Prop}(hh:A.handled=Gb)(sm:(d==sysModules)=false)(hd:DRaw s.heap d es ep)(hn:es.size<=sizeLine)
  (hQ:∀ h' tk acc,(∀ b o,s.heap.get? b=Ga o->h'.get? b=Ga o)->(∃ o,h'.get? s.heap.objs.size=Ga o)->ItemsOf (λi v=>∃ e,es[i]?=Ga e/\v=e.key) acc es.size->Q acc.toList { s with heap:=h',toks:=tk }) :
  wpAny (model prog w) A (collect (.ref d)) Q E s:=by
 have hlt:d<s.heap.objs.size:=by obtain⟨o,e,_⟩:=hd;exact jm e
 unfold collect;refine wpAny_bind (wpAny_runValue (codeAny_builtin entry_proto_collect' ?_));show wpAny _ _ (do again (.builtin "list.__iadd__" ⟨[<- newList [],.ref d],[]⟩)) _ _ s;refine wpAny_bind (wpAny_newList (wpAny_pure ⟨Code.quiet_builtin _ (by decide +kernel),codeAny_builtin entry_list_iadd' ?_⟩));show wpAny _ _ (jX (.ref s.heap.objs.size) (.ref d) (.ref s.heap.objs.size)) _ _ { s with heap:=s.heap.push (seqObj "list" #[] 0) };have n1:(s.heap.push (seqObj "list" #[] 0)).get? s.heap.objs.size=Ga { cls:=.type "list",data:=.seq #[] 0 }:=jA _ rfl;have kp:∀ b o,s.heap.get? b=Ga o->(s.heap.push (seqObj "list" #[] 0)).get? b=Ga o:=λb o e=>jd _ e;generalize s.heap.push (seqObj "list" #[] 0)=h1 at n1 kp;have hd1:DRaw h1 d es ep:=hd.kept λo e=>kp d o e;unfold jX;refine wpAny_bind (wpAny_typeOf (T:="dict") (DRaw.ty (s:={ s with heap:=h1 }) hd1) ?_);rw[show uH (.ref s.heap.objs.size) (.ref d)=false from by simp[uH,uN hlt]];simp only[show(uM "dict"==uM "list")=false by decide,show(uM "dict"==uM "tuple")=false by decide,uG,ub,if_false];refine wpAny_bind (zvS (s:={ s with heap:=h1 }) sm hd1 ?_);have kp2:∀ b o,h1.get? b=Ga o->(h1.push { cls:=.type "dict_keyiterator",data:=.fields #[.ref d,.int 0 0,.int es.size 0,.int ep 0] }).get? b=Ga o:=λb o e=>jd _ e;have it0:(h1.push { cls:=.type "dict_keyiterator",data:=.fields #[.ref d,.int 0 0,.int es.size 0,.int ep 0] }).IsKeyIter h1.objs.size d 0 es.size ep:=⟨_,jA _ rfl,rfl,rfl⟩;have dI:d≠h1.objs.size:=by obtain⟨o,e,_⟩:=hd1;exact jK (jm e)
 have sI:s.heap.objs.size≠h1.objs.size:=jK (jm n1);have hd2:=hd1.kept λo e=>kp2 d o e;have n2:=kp2 _ _ n1;generalize h1.push { cls:=.type "dict_keyiterator",data:=.fields #[.ref d,.int 0 0,.int es.size 0,.int ep 0] }=h2 at kp2 it0 hd2 n2;refine wpAny_bind (wpAny_holding (ztY (DRaw.ty (s:={ s with heap:=h2 }) hd2) ?_));refine wpAny_ite_split (λ_=>?_) λz=>absurd (by decide) z;refine wpAny_bind (wpAny_rule (wpAny_bind ?_));show wpAny _ _ (updateSeq s.heap.objs.size (·.push .none) >>= λ_=>updateSeq s.heap.objs.size (·.pop)) _ _ _;refine wpAny_bind (wpAny_updateSeq n2 rfl ?_);have n3:=k9 (kr (·.push j5)) n2 rfl;refine wpAny_updateSeq (hz:=by seq_fits) n3 rfl ?_;have n4:=k9 (kr (·.pop)) n3 rfl;have kp3:∀ b o,b≠s.heap.objs.size->h2.get? b=Ga o->((h2.update s.heap.objs.size (kr (·.push j5))).update s.heap.objs.size (kr (·.pop))).get? b=Ga o :=
  λb o hb e=>(kq _ _ (kX hb)).trans ((kq _ _ (kX hb)).trans e)
 have it4:=it0.at λo e=>kp3 _ o (kX sI) e;have hd4:=hd2.kept λo e=>kp3 _ o (jK hlt) e;generalize (h2.update s.heap.objs.size (kr (·.push j5))).update s.heap.objs.size (kr (·.pop))=h4 at n4 kp3 it4 hd4;refine wpAny_pure ⟨plainId_quiet F.plain_extend_loop _,?_⟩;have W:=(zs7 (prog:=prog) (w:=w) (A:=A.in1) (show A.in1.handled=Gb from hh) h1.objs.size d dI es ep).toS;refine codeAny_extend_loopS W hn s.heap.objs.size ?_ _ es.size 0 { s with heap:=h4 } #[] _ rfl (j8 _) ⟨it4,hd4⟩ n4 (ItemsOf.nil _) λs' acc c m nn it=>?_
 .simp only[jt,kK,or_false,not_or];exact⟨sI,uN hlt⟩
 .show wpAny _ A (load s.heap.objs.size >>= _) _ _ s';refine wpAny_bind (wpAny_load nn (wpAny_pure ?_));rw[Moved.eq_with m] at nn ⊢;refine hQ s'.heap s'.toks acc (λb o e=>m.heap b o (λz=>?_) (kp3 _ _ (jK (jm e)) (kp2 _ _ (kp b o e)))) ⟨_,nn⟩ it;simp only[jt,kK,or_false] at z;rcases z with z|z
  .exact absurd (jm e) (by rw[z];exact jP _)
  .exact absurd (jm (kp b o e)) (by rw[z];exact jP _)
theorem znN {v:Gg}{out:List Gg}{Q:Gg->Gh->Prop}(hz:vs.length<64)
  (hcol:∀ (A':Around) (Q':List Gg->Gh->Prop) (E':Gg->Gh->Prop),A'.handled=A.handled->(∀ h' tk,(∀ b o,s.heap.get? b=Ga o->h'.get? b=Ga o)->(∃ o,h'.get? s.heap.objs.size=Ga o)->Q' vs { s with heap:=h',toks:=tk })->wpAny (model prog w) A' (collect v) Q' E' s)
  (hs:∀ (s1:Gh) (a n:Nat) (P:JF->Gh->Prop) (E':Gg->Gh->Prop),(∀ b o,s.heap.get? b=Ga o->s1.heap.get? b=Ga o)->s.heap.objs.size<=a->s1.heap.get? a=Ga (seqObj "list" vs.toArray n) ->
   (∀ h' c,(∀ b o,b≠a->s1.heap.get? b=Ga o->h'.get? b=Ga o)->h'.get? a=Ga (seqObj "list" out.toArray c)->P (.done (.ret .none)) { s1 with heap:=h' }) ->
   wpAny (model prog w) A.in1.in1 (Builtin.«list.sort» ⟨[.ref a],[]⟩) P E' s1)
  (h:∀ h' tk a c,(∀ b o,s.heap.get? b=Ga o->h'.get? b=Ga o)->s.heap.objs.size<=a->h'.get? a=Ga (seqObj "list" out.toArray c)->Q (.ref a) { s with heap:=h',toks:=tk }) :
  wpAny (model prog w) A (call (.builtin "sorted") [v]) Q E s:=by
 have sl:vs.length<=sizeLine:=by rw[sizeLine_eq];omega
 refine Calls.call_function_entry kind_sorted plain_sorted entry_sorted (args_sorted1 _) ?_;unfold Builtin.«sorted»;refine wpAny_bind (m:=checkCount "sorted" 1 1 _) (wpAny_pure (wpAny_bind (hcol _ _ _ rfl λh1 tk k1 t1=>wpAny_bind (wpAny_newList ?_ sl))));obtain⟨o1,ho1⟩:=t1;have hsz:s.heap.objs.size<=h1.objs.size:=uz (jm ho1);have hoL:(h1.push (seqObj "list" vs.toArray 0)).get? h1.objs.size=Ga (seqObj "list" vs.toArray 0):=jA _ rfl;have keep:∀ b o,s.heap.get? b=Ga o->(h1.push (seqObj "list" vs.toArray 0)).get? b=Ga o:=λb o q=>jd _ (k1 b o q);refine wpAny_bind (wpAny_holding (wpAny_call_entry slot_list_sort ⟨_,hoL,rfl⟩ entry_list_sort ?_ (args_list_sort _)));refine hs { s with heap:=h1.push (seqObj "list" vs.toArray 0),toks:=tk } h1.objs.size 0 _ _ keep hsz hoL λh' c kk hc=>⟨_,rfl,wpAny_pure ⟨_,rfl,h h' tk h1.objs.size c (λb o e=>kk b o (jK (jq (jm e) hsz)) (keep b o e)) hsz hc⟩⟩
end
section
variable {P:Program}{w:World}{K:ja}{mg:Str->Option Gg}{base:Heap}{f:Gj}{fd:Gi}{ps:List Str}{k:Nat}
theorem okO0:FnOk P w K mg base CX0 k f fd ps (spO K λ_=>Gb):=by
 have no:∀ vs H Q E,¬spO K (λ_=>Gb) vs H Q E:=λvs H Q E h=>by obtain⟨_,_,_,_,_,e,_⟩:=h;cases e
 exact⟨λvs H Q E h=>absurd h (no vs H Q E),λA outer s H args us vs Q E _ _ _ _ h=>absurd h (no vs H Q E)⟩
end
end T3
namespace T3
open PySem PySem.Spec PyProof.Rows L2
section
variable {X:Cx}{pos:Pos}
theorem zpG {ω:List (Gj×Obj)}{σ:St}{H:Hp}{s:Gh}{v:Gg}{F:Hp}{ds rs:List D}{xs:List V}{its:List Gg}{Q:VK}(I:Inv X ω σ H s)(g:Same F H)(rv:Vals xs its)(rr:Reps X.K F ds xs)(e:sortD ds=Ga rs)
  (hcol:∀ (A':Around) (Q':List Gg->Gh->Prop) (E':Gg->Gh->Prop),A'.handled=X.A.handled->(∀ h' tk,(∀ b o,s.heap.get? b=Ga o->h'.get? b=Ga o)->(∃ o,h'.get? s.heap.objs.size=Ga o)->Q' its { s with heap:=h',toks:=tk })->wpAny (model X.prog X.w) A' (collect v) Q' E' s)
  (q:∀ a ys,H a=Gb->Reps X.K F rs ys->Q (.ref a) (upd H a (.lst ys))):wpAny (model X.prog X.w) X.A (call (.builtin "sorted") [v]) (EP X ω σ Q) X.xe s:=by
 have hlen:ds.length=its.length:=rr.length.trans rv.length;have fin:∀ (out:List Gg) (ys:List V) (h':Heap) (tk:Nat) (a c:Nat),Vals ys out->out.length<=sizeLine->Reps X.K F rs ys->(∀ b o,s.heap.get? b=Ga o->h'.get? b=Ga o)->s.heap.objs.size<=a->h'.get? a=Ga (seqObj "list" out.toArray c) ->
   EP X ω σ Q (.ref a) { s with heap:=h',toks:=tk }:=λout ys h' tk a c rvo hz2 rro k ha hc =>
  ⟨.ref _,_,I.laid (t':=tk) (o:=.lst ys) k ha ⟨by rw[rvo.length];exact hz2,out,c,rvo,hc⟩,rfl,q _ ys (I.hok.fresh ha) rro⟩
 unfold sortD at e;split at e
 .rename_i hs;cases e;refine znN (out:=its) (by omega) hcol (λs1 a n P E' k ha ho hP=>zr7 ho (by omega) λh' c kk hc=>hP h' c kk hc) λh' tk a c k ha hc=>fin its xs h' tk a c rv (by rw[sizeLine_eq];omega) rr k ha hc
 .rename_i hs;split at e
  .rename_i ok;rw[jI,decide_eq_true_eq] at ok;obtain⟨pm,e1,e2⟩:=bind_some e;split at e2;rotate_left
   .cases e2
   rename_i hpm;cases e2;have h2:2<=its.length:=by omega
   rw[hlen] at e1;refine znN (out:=pm.toList.map λi=>its.getD i j5) (by omega) hcol (λs1 a n P E' k ha ho hP=>zy8 ho h2 (by omega) e1 (λs2 k2=>ztQ I g rv rr h2 ok.2 λb o eb=>k2 b o (jK (jq (jm eb) ha)) (k b o eb)) λh' c kk hc=>hP h' c kk hc) λh' tk a c k ha hc=>?_;refine fin _ (pm.toList.map λi=>xs.getD i .non) h' tk a c ?_ ?_ ?_ k ha hc
   .have:∀ l:List Nat,Vals (l.map λi=>xs.getD i V.non) (l.map λi=>its.getD i j5):=λl=>by
     induction l with
     | nil=>exact .nil
     | cons i l ih =>
      refine .cons ?_ ih;dsimp only;rw[jB,jB];cases hx:xs[i]? with
      | none=>rw[rv.none_of hx];rfl
      | some v=>obtain⟨u,e,r⟩:=rv.get hx;rw[e];exact r
    exact this _
   .rw[jb,ku,sizeLine_eq];omega
   .have:∀ l:List Nat,Reps X.K F (l.map λi=>ds.getD i .none) (l.map λi=>xs.getD i V.non):=λl=>by
     induction l with
     | nil=>exact .nil
     | cons i l ih =>
      refine .cons ?_ ih;dsimp only;rw[jB,jB];cases hx:ds[i]? with
      | none =>
       have:xs[i]?=Gb:=kh (by rw[<- rr.length];exact u0.mp hx);rw[this];exact .non
      | some d=>obtain⟨v,e,r⟩:=rr.get hx;rw[e];exact r
    exact this _
  .cases e
theorem zsA:CallR X (.builtin "sorted") (λvs H Q=>∃ F ds rs p xs,vs=[.ref p]/\Same F H/\SqT X.K H p xs/\Reps X.K F ds xs/\sortD ds=Ga rs/\∀ a ys,H a=Gb->Reps X.K F rs ys->Q (.ref a) (upd H a (.lst ys))):=by
 intro ω s σ H vs us Q I r h;obtain⟨F,ds,rs,p,xs,rfl,g,hl,rr,e,q⟩:=h;obtain⟨u,rfl,ru⟩:=vals1 r;cases ru;obtain⟨its,rv,pl,hz⟩:=I.tuple hl;exact zpG I g rv rr e (λA' Q' E' _ k=>zqM pl (λh' k1 k2=>k h' s.toks k1 k2) (by rw[<- rv.length];exact hz)) q
theorem zt1 {e:Expr}{f:FV}{p pos:Pos}(hg:Gl X "sorted")(hm:X.mg "sorted"=Gb)(ha:PV X e f)(hs:starEach [e] X.env=[(false,eval e X.env)]:=by rfl):PO X (.Call (.Name "sorted" p) [e] [] pos) (sortL (tL1 f)):=by
 refine za7 (cB1 zsA hg hm boot_sorted ha (hs:=hs)) λσ H Q=>?_;rintro⟨H0,F,ψ,rs,r,e,q⟩;obtain⟨ds,e1,e⟩:=bind_some e;obtain⟨d,e2,e3⟩:=bind_some e1;cases zvY e3;refine⟨H0,F,ψ,.tuple ds,r,e2,λv H1 F1 g1 f1 fh1 n1 rv=>?_⟩;cases rv with
 | tup hl rr =>
  refine⟨F1,ds,rs,_,_,rfl,fh1,seqT fh1 hl,rr,e,λa ys ha ry=>?_⟩;have s2:Same H1 (upd H1 a (.lst ys)):=Same.new ha;exact q a ys _ F1 (g1.trans s2) f1 (fh1.trans s2) n1 (g1.free ha) (fh1.free ha) upd_same ry
theorem kreps {K:ja}{F:Hp}:∀ (ks:List Int),Reps K F (ks.map jc) (ks.map V.int)
 | []=>.nil
 | k::ks=>.cons (.int k) (kreps ks)
theorem zsB (hc:X.calm=true):CallR X (.builtin "sorted") (λvs H Q=>∃ F rs p ws ep,vs=[.ref p]/\Same F H/\(p==sysModules)=false/\H p=Ga (.ext (DiP p ws ep))/\ws.length<=1000000/\sortD ((ws.map (·.1)).map jc)=Ga rs/\∀ a ys,H a=Gb->Reps X.K F rs ys->Q (.ref a) (upd H a (.lst ys))):=by
 intro ω s σ H vs us Q I r h;obtain⟨F,rs,p,ws,ep,rfl,g,sm,hp,hz,e,q⟩:=h;obtain⟨u,rfl,ru⟩:=vals1 r;cases ru;obtain⟨es,dr,ie⟩:=zwB (zyD I.hok hp);have sz:es.size=ws.length:=by rw[<- ku,ie.length]
 have rv:Vals ((ws.map (·.1)).map V.int) (es.toList.map (·.key)):=by
  refine zqJ _ _ (by rw[jb,jb,jb,ie.length]) λi x u hx hu=>?_;rw[jz] at hx;obtain⟨k,hk,rfl⟩:=qq.mp hx;obtain⟨en,t,e1,e2⟩:=ie.get hk;rw[jz,e1] at hu;cases hu;exact⟨t,e2⟩
 refine zpG I g rv (kreps _) e (λA' Q' E' ha k=>zqN (by rw[ha];exact I.ok.hd hc) sm dr (by rw[sz,sizeLine_eq];exact jn hz (by decide)) λh' tk acc k1 k2 it=>?_) q;have:acc.toList=es.toList.map (·.key):=by
  refine vZ λi=>?_;rw[jz];by_cases hi:i<es.size
  .have ha:i<acc.size:=by rw[it.1];exact hi
   obtain⟨en,e1,e2⟩:=it.2 i acc[i] (u6 ha);rw[ua,ua,u6 ha,e1,e2];rfl
  .rw[ua,ua,vp (by rw[it.1];omega),vp (by omega)];rfl
 rw[this];exact k h' tk k1 k2
theorem zt2 {e:Expr}{f:FV}{p pos:Pos}(hc:X.calm=true)(hg:Gl X "sorted")(hm:X.mg "sorted"=Gb)(ha:PV X e f)(hs:starEach [e] X.env=[(false,eval e X.env)]:=by rfl):PO X (.Call (.Name "sorted" p) [e] [] pos) (sortL (un1L keysI f)):=by
 refine za7 (cB1 (zsB hc) hg hm boot_sorted ha (hs:=hs)) λσ H Q=>?_;rintro⟨H0,F,ψ,rs,r,e,q⟩;obtain⟨ds,e1,e⟩:=bind_some e;obtain⟨d,e2,e3⟩:=bind_some e1;obtain⟨kvs,e4,e5⟩:=bind_some e3;cases e5;refine⟨H0,F,ψ,d,r,e2,λv H1 F1 g1 f1 fh1 n1 rv=>?_⟩;obtain⟨a,ws,ep,rfl,sm,fa,ok,rr⟩:=rv.int_dict e4;refine⟨F1,rs,a,ws,ep,rfl,fh1,sm,fh1 _ _ fa,rr.le ok,?_,λb ys hb ry=>?_⟩
 .rw[rr.fst,jL];exact e
 .have s2:Same H1 (upd H1 b (.lst ys)):=Same.new hb;exact q b ys _ F1 (g1.trans s2) f1 (fh1.trans s2) n1 (g1.free hb) (fh1.free hb) upd_same ry
end
theorem znO {y:Str}{k:NameKind}:∀ {l:List (Str×NameKind)},l.lookup y=Ga k->(y,k)∈l
 | [],h=>by cases h
 | (n,k')::r,h=>by
  rw[jY] at h;cases hx:y==n with
  | true=>rw[hx] at h;cases h;rw[beq_iff_eq.mp hx];exact jg
  | false=>rw[hx] at h;exact je _ (znO h)
theorem CompSc.nest {N:List Str}{osc scope:Scope}{x:Str}{fr:List Str}{ix:List Nat}{ψ:Env}(S:CompSc N osc scope x fr ix)(nc:∀ y∈osc.names,y.2≠.cell):CompSc N (relabel osc ψ) scope x fr ix :=
 ⟨S.kind,S.nocell,S.locs,S.tgt,λy hy hf=>by
  rcases S.outs y hy hf with h|h
  .exact absurd rfl (nc (y.1,.cell) (znO h))
  .exact zhO h,S.free,S.len,S.at_,S.apart⟩
end T3
namespace T3
open PySem PySem.Spec PyProof.Rows L2
section
variable {X:Cx}{pos:Pos}
variable {k:Nat}{f:Gj}{fd:Gi}{ps:List Str}{x y:Str}{p p' pc:Pos}{e:Expr}{es:List Expr}{g:FL}
end
section
variable {X:Cx}{pos:Pos}{a b:Expr}{f g:FV}
end
end T3
namespace T3
open PySem PySem.Spec PyProof.Rows L2
section
variable {X:Cx}
end
end T3
namespace T3
open PySem PySem.Spec PyProof.Rows L2
def butC (H:Hp)(cs:List Gj):Hp:=λb=>if b∈cs then Gb else H b
theorem zi5 {H:Hp}{cs:List Gj}{b:Gj}(h:b∈cs):butC H cs b=Gb:=Ge h
theorem zbM {H:Hp}{cs:List Gj}{b:Gj}(h:b∉cs):butC H cs b=H b:=Gf h
theorem zjP {H:Hp}{cs:List Gj}{b:Gj}{o:HO}(h:butC H cs b=Ga o):b∉cs/\H b=Ga o:=by
 by_cases hb:b∈cs
 .rw[zi5 hb] at h;cases h
 .rw[zbM hb] at h;exact⟨hb,h⟩
def putC (G H:Hp)(cs:List Gj):Hp:=λb=>if b∈cs then G b else H b
theorem zlY {G H:Hp}{cs:List Gj}{b:Gj}(h:b∈cs):putC G H cs b=G b:=Ge h
theorem zeA {G H:Hp}{cs:List Gj}{b:Gj}(h:b∉cs):putC G H cs b=H b:=Gf h
def CellA (H:Hp)(c:Gj):Prop:=∃ o v,H c=Ga (.frz o (.own c))/\o.data=.cell v
def Cells (H:Hp)(cs:List Gj):Prop:=∀ c∈cs,CellA H c
theorem zlZ {H:Hp}{cs:List Gj}(m:Cells H cs){l:List Gg}(g:GoodT H l):GoodT (butC H cs) l :=
 ⟨g.1,λpos cv e=>by
  obtain⟨c,o,vs,v,e1,e2,e3,e4⟩:=g.2 pos cv e;refine⟨c,o,vs,v,e1,?_,e3,e4⟩;rw[zbM λz=>?_]
  .exact e2
  .obtain⟨o',v',h1,h2⟩:=m c z;rw[e2] at h1;cases h1;rw[e3] at h2;cases h2⟩
theorem zjQ {G H:Hp}{cs:List Gj}(n:∀ c∈cs,H c=Gb):∀ c o,H c=Ga o->putC G H cs c=Ga o:=λc o h=>by
 rw[zeA λz=>by rw[n c z] at h;cases h];exact h
theorem Same.withC {H H':Hp}{cs:List Gj}(m:Cells H cs)(s:Same (butC H cs) H')(n:∀ c∈cs,H' c=Gb):Same H (putC H H' cs):=λb o h=>by
 by_cases hb:b∈cs
 .rw[zlY hb];obtain⟨o',v',h1,_⟩:=m b hb;rw[h1] at h;cases h;exact h1
 .rw[zeA hb];exact((s b o (by rw[zbM hb];exact h)).from λ_ z=>zlZ m z).to λ_ z=>z.sub (zjQ n)
theorem Same.withC2 {F' H' F H:Hp}{cs:List Gj}(mF:Cells F cs)(e:∀ c∈cs,F c=H c)(s:Same F' H')(nF:∀ c∈cs,F' c=Gb)(n:∀ c∈cs,H' c=Gb):Same (putC F F' cs) (putC H H' cs):=λb o h=>by
 by_cases hb:b∈cs
 .rw[zlY hb] at h ⊢;obtain⟨o',v',h1,_⟩:=mF b hb;rw[h1] at h;cases h;rw[<- e b hb];exact h1
 .rw[zeA hb] at h ⊢;refine((s b o h).from λl z=>?_).to λ_ z=>z.sub (zjQ n);refine⟨z.1,λpos cv e=>?_⟩;obtain⟨c,x,vs,v,e1,e2,e3,e4⟩:=z.2 pos cv e;refine⟨c,x,vs,v,e1,?_,e3,e4⟩;rw[zeA λq=>?_] at e2
  .exact e2
  .rw[zlY q] at e2;obtain⟨o',v',h1,h2⟩:=mF c q;rw[e2] at h1;cases h1;rw[e3] at h2;cases h2
mutual
theorem Rep.butC {K:ja}{F:Hp}{cs:List Gj}(m:Cells F cs):∀ {d:D} {v:V},Rep K F d v->Rep K (T3.butC F cs) d v
 | _,_,.non=>.non
 | _,_,.bl b=>.bl b
 | _,_,.int i=>.int i
 | _,_,.str x=>.str x
 | _,_,.tup h r=>.tup (by
   rcases h with (h|⟨o,h⟩)|h
   .exact .inl (.inl (by rw[zbM λz=>by obtain⟨o',v',h1,_⟩:=m _ z;rw[h] at h1;cases h1];exact h))
   .exact .inl (.inr ⟨o,by rw[zbM λz=>by obtain⟨o',v',h1,_⟩:=m _ z;rw[h] at h1;cases h1];exact h⟩)
   .exact .inr h) (Reps.butC m r)
 | _,_,.lst h r=>.lst (by
   rcases h with (h|⟨o,h⟩)|h
   .exact .inl (.inl (by rw[zbM λz=>by obtain⟨o',v',h1,_⟩:=m _ z;rw[h] at h1;cases h1];exact h))
   .exact .inl (.inr ⟨o,by rw[zbM λz=>by obtain⟨o',v',h1,_⟩:=m _ z;rw[h] at h1;cases h1];exact h⟩)
   .exact .inr h) (Reps.butC m r)
 | _,_,.dic hs h ok r=>.dic hs (by rw[zbM λz=>by obtain⟨o',v',h1,_⟩:=m _ z;rw[h] at h1;cases h1];exact h) ok (Reps.butC m r)
 | _,_,.dci hs h ok r=>.dci hs (by rw[zbM λz=>by obtain⟨o',v',h1,_⟩:=m _ z;rw[h] at h1;cases h1];exact h) ok (RepKV.butC m r)
theorem Reps.butC {K:ja}{F:Hp}{cs:List Gj}(m:Cells F cs):∀ {ds:List D} {vs:List V},Reps K F ds vs->Reps K (T3.butC F cs) ds vs
 | _,_,.nil=>.nil
 | _,_,.cons h t=>.cons (Rep.butC m h) (Reps.butC m t)
theorem RepKV.butC {K:ja}{F:Hp}{cs:List Gj}(m:Cells F cs):∀ {l:List (Int×D)} {w:List (Int×V)},RepKV K F l w->RepKV K (T3.butC F cs) l w
 | _,_,.nil=>.nil
 | _,_,.cons h t=>.cons (Rep.butC m h) (RepKV.butC m t)
end
theorem HOk.butC {P:Program}{w:World}{H:Hp}{h:Heap}{cs:List Gj}(m:Cells H cs)(x:HOk P w H h):HOk P w (T3.butC H cs) h:=λa o e=>by
 obtain⟨hb,e⟩:=zjP e;refine(x a o e).stay (λ_ _ _ q=>q) (λb q=>?_) λb xs q=>?_
 .rw[zbM λz=>by obtain⟨o',v',h1,_⟩:=m _ z;rw[q] at h1;cases h1];exact q
 .rw[zbM λz=>by obtain⟨o',v',h1,_⟩:=m _ z;rw[q] at h1;cases h1];exact q
theorem Un.putC {fs:List Gj}{H H':Hp}{h h':Heap}{cs:List Gj}(m:Cells H cs)(u:Un fs [] (T3.butC H cs) H' h h')(n:∀ c∈cs,H' c=Gb):Un fs [] H (T3.putC H H' cs) h h':=by
 have out:∀ {b:Gj},H b=Gb->b∉cs:=λ{b} e z=>by obtain⟨o',v',h1,_⟩:=m _ z;rw[e] at h1;cases h1
 have bn:∀ {b:Gj},H b=Gb->T3.butC H cs b=Gb:=λ{b} e=>by rw[zbM (out e)];exact e
 refine⟨λb o q nb hb hx=>u.keep b o q (bn nb) hb hx,λb o q nb hb hx=>u.slot b o q (bn nb) hb hx,λb o q nb hx=>by rw[zeA (out nb)];exact u.free b o q (bn nb) hx,u.there,λb xs q=>?_,λb o x q=>?_,λb ps q=>?_⟩
 .have nb:b∉cs:=λz=>by obtain⟨o',v',h1,_⟩:=m _ z;rw[q] at h1;cases h1
  rw[zeA nb];exact u.tups b xs (by rw[zbM nb];exact q)
 .by_cases nb:b∈cs
  .rw[zlY nb];exact q
  .rw[zeA nb];exact u.frzs b o x (by rw[zbM nb];exact q)
 .have nb:b∉cs:=λz=>by obtain⟨o',v',h1,_⟩:=m _ z;rw[q] at h1;cases h1
  rw[zeA nb];exact u.tbls b ps (by rw[zbM nb];exact q)
theorem HOk.putC {P:Program}{w:World}{H H':Hp}{h h':Heap}{cs:List Gj}(m:Cells H cs)(x:HOk P w H' h')(n:∀ c∈cs,H' c=Gb)(k:∀ c∈cs,∀ o v,H c=Ga (.frz o (.own c))->o.data=.cell v->h'.get? c=Ga o):HOk P w (T3.putC H H' cs) h':=λa o e=>by
 by_cases ha:a∈cs
 .rw[zlY ha] at e;obtain⟨o',v',h1,h2⟩:=m a ha;rw[h1] at e;cases e;have g:=k a ha o' v' h1 h2;exact⟨g,o',g⟩
 .rw[zeA ha] at e;exact(x a o e).stay (λ_ _ _ q=>q) (λb q=>zjQ n b _ q) λb xs q=>zjQ n b _ q
end T3
namespace T3
open PySem PySem.Spec PyProof.Rows L2
structure LamSc (x:Str)(fr:List Str)(scope:Scope):Prop where
 kind:scope.kind=.function
 co:scope.isCoroutine=false
 gen:scope.isGenerator=false
 nocell:∀ y∈scope.names,y.2≠.cell
 par:scope.names.lookup x=Ga .local
 free:∀ y∈scope.names,y.2=.free->y.1∈fr
 frf:∀ y∈fr,scope.names.lookup y=Ga .free
 nd:(x::fr).Nodup
structure ClosP (K:ja)(F:Hp)(fr:List Str)(ds:List D)(cl:List (Str×Gj))(cs:List Gj):Prop where
 look:∀ (j:Nat) (y:Str) (d:D),fr[j]?=Ga y->ds[j]?=Ga d->∃ c o u v,cl.lookup y=Ga c/\c∈cs/\F c=Ga (.frz o (.own c))/\o.data=.cell (Ga u)/\RelV v u/\Rep K F d v
 all:∀ y c,cl.lookup y=Ga c->c∈cs
 has:∀ y∈fr,∃ c,cl.lookup y=Ga c
 cells:Cells F cs
 inj:∀ x y c,cl.lookup x=Ga c->cl.lookup y=Ga c->x=y
 len:ds.length=fr.length
 only:∀ c∈cs,∃ y,cl.lookup y=Ga c
theorem Cells.mono {F F':Hp}{cs:List Gj}(s:Same F F')(m:Cells F cs):Cells F' cs:=λc h=>by
 obtain⟨o,v,h1,h2⟩:=m c h;exact⟨o,v,s _ _ h1,h2⟩
theorem ClosP.mono {K:ja}{F F':Hp}{fr:List Str}{ds:List D}{cl:List (Str×Gj)}{cs:List Gj}(s:Same F F')(x:ClosP K F fr ds cl cs):ClosP K F' fr ds cl cs :=
 ⟨λj y d h1 h2=>by
  obtain⟨c,o,u,v,e1,e2,e3,e4,e5,e6⟩:=x.look j y d h1 h2;exact⟨c,o,u,v,e1,e2,s _ _ e3,e4,e5,e6.mono s⟩,x.all,x.has,x.cells.mono s,x.inj,x.len,x.only⟩
def ObjI (f:Gj)(o:Obj):Heap->Prop:=λh=>h.get? f=Ga o
def LamC (K:ja)(params:Arguments)(body:Expr)(scope:Scope)(fr:List Str)(ds:List D):FnC where
 C:=λf F H=>∃ name qual cl pm c ctv cs o vs,∃ v:Str×Tok,F f=Ga (.ext (ObjI f (uk name qual params body scope cl pm c ctv)))/\H c=Ga (.frz o (.own c))/\o.data=.fields vs/\vs[1]?=Ga (.str v.1 v.2)/\ClosP K F fr ds cl cs
 mono:=λf F F' H H' s z ⟨name,qual,cl,pm,c,ctv,cs,o,vs,v,h1,h2,h3,h4,h5⟩=>⟨name,qual,cl,pm,c,ctv,cs,o,vs,v,s _ _ h1,z _ _ h2,h3,h4,h5.mono s⟩
def cxLam (P:Program)(w:World)(K:ja)(mg:Str->Option Gg)(base:Heap)(N:List Str)(qual:Str)(scope:Scope)(f:Gj)(cd:Gg)(cl:List (Str×Gj))(A:Around)(outer:List Env)(s:Gh)(H:Hp):Cx where
 prog:=P
 w:=w
 K:=K
 mg:=mg
 base:=base
 A:=A.deeper (uZ qual scope s.heap.objs.size f cd cl)
 N:=N
 s₀:=s
 H₀:=H
 env:=uZ qual scope s.heap.objs.size f cd cl
 outer:=outer
 stack:=uZ qual scope s.heap.objs.size f cd cl::outer
 ex:=[]
 fn:=λ_=>false
 calm:=true
 pn:=[]
 xe:=λ_ _=>False
section
variable {P:Program}{w:World}{K:ja}{mg:Str->Option Gg}{base:Heap}{A:Around}{outer:List Env}{s:Gh}{H F:Hp}{x:Str}{fr:List Str}{scope:Scope}{cl:List (Str×Gj)}{cs:List Gj}{ds:List D}{q:Str}{f:Gj}{cd:Gg}
theorem zzG (S:LamSc x fr scope)(hd:A.handled=Gb)(e0:Env0 P w K mg base A outer s H)(g:Same F H)(cP:ClosP K F fr ds cl cs){u:Gg}{v:V}(ru:RelV v u){vs:List V}(hvs:vs.length=ds.length)
  (hv:∀ (j:Nat) (y:Str) (v:V),fr[j]?=Ga y->vs[j]?=Ga v->∃ c o u,cl.lookup y=Ga c/\F c=Ga (.frz o (.own c))/\o.data=.cell (Ga u)/\RelV v u)
  {h1:Heap} {tk:Nat} (hns:h1.Ns s.heap.objs.size (λy=>[(x,u)].reverse.lookup y)) (hk:∀ b o,s.heap.get? b=Ga o->h1.get? b=Ga o) :
  Inv (cxLam P w K mg base (x::fr) q scope f cd cl A outer s (T3.butC H cs)) [] (Ga v::vs.map Ga) (T3.butC H cs) { s with heap:=h1,toks:=tk }:=by
 have mH:Cells H cs:=cP.cells.mono g;have noA:∀ b:Gj,b∉(cxLam P w K mg base (x::fr) q scope f cd cl A outer s (T3.butC H cs)).ex:=λb z=>absurd (show b∈([]:List Gj) from z) (by simp);have cell:∀ y c,cl.lookup y=Ga c->∃ v,h1.IsCell c v:=λy c e=>by
  obtain⟨o,v,h2,h3⟩:=mH c (cP.all y c e);exact⟨v,o,hk _ _ (e0.hok c _ h2).1,h3⟩
 refine⟨⟨e0.mod,S.kind,rfl,rfl,jk _,λy z c h1 h2=>cP.inj y z c h1 h2,λy hy=>?_,λy c hf _=>(by cases hf),λ_=>hd,qJ e0.frames,.inr ⟨rfl,rfl⟩,λb z=>absurd z (noA b),λb o e=>?_,e0.bsz,λb _ _=>noA b,λb z=>absurd z (noA b),e0.funs,λb hb=>?_⟩,
  rfl,e0.bare,Un.kept hk,⟨_,hns,λi y v' e1 e2 e3=>?_⟩,λy c h=>cell y c h,?_,λy c h=>?_,λp hp=>absurd (show p∈([]:List (Gj×Obj)) from hp) (by simp),L2.HOk.kept (T3.HOk.butC mH e0.hok) hk,?_⟩
 .have hy:scope.names.lookup y=Ga .cell\/scope.names.lookup y=Ga .free:=hy;rcases hy with hy|hy
  .exact absurd rfl (S.nocell _ (kC hy))
  .exact cP.has y (S.free _ (kC hy) rfl)
 .obtain⟨h2,h3⟩:=e0.bs b o e;exact⟨h2,by
   show T3.butC H cs b=Gb;by_cases hb:b∈cs
   .exact zi5 hb
   .rw[zbM hb];exact h3⟩
 .show T3.butC H cs b=Gb;by_cases hc:b∈cs
  .exact zi5 hc
  .rw[zbM hc];exact e0.frf b hb
 .cases i with
  | zero =>
   have e1:Ga x=Ga y:=e1;cases e1;have e2:Ga (Ga v)=Ga (Ga v'):=e2;cases e2;refine⟨u,ru,.inl ⟨S.par,?_⟩⟩;simp
  | succ j =>
   have e1:(x::fr)[j+1]?=Ga y:=e1;have e1:fr[j]?=Ga y:=by rw[vh] at e1;exact e1
   have e2:(Ga v::vs.map Ga)[j+1]?=Ga (Ga v'):=e2;rw[vh] at e2;rw[jz] at e2;cases z:vs[j]? with
   | none=>rw[z] at e2;cases e2
   | some v2 =>
    rw[z] at e2;cases e2;obtain⟨c,o,u2,h2,h3,h4,h5⟩:=hv j y _ e1 z;refine⟨u2,h5,.inr ⟨.inr (S.frf y (ky e1)),c,h2,o,hk _ _ (e0.hok c _ (g _ _ h3)).1,h4⟩⟩
 .have n:=e0.hok.fresh (jk s.heap.objs.size);show T3.butC H cs s.heap.objs.size=Gb;by_cases hc:s.heap.objs.size∈cs
  .exact zi5 hc
  .rw[zbM hc];exact n
 .exact zi5 (cP.all y c h)
 .show(Ga v::vs.map Ga).length=(x::fr).length;rw[jJ,jb,jJ,hvs,cP.len]
end
theorem zpH {K:ja}{F:Hp}{cl:List (Str×Gj)}{cs:List Gj}:∀ {fr:List Str} {ds:List D},ds.length=fr.length->(∀ (j:Nat) (y:Str) (d:D),fr[j]?=Ga y->ds[j]?=Ga d->∃ c o u v,cl.lookup y=Ga c/\c∈cs/\F c=Ga (.frz o (.own c))/\o.data=.cell (Ga u)/\RelV v u/\Rep K F d v) ->
  ∃ vs:List V,vs.length=ds.length/\Reps K F ds vs/\∀ (j:Nat) (y:Str) (v:V),fr[j]?=Ga y->vs[j]?=Ga v->∃ c o u,cl.lookup y=Ga c/\F c=Ga (.frz o (.own c))/\o.data=.cell (Ga u)/\RelV v u
 | [],[],_,_=>⟨[],rfl,.nil,λj y v h _=>by simp at h⟩
 | [],_::_,h,_=>by simp at h
 | _::_,[],h,_=>by simp at h
 | y::fr,d::ds,h,hl=>by
  obtain⟨vs,h1,h2,h3⟩:=zpH (fr:=fr) (ds:=ds) (by simpa using h) λj y d e1 e2=>hl (j+1) y d (by simpa using e1) (by simpa using e2);obtain⟨c,o,u,v,e1,e2,e3,e4,e5,e6⟩:=hl 0 y d rfl rfl;refine⟨v::vs,by simpa using h1,.cons e6 h2,λj z v' q1 q2=>?_⟩;cases j with
  | zero =>
   have q1:Ga y=Ga z:=q1;have q2:Ga v=Ga v':=q2;cases q1;cases q2;exact⟨c,o,u,e1,e3,e4,e5⟩
  | succ j=>exact h3 j z v' (by simpa using q1) (by simpa using q2)
theorem RS.vals {K:ja}{F H:Hp}(g:Same F H):∀ {ds:List D} {vs:List V},Reps K F ds vs->RS K H F H (ds.map Sl.val) (vs.map Ga):=λ{ds vs} r=>by
 refine⟨.refl _,g,λi s e=>?_,λi j a s t o1 o2 e1=>?_⟩
 .rw[jz] at e;cases z:ds[i]? with
  | none=>rw[z] at e;cases e
  | some d =>
   rw[z] at e;cases e;obtain⟨v,h1,h2⟩:=r.get z;exact⟨Ga v,by rw[jz,h1];rfl,v,rfl,h2⟩
 .rw[jz] at e1;cases z:ds[i]? with
  | none=>rw[z] at e1;cases e1
  | some d=>rw[z] at e1;cases e1;cases o1
end T3
namespace T3
open PySem PySem.Spec PyProof.Rows L2
theorem zzH {F:Hp}{cs:List Gj}{l:List Gg}(g:GoodT (butC F cs) l):GoodT F l:=g.sub λc o h=>(zjP h).2
theorem Same.butC2 {F H:Hp}{cs:List Gj}(m:Cells H cs)(s:Same F H):Same (T3.butC F cs) (T3.butC H cs):=λb o h=>by
 obtain⟨hb,h⟩:=zjP h;rw[zbM hb];exact((s b o h).from λ_ z=>zzH z).to λ_ z=>zlZ m z
section
variable {P:Program}{w:World}{K:ja}{mg:Str->Option Gg}{base:Heap}{A:Around}{outer:List Env}{s:Gh}{H F:Hp}{x:Str}{fr:List Str}{scope:Scope}{ds:List D}{f:Gj}
theorem zzI {k:Nat}{params:Arguments}{body:Expr}{fb:FV}(S:LamSc x fr scope)
  (hbind:∀ (name qual:Str) (cl:List (Str×Gj)) (pm:Gg) (c:Gj) (ctv u:Gg),bindArgs (vM name qual params body scope cl pm (.ref c) ctv) ⟨[u],[]⟩=pure [(x,u)])
  (hb:∀ (qual:Str) (f:Gj) (cd:Gg) (cl:List (Str×Gj)) (A:Around) (outer:List Env) (s:Gh) (H:Hp),Room k (A.deeper (uZ qual scope s.heap.objs.size f cd cl))->PV (cxLam P w K mg base (x::fr) qual scope f cd cl A outer s H) body fb)
  (hC:(LamC K params body scope fr ds).C f F H) {u:Gg} {v:V} {d r:D} {Q:VK} (hr:Room (k+1) A) (e0:Env0 P w K mg base A outer s H) (g:Same F H) (ru:RelV v u) (rv:Rep K F d v) (e:fb (.val d::ds.map .val)=Ga r)
  (hq:∀ v' H' F',Same H H'->Same F F'->Same F' H'->New F F' H->Rep K F' r v'->Q v' H') :
  codeAny (model P w) A (.call (.ref f) ⟨[u],[]⟩) (CR CX0 outer P w H s Q E0) s:=by
 obtain⟨name,qual,cl,pm,c,ctv,cs,o,vs0,qt,hf,hc,hod,hv1,cP⟩:=hC;have of_:s.heap.get? f=Ga (uk name qual params body scope cl pm c ctv):=(e0.hok f _ (g _ _ hf)).1;have oc:s.heap.get? c=Ga o:=(e0.hok c _ hc).1;have lim:s.heap.NoLimit:=e0.mod.nolimit.keeps λb o e=>(e0.bs b o e).1;have mF:=cP.cells;have mH:Cells H cs:=cP.cells.mono g;have nfr:∀ c∈cs,c∉frs outer:=λc hc hz=>by
  obtain⟨o',v',h1,_⟩:=mH c hc;rw[e0.frf c hz] at h1;cases h1
 refine codeAny_of_tree ?_;show wpAny _ A.in1 (callAny (.ref f) _) _ _ s;simp only[callAny];refine wpAny_bind (wpAny_load of_ ?_);simp only[callFunction,S.co,S.gen];refine wpAny_bind (m:=field (.ref c) 1) (wpAny_field oc hod hv1 (wpAny_bind (wpAny_pure ?_)));rw[hbind];refine wpAny_bind (wpAny_pure ?_);refine wpAny_bind (wpAny_newFunctionEnv S.nocell (by intro y hy;rw[jv.mp hy];exact S.par) (λh1 hns hsb=>?_) S.kind);have hk:∀ b o,s.heap.get? b=Ga o->h1.get? b=Ga o:=λb o e=>hsb.extBut b o (jK (jm e)) (jd _ e);refine wpAny_bind (wpAny_enterFrame (lim.keeps hk) hr.depth (wpAny_pure (And.intro rfl ?_)));show codeAny _ _ (.expr body (uZ qt.1 scope s.heap.objs.size f (.ref c) cl)) _ _;obtain⟨vs,hvs,rvs,hv⟩:=zpH cP.len cP.look;have I:=zzG (q:=qt.1) (f:=f) (cd:=.ref c) S hr.hd e0 g cP ru hvs hv (tk:=s.toks+1) hns hk;refine PySem.W.kla_codeExpr (wpAny_mono (hb qt.1 f (.ref c) cl A outer s (T3.butC H cs) (hr.deeper _) [] _ _ _ (λv' H'=>(∀ c∈cs,H' c=Gb)->Q v' (T3.putC H H' cs)) I ?_) (λu' s' h=>?_) λe' s' h=>h.elim)
 .refine⟨T3.butC H cs,T3.butC F cs,.val d::ds.map .val,r,RS.vals (g.butC2 mH) (ds:=d::ds) (vs:=v::vs) (.cons (rv.butC mF) (rvs.butC mF)),e,λv' H' F' g1 f1 fh1 n1 rv' n=>?_⟩;have nF:∀ c∈cs,F' c=Gb:=λc hc=>fh1.free (n c hc);refine hq v' _ (T3.putC F F' cs) (g1.withC mH n) (f1.withC mF nF) (fh1.withC2 mF (λc hc=>?_) nF n) (λb o h nb=>?_) (rv'.mono (Same.of (zjQ nF)))
  .obtain⟨o',v2,h2,_⟩:=mF c hc;rw[h2];exact(g _ _ h2).symm
  .have hb:b∉cs:=λz=>by obtain⟨o',v2,h2,_⟩:=mF b z;rw[nb] at h2;cases h2
   rw[zeA hb] at h;have:=n1 b o h (by rw[zbM hb];exact nb);rw[zbM hb] at this;exact this
 .obtain⟨v',H',J,rel,qb⟩:=h;have n:∀ c∈cs,H' c=Gb:=λc hc=>by
   obtain⟨y,hy⟩:=cP.only c hc;exact J.freeC y c hy
  have J':Un (frs outer) [] (T3.butC H cs) H' s.heap s'.heap:=J.base;exact⟨v',T3.putC H H' cs,J.os,J.bare,T3.Un.putC mH J' n,T3.HOk.putC (h:=s.heap) mH J.hok n (λc hc o v h1 h2=>J'.keep c o (e0.hok c _ h1).1 (zi5 hc) (nfr c hc) (by simp)),rel,qb n⟩
end
end T3
namespace T3
open PySem PySem.Spec PyProof.Rows L2
structure CallOk (P:Program)(w:World)(K:ja)(mg:Str->Option Gg)(base:Heap)(k:Nat)(c:FnC)(φ:D->Option D):Prop where
 obj:∀ f F H h,c.C f F H->Same F H->HOk P w H h->∃ o fd,h.get? f=Ga o/\o.data=.func fd
 run:∀ (f:Gj) (F H:Hp) (A:Around) (outer:List Env) (s:Gh) (u:Gg) (v:V) (d r:D) (Q:VK),c.C f F H->Room k A->Env0 P w K mg base A outer s H->Same F H->RelV v u->Rep K F d v->φ d=Ga r ->
  (∀ v' H' F',Same H H'->Same F F'->Same F' H'->New F F' H->Rep K F' r v'->Q v' H')->codeAny (model P w) A (.call (.ref f) ⟨[u],[]⟩) (CR CX0 outer P w H s Q E0) s
theorem CallOk.mono {P:Program}{w:World}{K:ja}{mg:Str->Option Gg}{base:Heap}{j k:Nat}{c:FnC}{φ:D->Option D}(x:CallOk P w K mg base j c φ)(h:j<=k):CallOk P w K mg base k c φ :=
 ⟨x.obj,λf F H A outer s u v d r Q hC hr=>x.run f F H A outer s u v d r Q hC (hr.mono h)⟩
theorem zsC {P:Program}{w:World}{K:ja}{mg:Str->Option Gg}{base:Heap}{x:Str}{fr:List Str}{scope:Scope}{ds:List D}{k:Nat}{params:Arguments}{body:Expr}{fb:FV}(S:LamSc x fr scope)
  (hbind:∀ (name qual:Str) (cl:List (Str×Gj)) (pm:Gg) (c:Gj) (ctv u:Gg),bindArgs (vM name qual params body scope cl pm (.ref c) ctv) ⟨[u],[]⟩=pure [(x,u)])
  (hb:∀ (qual:Str) (f:Gj) (cd:Gg) (cl:List (Str×Gj)) (A:Around) (outer:List Env) (s:Gh) (H:Hp),Room k (A.deeper (uZ qual scope s.heap.objs.size f cd cl))->PV (cxLam P w K mg base (x::fr) qual scope f cd cl A outer s H) body fb) :
  CallOk P w K mg base (k+1) (LamC K params body scope fr ds) λd=>fb (.val d::ds.map .val) where
 obj:=λf F H h ⟨name,qual,cl,pm,c,ctv,cs,o,vs,qt,hf,_⟩ g hok=>⟨_,_,(hok f _ (g _ _ hf)).1,rfl⟩
 run:=λf F H A outer s u v d r Q hC hr e0 g ru rv e hq=>zzI S hbind hb hC hr e0 g ru rv e hq
open Classical in
noncomputable def callF (i:Nat)(c:FnC)(φ:D->Option D)(f:FV):FV:=λψ=>if ψ[i]?=Ga (.fn c) then(f ψ).bind φ else Gb
section
variable {X:Cx}{pos p:Pos}{k:Nat}{c:FnC}{φ:D->Option D}
theorem zzJ (i:Nat){y:Str}{ex:Expr}{f:FV}(hC:CallOk X.prog X.w X.K X.mg X.base k c φ)(hr:Room k X.A)(ha:PV X ex f)(hN:X.N[i]?=Ga y:=by rfl)(hv:Vis X.env.scope y:=by first|exact uj rfl|exact kG (uj rfl)|exact kG (kG rfl))
  (hd:(y==("__debug__":Str))=false:=by decide) (hcd:(y==("__classdict__":Str))=false:=by decide) (hs:starEach [ex] X.env=[(false,eval ex X.env)]:=by rfl):PV X (.Call (.Name y p) [ex] [] pos) (callF i c φ f):=by
 intro ω s σ H Q I h;obtain⟨H0,F,ψ,d,r,e,q⟩:=h;unfold callF at e;split at e;rotate_left
 .cases e
 rename_i hi;obtain⟨d1,e1,e2⟩:=bind_some e;obtain⟨u,e3,g,e4,hg⟩:=r.sl i _ hi;subst e4;refine wpAny_Call_Name_kw (thn (pe_var (pos:=p) hN hv hd hcd ω s σ H (λv H1=>v=.ref g/\H1=H) I ⟨.ref g,e3,rfl,rfl⟩) λu1 s1 ⟨v1,H1,I1,rel,z1,z2⟩=>?_);subst z1;subst z2;obtain rfl:u1=kB g:=rel;refine PySem.W.callWith_of (P:=λh=>∃ o fd,h.get? g=Ga o/\o.data=.func fd) (by rw[hs];rfl) (λh ⟨o,fd,h1,h2⟩=>⟨.frame,.inl rfl,?_⟩) ?_
 .obtain⟨cl0,dc0,dt0,sl0⟩:=o;have h2:dt0=.func fd:=h2;subst h2;exact(PySem.W.Looks.ld (part:=Gb) h1).andThen .now
 .have hp:PA X [ex] (tCons (tV X.K f) tNil):=pa_cons ha pa_nil hs;rw[hs];refine vo ?_;have hw:=hp pos ω s1 σ H1 (λvs H2=>∃ v F2,vs=[v]/\Same H1 H2/\Same F F2/\Same F2 H2/\New F F2 H1/\Rep X.K F2 d1 v) I1 ⟨H0,F,ψ,d1,r,e1,λv H2 F2 g2 f2 fh2 n2 rv=>⟨v,F2,rfl,g2,f2,fh2,n2,rv⟩⟩;rw[hs] at hw;refine thn hw λus s2 ⟨vs,H2,I2,rvs,v,F2,z,g2,f2,fh2,n2,rv⟩=>?_;subst z;cases rvs with
  | cons ru rn =>
   cases rn;have hg2:=c.mono g F F2 H1 H2 f2 g2.fz hg;refine⟨hC.obj g F2 H2 _ hg2 fh2 I2.hok,?_⟩;refine wpAny_call (codeAny_mono (hC.run g F2 H2 X.A X.stack s2 _ v d1 d Q hg2 hr I2.env0 fh2 ru rv e2 λv' H' F' g3 f3 fh3 n3 rv3=>q v' H' F' (g2.trans g3) (f2.trans f3) fh3 (n2.trans n3 g2) rv3) λr s' hq=>?_);cases r with
   | error e=>exact hq.elim
   | ok fl =>
    cases fl with
    | ret u=>exact I2.after hq
    | next=>exact False.elim hq
    | brk=>exact False.elim hq
    | cont=>exact False.elim hq
end
end T3
namespace T3
open PySem PySem.Spec PyProof.Rows L2
def spF (K:ja)(c:FnC)(fm:List D->Option D):Sp:=λvs H Q _=>∃ (F:Hp) (g:Gj) (us:List V) (ds:List D) (d:D),vs=.ref g::us/\c.C g F H/\Same F H/\Reps K F ds us/\fm ds=Ga d /\
 ∀ v H' F',Same H H'->Same F F'->Same F' H'->New F F' H->Rep K F' d v->Q v H'
def startF (n:Nat)(c:FnC)(ds:List D):En:=.fn c::startE (n-1) ds
def runF (np n:Nat)(c:FnC)(g:FS)(ds:List D):Option D:=if ds.length+1=np then outV (g (startF n c ds)) else Gb
theorem RS.cons {K:ja}{H0 F H:Hp}{ψ:En}{σ:St}(r:RS K H0 F H ψ σ){s:Sl}{u:Option V}(q:RepSl K H0 F H s u)(o:ownS s=false):RS K H0 F H (s::ψ) (u::σ):=by
 refine⟨r.h0,r.fh,λi t e=>?_,λi j a t1 t2 o1 o2 e1 e2 e3 e4=>?_⟩
 .cases i with
  | zero=>cases e;exact⟨u,rfl,q⟩
  | succ i=>exact r.sl i t e
 .cases i with
  | zero=>cases e1;rw[o] at o1;cases o1
  | succ i =>
   cases j with
   | zero=>cases e2;rw[o] at o2;cases o2
   | succ j=>rw[r.ap i j a t1 t2 o1 o2 e1 e2 e3 e4]
theorem zsD {N:List Str}{v:V}{us:List V}:L2.start N (v::us)=Ga v::L2.start N.tail us:=by
 unfold L2.start;rw[jQ,Js,jJ,ko]
 congr 3
 omega
theorem RS.startF {K:ja}{F H:Hp}{N:List Str}{c:FnC}{ds:List D}{g:Gj}{us:List V}(h:Same F H)(r:Reps K F ds us)(q:c.C g F H):RS K H F H (T3.startF N.length c ds) (L2.start N (.ref g::us)):=by
 rw[zsD];unfold T3.startF;have e:N.length-1=N.tail.length:=by rw[ko]
 rw[e];exact(RS.start (N:=N.tail) h r).cons ⟨g,rfl,q⟩ rfl
section
variable {P:Program}{w:World}{K:ja}{mg:Str->Option Gg}{base:Heap}{x qual:Str}{st:Stmt}{f:Gj}{fd:Gi}{N ps:List Str}{k:Nat}{g:FS}{c:FnC}
theorem okF (F:Fun K x qual st f fd)(S:FnScope N ps (defScope st))
  (hb:∀ (cdv:Gg) (A:Around) (outer:List Env) (s:Gh) (H:Hp) (E:XK),Room k (A.deeper (envOfC qual (defScope st) s.heap.objs.size f cdv))->PSts (cxOf CX0 P w K mg base N qual (defScope st) f cdv A outer s H E).nox (defBody st) g) :
  FnOk P w K mg base CX0 (k+1) f fd ps (spF K c (runF ps.length N.length c g)):=by
 have hr0:∀ {ds:List D} {d:D},runF ps.length N.length c g ds=Ga d->ds.length+1=ps.length/\(g (startF N.length c ds)=Ga (.rt d)\/∃ xs,d=.list xs/\g (startF N.length c ds)=Ga (.ro xs)):=λ{ds d} h=>by
  unfold runF at h;split at h
  .rename_i z;refine⟨z,?_⟩;unfold outV at h;split at h
   .rename_i e;cases h;exact .inl e
   .rename_i e;cases h;exact .inr ⟨_,rfl,e⟩
   .cases h
  .cases h
 refine F.ok S (λvs H Q E h=>?_) (λcdv A outer s H vs Q E hr h=>?_)
 .obtain⟨F0,g0,us,ds,d,rfl,_,_,r,e,_⟩:=h;rw[jJ,<- r.length];exact(hr0 e).1
 .obtain⟨F0,g0,us,ds,d,rfl,hC,hs,r,e,q⟩:=h;rcases(hr0 e).2 with z|⟨xs,rfl,z⟩
  .exact⟨_,hb cdv A outer s H E hr,H,F0,_,_,RS.startF hs r hC,z,λv H' F' g1 f1 fh1 n1 rv=>q v H' F' g1 f1 fh1 n1 rv⟩
  .refine⟨_,hb cdv A outer s H E hr,H,F0,_,_,RS.startF hs r hC,z,λa ys H' F' g1 f1 fh1 n1 ha fa ha' rr=>?_⟩;have sF:Same F' (upd F' a (.lst ys)):=Same.new fa;refine q (.ref a) H' (upd F' a (.lst ys)) g1 (f1.trans sF) (Same.upL fh1 ha' trivial) (λb o h nb=>?_) (.lst (SqL.of upd_same) (rr.mono sF));by_cases hb:b=a
   .subst hb;exact ha
   .rw[upd_ne hb] at h;exact n1 b o h nb
end
open Classical in
noncomputable def callP (i:Nat)(c:FnC)(fm:List D->Option D)(g:FL):FV:=λψ=>if ψ[i]?=Ga (.fn c) then(g ψ).bind fm else Gb
section
variable {X:Cx}{k:Nat}{f:Gj}{fd:Gi}{ps:List Str}{x:Str}{p pos:Pos}{es:List Expr}{g:FL}{c:FnC}
theorem zgE (i:Nat){y:Str}{py:Pos}{fm:List D->Option D}(F:FnOk X.prog X.w X.K X.mg X.base CX0 k f fd ps (spF X.K c fm))(hr:Room k X.A)(hm:X.mg x=Ga (.ref f))(hk:kR X.K (.ref f)=true)(hb:Binds X.K fd ps [])(ha:PL X es g)(hg:Gl X x:=by rfl)
  (hN:X.N[i]?=Ga y:=by rfl) (hv:Vis X.env.scope y:=by first|exact uj rfl|exact kG (uj rfl)|exact kG (kG rfl)) (hd:(y==("__debug__":Str))=false:=by decide) (hcd:(y==("__classdict__":Str))=false:=by decide)
  (hdb:(x==("__debug__":Str))=false:=by decide) (he:starEach (.Name y py::es) X.env=(false,eval (.Name y py) X.env)::starEach es X.env:=by rfl) (hpl:(backTo pos (starEach es X.env)).any (·.1)=false:=by rfl) :
  PV X (.Call (.Name x p) (.Name y py::es) [] pos) (callP i c fm g):=by
 refine za7 (pe_call F hr hg hm hk hb .nil pass0 (pa_cons (pe_var (pos:=py) hN hv hd hcd) ha.pa he) hdb he hpl) λσ H Q=>?_;rintro⟨H0,F,ψ,d,r,e,q⟩;unfold callP at e;split at e;rotate_left
 .cases e
 rename_i hi;obtain⟨ds,e1,e2⟩:=bind_some e;obtain⟨u,e3,h,e4,hh⟩:=r.sl i _ hi;subst e4;refine⟨.ref h,e3,H0,F,ψ,ds,r,e1,λvs H1 F1 g1 f1 fh1 n1 rv=>⟨F1,h,vs,ds,d,by rw[j7],c.mono _ _ _ _ _ f1 g1.fz hh,fh1,rv,e2,λv H2 F2 g2 f2 fh2 n2 rv2=>?_⟩⟩;exact q v H2 F2 (g1.trans g2) (f1.trans f2) fh2 (n1.trans n2 g1) rv2
end
end T3
namespace T3
open PySem PySem.Spec PyProof.Rows L2
def SemC (P:Program)(w:World)(K:ja)(mg:Str->Option Gg)(base:Heap)(k:Nat)(φ:D->Option D):FnC where
 C:=λf F H=>∀ F' H',Same F F'->Fz H H'->Same F' H'->(∀ h,HOk P w H' h->∃ o fd,h.get? f=Ga o/\o.data=.func fd) /\
  ∀ (A:Around) (outer:List Env) (s:Gh) (u:Gg) (v:V) (d r:D) (Q:VK),Room k A->Env0 P w K mg base A outer s H'->RelV v u->Rep K F' d v->φ d=Ga r ->
   (∀ v' H2 F2,Same H' H2->Same F' F2->Same F2 H2->New F' F2 H'->Rep K F2 r v'->Q v' H2)->codeAny (model P w) A (.call (.ref f) ⟨[u],[]⟩) (CR CX0 outer P w H' s Q E0) s
 mono:=λf F F' H H' s z h F2 H2 s2 z2=>h F2 H2 (s.trans s2) λb x q=>z2 b x (z b x q)
theorem zzK (P:Program)(w:World)(K:ja)(mg:Str->Option Gg)(base:Heap)(k:Nat)(φ:D->Option D):CallOk P w K mg base k (SemC P w K mg base k φ) φ where
 obj:=λf F H h hC g hok=>(hC F H (.refl _) (λ_ _ q=>q) g).1 h hok
 run:=λf F H A outer s u v d r Q hC hr e0 g ru rv e hq=>(hC F H (.refl _) (λ_ _ q=>q) g).2 A outer s u v d r Q hr e0 ru rv e hq
theorem zwD {P:Program}{w:World}{K:ja}{mg:Str->Option Gg}{base:Heap}{k:Nat}{φ:D->Option D}{c:FnC}(x:CallOk P w K mg base k c φ){f:Gj}{F H:Hp}(h:c.C f F H):(SemC P w K mg base k φ).C f F H:=λF' H' s z g =>
 have h':=c.mono f F F' H H' s z h
 ⟨λhp hok=>x.obj f F' H' hp h' g hok,λA outer st u v d r Q hr e0 ru rv e hq=>x.run f F' H' A outer st u v d r Q h' hr e0 g ru rv e hq⟩
structure LamEnv (X:Cx)(c0 P:Gj):Prop where
 code:X.env.code=.ref c0
 hd:∀ h,X.K.In h->PySem.W.CodeHd h c0 P
 bm:∃ bm o,X.mg "__builtins__"=Ga (.ref bm)/\bm≠builtinsNs/\bm≠mainGlobals/\X.K.lookup bm=Ga o/\o.cls=.type "module"/\o.dict=Ga builtinsNs/\o.data=.plain
structure LamMade (params:Arguments)(body:Expr)(scope:Scope)(cl:List (Str×Gj))(H:Hp)(f:Gj)(H':Hp):Prop where
 same:Same H H'
 new:H f=Gb
 ex:∃ name qual pm c ctv o vs,∃ v:Str×Tok,H' f=Ga (.ext (ObjI f (uk name qual params body scope cl pm c ctv)))/\H' c=Ga (.frz o (.own c))/\o.data=.fields vs/\vs[1]?=Ga (.str v.1 v.2)
def tLam (ψ:Env)(fr:List Str)(params:Arguments)(body:Expr)(scope:Scope)(P:Gj):TE:=λ_ H Q=>∃ ps,H P=Ga (.tbl ps)/\GoodT H ps.toList /\
 ∀ f cl H',LamMade params body scope cl H f H'->(∀ y a,cl.lookup y=Ga a->ψ.cells.lookup y=Ga a)->(∀ y∈fr,∃ a,cl.lookup y=Ga a)->Q (.ref f) H'
theorem zn7 {pos:Pos}{l m:List Gg}(t:TriplesOk l):codeAmong pos (l++m)=(codeAmong pos l).or (codeAmong pos m):=by
 fun_induction TriplesOk l with
 | case1=>simp[codeAmong]
 | case2 a b c d e rest ih =>
  simp only[Js,codeAmong];split
  .rfl
  .exact ih t
 | case3=>cases t
theorem zqO {l m:List Gg}(t:TriplesOk l)(u:TriplesOk m):TriplesOk (l++m):=by
 fun_induction TriplesOk l with
 | case1=>exact u
 | case2 a b c d e rest ih=>exact ih t
 | case3=>cases t
theorem Same.tbl {H:Hp}{P:Gj}{ps qs:Array Gg}(hP:H P=Ga (.tbl ps))(g:GoodT H ps.toList->GoodT (upd H P (.tbl qs)) qs.toList):Same H (upd H P (.tbl qs)):=λb o h=>by
 by_cases hb:b=P
 .subst hb;rw[hP] at h;cases h;rw[upd_same];exact⟨qs,rfl,g⟩
 .rw[upd_ne hb];exact .of h λl z=>z.updG λx u q=>by rw[hP] at q;cases q
theorem zt3 {H:Hp}{P c:Gj}{ps:Array Gg}{pos:Pos}{o:Obj}{vs:Array Gg}{v:Str×Tok}(hP:H P=Ga (.tbl ps))(hc:H c=Ga (.frz o (.own c)))(h1:o.data=.fields vs)(h2:vs[1]?=Ga (.str v.1 v.2))(g:GoodT H ps.toList) :
  GoodT (upd H P (.tbl (ps++#[rawInt pos.line,rawInt pos.col,.ref c]))) (ps++#[rawInt pos.line,rawInt pos.col,.ref c]).toList:=by
 have ne:c≠P:=λz=>by subst z;rw[hP] at hc;cases hc
 have e:(ps++#[rawInt pos.line,rawInt pos.col,kB c]).toList=ps.toList++[rawInt pos.line,rawInt pos.col,kB c]:=by simp
 rw[e];refine⟨zqO g.1 trivial,λp cv hcv=>?_⟩;rw[zn7 g.1] at hcv;cases z:codeAmong p ps.toList with
 | some cv' =>
  rw[z] at hcv;cases hcv;obtain⟨c2,o2,vs2,v2,e1,e2,e3⟩:=g.2 p _ z;exact⟨c2,o2,vs2,v2,e1,by rw[upd_ne (λq=>by subst q;rw[hP] at e2;cases e2)];exact e2,e3⟩
 | none =>
  rw[z] at hcv;have hcv:codeAmong p [rawInt pos.line,rawInt pos.col,kB c]=Ga cv:=hcv;unfold rawInt codeAmong at hcv;split at hcv
  .cases hcv;exact⟨c,o,vs,v,rfl,by rw[upd_ne ne];exact hc,h1,h2⟩
  .unfold codeAmong at hcv;cases hcv
section
variable {X:Cx}{c0 P:Gj}{fr:List Str}{params:Arguments}{body:Expr}{scope:Scope}{lpos:Pos}
theorem zBE (L:LamEnv X c0 P)(outs:∀ y∈scope.names,y.2=.free->X.env.scope.names.lookup y.1=Ga .cell\/X.env.scope.names.lookup y.1=Ga .free)(hfr:∀ y∈fr,(y,j0)∈scope.names)
  (hdef:defaultsOf params X.env=([],[]):=by rfl):PE X (.Lambda params body scope lpos) (tLam X.env fr params body scope P):=by
 intro ω s σ H Q I h;obtain⟨ps,hP,gt,q⟩:=h;refine PySem.W.kla_eval hdef ?_;obtain⟨cl,ecl,c1,c2,_⟩:=ziF (ψ:=X.env) scope.names [] (λy hy hf=>I.ok.has y.1 (outs y hy hf)) (λx c h=>by simp at h);have hcl:closureFor scope X.env=pure cl:=by rw[zjN,ecl];rfl
 have hPo:s.heap.get? P=Ga (qN ps):=I.hok P _ hP;have C:=L.hd _ I.kIn;have hg:=I.mod.glob.keeps I.bk;have nb:∀ b o,X.base.get? b=Ga o->b≠P:=λb o e z=>by subst z;rw[(I.bs b o e).2] at hP;cases hP
 have hgP:mainGlobals≠P:=by obtain⟨o,es,ep,e,_⟩:=I.mod.glob;exact nb _ o e
 have hbm:s.heap.BuiltinsAt X.mg P:=by
  obtain⟨bm,o,b1,b2,b3,b4,b5⟩:=L.bm;have b6:=I.mod.kin bm o b4;exact⟨bm,o,b1,b2,b3,nb bm o b6,I.bk bm o b6,b5⟩
 have lt:∀ b o,H b=Ga o->b<s.heap.objs.size:=λb o e=>I.hok.lt e;cases hc:codeAmong lpos ps.toList with
 | none =>
  refine PySem.W.kla_makeFunction hcl I.ok.glob hg L.code C hPo gt.1 hc hgP hbm (λc' ctv h' tk hx hge hlt hrec htb=>?_);obtain⟨c2',oc,vs,t,e2,hoc,hd,hv⟩:=hrec;cases e2;generalize hob:uk ("<lambda>":Str) (X.env.qual++"<lambda>") params body scope cl ((X.mg "__name__").getD .none) c' ctv=ob;have nP:∀ b,H b=Gb->b≠P:=λb e z=>by subst z;rw[hP] at e;cases e
  have ltc:∀ b,b<s.heap.objs.size->b≠c':=λb h=>jK (jq h hge);have ltf:∀ b,b<s.heap.objs.size->b≠h'.objs.size:=λb h=>jK (jq h (jn hge (uz hlt)));have Pc:P≠c':=ltc P (lt P _ hP);have Pf:P≠h'.objs.size:=ltf P (lt P _ hP);have cf:c'≠h'.objs.size:=jK hlt;have nc:H c'=Gb:=I.hok.fresh hge;have nf:H h'.objs.size=Gb:=I.hok.fresh (jn hge (uz hlt));have keep:∀ b o,b≠P->s.heap.get? b=Ga o->(h'.push ob).get? b=Ga o:=λb o ne e=>jd _ (hx b o ne e);have H1e:∀ b o,b≠P->H b=Ga o->(upd (upd (upd H c' (.frz oc (.own c'))) P (.tbl (ps++#[rawInt lpos.line,rawInt lpos.col,.ref c']))) h'.objs.size (.ext (ObjI h'.objs.size ob))) b=Ga o:=λb o ne e=>by
   have:=lt b o e;rw[upd_ne (ltf b this),upd_ne ne,upd_ne (ltc b this)];exact e
  have sa:Same H (upd H c' (.frz oc (.own c'))):=Same.new nc;have hPa:(upd H c' (.frz oc (.own c'))) P=Ga (.tbl ps):=by rw[upd_ne Pc];exact hP
  have sb:Same (upd H c' (.frz oc (.own c'))) (upd (upd H c' (.frz oc (.own c'))) P (.tbl (ps++#[rawInt lpos.line,rawInt lpos.col,.ref c']))):=Same.tbl hPa λg=>zt3 hPa upd_same hd (v:=(_,_)) hv g;have nfb:(upd (upd H c' (.frz oc (.own c'))) P (.tbl (ps++#[rawInt lpos.line,rawInt lpos.col,.ref c']))) h'.objs.size=Gb:=by rw[upd_ne (kX Pf),upd_ne (kX cf)];exact nf
  have sc:Same _ (upd (upd (upd H c' (.frz oc (.own c'))) P (.tbl (ps++#[rawInt lpos.line,rawInt lpos.col,.ref c']))) h'.objs.size (.ext (ObjI h'.objs.size ob))):=Same.new nfb;have same:=sa.trans (sb.trans sc);have H1P:(upd (upd (upd H c' (.frz oc (.own c'))) P (.tbl (ps++#[rawInt lpos.line,rawInt lpos.col,.ref c']))) h'.objs.size (.ext (ObjI h'.objs.size ob))) P=Ga (.tbl (ps++#[rawInt lpos.line,rawInt lpos.col,.ref c'])):=by rw[upd_ne Pf,upd_same]
  have H1c:(upd (upd (upd H c' (.frz oc (.own c'))) P (.tbl (ps++#[rawInt lpos.line,rawInt lpos.col,.ref c']))) h'.objs.size (.ext (ObjI h'.objs.size ob))) c'=Ga (.frz oc (.own c')):=by rw[upd_ne cf,upd_ne (kX Pc),upd_same]
  have H1f:(upd (upd (upd H c' (.frz oc (.own c'))) P (.tbl (ps++#[rawInt lpos.line,rawInt lpos.col,.ref c']))) h'.objs.size (.ext (ObjI h'.objs.size ob))) h'.objs.size=Ga (.ext (ObjI h'.objs.size ob)):=upd_same;have H1n:∀ b,b<s.heap.objs.size->H b=Gb->(upd (upd (upd H c' (.frz oc (.own c'))) P (.tbl (ps++#[rawInt lpos.line,rawInt lpos.col,.ref c']))) h'.objs.size (.ext (ObjI h'.objs.size ob))) b=Gb:=λb hb e=>by
   rw[upd_ne (ltf b hb),upd_ne (nP b e),upd_ne (ltc b hb)];exact e
  have H1i:∀ b o,(upd (upd (upd H c' (.frz oc (.own c'))) P (.tbl (ps++#[rawInt lpos.line,rawInt lpos.col,.ref c']))) h'.objs.size (.ext (ObjI h'.objs.size ob))) b=Ga o->b=h'.objs.size\/b=P\/b=c'\/(b≠P/\H b=Ga o):=λb o e=>by
   by_cases z1:b=h'.objs.size
   .exact .inl z1
   .by_cases z2:b=P
    .exact .inr (.inl z2)
    .by_cases z3:b=c'
     .exact .inr (.inr (.inl z3))
     .rw[upd_ne z1,upd_ne z2,upd_ne z3] at e;exact .inr (.inr (.inr ⟨z2,e⟩))
  generalize (upd (upd (upd H c' (.frz oc (.own c'))) P (.tbl (ps++#[rawInt lpos.line,rawInt lpos.col,.ref c']))) h'.objs.size (.ext (ObjI h'.objs.size ob)))=H1 at H1e same H1P H1c H1f H1n H1i;clear sb sc nfb hPa sa;have U:Un X.fs [] H H1 s.heap (h'.push ob):=by
   refine⟨λb o e n _ _=>keep b o (nP b n) e,λb o e n _ _=>⟨o.slots,keep b o (nP b n) e⟩,λb o e n _=>H1n b (jm e) n,λb o e _=>?_,λb xs e=>H1e b _ (λz=>by subst z;rw[hP] at e;cases e) e,λb o u e=>H1e b _ (λz=>by subst z;rw[hP] at e;cases e) e,λb qs e=>?_⟩
   .by_cases z:b=P
    .subst z;exact⟨_,jd _ htb⟩
    .exact⟨o,keep b o z e⟩
   .by_cases z:b=P
    .subst z;rw[hP] at e;cases e;exact⟨_,H1P⟩
    .exact⟨#[],by rw[H1e b _ z e];simp⟩
  have K1:HOk X.prog X.w H1 (h'.push ob):=λb o e=>by
   rcases H1i b o e with rfl|rfl|rfl|⟨z,e'⟩
   .rw[H1f] at e;cases e;have g:(h'.push ob).get? h'.objs.size=Ga ob:=by rw[<- hob];exact jA _ rfl
    exact⟨g,⟨_,g⟩,λh1 h2 p k=>k _ p⟩
   .rw[H1P] at e;cases e;exact jd _ htb
   .rw[H1c] at e;cases e;have g:=jd ob hoc;exact⟨g,_,g⟩
   .refine(I.hok b o e').stay (λc u hcu r=>keep c u ?_ r) (λc r=>H1e c _ (λw=>by subst w;rw[hP] at r;cases r) r) λc xs r=>H1e c _ (λw=>by subst w;rw[hP] at r;cases r) r;rcases hcu with rfl|w
    .exact z
    .intro w2;subst w2;rw[hP] at w;cases w
  refine⟨.ref h'.objs.size,H1,I.un (t':=tk) U K1,rfl,q h'.objs.size cl H1 ⟨same,nf,("<lambda>":Str),X.env.qual++"<lambda>",(X.mg "__name__").getD .none,c',ctv,oc,vs,(_,t),?_,H1c,hd,hv⟩ c1 λy hy=>c2 y (hfr y hy)⟩;rw[H1f,<- hob]
 | some cv =>
  obtain⟨c,o,vs,v,rfl,hcH,hod,hv⟩:=gt.2 lpos cv hc;refine PySem.W.kla_makeFunctionHit hcl I.ok.glob hg L.code C hPo gt.1 hc hbm (λctv h' tk hk hsz=>?_);generalize hob:({ cls:=.type "function",data:=.func (vM ("<lambda>":Str) (X.env.qual++"<lambda>") params body scope cl ((X.mg "__name__").getD .none) (.ref c) ctv) }:Obj)=ob;have nf:H h'.objs.size=Gb:=I.hok.fresh hsz;have keep:∀ b o,s.heap.get? b=Ga o->(h'.push ob).get? b=Ga o:=λb o e=>jd _ (hk b o e);have g:(h'.push ob).get? h'.objs.size=Ga ob:=by rw[<- hob];exact jA _ rfl
  have I':Inv X ω σ (upd H h'.objs.size (.ext (ObjI h'.objs.size ob))) { s with heap:=h'.push ob,toks:=tk }:=I.laid keep hsz ⟨g,⟨_,g⟩,λh1 h2 p k=>k _ p⟩;refine⟨.ref h'.objs.size,_,I',rfl,q h'.objs.size cl _ ⟨Same.new nf,nf,("<lambda>":Str),X.env.qual++"<lambda>",(X.mg "__name__").getD .none,c,ctv,o,vs,v,?_,?_,hod,hv⟩ c1 λy hy=>c2 y (hfr y hy)⟩
  .rw[upd_same,<- hob]
  .rw[upd_ne (λz=>by rw[z] at hcH;rw[nf] at hcH;cases hcH)];exact hcH
end
end T3
namespace T3
open PySem PySem.Spec PyProof.Rows L2
def lendC (h:Heap)(H:Hp)(cs:List Gj):Hp:=λb=>if b∈cs then(h.get? b).map (λo=>HO.frz o (.own b)) else H b
theorem ziH {h:Heap}{H:Hp}{cs:List Gj}{b:Gj}(hb:b∈cs):lendC h H cs b=(h.get? b).map (λo=>HO.frz o (.own b)):=Ge hb
theorem zcW {h:Heap}{H:Hp}{cs:List Gj}{b:Gj}(hb:b∉cs):lendC h H cs b=H b:=Gf hb
section
variable {h:Heap}{F H H':Hp}{cs:List Gj}{P:Program}{w:World}
theorem zdQ (n:∀ c∈cs,H c=Gb):∀ c o,H c=Ga o->lendC h H cs c=Ga o:=λc o e=>by
 rw[zcW λz=>by rw[n c z] at e;cases e];exact e
theorem zkC (hc:∀ c∈cs,∃ o v,h.get? c=Ga o/\o.data=.cell v):Cells (lendC h H cs) cs:=λc z=>by
 obtain⟨o,v,e1,e2⟩:=hc c z;exact⟨o,v,by rw[ziH z,e1];rfl,e2⟩
theorem zwE (hc:∀ c∈cs,∃ o v,h.get? c=Ga o/\o.data=.cell v)(n:∀ c∈cs,H c=Gb)(x:HOk P w H h):HOk P w (lendC h H cs) h:=λa o e=>by
 by_cases ha:a∈cs
 .obtain⟨o1,v,e1,e2⟩:=hc a ha;rw[ziH ha,e1] at e;cases e;exact⟨e1,_,e1⟩
 .rw[zcW ha] at e;exact(x a o e).stay (λ_ _ _ q=>q) (λb q=>zdQ n b _ q) λb xs q=>zdQ n b _ q
theorem zzL (hc:∀ c∈cs,∃ o v,h.get? c=Ga o/\o.data=.cell v){l:List Gg}(g:GoodT (lendC h H cs) l):GoodT H l :=
 ⟨g.1,λpos cv e=>by
  obtain⟨c,x,vs,v,e1,e2,e3,e4⟩:=g.2 pos cv e;refine⟨c,x,vs,v,e1,?_,e3,e4⟩;by_cases z:c∈cs
  .obtain⟨o1,v1,h1,h2⟩:=hc c z;rw[ziH z,h1] at e2;cases e2;rw[e3] at h2;cases h2
  .rw[zcW z] at e2;exact e2⟩
theorem zpI (hc:∀ c∈cs,∃ o v,h.get? c=Ga o/\o.data=.cell v)(n:∀ c∈cs,H c=Gb)(s:Same F H):Same (lendC h F cs) (lendC h H cs):=λb o e=>by
 by_cases hb:b∈cs
 .obtain⟨o1,v,e1,e2⟩:=hc b hb;rw[ziH hb,e1] at e ⊢;cases e;exact rfl
 .rw[zcW hb] at e ⊢;exact((s b o e).from λ_ z=>zzL hc z).to λ_ z=>z.sub (zdQ n)
theorem zpJ (n:∀ c∈cs,H c=Gb)(m:Cells H' cs)(s:Same (lendC h H cs) H'):Same H (butC H' cs):=λb o e=>by
 have hb:b∉cs:=λz=>by rw[n b z] at e;cases e
 rw[zbM hb];exact((s b o (zdQ n b o e)).from λ_ z=>z.sub (zdQ n)).to λ_ z=>zlZ m z
end
def capt (ψ:En):List Nat->Option (List D)
 | []=>Ga []
 | i::r=>match ψ[i]? with
  | some (.val d)=>(capt ψ r).bind λds=>Ga (d::ds)
  | _=>Gb
theorem zt4 {ψ:En}:∀ {ix:List Nat} {ds:List D},capt ψ ix=Ga ds->ds.length=ix.length/\∀ (j i:Nat) (d:D),ix[j]?=Ga i->ds[j]?=Ga d->ψ[i]?=Ga (.val d)
 | [],ds,h=>by cases h;exact⟨rfl,λj i d e=>by simp at e⟩
 | i::r,ds,h=>by
  unfold capt at h;split at h
  .rename_i d hd;obtain⟨es,e1,e2⟩:=bind_some h;cases e2;obtain⟨l,k⟩:=zt4 e1;refine⟨by simpa using l,λj i' d' q1 q2=>?_⟩;cases j with
   | zero=>cases q1;cases q2;exact hd
   | succ j=>exact k j i' d' q1 q2
  .cases h
open Classical in
noncomputable def callL (it:Nat)(P:Gj)(mk:(D->Option D)->FnC)(fb:FV)(fm:FnC->(D->Option D)->List D->Option D)(ix:List Nat)(g:FL):FV:=λψ =>
 if ψ[it]?=Ga (.tab P) then(capt ψ ix).bind λcs=>(g ψ).bind (fm (mk λd=>fb (.val d::cs.map .val)) λd=>fb (.val d::cs.map .val)) else Gb
section
variable {X:Cx}{c0 P:Gj}{fr:List Str}{params:Arguments}{body:Expr}{scope:Scope}{lpos:Pos}{k kl:Nat}{f:Gj}{fd:Gi}{ps:List Str}{x xl:Str}{p pos:Pos}{es:List Expr}{g:FL}{fb:FV}{fm:FnC->(D->Option D)->List D->Option D}{ix:List Nat}
theorem zzM (it:Nat)(L:LamEnv X c0 P)(S:LamSc xl fr scope)(outs:∀ y∈scope.names,y.2=.free->X.env.scope.names.lookup y.1=Ga .cell\/X.env.scope.names.lookup y.1=Ga .free)(hfr:∀ y∈fr,(y,j0)∈scope.names)(hfn:∀ y,X.fn y=true)
  (hlen:ix.length=fr.length) (hat:∀ (j i:Nat) (y:Str),ix[j]?=Ga i->fr[j]?=Ga y->X.N[i]?=Ga y)
  (hbind:∀ (name qual:Str) (cl:List (Str×Gj)) (pm:Gg) (c:Gj) (ctv u:Gg),bindArgs (vM name qual params body scope cl pm (.ref c) ctv) ⟨[u],[]⟩=pure [(xl,u)])
  (hbody:∀ (qual:Str) (f:Gj) (cd:Gg) (cl:List (Str×Gj)) (A:Around) (outer:List Env) (s:Gh) (H:Hp),Room kl (A.deeper (uZ qual scope s.heap.objs.size f cd cl))->PV (cxLam X.prog X.w X.K X.mg X.base (xl::fr) qual scope f cd cl A outer s H) body fb)
  (F:∀ φ,FnOk X.prog X.w X.K X.mg X.base CX0 k f fd ps (spF X.K (SemC X.prog X.w X.K X.mg X.base (kl+1) φ) (fm (SemC X.prog X.w X.K X.mg X.base (kl+1) φ) φ))) (hr:Room k X.A) (hm:X.mg x=Ga (.ref f)) (hk:kR X.K (.ref f)=true) (hb:Binds X.K fd ps []) (ha:PL X es g) (hg:Gl X x:=by rfl)
  (hdef:defaultsOf params X.env=([],[]):=by rfl) (hdb:(x==("__debug__":Str))=false:=by decide) (he:starEach (.Lambda params body scope lpos::es) X.env=(false,eval (.Lambda params body scope lpos) X.env)::starEach es X.env:=by rfl) (hpl:(backTo pos (starEach es X.env)).any (·.1)=false:=by rfl) :
  PV X (.Call (.Name x p) (.Lambda params body scope lpos::es) [] pos) (callL it P (SemC X.prog X.w X.K X.mg X.base (kl+1)) fb fm ix g):=by
 intro ω s σ H Q I h;obtain⟨H0,F0,ψ,d,r,e,q⟩:=h;unfold callL at e;split at e;rotate_left
 .cases e
 rename_i hi;obtain⟨ds,e1,e⟩:=bind_some e;obtain⟨as,e2,e3⟩:=bind_some e;obtain⟨dl,dat⟩:=zt4 e1;generalize hφ:(λd=>fb (.val d::ds.map .val))=φ at e3;obtain⟨_,_,ht⟩:=r.sl it _ hi;obtain⟨ps0,ht,g0⟩:∃ ps,H0 P=Ga (.tbl ps)/\GoodT H0 ps.toList:=ht;obtain⟨qs,hP,hgd⟩:=r.h0 P _ ht;have gd:GoodT H qs.toList:=hgd g0;refine wpAny_Call_Name_kw (ld_glob I hg hm ?_ hdb);have hPA:PA X (.Lambda params body scope lpos::es) (tCons (tLam X.env fr params body scope P) (tL X.K g)):=pa_cons (zBE L outs hfr hdef) ha.pa he;refine vK (h₀:=X.base) I.ok.mod.kin hk (thn (hPA pos ω s σ H (λvs H2=>∃ (a:Gj) (cl:List (Str×Gj)) (F2:Hp) (us:List V),vs=.ref a::us/\Same H H2/\Same F0 F2/\Same F2 H2/\New F0 F2 H/\Reps X.K F2 as us/\RS X.K H0 F2 H2 ψ σ /\
   (∃ name qual pm c ctv o vs,∃ v:Str×Tok,F2 a=Ga (.ext (ObjI a (uk name qual params body scope cl pm c ctv)))/\H2 c=Ga (.frz o (.own c))/\o.data=.fields vs/\vs[1]?=Ga (.str v.1 v.2)) /\
   (∀ y a,cl.lookup y=Ga a->X.env.cells.lookup y=Ga a)/\(∀ y∈fr,∃ a,cl.lookup y=Ga a)) I ⟨qs,hP,gd,λa cl H1 M m1 m2=>?_⟩) λus s1 ⟨vs,H2,I1,rvs,q1⟩=>⟨I1.kIn,?_⟩) he hpl
 .obtain⟨name,qual,pm,c,ctv,o,vs,v,x1,x2,x3⟩:=M.ex;have fa:F0 a=Gb:=r.fh.free M.new;have s1:Same F0 (upd F0 a (.ext (ObjI a (uk name qual params body scope cl pm c ctv)))):=Same.new fa;have s2:Same (upd F0 a (.ext (ObjI a (uk name qual params body scope cl pm c ctv)))) H1:=(r.fh.trans M.same).upL x1 trivial;have n1:New F0 (upd F0 a (.ext (ObjI a (uk name qual params body scope cl pm c ctv)))) H:=λb o' h n=>by
   by_cases hb:b=a
   .subst hb;exact M.new
   .rw[upd_ne hb,n] at h;cases h
  have r1:=r.grow M.same s1 s2 n1;exact⟨H0,_,ψ,as,r1,e2,λus H2 F2 g2 f2 fh2 n2 rv=>⟨a,cl,F2,us,rfl,M.same.trans g2,s1.trans f2,fh2,n1.trans n2 M.same,rv,r1.grow g2 f2 fh2 n2,⟨name,qual,pm,c,ctv,o,vs,v,f2 _ _ upd_same,g2 _ _ x2,x3⟩,m1,m2⟩⟩
 .obtain⟨a,cl,F2,us',rfl,g2,f2,fh2,n2,rv,r2,⟨name,qual,pm,c,ctv,o,vs',v,x1,x2,x3,x4⟩,m1,m2⟩:=q1;have hcs:∀ c',c'∈(cl.filterMap λq=>cl.lookup q.1)->∃ y,cl.lookup y=Ga c':=λc' hc=>by
   obtain⟨q,_,hq⟩:=uO.mp hc;exact⟨q.1,hq⟩
  have hsc:∀ y c',cl.lookup y=Ga c'->c'∈(cl.filterMap λq=>cl.lookup q.1):=λy c' hy=>uO.mpr ⟨(y,c'),kC hy,hy⟩;generalize (cl.filterMap λq=>cl.lookup q.1)=cs at hcs hsc;have hc:∀ c'∈cs,∃ o v,s1.heap.get? c'=Ga o/\o.data=.cell v:=λc' hc=>by
   obtain⟨y,hy⟩:=hcs c' hc;obtain⟨v,o,h1,h2⟩:=I1.cell y c' (m1 y c' hy);exact⟨o,v,h1,h2⟩
  have nH:∀ c'∈cs,H2 c'=Gb:=λc' hc=>by
   obtain⟨y,hy⟩:=hcs c' hc;exact I1.freeC y c' (m1 y c' hy)
  have nF:∀ c'∈cs,F2 c'=Gb:=λc' hc=>fh2.free (nH c' hc);have above:∀ c'∈cs,X.s₀.heap.objs.size<=c':=λc' hc=>by
   obtain⟨y,hy⟩:=hcs c' hc;exact I1.ok.cab y c' (hfn y) (m1 y c' hy)
  have nfr:∀ c'∈cs,c'∉frs X.stack:=λc' hc hz=>by
   obtain⟨y,hy⟩:=hcs c' hc;rcases jt.mp (I1.stkSub c' hz) with z|z
   .exact I1.cne y c' (m1 y c' hy) z
   .obtain⟨_,o,ho,_⟩:=I1.ok.funs.mem z;exact absurd (jq (jm ho) (above c' hc)) (jP _)
  have sH:Same F2 (lendC s1.heap F2 cs):=Same.of (zdQ nF);have cP:ClosP X.K (lendC s1.heap F2 cs) fr ds cl cs:=by
   refine⟨λj y dj h1 h2=>?_,hsc,m2,zkC hc,λx y c' h1 h2=>I1.ok.inj x y c' (m1 x c' h1) (m1 y c' h2),by rw[dl,hlen],hcs⟩;obtain⟨c',hc'⟩:=m2 y (ky h1);obtain⟨i,hi'⟩:∃ i,ix[j]?=Ga i:=⟨_,jw (by rw[hlen];exact(ji.mp h1).1)⟩;have hv:=dat j i dj hi' h2;obtain⟨u,e5,v2,e6,rv2⟩:=r2.sl i _ hv;subst e6;obtain⟨m,hm1,hm2⟩:=I1.loc;have kd:=outs _ (hfr y (ky h1)) rfl;obtain⟨u2,ru2,lk⟩:=hm2 i y v2 (hat j i y hi' h1) e5 (.inr kd);rcases lk with ⟨k1,_⟩|⟨_,c2,k2,o2,k3,k4⟩
   .have k1:X.env.scope.names.lookup y=Ga .local:=k1;rcases kd with kd|kd<;>(rw[kd] at k1;cases k1)
   .have:c2=c':=by have:=m1 y c' hc';rw[k2] at this;cases this;rfl
    subst this;exact⟨c2,o2,u2,v2,hc',hsc y c2 hc',by rw[ziH (hsc y c2 hc'),k3];rfl,k4,ru2,rv2.mono sH⟩
  have hC:(LamC X.K params body scope fr ds).C a (lendC s1.heap F2 cs) (lendC s1.heap H2 cs):=⟨name,qual,cl,pm,c,ctv,cs,o,vs',v,zdQ nF _ _ x1,zdQ nH _ _ x2,x3,x4,cP⟩;have hC2:=zwD (zsC (P:=X.prog) (w:=X.w) (mg:=X.mg) (base:=X.base) (k:=kl) S hbind hbody) hC;rw[hφ] at hC2;have e0:Env0 X.prog X.w X.K X.mg X.base X.A X.stack s1 (lendC s1.heap H2 cs):=by
   have e:=I1.env0;refine⟨e.frames,e.mod,λb o hb=>⟨(e.bs b o hb).1,?_⟩,e.bsz,e.funs,λb hb=>?_,zwE hc nH e.hok,e.bare⟩
   .rw[zcW λz=>absurd (jq (jm hb) (jn I1.ok.bsz (above b z))) (jP _)];exact(e.bs b o hb).2
   .rw[zcW λz=>nfr b z hb];exact e.frf b hb
  have hl:us.length=ps.length:=by
   rw[<- rvs.length];exact(F φ).len (.ref a::us') (lendC s1.heap H2 cs) (λ_ _=>True) E0 ⟨lendC s1.heap F2 cs,a,us',as,d,rfl,hC2,zpI hc nH fh2,rv.mono sH,e3,λ_ _ _ _ _ _ _ _=>trivial⟩
  have hbs:=hb s1 us I1.kIn (by rw[j7];exact hl);rw[j7] at hbs;refine wpAny_call (codeAny_mono ((F φ).run X.A X.stack s1 (lendC s1.heap H2 cs) ⟨us,[]⟩ us (.ref a::us') (λv' H'=>Cells H' cs/\Q v' (butC H' cs)) E0 hr e0 hbs rvs
   ⟨lendC s1.heap F2 cs,a,us',as,d,rfl,hC2,zpI hc nH fh2,rv.mono sH,e3,λv' H' F' g3 f3 fh3 n3 rv3=>?_⟩) λrr s' hq=>?_)
  .have mH:Cells H' cs:=(zkC hc).mono g3;have mF:Cells F' cs:=(zkC hc).mono f3;refine⟨mH,q v' (butC H' cs) (butC F' cs) (g2.trans (zpJ nH mH g3)) (f2.trans (zpJ nF mF f3)) (fh3.butC2 mH) (λb o h n=>?_) (rv3.butC mF)⟩;obtain⟨hb,h⟩:=zjP h;cases z:F2 b with
   | none =>
    have:=n3 b o h (by rw[zcW hb];exact z);rw[zcW hb] at this;exact g2.free this
   | some u=>exact n2 b u z n
  .cases rr with
   | error e=>exact hq.elim
   | ok fl =>
    cases fl with
    | ret u =>
     obtain⟨v',H',os,bare,un,hok,rel,mH,qv⟩:=hq;refine⟨v',butC H' cs,I1.call' (ch:=[]) os ⟨λb o hb n hf hx=>?_,λb o hb n hf hx=>?_,λb o hb n hx=>?_,λb o hb hx=>un.there b o hb hx,λb xs hb=>?_,λb o x hb=>?_,λb ps hb=>?_⟩ (T3.HOk.butC mH hok) bare (λb z=>absurd z (by simp)),rel,qv⟩
     .by_cases z:b∈cs
      .have:=un.frzs b o (.own b) (by rw[ziH z,hb];rfl);exact(hok b _ this).1
      .exact un.keep b o hb (by rw[zcW z];exact n) hf hx
     .have z:b∉cs:=λz=>nfr b z hf;exact un.slot b o hb (by rw[zcW z];exact n) hf hx
     .by_cases z:b∈cs
      .exact zi5 z
      .rw[zbM z];exact un.free b o hb (by rw[zcW z];exact n) hx
     .have z:b∉cs:=λz=>by rw[nH b z] at hb;cases hb
      rw[zbM z];exact un.tups b xs (zdQ nH b _ hb)
     .have z:b∉cs:=λz=>by rw[nH b z] at hb;cases hb
      rw[zbM z];exact un.frzs b o x (zdQ nH b _ hb)
     .have z:b∉cs:=λz=>by rw[nH b z] at hb;cases hb
      rw[zbM z];exact un.tbls b ps (zdQ nH b _ hb)
    | next=>exact False.elim hq
    | brk=>exact False.elim hq
    | cont=>exact False.elim hq
end
end T3
namespace T3
open PySem PySem.Spec PyProof.Rows L2
def startT (n:Nat)(Pt:Gj)(ds:List D):En:=(startE n ds).set (n-1) (.tab Pt)
def runT (np n:Nat)(Pt:Gj)(g:FS)(ds:List D):Option D:=if ds.length=np then outV (g (startT n Pt ds)) else Gb
def spT (K:ja)(Pt:Gj)(fm:List D->Option D):Sp:=λvs H Q _=>∃ (F:Hp) (ds:List D) (d:D),(∃ ps,H Pt=Ga (.tbl ps)/\GoodT H ps.toList)/\Same F H/\Reps K F ds vs/\fm ds=Ga d/\∀ v H' F',Same H H'->Same F F'->Same F' H'->New F F' H->Rep K F' d v->Q v H'
theorem RS.putN {K:ja}{H0 F H:Hp}{ψ:En}{σ:St}(r:RS K H0 F H ψ σ){i:Nat}{s:Sl}{u:Option V}(hu:σ[i]?=Ga u)(q:RepSl K H0 F H s u)(o:ownS s=false):RS K H0 F H (ψ.set i s) σ:=by
 refine⟨r.h0,r.fh,λj t e=>?_,λj k a t1 t2 o1 o2 e1 e2 e3 e4=>?_⟩
 .by_cases h:i=j
  .subst h;by_cases hl:i<ψ.length
   .rw[jH hl] at e;cases e;exact⟨u,hu,q⟩
   .rw[kh (by simpa using hl)] at e;cases e
  .rw[jC h] at e;exact r.sl j t e
 .have f1:∀ (j:Nat) (t:Sl),ownS t=true->(ψ.set i s)[j]?=Ga t->ψ[j]?=Ga t:=λj t ow e=>by
   by_cases h:i=j
   .subst h;by_cases hl:i<ψ.length
    .rw[jH hl] at e;cases e;rw[o] at ow;cases ow
    .rw[kh (by simpa using hl)] at e;cases e
   .rw[jC h] at e;exact e
  exact r.ap j k a t1 t2 o1 o2 (f1 j t1 o1 e1) (f1 k t2 o2 e2) e3 e4
section
variable {P:Program}{w:World}{K:ja}{mg:Str->Option Gg}{base:Heap}{x qual:Str}{st:Stmt}{f:Gj}{fd:Gi}{N ps:List Str}{k:Nat}{g:FS}{Pt c0:Gj}
theorem okTg (F:Fun K x qual st f fd)(S:FnScope N ps (defScope st))(hN:0<N.length)(hpn:ps.length<=N.length)
  (hb:∀ cdv,fd.code=cdv->∀ (A:Around) (outer:List Env) (s:Gh) (H:Hp) (E:XK),Room k (A.deeper (envOfC qual (defScope st) s.heap.objs.size f cdv))->PSts (cxOf CX0 P w K mg base N qual (defScope st) f cdv A outer s H E).nox (defBody st) g) :
  FnOk P w K mg base CX0 (k+1) f fd ps (spT K Pt (runT ps.length N.length Pt g)):=by
 have hr0:∀ {ds:List D} {d:D},runT ps.length N.length Pt g ds=Ga d->ds.length=ps.length/\(g (startT N.length Pt ds)=Ga (.rt d)\/∃ xs,d=.list xs/\g (startT N.length Pt ds)=Ga (.ro xs)):=λ{ds d} h=>by
  unfold runT at h;split at h
  .rename_i z;refine⟨z,?_⟩;unfold outV at h;split at h
   .rename_i e;cases h;exact .inl e
   .rename_i e;cases h;exact .inr ⟨_,rfl,e⟩
   .cases h
  .cases h
 obtain⟨oc,od,kV,doc,pm,an,cdv,ct,osl,rfl,lk,hcd'⟩:=F.ex;have hb:=hb cdv rfl;refine fn_of lk hcd' S (λvs H Q E h=>?_) λA outer s H vs Q E hr h=>?_
 .obtain⟨F0,ds,d,_,_,r,e,_⟩:=h;rw[<- r.length];exact(hr0 e).1
 .obtain⟨F0,ds,d,ht,hs,r,e,q⟩:=h;have rs:RS K H F0 H (startT N.length Pt ds) (L2.start N vs):=by
   refine(RS.start (N:=N) hs r).putN (u:=((L2.start N vs)[N.length-1]?).getD Gb) ?_ ht rfl;have hl:N.length-1<(L2.start N vs).length:=by
    unfold L2.start;rw[jh,jb,qC];have:=r.length;have:=(hr0 e).1;omega
   rw[jw hl];rfl
  rcases(hr0 e).2 with z|⟨xs,rfl,z⟩
  .exact⟨_,(hb A outer s H E hr).nox,H,F0,_,_,rs,z,λv H' F' g1 f1 fh1 n1 rv=>q v H' F' g1 f1 fh1 n1 rv⟩
  .refine⟨_,(hb A outer s H E hr).nox,H,F0,_,_,rs,z,λa ys H' F' g1 f1 fh1 n1 ha fa ha' rr=>?_⟩;have sF:Same F' (upd F' a (.lst ys)):=Same.new fa;refine q (.ref a) H' (upd F' a (.lst ys)) g1 (f1.trans sF) (Same.upL fh1 ha' trivial) (λb o h nb=>?_) (.lst (SqL.of upd_same) (rr.mono sF));by_cases hb:b=a
   .subst hb;exact ha
   .rw[upd_ne hb] at h;exact n1 b o h nb
theorem okT (F:Fun K x qual st f fd)(hcd:fd.code=.ref c0)(S:FnScope N ps (defScope st))(hN:0<N.length)(hpn:ps.length<=N.length)
  (hb:∀ (A:Around) (outer:List Env) (s:Gh) (H:Hp) (E:XK),Room k (A.deeper (envOfC qual (defScope st) s.heap.objs.size f (.ref c0)))->PSts (cxOf CX0 P w K mg base N qual (defScope st) f (.ref c0) A outer s H E).nox (defBody st) g) :
  FnOk P w K mg base CX0 (k+1) f fd ps (spT K Pt (runT ps.length N.length Pt g)) :=
 okTg F S hN hpn λcdv e=>by
  rw[hcd] at e;subst e;exact hb
theorem zt5 {mb:Str->Option Gg}{fa a:Gj}{sp:Sp}{s₁:Gh}{vs:List Gg}{ns:List Int}
  (KX:K.In s₁.heap) (hns:s₁.heap.Ns mainGlobals mg) (hb:s₁.heap.Ns builtinsNs mb) (hbb:∀ x:Str,x≠"__name__"->mb x=bootBuiltins x) (hlim:s₁.heap.NoLimit) (hg:s₁.gens=#[])
  (ha:s₁.heap.get? a=Ga { cls:=.type "list",data:=.seq vs.toArray }) (hi:IntsAre vs ns) (hl:ns.length<=sizeLine) (hr:Room k callerA)
  (hT:s₁.heap.get? Pt=Ga (qN #[])) (hKT:K.lookup Pt=Gb) (hTc:isCodeTable s₁.heap Pt)
  (F:∀ base:Heap,K.In base->base.Ns mainGlobals mg->FnOk P w K mg base CX0 k fa fd [x] sp) (hbind:∀ (s:Gh) (u:Gg),BindsTo s fd ⟨[u],[]⟩ [(x,u)])
  (hsp:∀ H:Hp,H Pt=Ga (.tbl #[])->SqL K H a (ns.map V.int)->sp [.ref a] H (λv _=>v=.bl true) λ_ _ _=>False) :
  codeAny (model P w) callerA (.call (.ref fa) ⟨[.ref a],[]⟩) (λr s'=>r=.ok (.ret (.bool true))/\OldK s₁.heap s'.heap/\s'.os=s₁.os/\AllBare s'.gens) s₁:=by
 have rv:=vals_ints hi;have lenV:=hi.length;have aT:a≠Pt:=λz=>by rw[z,hT] at ha;cases ha
 have core:∀ H:Hp,H Pt=Ga (.tbl #[])->(∀ b,b≠Pt->H b=Gb\/∃ o xs,H b=Ga (.frz o (.lst xs)))->SqL K H a (ns.map V.int)->HOk P w H s₁.heap->(∀ b,H b≠Gb->b=a\/b=Pt)->(H a≠Gb->K.lookup a=Gb) ->
   codeAny (model P w) callerA (.call (.ref fa) ⟨[.ref a],[]⟩) (λr s'=>r=.ok (.ret (.bool true))/\OldK s₁.heap s'.heap/\s'.os=s₁.os/\AllBare s'.gens) s₁:=by
  intro H hPt hO hS hok hA hK;have base_of:∀ {b:Gj} {o:Obj},s₁.heap.get? b=Ga o->H b=Gb->(hidT s₁.heap H).get? b=Ga o:=λe n=>hidT_get e n;have noA:∀ {b:Gj} {o:Obj} {es:Array DictEntry} {ep:Nat},s₁.heap.get? b=Ga o->o.data=.dict es ep->H b=Gb:=λ{b o es ep} e d=>by
   cases q:H b with
   | none=>rfl
   | some u =>
    rcases hA b (by rw[q];simp) with e'|e'
    .subst e';rw[ha] at e;cases e;have d':Data.seq vs.toArray _=Data.dict es ep:=d;cases d'
    .subst e';rw[hT] at e;cases e;cases d
  have nsK:∀ {b:Gj} {m:Str->Option Gg},s₁.heap.Ns b m->(hidT s₁.heap H).Ns b m:=λ{b m} ⟨o,es,ep,e,d,r⟩=>⟨o,es,ep,base_of e (noA e d),d,r⟩;have hKb:K.In (hidT s₁.heap H):=λb o e=>base_of (KX b o e) (by
   cases q:H b with
   | none=>rfl
   | some u =>
    rcases hA b (by rw[q];simp) with e'|e'
    .subst e';rw[hK (by rw[q];simp)] at e;cases e
    .subst e';rw[hKT] at e;cases e)
  have hM:Mod K mg (hidT s₁.heap H):=⟨hKb,nsK hns,⟨mb,nsK hb,hbb⟩,let ⟨mc,h1,h2⟩:=hlim;⟨mc,nsK h1,h2⟩⟩;have e0:Env0 P w K mg (hidT s₁.heap H) callerA [] s₁ H:=⟨rfl,hM,λb o e=>of_hidT e,Nat.le_of_eq (hidT_size _ _),trivial,λb hb=>absurd (show b∈([]:List Gj) from hb) (by simp),hok,.of_eq hg⟩;refine codeAny_mono ((F _ hKb (nsK hns)).run callerA [] s₁ H ⟨[.ref a],[]⟩ [.ref a] [.ref a] _ _ hr e0 (hbind s₁ (.ref a)) (.cons rfl .nil) (hsp H hPt hS)) λr s' h=>?_;cases r with
  | error e=>exact h.elim
  | ok fl =>
   cases fl with
   | next=>exact False.elim h
   | brk=>exact False.elim h
   | cont=>exact False.elim h
   | ret u =>
    obtain⟨v,H',os,bare,un,hok',r',q⟩:=h;have q':v=.bl true:=q;subst q';obtain rfl:u=qX true:=r';have keep:∀ b o,b≠Pt->s₁.heap.get? b=Ga o->s'.heap.get? b=Ga o:=λb o hb e=>by
     cases q:H b with
     | none=>exact un.keep b o e q (by intro z;exact absurd (show b∈([]:List Gj) from z) (by simp)) (by simp)
     | some u =>
      rcases hO b hb with z|⟨ob,xs,z⟩
      .rw[q] at z;cases z
      .have z2:=un.frzs b ob _ z;obtain⟨e1,_⟩:=hok b _ z;obtain⟨e2,_⟩:=hok' b _ z2;rw[e] at e1;cases e1;exact e2
    obtain⟨more,hmore⟩:=un.tbls Pt _ hPt;have hT':s'.heap.get? Pt=Ga { cls:=.none,data:=.fields (#[]++more) }:=hok' Pt _ hmore;refine⟨rfl,⟨λb o e=>?_,λb o e=>?_⟩,os,bare⟩
    .by_cases hb:b=Pt
     .subst hb;rw[hT] at e;cases e;exact .inr (.inl ⟨hTc,rfl,#[],more,rfl,hT'⟩)
     .exact .inl (keep b o hb e)
    .by_cases hb:b=Pt
     .subst hb;exact⟨_,hT'⟩
     .exact⟨o,keep b o hb e⟩
 cases hk:K.lookup a with
 | some o =>
  have e:=KX a o hk;rw[ha] at e;cases e;refine core (λb=>if b=Pt then Ga (.tbl #[]) else Gb) (Ge rfl) (λb hb=>.inl (Gf hb)) (.inr ⟨_,vs.toArray,_,hk,rfl,rfl,rfl,by rw[jo,lenV];exact hl,by simpa using rv⟩) (λb u z=>?_) (λb z=>?_) λz=>absurd (Gf aT) z
  .by_cases hb:b=Pt
   .have z':=(Ge hb).symm.trans z;cases z';subst hb;exact hT
   .have z':=(Gf hb).symm.trans z;cases z'
  .by_cases hb:b=Pt
   .exact .inr hb
   .exact absurd (Gf hb) z
 | none =>
  refine core (λb=>if b=Pt then Ga (.tbl #[]) else if b=a then Ga (.frz { cls:=.type "list",data:=.seq vs.toArray } (.lst (ns.map V.int))) else Gb) (Ge rfl) (λb hb=>?_) (.inl (.inr ⟨{ cls:=.type "list",data:=.seq vs.toArray },(Gf aT).trans (Ge rfl)⟩)) (λb u z=>?_) (λb z=>?_) λ_=>hk
  .by_cases hba:b=a
   .exact .inr ⟨_,_,(Gf hb).trans (Ge hba)⟩
   .exact .inl ((Gf hb).trans (Gf hba))
  .by_cases hb:b=Pt
   .have z':=(Ge hb).symm.trans z;cases z';subst hb;exact hT
   .replace z:=(Gf hb).symm.trans z;by_cases hba:b=a
    .have z':=(Ge hba).symm.trans z;cases z';subst hba;exact⟨ha,by rw[jb];exact hl,vs,_,rv,ha⟩
    .have z':=(Gf hba).symm.trans z;cases z'
  .by_cases hb:b=Pt
   .exact .inr hb
   .by_cases hba:b=a
    .exact .inl hba
    .exact absurd ((Gf hb).trans (Gf hba)) z
end
theorem zwF {l:qA}{n k:Nat}{q:Program}{loose:List Str}{XP:(Str->Option Gg)->Heap->Prop}{YP:World->Heap->Prop}{d:DefRec}{K:Params->ja}{sp:ja->Sp}{x:Str}{Pt:Gj}
  (hn:l.most=Ga n) (hn2:n<=sizeLine) (hdf:d.params.defaults=[]) (hr:Room k callerA)
  (hY:∀ (w:World) (h:Heap),YP w h->(K w.params).In h/\h.get? Pt=Ga (qN #[]))
  (hKT:∀ P,(K P).lookup Pt=Gb) (hTc:∀ (w:World) (h:Heap),(K w.params).In h->isCodeTable h Pt)
  (F:∀ (w:World) (mg:Str->Option Gg) (fa:Gj) (h:Heap),(K w.params).In h->h.Ns mainGlobals mg->mg d.name=Ga (.ref fa) ->
   ∃ fd:Gi,(∀ (s:Gh) (u:Gg),BindsTo s fd ⟨[u],[]⟩ [(x,u)]) /\
    ∀ base:Heap,(K w.params).In base->base.Ns mainGlobals mg->FnOk l.prog w (K w.params) mg base CX0 k fa fd [x] (sp (K w.params)))
  (hsp:∀ (K:ja) (H:Hp) (a:Gj) (ns:List Int),ns.length<=n->H Pt=Ga (.tbl #[])->SqL K H a (ns.map V.int)->sp K [.ref a] H (λv _=>v=.bl true) λ_ _ _=>False) :
  qU q loose XP YP l.row.toRowW d [] (λf vs=>Ja f vs):=by
 refine Att.attach_call hn hdf λw s₀ s₁ mg mb fa o pm cd doc a vs ns G Y ho hd hcd hmg hobj hints hlen hg=>?_;obtain⟨KX,hT⟩:=hY w _ Y;obtain⟨fd,hb,hF⟩:=F w mg fa _ KX G.T.g hmg;exact zt5 KX G.T.g G.T.b G.T.builtins G.T.nolimit hg hobj hints (jn hlen hn2) hr hT (hKT _) (hTc w _ KX) hF hb (λH hT hS=>hsp (K w.params) H a ns hlen hT hS)
theorem zzN {K:ja}{Pt:Gj}{fm:List D->Option D}{H:Hp}{a:Gj}{ns:List Int}(hT:H Pt=Ga (.tbl #[]))(hS:SqL K H a (ns.map V.int))(h:fm [.list (ns.map jc)]=Ga (.bool true)):spT K Pt fm [.ref a] H (λv _=>v=.bl true) λ_ _ _=>False :=
 ⟨H,[.list (ns.map jc)],.bool true,⟨#[],hT,trivial,λpos cv h=>by cases h⟩,.refl _,.cons (.lst hS (Reps.ints ns)) .nil,h,λv H' F' _ _ _ _ r=>by cases r;rfl⟩
theorem zpK {K:ja}{h:Heap}{c P:Gj}(X:K.In h)(e:qe K c P=true):isCodeTable h P:=by
 obtain⟨o,vs,file,tf,flags,tg,inF,text,tt,e1,e2,e3,e4,_⟩:=qS X e;exact⟨c,o,vs,e1,e2,e3,e4⟩
section
variable {X:Cx}{k:Nat}{f:Gj}{fd:Gi}{ps:List Str}{x:Str}{p pos:Pos}{e:Expr}{es:List Expr}{g:FL}
end
structure FnW (K:ja)(x:Str)(st:Stmt)(cd:Gg)(a:Gj)(fd:Gi):Prop where
 e:∃ (od an:Option Gj) (sl:Array (Option Gg)) (oc kV dc pm ct:Gg),j4 K mainGlobals x=Ga (Ga (.ref a))/\K.lookup a=Ga ⟨oc,od,.func fd,sl⟩/\fd=kZ x x (defArgs st) (defBody st) (defScope st) .none kV dc pm an cd ct/\vm K cd x=true/\kR K (.ref a)=true
theorem zaY {K:ja}{mg:Str->Option Gg}{h:Heap}{x:Str}{st:Stmt}{ps:List Str}{f:Gj}{cd:Gg}{fd:Gi}(X:K.In h)(G:h.Ns mainGlobals mg)(w:FnW K x st cd f fd)
  (hb:∀ (kV doc pm:Gg) (an:Option Gj) (cdv ct:Gg) (us:List Gg),us.length=ps.length->bindArgs (kZ x x (defArgs st) (defBody st) (defScope st) .none kV doc pm an cdv ct) ⟨us,[]⟩=pure (ps.zip us):=by first|(exact λ_ _ _ _ _ _ us hl=>(match us,hl with|[_],_=>rfl))|(exact λ_ _ _ _ _ _ us hl=>(match us,hl with|[_,_],_=>rfl))|(exact λ_ _ _ _ _ _ us hl=>(match us,hl with|[_,_,_],_=>rfl))|(exact λ_ _ _ _ _ _ us hl=>(match us,hl with|[_,_,_,_],_=>rfl))|(exact λ_ _ _ _ _ _ us hl=>(match us,hl with|[_,_,_,_,_],_=>rfl))|(exact λ_ _ _ _ _ _ us hl=>(match us,hl with|[_,_,_,_,_,_],_=>rfl))|(exact λ_ _ _ _ _ _ us hl=>(match us,hl with|[_,_,_,_,_,_,_],_=>rfl))):Fn K mg x st ps f fd:=by
 obtain⟨od,an,sl,oc,kV,dc,pm,ct,e1,e2,rfl,e3,e4⟩:=w.e;exact zDU X G e1 e2 e3 e4 hb
theorem FnW.code {K:ja}{x:Str}{st:Stmt}{f:Gj}{cd:Gg}{fd:Gi}(w:FnW K x st cd f fd):fd.code=cd:=by
 obtain⟨od,an,sl,oc,kV,dc,pm,ct,e1,e2,rfl,e3,e4⟩:=w.e;rfl
theorem FnW.bt {K:ja}{x:Str}{st:Stmt}{f:Gj}{cd:Gg}{fd:Gi}(w:FnW K x st cd f fd){Q:Gi->Prop}(q:∀ (kV doc pm:Gg) (an:Option Gj) (cdv ct:Gg),Q (kZ x x (defArgs st) (defBody st) (defScope st) .none kV doc pm an cdv ct)):Q fd:=by
 obtain⟨od,an,sl,oc,kV,dc,pm,ct,e1,e2,rfl,e3,e4⟩:=w.e;exact q _ _ _ _ _ _
end T3
namespace T3
open PySem PySem.Spec PyProof.Rows L2
def Kx (fs:List Gj)(h0:Heap)(H:Hp)(h h':Heap):Prop :=
 ∀ b o,h.get? b=Ga o->(h0.get? b≠Gb\/H b≠Gb\/∀ vs,o.data≠.fields vs)->∃ sl,h'.get? b=Ga { o with slots:=sl }/\(b∉fs->sl=o.slots)
section
variable {fs:List Gj}{h0 h h1 h2:Heap}{H:Hp}{y:Gj}{oy:Obj}{vs:Array Gg}
theorem Kx.trans (a:Kx fs h0 H h h1)(b:Kx fs h0 H h1 h2):Kx fs h0 H h h2:=λc o e q=>by
 obtain⟨sl,e1,n1⟩:=a c o e q;obtain⟨sl2,e2,n2⟩:=b c _ e1 q;exact⟨sl2,e2,λhc=>(n2 hc).trans (n1 hc)⟩
theorem Kx.of (k:∀ b o,h.get? b=Ga o->h1.get? b=Ga o):Kx fs h0 H h h1:=λc o e _=>⟨o.slots,k c o e,λ_=>rfl⟩
theorem Kx.slots (k:Heap.SlotsOnly fs h h1):Kx fs h0 H h h1:=λc o e _=>by
 by_cases hc:c∈fs
 .obtain⟨sl,z⟩:=k.2.2 c o e;exact⟨sl,z,λn=>absurd hc n⟩
 .exact⟨o.slots,(k.2.1 c hc).trans e,λ_=>rfl⟩
theorem Kx.upd (e:h.get? y=Ga oy)(d:oy.data=.fields vs)(n0:h0.get? y=Gb)(nH:H y=Gb)(f:Obj->Obj):Kx fs h0 H h (h.update y f):=λc o ec q=>by
 have ne:c≠y:=λz=>by
  subst z;rw[e] at ec;cases ec;rcases q with q|q|q
  .exact q n0
  .exact q nH
  .exact q vs d
 exact⟨o.slots,(kq _ _ (kX ne)).trans ec,λ_=>rfl⟩
theorem Kx.frames {base:Heap}{l:List Env}(k:Kx fs h0 H h h1)(hl:h.FunFrames base l):h1.FunFrames base l:=hl.of_keeps λb o e n=>by
 obtain⟨sl,z,_⟩:=k b o e (.inr (.inr n));exact⟨_,z,rfl⟩
end
def ExT (h0:Heap)(H:Hp)(x:Gj)(cls fl:Gg)(h:Heap):Prop :=
 h0.get? x=Gb/\H x=Gb/\∃ oe vs T oT ts,h.get? x=Ga oe/\(oe.cls=cls/\oe.dict=Gb)/\oe.data=.fields vs/\vs[1]?=Ga (.ref T)/\T≠x/\h.get? T=Ga oT/\oT.data=.fields ts/\ts[3]?=Ga fl/\h0.get? T=Gb/\H T=Gb
section
variable {M:Model}{A:Around}{E:Gg->Gh->Prop}{s:Gh}{base h0:Heap}{H:Hp}{ψ:Env}{outer:List Env}{L x:Gj}{cls:Gg}{Q:Unit->Gh->Prop}
theorem zlP {fl:Gg}(ht:ExT h0 H x cls fl s.heap)(h:∀ h',ExT h0 H x cls .none h'->(∀ fs,Kx fs h0 H s.heap h')->h'.objs.size=s.heap.objs.size->Q () { s with heap:=h' }):wpAny M A (setFlight (.ref x) Gb) Q E s:=by
 obtain⟨n0,nH,oe,vs,T,oT,ts,he,hc,hd,h1,hT,eT,dT,h3,m0,mH⟩:=ht;have hs3:3<ts.size:=(uw.mp h3).1;unfold setFlight;refine wpAny_bind (wpAny_field he hd h1 ?_);rw[Ge (show(kB T !=j5)=true by simp)];refine wpAny_setField eT dT hs3 (h _ ⟨n0,nH,oe,vs,T,_,_,(kq _ _ hT).trans he,hc,hd,h1,hT,k9 _ eT (uR (uP dT _)),uP dT _,by simp[hs3],m0,mH⟩ (λfs=>Kx.upd eT dT m0 mH _) ?_);simp[Jt]
theorem zt6 {hd:Gg}{hn:Bool}{oe:Obj}{vs:Array Gg}(hfr:A.frames=Ga (ψ::outer))(hl:s.heap.FunFrames base (ψ::outer))(hf:ψ.frame=Ga L)(he:s.heap.get? x=Ga oe)(hdn:oe.dict=Gb)(hdv:oe.data=.fields vs)(hsz:1<vs.size)
  (n0:h0.get? x=Gb) (nH:H x=Gb) (hz:∀ b o,h0.get? b=Ga o->b<s.heap.objs.size) (hH:∀ b,H b≠Gb->b<s.heap.objs.size)
  (h:∀ h',ExT h0 H x oe.cls (rawInt L) h'->Kx (frs (ψ::outer)) h0 H s.heap h'->s.heap.objs.size<=h'.objs.size->Q () { s with heap:=h' }) :
  wpAny M A (do let a <- frameOf ψ;let pl <- entryPlaceOf L hn;let b <- EntryCells.newEntry hd a .none (rawInt L) .none pl;setField (.ref x) 1 b) Q E s:=by
 have nf:x∉frs (ψ::outer):=λhm=>by
  obtain⟨_,o,ho,hnf⟩:=hl.mem hm;rw[he] at ho;cases ho;exact hnf vs hdv
 refine wpAny_bind (wpAny_frameOf_fun hfr hl hf λh1 hs1=>?_);refine wpAny_bind (wpAny_entryPlaceOf λpl hpl=>?_);unfold EntryCells.newEntry newFields;refine wpAny_bind (wpAny_newObj_type ?_ (hpl.sizeOk5 _ _ _ _ _));have e1:h1.get? x=Ga oe:=(hs1.2.1 x nf).trans he;generalize hob:({ cls:=uM "traceback",dict:=Gb,data:=Data.fields ([hd,kB L,j5,rawInt L,j5]++(if pl.isEmpty then qI 6 j5 else pl)).toArray }:Obj)=ob;have hob3:∃ ts,ob.data=.fields ts/\ts[3]?=Ga (rawInt L):=by
  subst hob;exact⟨_,rfl,by first|(simp;done)|(rcases hpl with rfl|⟨_,_,_,_,_,_,_,rfl⟩<;>simp)⟩
 obtain⟨ts,dts,h3⟩:=hob3;have frd:ob.isFreed=false:=uR dts;have e2:=jd (h:=h1) ob e1;have hT:(h1.push ob).get? h1.objs.size=Ga ob:=jA h1 frd;have ne:h1.objs.size≠x:=uN (jm e1);have d3:=uP hdv (·.setIfInBounds 1 (kB h1.objs.size));have T0:h0.get? h1.objs.size=Gb:=by
  cases q:h0.get? h1.objs.size with
  | none=>rfl
  | some u =>
   have:=hz h1.objs.size u q;rw[hs1.1] at this;exact absurd this (jP _)
 have TH:H h1.objs.size=Gb:=by
  cases q:H h1.objs.size with
  | none=>rfl
  | some u =>
   have:=hH h1.objs.size (by rw[q];exact λz=>by cases z);rw[hs1.1] at this;exact absurd this (jP _)
 refine wpAny_setField e2 hdv hsz (h _ ⟨n0,nH,_,_,h1.objs.size,ob,ts,k9 _ e2 (uR d3),⟨Jg _ _,(show _=oe.dict by first|exact Obj.dict_mapFields _ _|(unfold vd;split<;>rfl)|rfl).trans hdn⟩,d3,by simp[hsz],ne,(kq _ _ (kX ne)).trans hT,dts,h3,T0,TH⟩ ?_ ?_)
 .exact(Kx.slots hs1).trans ((Kx.of λb o e=>jd _ e).trans (Kx.upd e2 hdv n0 nH _))
 .have:((h1.push ob).update x (vd (·.setIfInBounds 1 (kB h1.objs.size)))).objs.size=h1.objs.size+1:=by simp[Jt,Heap.push]
  rw[this,hs1.1];omega
theorem zBF {oe:Obj}{vs:Array Gg}(hfr:A.frames=Ga (ψ::outer))(hl:s.heap.FunFrames base (ψ::outer))(hf:ψ.frame=Ga L)(he:s.heap.get? x=Ga oe)(hc:oe.cls=cls)(hdn:oe.dict=Gb)(hdv:oe.data=.fields vs)(hv:vs[1]?=Ga .none)
  (n0:h0.get? x=Gb) (nH:H x=Gb) (hz:∀ b o,h0.get? b=Ga o->b<s.heap.objs.size) (hH:∀ b,H b≠Gb->b<s.heap.objs.size)
  (h:∀ h',ExT h0 H x cls (rawInt L) h'->Kx (frs (ψ::outer)) h0 H s.heap h'->s.heap.objs.size<=h'.objs.size->Q () { s with heap:=h' }):wpAny M A (noteFrame (.ref x) ψ) Q E s:=by
 subst hc;unfold noteFrame;simp only[hf];refine wpAny_bind (wpAny_field he hdv hv ?_);rw[Gf (by decide)];exact zt6 hfr hl hf he hdn hdv (uw.mp hv).1 n0 nH hz hH h
theorem zyF (hfr:A.frames=Ga (ψ::outer))(hl:s.heap.FunFrames base (ψ::outer))(hf:ψ.frame=Ga L)(ht:ExT h0 H x cls .none s.heap)(hz:∀ b o,h0.get? b=Ga o->b<s.heap.objs.size)(hH:∀ b,H b≠Gb->b<s.heap.objs.size)
  (h:∀ h',ExT h0 H x cls (rawInt L) h'->Kx (frs (ψ::outer)) h0 H s.heap h'->s.heap.objs.size<=h'.objs.size->Q () { s with heap:=h' }):wpAny M A (noteFrame (.ref x) ψ) Q E s:=by
 obtain⟨n0,nH,oe,vs,T,oT,ts,he,⟨hc,hdn⟩,hd,h1,hT,eT,dT,h3,m0,mH⟩:=ht;subst hc;unfold noteFrame;simp only[hf];refine wpAny_bind (wpAny_field he hd h1 ?_);rw[Ge (show(kB T !=j5)=true by simp)];refine wpAny_bind (wpAny_field eT dT h3 ?_);rw[Gf (show ¬((j5==rawInt L)=true) by simp[rawInt])];refine wpAny_bind (wpAny_setField eT dT (uw.mp h3).1 ?_);have k1:∀ fs,Kx fs h0 H s.heap (s.heap.update T (vd (·.setIfInBounds 3 j5))):=λfs=>Kx.upd eT dT m0 mH _;have z1:(s.heap.update T (vd (·.setIfInBounds 3 j5))).objs.size=s.heap.objs.size:=by simp[Jt]
 exact zt6 hfr ((k1 []).frames hl) hf ((kq _ _ hT).trans he) hdn hd (uw.mp h1).1 n0 nH (λb o q=>by rw[z1];exact hz b o q) (λb q=>by rw[z1];exact hH b q) λh' t k z=>h h' t ((k1 _).trans k) (by rw[z1] at z;exact z)
theorem zzO {oe:Obj}{vs:Array Gg}(hfr:A.frames=Ga (ψ::outer))(hl:s.heap.FunFrames base (ψ::outer))(hf:ψ.frame=Ga L)(he:s.heap.get? x=Ga oe)(hc:oe.cls=cls)(hdn:oe.dict=Gb)(hdv:oe.data=.fields vs)(hv:vs[1]?=Ga .none)
  (n0:h0.get? x=Gb) (nH:H x=Gb) (hz:∀ b o,h0.get? b=Ga o->b<s.heap.objs.size) (hH:∀ b,H b≠Gb->b<s.heap.objs.size)
  (h:∀ h',ExT h0 H x cls .none h'->Kx (frs (ψ::outer)) h0 H s.heap h'->s.heap.objs.size<=h'.objs.size->Q () { s with heap:=h' }):wpAny M A (leaving ψ (.ref x)) Q E s:=by
 unfold leaving;refine wpAny_bind (zBF hfr hl hf he hc hdn hdv hv n0 nH hz hH λh1 t1 k1 z1=>?_);exact zlP t1 λh2 t2 k2 z2=>h h2 t2 (k1.trans (k2 _)) (by rw[z2];exact z1)
theorem zzP (hfr:A.frames=Ga (ψ::outer))(hl:s.heap.FunFrames base (ψ::outer))(hf:ψ.frame=Ga L)(ht:ExT h0 H x cls .none s.heap)(hz:∀ b o,h0.get? b=Ga o->b<s.heap.objs.size)(hH:∀ b,H b≠Gb->b<s.heap.objs.size)
  (h:∀ h',ExT h0 H x cls .none h'->Kx (frs (ψ::outer)) h0 H s.heap h'->s.heap.objs.size<=h'.objs.size->Q () { s with heap:=h' }):wpAny M A (leaving ψ (.ref x)) Q E s:=by
 unfold leaving;refine wpAny_bind (zyF hfr hl hf ht hz hH λh1 t1 k1 z1=>?_);exact zlP t1 λh2 t2 k2 z2=>h h2 t2 (k1.trans (k2 _)) (by rw[z2];exact z1)
end
end T3
namespace T3
open PySem PySem.Spec PyProof.Rows L2
def CX1 (P:Program)(w:World):CXT:=λouter H s E e s' =>
 ∃ (x C:Gj) (H':Hp),e=.ref x/\s'.os=s.os/\AllBare s'.gens/\Un (frs outer) [] H H' s.heap s'.heap/\HOk P w H' s'.heap/\ExT s.heap H' x (.ref C) .none s'.heap/\E (.ref C) Gb H'
theorem zt7 {P:Program}{w:World}{H:Hp}{h:Heap}(x:HOk P w H h){a:Gj}{o:HO}(e:H a=Ga o):∃ u,h.get? a=Ga u:=by
 have q:=x a o e;cases o with
 | lst xs=>obtain⟨_,_,_,_,e⟩:=q;exact⟨_,e⟩
 | tup xs=>obtain⟨_,_,_,ob,e,_⟩:=q;exact⟨_,e⟩
 | dK kvs=>obtain⟨_,_,_,_,o,_,_,e,_⟩:=q;exact⟨_,e⟩
 | dT kvs=>obtain⟨_,_,_,_,o,_,_,e,_⟩:=q;exact⟨_,e⟩
 | set S n=>obtain⟨o,_,_,_,e,_⟩:=q;exact⟨_,e⟩
 | ins C dx fs=>obtain⟨_,_,_,e,_⟩:=q;exact⟨_,e⟩
 | own _=>obtain⟨o,e⟩:=q;exact⟨_,e⟩
 | xd fs=>obtain⟨_,⟨o,_,_,e,_⟩,_⟩:=q;exact⟨_,e⟩
 | rng lo hi=>obtain⟨_,_,_,e⟩:=q;exact⟨_,e⟩
 | frz o u=>exact⟨_,q.1⟩
 | tbl ps=>exact⟨_,q⟩
 | met f x=>exact⟨_,q⟩
 | ext φ=>exact q.2.1
section
variable {X:Cx}{ω:List (Gj×Obj)}{σ:St}{H:Hp}{s:Gh}{x:Gj}{cls:Gg}
theorem zn8 (J:Inv X ω σ H s)(hx:X.ex=[]){b:Gj}(n:s.heap.get? b=Gb):X.s₀.heap.get? b=Gb:=by
 cases q:X.s₀.heap.get? b with
 | none=>rfl
 | some o =>
  obtain⟨o',e⟩:=J.base.there b o q (by rw[hx];simp);rw[n] at e;cases e
theorem zwG (J:Inv X ω σ H s){b:Gj}(n:s.heap.get? b=Gb):H b=Gb:=by
 cases q:H b with
 | none=>rfl
 | some o =>
  obtain⟨u,e⟩:=zt7 J.hok q;rw[n] at e;cases e
theorem zlQ {o:Obj}{sl:Array (Option Gg)}(e:sl=o.slots):{ o with slots:=sl }=o:=by subst e;rfl
theorem zBG (J:Inv X ω σ H s)(hx:X.ex=[]){h':Heap}(k:Kx (frs X.stack) X.s₀.heap H s.heap h'):Un X.fs [] X.H₀ H X.s₀.heap h'/\HOk X.prog X.w H h':=by
 have low:∀ b o,X.s₀.heap.get? b=Ga o->b≠X.env.locals:=λb o e z=>by
  subst z;exact absurd (jm e) (Nat.not_lt.mpr J.ok.above)
 have nx:∀ b:Gj,b∉X.ex:=λb z=>by rw[hx] at z;simp at z
 have nstk:∀ b o,X.s₀.heap.get? b=Ga o->b∉X.fs->b∉frs X.stack:=λb o e n z=>(jt.mp (J.stkSub b z)).elim (low b o e) n;refine⟨⟨λb o e n hb _=>?_,λb o e n hb _=>?_,λb o e n _=>J.base.free b o e n (nx b),λb o e _=>?_,J.base.tups,J.base.frzs,J.base.tbls⟩,λa o e=>?_⟩
 .have e1:=J.base.keep b o e n hb (nx b);obtain⟨sl,e2,q⟩:=k b o e1 (.inl (by rw[e];exact λz=>by cases z));rw[zlQ (q (nstk b o e hb))] at e2;exact e2
 .obtain⟨sl,e1⟩:=J.base.slot b o e n hb (nx b);obtain⟨sl2,e2,_⟩:=k b _ e1 (.inl (by rw[e];exact λz=>by cases z));exact⟨sl2,e2⟩
 .obtain⟨o1,e1⟩:=J.base.there b o e (nx b);obtain⟨sl2,e2,_⟩:=k b _ e1 (.inl (by rw[e];exact λz=>by cases z));exact⟨_,e2⟩
 .have tr:∀ b u,H b≠Gb->s.heap.get? b=Ga u->h'.get? b=Ga u:=λb u hb e1=>by
   obtain⟨sl,e2,q⟩:=k b u e1 (.inr (.inl hb));rw[zlQ (q λz=>hb (J.stkFree b z))] at e2;exact e2
  exact(J.hok a o e).stay (λb u hb e1=>tr b u (by
   rcases hb with rfl|hb
   .rw[e];exact λz=>by cases z
   .rw[hb];exact λz=>by cases z) e1) (λb z=>z) λb xs z=>z
theorem zzQ {fl:Gg}(J:Inv X ω σ H s)(hx:X.ex=[]){H':Hp}{h':Heap}(t:ExT s.heap H' x cls fl h'):ExT X.s₀.heap H' x cls fl h':=by
 obtain⟨n0,nH,oe,vs,T,oT,ts,he,hc,hd,h1,hT,eT,dT,h3,m0,mH⟩:=t;exact⟨zn8 J hx n0,nH,oe,vs,T,oT,ts,he,hc,hd,h1,hT,eT,dT,h3,zn8 J hx m0,mH⟩
end
section
variable {P:Program}{w:World}{K:ja}{mg:Str->Option Gg}{base:Heap}{N:List Str}{qual:Str}{scope:Scope}{f:Gj}{cd:Gg}{A:Around}{outer:List Env}{s₀:Gh}{H₀:Hp}{E:XK}
theorem zyG {ω:List (Gj×Obj)}{σ:St}{H:Hp}{s:Gh}{x C:Gj}(J:Inv (cxOf (CX1 P w) P w K mg base N qual scope f cd A outer s₀ H₀ E) ω σ H s){h':Heap}(k:Kx (frs (envOfC qual scope s₀.heap.objs.size f cd::outer)) s₀.heap H s.heap h')(t:ExT s₀.heap H x (.ref C) .none h')(hE:E (.ref C) Gb H) :
  CX1 P w outer H₀ s₀ E (.ref x) { s with heap:=h' }:=by
 obtain⟨u,hok⟩:=zBG J rfl k;exact⟨x,C,H,rfl,J.os,J.bare,u,hok,t,hE⟩
theorem pass1:Passes (CX1 P w) (cxOf (CX1 P w) P w K mg base N qual scope f cd A outer s₀ H₀ E) E:=by
 intro ω σ H s e s' I h;obtain⟨x,C,H',rfl,os,bare,u,hok,t,hE⟩:=h;have J:=I.call' (ch:=[]) os u hok bare λb z=>absurd z (by simp);have t0:=zzQ I rfl t;exact zzP (h0:=s₀.heap) (H:=H') J.ok.frames J.stack rfl t0 (λb o q=>jq (jm q) J.sz) (λb q=>by
  cases z:H' b with
  | none=>exact absurd z q
  | some o=>exact J.hok.lt z) λh' t' k' _=>zyG J k' t' hE
theorem raise1 {x:Str}{C:Gj}{bm:List Gg}{newId B initId:String}{np cpos pos spos:Pos}{msg:Str}{j:Nat}{ω:List (Gj×Obj)}{σ:St}{H:Hp}{s:Gh}{Q:Flow->Gh->Prop}
  (O:OwnCls x C bm newId mg base) (FB:ExcBaseFacts B newId initId bm) (I:Inv (cxOf (CX1 P w) P w K mg base N qual scope f cd A outer s₀ H₀ E) ω σ H s) (hE:E (.ref C) Gb H)
  (hg:scope.names.lookup x=Ga .globalImplicit:=by rfl) (hdb:(x==("__debug__":Str))=false:=by decide) :
  wpAny (model P w) (A.deeper (envOfC qual scope s₀.heap.objs.size f cd)) (exec (.Raise (Ga (.Call (.Name x np) [.Constant (.str msg) j spos] [] cpos)) Gb pos) (envOfC qual scope s₀.heap.objs.size f cd)) Q (cxOf (CX1 P w) P w K mg base N qual scope f cd A outer s₀ H₀ E).xe s:=by
 obtain⟨tl,N',nm,q,bs,hdct,sn,sub,ab,col,dd,k0,k1,k2,k3,k5,mN,hC,hN,hni,T⟩:=O.obj;refine wpAny_Raise_call_subT (C:=C) (nm:=nm) (q:=q) (N:=N') (bs:=bs) (bm:=tl) (hdct:=hdct) (sn:=sn) (sub:=sub) (ab:=ab) (col:=col) (dd:=dd) (k0:=k0) (k1:=k1) (k2:=k2) (k3:=k3) (k5:=k5) (newId:=newId)
  FB (mN:=mN) (T.hasType FB.hasBase) (I.ok.hd rfl) rfl hni (ld_glob I hg O.bound ⟨rfl,?_⟩ hdb)
 refine vo (wpAny_mono ((pa_cons pe_str pa_nil) cpos ω s σ H (λvs H1=>vs.length=1/\H1=H) I ⟨rfl,rfl⟩) (λus s2 h2=>?_) λ_ _ y=>y);obtain⟨vs,H1,I2,rv,hl,rfl⟩:=h2;have kb:∀ b o,base.get? b=Ga o->s2.heap.get? b=Ga o:=I2.bk;refine⟨rfl,by rw[<- rv.length,hl];decide,kb _ _ hC,hN.keeps kb,T.keeps kb,λh' e M=>?_⟩;obtain⟨t,ht,_,_⟩:=M.there;have J:Inv (cxOf (CX1 P w) P w K mg base N qual scope f cd A outer s₀ H₀ E) ω σ H1 { s2 with heap:=h' }:=I2.call' (ch:=[]) rfl (Un.kept M.keeps) (I2.hok.kept M.keeps) I2.bare λb z=>absurd z (by simp);exact zzO (h0:=s₀.heap) (H:=H1) J.ok.frames J.stack rfl ht rfl rfl rfl rfl (zn8 I2 rfl M.new) (zwG I2 M.new) (λb o q=>jq (jm q) J.sz) (λb q=>by
  cases z:H1 b with
  | none=>exact absurd z q
  | some o=>exact J.hok.lt z) λh2 t' k' _=>zyG J k' t' hE
end
end T3
namespace T3
open PySem PySem.Spec PyProof.Rows L2
abbrev FX:=En->Option Str
def Xw (mg:Str->Option Gg)(E:XK)(c:Str)(H0:Hp):Prop:=∃ C,mg c=Ga (.ref C)/\∀ H',Same H0 H'->E (.ref C) Gb H'
def XRd (K:ja)(mg:Str->Option Gg)(E:XK)(k:FX)(σ:St)(H:Hp):Prop:=∃ H0 F ψ c,RS K H0 F H ψ σ/\k ψ=Ga c/\Xw mg E c H0
def tX (K:ja)(mg:Str->Option Gg)(E:XK)(k:FX):TS:=λ_ σ H=>XRd K mg E k σ H
def tXE (K:ja)(mg:Str->Option Gg)(E:XK)(k:FX):TE:=λσ H _=>XRd K mg E k σ H
def tXT (K:ja)(mg:Str->Option Gg)(E:XK)(k:FX):TT:=λσ H _=>XRd K mg E k σ H
abbrev PSx (X:Cx)(E:XK)(st:Stmt)(k:FX):Prop:=PS X st (tX X.K X.mg E k)
abbrev PSsx (X:Cx)(E:XK)(st:List Stmt)(k:FX):Prop:=PSs X st (tX X.K X.mg E k)
abbrev PEx (X:Cx)(E:XK)(e:Expr)(k:FX):Prop:=PE X e (tXE X.K X.mg E k)
abbrev PTx (X:Cx)(E:XK)(e:Expr)(k:FX):Prop:=PT X e (tXT X.K X.mg E k)
def noX:FX:=λ_=>Gb
def orX (a b:FX):FX:=λψ=>match a ψ with
 | some c=>Ga c
 | none=>b ψ
def ifX (c:FB)(k1 k2:FX):FX:=λψ=>(c (frz ψ)).bind λt=>if t then k1 ψ else k2 ψ
def raX (c:Str):FX:=λ_=>Ga c
def clX (g:FL)(fx:List D->Option Str):FX:=λψ=>(g ψ).bind fx
def rhX (f:FV)(k:FX):FX:=λψ=>(f ψ).bind λ_=>k ψ
theorem Xw.dn {mg:Str->Option Gg}{E:XK}{c:Str}{H0 H1:Hp}(x:Xw mg E c H0)(s:Same H0 H1):Xw mg E c H1:=let ⟨C,a,b⟩:=x;⟨C,a,λH' q=>b H' (s.trans q)⟩
section
variable {X:Cx}{E:XK}{pos:Pos}
theorem zqP {st:List Stmt}:PSs X st (λ_ _ _=>False):=λ_ _ _ _ _ _ h=>h.elim
theorem zDW {st:Stmt}{t u:TS}(h1:PS X st t)(h2:PS X st u):PS X st (λD σ H=>t D σ H\/u D σ H):=λω s σ H D I h=>h.elim (h1 ω s σ H D I) (h2 ω s σ H D I)
theorem zBH {st:List Stmt}:PSsx X E st noX:=λ_ _ _ _ _ _ h=>by obtain⟨_,_,_,_,_,e,_⟩:=h;cases e
theorem zpL {st:Stmt}{rest:List Stmt}{k:FX}(h:PSx X E st k):PSsx X E (st::rest) k :=
 zn0 (pss_cons h (zqP (st:=rest))) λ_ _ _ q=>q
theorem x_if {c:Expr}{a b:List Stmt}{fc:FB}{k1 k2:FX}(hc:PB X c fc)(ha:PSsx X E a k1)(hb:PSsx X E b k2):PSx X E (.If c a b pos) (ifX fc k1 k2):=by
 refine zdD (ps_if hc ha hb) λD σ H=>?_;rintro⟨H0,F,ψ,cn,r,e,w⟩;obtain⟨t,e1,e⟩:=bind_some e;refine⟨H0,H,frz ψ,t,r.frz,e1,λH' g'=>?_⟩;cases t with
 | true=>exact iteT ⟨H0,F,ψ,cn,r.later g',e,w⟩
 | false=>exact iteF ⟨H0,F,ψ,cn,r.later g',e,w⟩
theorem zBI {c:Expr}{a b:List Stmt}{k:FX}(hc:PTx X E c k):PSx X E (.If c a b pos) k :=
 zdD (ps_if hc (zqP (st:=a)) (zqP (st:=b))) λ_ _ _ q=>q
theorem x_or {st:Stmt}{k1 k2:FX}(h1:PSx X E st k1)(h2:PSx X E st k2):PSx X E st (orX k1 k2):=by
 refine zdD (zDW h1 h2) λD σ H=>?_;rintro⟨H0,F,ψ,c,r,e,w⟩;unfold orX at e;split at e
 .rename_i c' z;cases e;exact .inl ⟨H0,F,ψ,_,r,z,w⟩
 .exact .inr ⟨H0,F,ψ,c,r,e,w⟩
theorem zDX {e:Expr}{k:FX}(h:PEx X E e k):PSx X E (.Return (Ga e) pos) k:=zdD (ps_ret h) λ_ _ _ q=>q
theorem zBJ {e:Expr}{k:FX}(h:PEx X E e k)(he:∀ whole,isTrue e X.env whole=(do let v <- whole;standAt e.pos;holding [v] (truthy v)):=by intro _;rfl):PTx X E e k :=
 zj8 (pt_truth h he) λ_ _ _ q=>q
theorem zBK {e:Expr}{k:FX}(h:PTx X E e k):PTx X E (.UnaryOp .Not e pos) k:=zj8 (pt_not h) λ_ _ _ q=>q
theorem zBL {op:CmpOp}{r:R2}{a b:Expr}{f:FV}{k:FX}(ho:OpR X (compareOp op) r)(ha:PV X a f)(hb:PEx X E b k)(hm:behindInMarks op b=false:=by first|exact nobehind _ (by decide) (by decide)|rfl):PEx X E (.Compare a [op] [b] pos) (rhX f k):=by
 refine za7 (pe_cmpR ho ha hb hm) λσ H Q=>?_;rintro⟨H0,F,ψ,c,r,e,w⟩;obtain⟨d,e1,e2⟩:=bind_some e;exact⟨H0,F,ψ,d,r,e1,λv H' F' g f1 fh n rv=>⟨H0,F',ψ,c,r.grow g f1 fh n,e2,w⟩⟩
end
def spX (K:ja)(mg:Str->Option Gg)(fx:List D->Option Str):Sp:=λvs H _ E=>∃ F ds c,Same F H/\Reps K F ds vs/\fx ds=Ga c/\Xw mg E c H
section
variable {X:Cx}{E:XK}{k:Nat}{f:Gj}{fd:Gi}{ps:List Str}{x:Str}{p pos:Pos}{e:Expr}{es:List Expr}{g:FL}
theorem zt8 {fx:List D->Option Str}(F:FnOk X.prog X.w X.K X.mg X.base (CX1 X.prog X.w) k f fd ps (spX X.K X.mg fx))(hP:Passes (CX1 X.prog X.w) X E)(hr:Room k X.A)(hm:X.mg x=Ga (.ref f))(hk:kR X.K (.ref f)=true)(hb:Binds X.K fd ps [])(ha:PL X (e::es) g)(hg:Gl X x:=by rfl)
  (hdb:(x==("__debug__":Str))=false:=by decide) (he:starEach (e::es) X.env=(false,eval e X.env)::starEach es X.env:=by rfl) (hpl:(backTo pos (starEach es X.env)).any (·.1)=false:=by rfl) :
  PEx X E (.Call (.Name x p) (e::es) [] pos) (clX g fx):=by
 refine za7 (pe_call F hr hg hm hk hb .nil hP ha.pa hdb he hpl) λσ H Q=>?_;rintro⟨H0,F,ψ,c,r,e,w⟩;obtain⟨ds,e1,e2⟩:=bind_some e;exact⟨H0,F,ψ,ds,r,e1,λvs H1 F1 g1 f1 fh1 n1 rv=>⟨F1,ds,c,fh1,by rw[j7];exact rv,e2,w.dn (r.h0.trans g1)⟩⟩
end
def runX (np n:Nat)(k:FX)(ds:List D):Option Str:=if ds.length=np then k (startE n ds) else Gb
section
variable {P:Program}{w:World}{K:ja}{mg:Str->Option Gg}{base:Heap}{x qual:Str}{st:Stmt}{f:Gj}{fd:Gi}{N ps:List Str}{k:Nat}{kx:FX}
theorem okX (F:Fun K x qual st f fd)(S:FnScope N ps (defScope st))
  (hb:∀ (cdv:Gg) (A:Around) (outer:List Env) (s:Gh) (H:Hp) (E:XK),Room k (A.deeper (envOfC qual (defScope st) s.heap.objs.size f cdv))->PSsx (cxOf (CX1 P w) P w K mg base N qual (defScope st) f cdv A outer s H E) E (defBody st) kx) :
  FnOk P w K mg base (CX1 P w) (k+1) f fd ps (spX K mg (runX ps.length N.length kx)):=by
 have hr0:∀ {ds:List D} {c:Str},runX ps.length N.length kx ds=Ga c->ds.length=ps.length/\kx (startE N.length ds)=Ga c:=λ{ds c} h=>by
  unfold runX at h;split at h
  .exact⟨by assumption,h⟩
  .cases h
 obtain⟨oc,od,kV,doc,pm,an,cdv,ct,osl,rfl,lk,hcd⟩:=F.ex;refine fn_of lk hcd S (λvs H Q E h=>?_) λA outer s H vs Q E hr h=>?_
 .obtain⟨F0,ds,c,_,r,e,_⟩:=h;rw[<- r.length];exact(hr0 e).1
 .obtain⟨F0,ds,c,g0,r,e,w⟩:=h;exact⟨_,hb cdv A outer s H E hr,H,F0,_,c,RS.start g0 r,(hr0 e).2,w⟩
theorem zzR {cdv:Gg}{A:Around}{outer:List Env}{s:Gh}{H:Hp}{E:XK}{cn:Str}{C:Gj}{bm:List Gg}{newId B initId:String}{np cpos pos spos:Pos}{msg:Str}{j:Nat}(O:OwnCls cn C bm newId mg base)(FB:ExcBaseFacts B newId initId bm)
  (hg:(defScope st).names.lookup cn=Ga .globalImplicit:=by rfl) (hdb:(cn==("__debug__":Str))=false:=by decide) :
  PSx (cxOf (CX1 P w) P w K mg base N qual (defScope st) f cdv A outer s H E) E (.Raise (Ga (.Call (.Name cn np) [.Constant (.str msg) j spos] [] cpos)) Gb pos) (raX cn):=by
 intro ω s1 σ H1 D I h;obtain⟨H0,F,ψ,c,r,e,C',hm,hE⟩:=h;cases e;have:C'=C:=by
  have q:=hm.symm.trans O.bound;cases q;rfl
 subst this;exact raise1 O FB I (hE H1 r.h0) hg hdb
end
end T3
namespace T3
open PySem PySem.Spec PyProof.Rows PySem.W PySem.Calls
section
variable {prog:Program}{w:World}{A:Around}{E:Gg->Gh->Prop}{s:Gh}{K:Frag}{x D:Gj}{ox:Obj}
theorem zBM {tk:Tok}{fill expr:Bool}{Q:Gg->Gh->Prop}(X:K.In s.heap)(I:InstAt s.heap x ox D Gb)(hga:findIn K (.ref D) "__getattribute__"=Ga (Ga (.builtin "BaseException.__getattribute__")))(hgn:findIn K (.ref D) "__getattr__"=Ga Gb)
  (hc:∀ R:Result->Gh->Prop,R (.ok (.ret (.ref D))) s->codeAny (model prog w) A (.call (.builtin "BaseException.__getattribute__") ⟨[.ref x,.str "__class__" tk],[]⟩) R s)
  (h:Q (.ref D) s):wpAny (model prog w) A (getAttrBy (.ref x) (.str "__class__" tk) fill expr) Q E s:=by
 obtain⟨hh,g,d,t,os⟩:=s;have L0:=I.type (M:=model prog w);have L1:=looks_findIn (M:=model prog w) X hga;have L2:=looks_findIn (M:=model prog w) X hgn;have hx0:(expr&&onTheHeap (vA "BaseException.__getattribute__"))=false:=by cases expr<;>rfl
 have hx2:(vA "BaseException.__getattribute__"==vA "object.__getattribute__")=false:=by decide +kernel
 have hx1:(onTheHeap (kB D)&&vA "BaseException.__getattribute__"==vA "object.__getattribute__")=false:=by rw[hx2];rfl
 have f3:=qf.ga.bind (.ref x);unfold getAttrBy
 repeat (any_goals (first|assumption|with_reducible refine Looks.at (by assumption) ?_|wp_step))
 all_goals (refine hc _ ?_)
 repeat (any_goals (first|assumption|wp_step))
theorem zt9 {tk:Tok}{Q:Fin->Gh->Prop}(X:K.In s.heap)(I:InstAt s.heap x ox D Gb)(hcl:findIn K (.ref D) "__class__"=Ga (Ga (.builtin "object.__class__")))(hm:mroIn K D (.type "object")=Ga true)(h:Q (.done (.ret (.ref D))) s) :
  wpAny (model prog w) A (Builtin.«object.__getattribute__» ⟨[.ref x,.str "__class__" tk],[]⟩) Q E s:=by
 have L0:=I.type (M:=model prog w);have L1:=looks_findIn (M:=model prog w) X hcl;have CG:=λ(R:Result->Gh->Prop) (q:R (.ok (.ret (.ref D))) s)=>class_get (prog:=prog) (w:=w) (A:=A) (tp:=.ref D) X I hm q;have f5:typeOf (.builtin "object.__class__")=pure (.type "getset_descriptor"):=KF.type_class;have f6:=PySem.F.slot_gs_get.lookup;have f7:=PySem.F.slot_gs_set.lookup;obtain⟨hh,g,d,t,os⟩:=s
 repeat (any_goals (first|assumption|with_reducible refine Looks.at (by assumption) ?_|wp_step))
 all_goals (refine CG _ ?_)
 repeat (any_goals (first|assumption|wp_step))
theorem zuA {tk:Tok}{Q:Unit->Gh->Prop}(X:K.In s.heap)(I:InstAt s.heap x ox D Gb)(hb:subIn K (.ref D) (.type "BaseException")=Ga true)(h:Q () s) :
  wpAny (model prog w) A (checkBuiltinCall "BaseException.__getattribute__" ⟨[.ref x,.str "__class__" tk],[]⟩) Q E s:=by
 have L0:=I.type (M:=model prog w);have L1:=looks_subIn (M:=model prog w) X hb;have hk:builtinKind "BaseException.__getattribute__"=Ga .slot:=by decide +kernel
 have hsplit:splitId "BaseException.__getattribute__"=Ga ("BaseException","__getattribute__"):=by decide +kernel
 have ha:=PySem.F.args_bexc_ga (.ref x) (.str "__class__" tk);obtain⟨hh,g,d,t,os⟩:=s;simp only[checkBuiltinCall,hk,hsplit];refine wpAny_bind ?_;unfold isInstance
 repeat (any_goals (first|assumption|with_reducible refine Looks.at (by assumption) ?_|wp_step))
theorem zwH {tk:Tok}{R:Result->Gh->Prop}(X:K.In s.heap)(I:InstAt s.heap x ox D Gb)(hb:subIn K (.ref D) (.type "BaseException")=Ga true)(hcl:findIn K (.ref D) "__class__"=Ga (Ga (.builtin "object.__class__")))(hm:mroIn K D (.type "object")=Ga true)(h:R (.ok (.ret (.ref D))) s) :
  codeAny (model prog w) A (.call (.builtin "BaseException.__getattribute__") ⟨[.ref x,.str "__class__" tk],[]⟩) R s :=
 codeAny_call_builtin qf.ga.plain PySem.F.entry_bexc_ga (zuA X I hb (zt9 X I hcl hm h))
theorem zuB {Q:Option Gg->Gh->Prop}(X:K.In s.heap)(I:InstAt s.heap x ox D Gb)(hga:findIn K (.ref D) "__getattribute__"=Ga (Ga (.builtin "BaseException.__getattribute__")))(hgn:findIn K (.ref D) "__getattr__"=Ga Gb)
  (hb:subIn K (.ref D) (.type "BaseException")=Ga true) (hcl:findIn K (.ref D) "__class__"=Ga (Ga (.builtin "object.__class__"))) (hm:mroIn K D (.type "object")=Ga true)
  (h:Q (Ga (.ref D)) { s with toks:=s.toks+1 }):wpAny (model prog w) A (getAttr? (.ref x) "__class__") Q E s:=by
 obtain⟨hh,g,d,t,os⟩:=s;unfold getAttr? getAttrBy?
 repeat (any_goals (first|assumption|(with_reducible refine zBM (s:=⟨hh,g,d,t+1,os⟩) X I hga hgn (λR q=>zwH (s:=⟨hh,g,d,t+1,os⟩) X I hb hcl hm q) ?_)|wp_step))
end
structure ExcK (K:Frag)(D:Gj):Prop where
 ga:findIn K (.ref D) "__getattribute__"=Ga (Ga (.builtin "BaseException.__getattribute__"))
 gn:findIn K (.ref D) "__getattr__"=Ga Gb
 sb:subIn K (.ref D) (.type "BaseException")=Ga true
 cl:findIn K (.ref D) "__class__"=Ga (Ga (.builtin "object.__class__"))
 mr:mroIn K D (.type "object")=Ga true
 ci:(clsIn K D).isSome=true
theorem zwI {K:Frag}{x D:Gj}{ox:Obj}(W:ExcK K D):KitX K (.ref x) (.ref D) (λh=>InstAt h x ox D Gb) where
 ty:=λ_ _ _ I=>I.type
 it:=λ_ _ X _=>by
  have hcD:=W.ci;unfold clsIn at hcD;split at hcD
  .rename_i c' d' cd' sl' ho;intro A' Q' E' s' k q;unfold isType loadHead;exact wpAny_bind (wpAny_loadPart (k _ _ (X _ _ ho)) (wpAny_pure q))
  .cases hcD
 ne:=λh tp dd its n sl X htp=>by
  have hcD:=W.ci;refine vx.mpr λq=>?_;have e:D=tp:=Value.ref.inj (beq_iff_eq.mp q);subst e;unfold clsIn at hcD;split at hcD
  .rename_i c' d' cd' sl' ho;have z:=(X _ _ ho).symm.trans htp;cases z
  .cases hcD
 ca:=λX I k=>zuB X I W.ga W.gn W.sb W.cl W.mr k
end T3
namespace T3
open PySem PySem.Spec PyProof.Rows L2
structure XS (X:Cx)(H:Hp)(s:Gh)(x C:Gj)(fl:Gg)(H':Hp)(s':Gh):Prop where
 os:s'.os=s.os
 bare:AllBare s'.gens
 un:Un (frs X.stack) [] H H' s.heap s'.heap
 hok:HOk X.prog X.w H' s'.heap
 ex:ExT s.heap H' x (.ref C) fl s'.heap
theorem zl0 {α:Type}{o:Option α}{a:α}(e:o=Ga a):o≠Gb:=by rw[e];exact λz=>by cases z
theorem zDY {fs:List Gj}{H H':Hp}{h0 h h':Heap}(u:Un fs [] H H' h0 h)(k:Kx fs h0 H' h h'):Un fs [] H H' h0 h':=by
 refine⟨λb o e n hb hx=>?_,λb o e n hb hx=>?_,u.free,λb o e hx=>?_,u.tups,u.frzs,u.tbls⟩
 .obtain⟨sl,e2,q⟩:=k b o (u.keep b o e n hb hx) (.inl (zl0 e));rw[zlQ (q hb)] at e2;exact e2
 .obtain⟨sl,e1⟩:=u.slot b o e n hb hx;obtain⟨sl2,e2,_⟩:=k b _ e1 (.inl (zl0 e));exact⟨sl2,e2⟩
 .obtain⟨o1,e1⟩:=u.there b o e hx;obtain⟨sl2,e2,_⟩:=k b _ e1 (.inl (zl0 e));exact⟨_,e2⟩
section
variable {X:Cx}{ω:List (Gj×Obj)}{σ:St}{H H':Hp}{s s':Gh}{x C:Gj}{fl fl':Gg}
theorem XS.inv (W:XS X H s x C fl H' s')(I:Inv X ω σ H s):Inv X ω σ H' s':=I.call' (ch:=[]) W.os W.un W.hok W.bare λb z=>absurd z (by simp)
theorem XS.kx (W:XS X H s x C fl H' s')(I:Inv X ω σ H s){h':Heap}(k:Kx (frs X.stack) s.heap H' s'.heap h')(t:ExT s.heap H' x (.ref C) fl' h'):XS X H s x C fl' H' { s' with heap:=h' }:=by
 have J:=W.inv I;refine⟨W.os,W.bare,zDY W.un k,λa o e=>?_,t⟩;have tr:∀ b u,H' b≠Gb->s'.heap.get? b=Ga u->h'.get? b=Ga u:=λb u hb e1=>by
  obtain⟨sl,e2,q⟩:=k b u e1 (.inr (.inl hb));rw[zlQ (q λz=>hb (J.stkFree b z))] at e2;exact e2
 exact(W.hok a o e).stay (λb u hb e1=>tr b u (by
  rcases hb with rfl|hb
  .exact zl0 e
  .exact zl0 hb) e1) (λb z=>z) λb xs z=>z
theorem XS.lt (W:XS X H s x C fl H' s'):∀ b o,s.heap.get? b=Ga o->b<s'.heap.objs.size:=λb o e=>by
 obtain⟨o',e'⟩:=W.un.there b o e (by simp);exact jm e'
theorem zBN {M:Model}{A:Around}{E:Gg->Gh->Prop}{Q:Unit->Gh->Prop}(I:Inv X ω σ H s)(hA:A.frames=Ga X.stack)(hs:X.stack=X.env::X.outer/\X.env.frame=Ga X.env.locals)(W:XS X H s x C .none H' s')
  (h:∀ s2,XS X H s x C .none H' s2->Q () s2):wpAny M A (noteFrame (.ref x) X.env) (λ_ s2=>wpAny M A (setFlight (.ref x) Gb) Q E s2) E s':=by
 have J:=W.inv I;have st:=J.stack;rw[hs.1] at st;rw[hs.1] at hA;refine zyF (h0:=s.heap) (H:=H') hA st hs.2 W.ex W.lt (λb q=>?_) λh1 t1 k1 _=>?_
 .cases z:H' b with
  | none=>exact absurd z q
  | some o=>exact J.hok.lt z
 .rw[<- hs.1] at k1;have W1:=W.kx I k1 t1;exact zlP t1 λh2 t2 k2 _=>h _ (W1.kx I (k2 _) t2)
theorem XS.frz (W:XS X H s x C fl H' s'):∃ o,s'.heap.get? x=Ga o/\o.cls=.ref C/\o.dict=Gb/\vN o=true/\H' x=Gb/\Un (frs X.stack) [] H (upd H' x (.frz o (.own x))) s.heap s'.heap/\HOk X.prog X.w (upd H' x (.frz o (.own x))) s'.heap:=by
 obtain⟨n0,nH,oe,vs,T,oT,ts,he,⟨hc,hdn⟩,hd,h1,hT,eT,dT,h3,m0,mH⟩:=W.ex;have nn:∀ {b u},H' b=Ga u->b≠x:=λ{b u} e z=>by subst z;rw[nH] at e;cases e
 refine⟨oe,he,hc,hdn,by unfold vN;rw[hd],nH,⟨W.un.keep,W.un.slot,λb o e n hx=>?_,W.un.there,λb xs e=>?_,λb o u e=>?_,λb ps e=>?_⟩,λa o e=>?_⟩
 .rw[upd_ne (λz=>by subst z;rw[n0] at e;cases e)];exact W.un.free b o e n hx
 .rw[upd_ne (nn (W.un.tups b xs e))];exact W.un.tups b xs e
 .rw[upd_ne (nn (W.un.frzs b o u e))];exact W.un.frzs b o u e
 .obtain⟨m,q⟩:=W.un.tbls b ps e;exact⟨m,by rw[upd_ne (nn q)];exact q⟩
 .by_cases z:a=x
  .subst z;rw[upd_same] at e;cases e;exact⟨he,⟨_,he⟩⟩
  .rw[upd_ne z] at e;exact(W.hok a o e).stay (λ_ _ _ q=>q) (λb q=>by rw[upd_ne (nn q)];exact q) λb xs q=>by rw[upd_ne (nn q)];exact q
end
def Wx (X:Cx)(ω:List (Gj×Obj))(σ:St)(H:Hp)(c:Str)(Ξ:Gg->Gh->Prop):Prop :=
 (∃ C,X.mg c=Ga (.ref C))/\∀ C s1 H1 x H' s',X.mg c=Ga (.ref C)->Inv X ω σ H1 s1->XS X H1 s1 x C .none H' s'->Same H H'->Ξ (.ref x) s'
theorem Wx.dn {X:Cx}{ω:List (Gj×Obj)}{σ:St}{H H1:Hp}{c:Str}{Ξ:Gg->Gh->Prop}(w:Wx X ω σ H c Ξ)(g:Same H H1):Wx X ω σ H1 c Ξ:=⟨w.1,λC s1 H2 x H' s' a b d e=>w.2 C s1 H2 x H' s' a b d (g.trans e)⟩
def PGw (X:Cx){α:Type}(m:Sem α)(k:FX):Prop:=∀ (ω:List (Gj×Obj)) (s:Gh) (σ:St) (H H0 F:Hp) (ψ:En) (c:Str) (Ξ:Gg->Gh->Prop) (Q:α->Gh->Prop),
 Inv X ω σ H s->RS X.K H0 F H ψ σ->k ψ=Ga c->Wx X ω σ H c Ξ->wpAny (model X.prog X.w) X.A m Q Ξ s
abbrev PEw (X:Cx)(e:Expr)(k:FX):Prop:=PGw X (eval e X.env) k
abbrev PSw (X:Cx)(st:Stmt)(k:FX):Prop:=PGw X (exec st X.env) k
abbrev PSsw (X:Cx)(st:List Stmt)(k:FX):Prop:=PGw X (execs st X.env) k
section
variable {X:Cx}{k:Nat}{f:Gj}{fd:Gi}{ps:List Str}{x:Str}{p pos:Pos}{e:Expr}{es:List Expr}{g:FL}
theorem zDZ {kx:FX}{pos':Pos}{y:Str}(h:PEw X e kx)(hs:swapsWith e (Ga (.Name y pos')) pos.line X.env=pure false:=by rfl):PSw X (.Assign [.Name y pos'] e pos) kx :=
 λω s σ H H0 F ψ c Ξ Q I r e w=>wpAny_Assign_Name (wpAny_mono (h ω s σ H H0 F ψ c Ξ (λ_ _=>False) I r e w) (λ_ _ z=>z.elim) λ_ _ z=>z) hs
theorem zD0 {kx:FX}{st:Stmt}(h:PSw X st kx):PSsw X [st] kx :=
 λω s σ H H0 F ψ c Ξ Q I r e w=>wpAny_execs_cons (wpAny_mono (h ω s σ H H0 F ψ c Ξ (λ_ _=>False) I r e w) (λ_ _ z=>z.elim) λ_ _ z=>z)
end
end T3
namespace T3
open PySem PySem.Spec PyProof.Rows L2
abbrev Cx.inX (X:Cx)(v:Gg):Cx:={ X with A:=X.A.mark (Ga v),calm:=false }
section
variable {X:Cx}{ω:List (Gj×Obj)}{σ:St}{H H':Hp}{s s':Gh}{v:Gg}
theorem zuC (I:Inv X ω σ H s)(v:Gg):Inv (Cx.inX X v) ω σ H s :=
 ⟨⟨I.ok.mod,I.ok.kind,I.ok.glob,I.ok.blt,I.ok.above,I.ok.inj,I.ok.has,I.ok.cab,λz=>(by cases z),I.ok.frames,I.ok.stk,I.ok.exf,I.ok.bs,I.ok.bsz,I.ok.noex,I.ok.exfs,I.ok.funs,I.ok.frf⟩,I.os,I.bare,I.base,I.loc,I.cell,I.free,I.freeC,I.pin,I.hok,I.len⟩
theorem zzS (ok:X.Ok)(I:Inv (Cx.inX X v) ω σ H s):Inv X ω σ H s:=⟨ok,I.os,I.bare,I.base,I.loc,I.cell,I.free,I.freeC,I.pin,I.hok,I.len⟩
theorem zzT {M:Model}{A:Around}{E:Gg->Gh->Prop}{Q:Unit->Gh->Prop}{i:Nat}{n:Str}{pos:Pos}(I:Inv X ω σ H s)(hN:X.N.Nodup)(hi:X.N[i]?=Ga n)(hl:X.env.scope.names.lookup n=Ga .local)
  (h:∀ s2,Inv X ω (σ.set i Gb) H s2->Q () s2):wpAny M A (do bindName X.env n .none;unbindBehindTheSuite X.env n pos) Q E s:=by
 obtain⟨m,hn,hlo⟩:=id I.loc;have hcls:(X.env.scope.kind==.class||(X.env.scope.kind==.module&&X.env.locals !=X.env.globals))=false:=by rw[I.ok.kind];rfl
 refine wpAny_nameGoes_keeps hl hn hcls λh' v hn' hs=>h _ ?_;have neS:∀ b o,X.s₀.heap.get? b=Ga o->b≠X.env.locals:=λb o e=>jK (jq (jm e) I.ok.above);refine⟨I.ok,I.os,I.bare,⟨λb o e n hb hx=>(hs.2 b (neS b o e)).trans (I.base.keep b o e n hb hx),λb o e n hb hx=>?_,I.base.free,λb o e hx=>?_,I.base.tups,I.base.frzs,I.base.tbls⟩,⟨_,hn',λj y v' e1 e2 e3=>?_⟩,λy c e=>?_,I.free,I.freeC,λp hp=>?_,λb ob e=>?_,by simpa using I.len⟩
 .obtain⟨sl,q⟩:=I.base.slot b o e n hb hx;exact⟨sl,(hs.2 b (neS b o e)).trans q⟩
 .obtain⟨o',q⟩:=I.base.there b o e hx;exact⟨o',(hs.2 b (neS b o e)).trans q⟩
 .by_cases hj:j=i
  .subst hj;have:j<σ.length:=by rw[I.len];exact(ji.mp hi).1
   rw[jH this] at e2;cases e2
  .rw[jC (kX hj)] at e2;obtain⟨u',r',q⟩:=hlo j y v' e1 e2 e3;refine⟨u',r',?_⟩;have hy:y≠n:=λz=>hj (nodup_ix hN e1 (z▸hi));rcases q with ⟨k,e⟩|⟨k,c,e,z⟩
   .exact .inl ⟨k,(Gf hy).trans e⟩
   .exact .inr ⟨k,c,e,z.sameBut hs (I.cne y c e)⟩
 .obtain⟨w',z⟩:=I.cell y c e;exact⟨w',z.sameBut hs (I.cne y c e)⟩
 .obtain⟨e,n,ne,nf,d⟩:=I.pin p hp;exact⟨(hs.2 p.1 ne).trans e,n,ne,nf,d⟩
 .refine(I.hok b ob e).stay (λc w' hc q=>(hs.2 c ?_).trans q) (λ_ q=>q) λ_ _ q=>q;rintro rfl;rcases hc with rfl|hc
  .rw[I.free] at e;cases e
  .rw[I.free] at hc;cases hc
end
theorem RS.gone {K:ja}{H0 F H:Hp}{ψ:En}{σ:St}(r:RS K H0 F H ψ σ)(i:Nat):RS K H0 F H (ψ.set i .no) (σ.set i Gb):=by
 have look:∀ (j:Nat) (s:Sl),(ψ.set i .no)[j]?=Ga s->(j=i/\s=.no)\/(j≠i/\ψ[j]?=Ga s):=λj s e=>by
  by_cases h:i=j
  .subst h;rw[v3] at e;rw[Ge rfl] at e;split at e
   .cases e;exact .inl ⟨rfl,rfl⟩
   .cases e
  .rw[jC h] at e;exact .inr ⟨λz=>h z.symm,e⟩
 refine⟨r.h0,r.fh,λj s e=>?_,λj k a s t o1 o2 e1 e2 e3 e4=>?_⟩
 .rcases look j s e with ⟨rfl,rfl⟩|⟨nj,e⟩
  .have l:j<ψ.length:=by
    rw[v3] at e;rw[Ge rfl] at e;split at e
    .assumption
    .cases e
   obtain⟨u,z,_⟩:=r.sl j ψ[j] (jw l);have l2:j<σ.length:=(ji.mp z).1;exact⟨Gb,jH l2,trivial⟩
  .obtain⟨u,z,q⟩:=r.sl j s e;exact⟨u,by rw[jC (λz=>nj z.symm)];exact z,q⟩
 .rcases look j s e1 with ⟨rfl,rfl⟩|⟨nj,e1⟩
  .cases o1
  rcases look k t e2 with ⟨rfl,rfl⟩|⟨nk,e2⟩
  .cases o2
  rw[jC (λz=>nj z.symm)] at e3;rw[jC (λz=>nk z.symm)] at e4;exact r.ap j k a s t o1 o2 e1 e2 e3 e4
def EXC (mg:Str->Option Gg)(c:Str):FnC where
 C:=λf _ H=>∃ o C,H f=Ga (.frz o (.own f))/\mg c=Ga (.ref C)/\o.cls=.ref C/\o.dict=Gb/\vN o=true
 mono:=λf F F' H H' s z ⟨o,C,h1,h2⟩=>⟨o,C,z _ _ h1,h2⟩
theorem zwJ {prog:Program}{w:World}{A:Around}{E:Gg->Gh->Prop}{s:Gh}{K:ja}{x C B:Gj}{ox:Obj}{Q:Bool->Gh->Prop}(X:K.In s.heap)(I:Jy s.heap x ox C Gb)(hB:kS K (.ref C) (.ref B)=Ga true)(hbB:v7 K (.ref B) (.type "BaseException")=Ga true)
  (h:Q true s):wpAny (model prog w) A (excMatches (.ref x) (.ref B)) Q E s:=by
 obtain⟨t1,t2,t3⟩:=PySem.W.kit_cls (M:=model prog w) X hB;have L0:=I.type (M:=model prog w);have L4:=PySem.W.looks_subIn (M:=model prog w) X hbB;have f:=tc_notTuple;obtain⟨hh,g,d,t,os⟩:=s;unfold excMatches
 repeat (any_goals (first|assumption|with_reducible refine PySem.W.Looks.at (by assumption) ?_|wp_step))
open Classical in
noncomputable def tryS (g:FS)(k:FX)(cs:List Str)(i:Nat)(mk:Str->FnC)(gs:Str->FS):FS:=λψ=>match k ψ with
 | some c=>if c∈cs then(gs c (ψ.set i (.fn (mk c)))).bind λo=>match o with
  | .nx e=>Ga (.nx (e.set i .no))
  | _=>Gb
  else Gb
 | none=>g ψ
section
variable {X:Cx}{pos Bp hp:Pos}{body suite:List Stmt}{b₀:Stmt}{B n:Str}{Ba:Gj}{i:Nat}{g:FS}{k:FX}{cs:List Str}{gs:Str->FS}
theorem zD1 (hxe:∀ e s,¬X.xe e s)(hst:X.stack=X.env::X.outer/\X.env.frame=Ga X.env.locals)(hb:PSts X body g)(hw:PSsw X body k)(hB:X.mg B=Ga (.ref Ba))(hbB:v7 X.K (.ref Ba) (.type "BaseException")=Ga true)
  (hcl:∀ c∈cs,∃ C,X.mg c=Ga (.ref C)/\kS X.K (.ref C) (.ref Ba)=Ga true) (hs:∀ c∈cs,∀ v,PSts (Cx.inX X v) (b₀::suite) (gs c)) (hN:X.N.Nodup) (hi:X.N[i]?=Ga n:=by rfl) (hl:X.env.scope.names.lookup n=Ga .local:=by rfl) (hg:Gl X B:=by rfl)
  (hdb:(B==("__debug__":Str))=false:=by decide):PSt X (.Try body [.ExceptHandler (Ga (.Name B Bp)) (Ga n) (b₀::suite) hp] [] [] pos) (tryS g k cs i (EXC X.mg) gs):=by
 intro ω s σ H D I h;obtain⟨H0,F,ψ,o,r,e,p⟩:=h;refine wpAny_Try_except ?_;unfold tryS at e;cases hk:k ψ with
 | none =>
  rw[hk] at e;refine wpAny_mono (hb ω s σ H D I ⟨H0,F,ψ,o,r,e,p⟩) (λf s1 q=>?_) λe s z=>(hxe e s z).elim;cases f with
  | next=>exact wpAny_execs_nil q
  | brk=>exact q
  | cont=>exact q
  | ret u=>exact q
 | some c =>
  rw[hk] at e;dsimp only at e;split at e;rotate_left
  .cases e
  rename_i hc;obtain⟨o1,e1,e2⟩:=bind_some e;cases o1 with
  | nx env1 =>
   cases e2;obtain⟨C,hC,hkit⟩:=hcl c hc;refine hw ω s σ H H0 F ψ c _ _ I r hk ⟨⟨C,hC⟩,λC' s1 H1 x H' s' hm I1 W1 g1=>?_⟩;obtain rfl:C'=C:=by
    have q:=hm.symm.trans hC;cases q;rfl
   refine zBN I1 I1.ok.frames hst W1 λs2 W2=>?_;have J2:=W2.inv I1;refine wpAny_handleBy_cons (codeAny_handlers_test ?_) (by intro q;cases q);refine ld_glob (X:=Cx.inX X (.ref x)) (zuC J2 _) hg hB ?_ hdb;obtain⟨ox,hx1,hx2,hx3,hx4,hx5,hx6⟩:=W2.frz;refine zwJ J2.kIn ⟨hx1,hx2,hx4,by rw[hx3];trivial⟩ hkit hbB ?_;rw[Ge rfl];refine codeAny_handlers_suite_as ?_;refine zlP W2.ex λh3 t3 k3 _=>?_;have W3:=W2.kx I1 (k3 _) t3;obtain⟨oe,y1,y2,y3,y4,y5,y6,y7⟩:=W3.frz;have J4:Inv X ω σ (upd H' x (.frz oe (.own x))) { s2 with heap:=h3 }:=I1.call' (ch:=[]) W3.os y6 y7 W3.bare λb z=>absurd z (by simp);have g4:Same H (upd H' x (.frz oe (.own x))):=g1.trans (Same.new y5);have hiσ:i<σ.length:=by rw[I.len];exact(ji.mp hi).1
   refine store_ok (X:=Cx.inX X (.ref x)) (v:=.ref x) (zuC J4 _) hN hi (.inl hl) rfl (λs5 J5=>?_) (.inr hl);have r5:RS X.K H0 F (upd H' x (.frz oe (.own x))) (ψ.set i (.fn (EXC X.mg c))) (σ.set i (Ga (.ref x))):=by
    refine(r.later g4).putG hiσ ⟨x,rfl,oe,_,upd_same,hC,y2,y3,y4⟩ λj s os nj ej z=>?_;have q:=(r.later g4).sl j s ej;obtain⟨u,e3,q⟩:=q;rw[z] at e3;cases e3;cases s with
    | no=>cases os
    | val d=>cases os
    | tab P=>cases os
    | fn c=>cases os
    | owk a ds =>
     obtain⟨xs,e4,e5,_⟩:=q;cases e4;rw[upd_same] at e5;cases e5
    | own ds =>
     obtain⟨a,xs,e4,e5,_⟩:=q;cases e4;rw[upd_same] at e5;cases e5
    | dic ks =>
     obtain⟨a,as,ep,e4,e5,_⟩:=q;cases e4;rw[upd_same] at e5;cases e5
    | dki oa kvs =>
     obtain⟨a,ws,ep,e4,e5,_⟩:=q;cases e4;rw[upd_same] at e5;cases e5
   refine wpAny_mono (hs c hc (.ref x) ω s5 _ _ { nx:=λσ' H'=>D.nx (σ'.set i Gb) H',bk:=λ_ _=>False,ct:=λ_ _=>False,rt:=λ_ _=>False } J5 ⟨H0,F,_,_,r5,e1,λσ' H2 F2 f2 n2 r2=>p _ H2 F2 f2 n2 (r2.gone i)⟩) (λf s6 q=>?_) λe s z=>(hxe e s z).elim;cases f with
   | next =>
    obtain⟨σ',H2,J,q⟩:=q;exact zzT (zzS I.ok J) hN hi hl λs7 J7=>⟨_,H2,J7,q⟩
   | brk=>obtain⟨_,_,_,z⟩:=q;exact z.elim
   | cont=>obtain⟨_,_,_,z⟩:=q;exact z.elim
   | ret u=>obtain⟨_,_,_,_,_,z⟩:=q;exact z.elim
  | rt d=>cases e2
  | ro d=>cases e2
  | rm a d=>cases e2
  | rc a d=>cases e2
  | bk d=>cases e2
  | ct d=>cases e2
end
open Classical in
noncomputable def isiX (i:Nat)(fc:FnC)(b:Bool):FV:=λψ=>if ψ[i]?=Ga (.fn fc) then Ga (.bool b) else Gb
theorem zuD {i:Nat}{fc:FnC}{b:Bool}{ψ:En}{d:D}(h:isiX i fc b ψ=Ga d):ψ[i]?=Ga (.fn fc)/\d=.bool b:=by
 unfold isiX at h;split at h
 .rename_i e;cases h;exact⟨e,rfl⟩
 .cases h
section
variable {X:Cx}{pos:Pos}
theorem zuE:CallR X (.builtin "isinstance") (λxs H Q=>∃ f o C v b,xs=[.ref f,v]/\H f=Ga (.frz o (.own f))/\o.cls=.ref C/\o.dict=Gb/\vN o=true/\ExcK X.K C/\(∀ u,RelV v u->jR X.K (.ref C) u=Ga b)/\Q (.bl b) H):=by
 intro ω s σ H xs us Q I r h;obtain⟨f,o,C,v,b,rfl,hf,h1,h2,h3,W,hk,q⟩:=h;obtain⟨u,w',rfl,r1,r2⟩:=vals2 r;cases r1;have hx:=(I.hok f _ hf).1;exact Ju (zwI (ox:=o) W) I.kIn ⟨hx,h1,h3,by rw[h2];trivial⟩ (hk _ r2) (λz=>by cases z) λtk=>⟨.bl _,H,I.tok tk,rfl,q⟩
theorem zjR (i:Nat){en x:Str}{c:Str}{C:Gj}{v:V}{b:Bool}{p pe p2:Pos}(hg:Gl X "isinstance")(hm:X.mg "isinstance"=Gb)(hC:X.mg c=Ga (.ref C))(W:ExcK X.K C)(hk:∀ u,RelV v u->jR X.K (.ref C) u=Ga b)(hB:PE X (.Name x p2) (tC v))
  (hN:X.N[i]?=Ga en:=by rfl) (hv:Vis X.env.scope en:=by first|exact uj rfl|exact kG (uj rfl)|exact kG (kG rfl)) (hd:(en==("__debug__":Str))=false:=by decide) (hcd:(en==("__classdict__":Str))=false:=by decide)
  (hs:starEach [.Name en pe,.Name x p2] X.env=(false,eval (.Name en pe) X.env)::starEach [.Name x p2] X.env:=by rfl) (hs2:starEach [.Name x p2] X.env=[(false,eval (.Name x p2) X.env)]:=by rfl) :
  PV X (.Call (.Name "isinstance" p) [.Name en pe,.Name x p2] [] pos) (isiX i (EXC X.mg c) b):=by
 refine za7 (pe_callB zuE hg hm boot_isinstance (pa_cons (pe_var hN hv hd hcd) (pa_cons hB pa_nil hs2) hs) (by decide) (by decide) hs (by rw[hs2];rfl)) λσ H Q=>?_;rintro⟨H0,F,ψ,d,r,e,q⟩;obtain⟨e1,rfl⟩:=zuD e;obtain⟨u,e2,f,rfl,o,C',h1,h2,h3,h4,h5⟩:=r.sl i _ e1;obtain rfl:C'=C:=by
  have z:=h2.symm.trans hC;cases z;rfl
 exact⟨.ref f,e2,f,o,_,v,b,rfl,h1,h3,h4,h5,W,hk,q _ H F (.refl _) (.refl _) r.fh (.refl _ _) (.bl _)⟩
end
end T3
namespace T3
open PySem PySem.Spec PyProof.Rows L2
def gsL (l:List (Str×FS))(c:Str):FS:=(l.lookup c).getD λ_=>Gb
theorem zzU {X:Cx}{st:List Stmt}:∀ c∈(([]:List (Str×FS)).map (·.1)),∀ v,PSts (Cx.inX X v) st (gsL [] c):=λc h=>by cases h
theorem zn9 {X:Cx}{st:List Stmt}{c:Str}{g:FS}{l:List (Str×FS)}(h:∀ v,PSts (Cx.inX X v) st g)(hr:∀ c∈l.map (·.1),∀ v,PSts (Cx.inX X v) st (gsL l c)):∀ c'∈((c,g)::l).map (·.1),∀ v,PSts (Cx.inX X v) st (gsL ((c,g)::l) c'):=λc' hc v=>by
 by_cases e:c'=c
 .subst e;unfold gsL;rw[jY,beq_self_eq_true];exact h v
 .have hc':c'∈l.map (·.1):=by
   rcases jt.mp hc with z|z
   .exact absurd z e
   .exact z
  have q:=hr c' hc' v;unfold gsL at q ⊢;rw[jY,show(c'==c)=false from beq_eq_false_iff_ne.mpr e];exact q
def isStrK (e:DictEntry):Bool:=match e.key with
 | .str _ _=>true
 | _=>false
theorem strK {es:Array DictEntry}(h:es.toList.all isStrK=true):StrKeys es:=λe he=>by
 have q:=jF.mp h e (Array.mem_def.mp he);unfold isStrK at q;split at q
 .rename_i n t z;exact⟨n,t,z⟩
 .cases q
abbrev VE:List Gg:=[.type "ValueError",.type "Exception",.type "BaseException",.type "object"]
structure ClsF (K:ja)(c:Str)(C:Gj):Prop where
 ek:ExcK K C
 own:∀ (mg:Str->Option Gg) (base:Heap),K.In base->mg c=Ga (.ref C)->OwnCls c C VE "ValueError.__new__" mg base
structure ClsT (K:ja)(mg:Str->Option Gg)(c:Str)(C:Gj):Prop where
 m:mg c=Ga (.ref C)
 f:ClsF K c C
structure ClsM (K:ja)(mg:Str->Option Gg)(c:Str)(C:Gj):Prop where
 m:mg c=Ga (.ref C)
theorem zqQ {X:Cx}{Ba:Gj}{c:Str}{cs:List Str}(h:∃ C,X.mg c=Ga (.ref C)/\kS X.K (.ref C) (.ref Ba)=Ga true)(hr:∀ c∈cs,∃ C,X.mg c=Ga (.ref C)/\kS X.K (.ref C) (.ref Ba)=Ga true) :
  ∀ c'∈c::cs,∃ C,X.mg c'=Ga (.ref C)/\kS X.K (.ref C) (.ref Ba)=Ga true:=λc' hc=>by
 rcases jt.mp hc with rfl|z
 .exact h
 .exact hr c' z
theorem ns_K {K:ja}{h:Heap}{N:Gj}{c:Gg}{d:Option Gj}{es:Array DictEntry}{ep:Nat}{sl:Array (Option Gg)}(X:K.In h)(e:K.lookup N=Ga ⟨c,d,.dict es ep,sl⟩)(k:StrKeys es):h.Ns N (λn=>nsFind es n):=⟨_,es,ep,X _ _ e,rfl,k,λ_=>rfl⟩
theorem zzV {K:ja}{c nm q:Str}{C N A:Gj}{bs sub:List Gg}{hdct ab:Bool}{sn:List Str}{col:Option Bool}{dd:Option Gj}{k0 k1 k2 k3 k5:Option Gg}{c1 c2 c3:Gg}{d1 d2 d3:Option Gj}{es1 es2:Array DictEntry}{ep1 ep2:Nat}{sl1 sl2 sl3:Array (Option Gg)}{cd:ClassData}
  (h1:K.lookup C=Ga (excClassObj nm q C N bs (.ref A::VE) hdct sn sub ab col dd k0 k1 k2 k3 k5 "ValueError.__new__")) (h2:K.lookup N=Ga ⟨c1,d1,.dict es1 ep1,sl1⟩) (s2:StrKeys es1) (i2:nsFind es1 "__init__"=Gb)
  (h3:K.lookup A=Ga { cls:=c3,dict:=d3,data:=.cls cd,slots:=sl3 }) (h4:K.lookup cd.ns=Ga ⟨c2,d2,.dict es2 ep2,sl2⟩) (s4:StrKeys es2) (i4:nsFind es2 "__init__"=Gb) (E:ExcK K C):ClsF K c C :=
 ⟨E,λmg base X m=>⟨m,_,_,_,_,_,_,_,_,_,_,_,_,_,_,_,_,_,X _ _ h1,ns_K X h2 s2,i2,.own (X _ _ h3) (ns_K X h4 s4) i4 .base⟩⟩
section
variable {P:Program}{w:World}{K:ja}{mg:Str->Option Gg}{base:Heap}{x qual:Str}{st:Stmt}{f:Gj}{N ps:List Str}
theorem zrF {cdv:Gg}{A:Around}{outer:List Env}{s:Gh}{H:Hp}{E:XK}{cn:Str}{C:Gj}{np cpos pos spos:Pos}{msg:Str}{j:Nat}(T:ClsT K mg cn C)
  (hg:(defScope st).names.lookup cn=Ga .globalImplicit:=by rfl) (hdb:(cn==("__debug__":Str))=false:=by decide) :
  PSx (cxOf (CX1 P w) P w K mg base N qual (defScope st) f cdv A outer s H E) E (.Raise (Ga (.Call (.Name cn np) [.Constant (.str msg) j spos] [] cpos)) Gb pos) (raX cn) :=
 λω s1 σ H1 D I h=>zzR (T.f.own mg base I.ok.mod.kin T.m) PySem.F.excBase_ValueError hg hdb ω s1 σ H1 D I h
end
section
variable {prog:Program}{w:World}{A:Around}{E:Gg->Gh->Prop}
end
section
variable {X:Cx}{pos:Pos}
end
end T3
namespace T3
noncomputable section
open PySem L2
def cstN (d:D):FV:=λψ=>Ga d
theorem zBO (d:D)(ψ:En):cstN d ψ=Ga d:=(rfl)
def binN (op:D->D->Option D)(f g:FV):FV:=λψ=>(f ψ).bind λx=>(g ψ).bind λy=>op x y
theorem zBP (op:D->D->Option D)(f g:FV)(ψ:En):binN op f g ψ=(f ψ).bind λx=>(g ψ).bind λy=>op x y:=(rfl)
def unN (op:D->Option D)(f:FV):FV:=λψ=>(f ψ).bind op
theorem zD2 (op:D->Option D)(f:FV)(ψ:En):unN op f ψ=(f ψ).bind op:=(rfl)
def unLN (op:List D->Option D)(f:FL):FV:=λψ=>(f ψ).bind op
theorem zBQ (op:List D->Option D)(f:FL)(ψ:En):unLN op f ψ=(f ψ).bind op:=(rfl)
def tstN (f:FV):FB:=λψ=>(f ψ).bind tru
theorem zBR (f:FV)(ψ:En):tstN f ψ=(f ψ).bind tru:=(rfl)
def zaQ (op:D->D->Option D)(f g:FV):FB:=λψ=>((f ψ).bind λx=>(g ψ).bind λy=>op x y).bind toB
theorem zzW (op:D->D->Option D)(f g:FV)(ψ:En):zaQ op f g ψ=((f ψ).bind λx=>(g ψ).bind λy=>op x y).bind toB:=(rfl)
def zc8 (f:FB):FB:=λψ=>(f ψ).bind λc=>Ga (!c)
theorem zzX (f:FB)(ψ:En):zc8 f ψ=(f ψ).bind λc=>Ga (!c):=(rfl)
def zeY (f g:FB):FB:=λψ=>(f ψ).bind λc=>if c then g ψ else Ga false
theorem zzY (f g:FB)(ψ:En):zeY f g ψ=(f ψ).bind λc=>if c then g ψ else Ga false:=(rfl)
def orBN (f g:FB):FB:=λψ=>(f ψ).bind λc=>if c then Ga true else g ψ
theorem zBS (f g:FB)(ψ:En):orBN f g ψ=(f ψ).bind λc=>if c then Ga true else g ψ:=(rfl)
def zsE (f g:FV):FV:=λψ=>((f ψ).bind toB).bind λc=>if c then g ψ else Ga (.bool false)
theorem zzZ (f g:FV)(ψ:En):zsE f g ψ=((f ψ).bind toB).bind λc=>if c then g ψ else Ga (.bool false):=(rfl)
def zqR (f:FV):FV:=λψ=>((f ψ).bind toB).bind λc=>Ga (.bool (!c))
theorem zz0 (f:FV)(ψ:En):zqR f ψ=((f ψ).bind toB).bind λc=>Ga (.bool (!c)):=(rfl)
def ifVN (c:FB)(f g:FV):FV:=λψ=>(c ψ).bind λk=>if k then f ψ else g ψ
theorem zBT (c:FB)(f g:FV)(ψ:En):ifVN c f g ψ=(c ψ).bind λk=>if k then f ψ else g ψ:=(rfl)
def zoA (k k':D->D->Option D)(f g h:FV):FV:=λψ=>(f ψ).bind λx=>(g ψ).bind λy=>((k x y).bind toB).bind λt=>if t then(h ψ).bind λz=>k' y z else Ga (.bool false)
theorem zuF (k k':D->D->Option D)(f g h:FV)(ψ:En):zoA k k' f g h ψ=(f ψ).bind λx=>(g ψ).bind λy=>((k x y).bind toB).bind λt=>if t then(h ψ).bind λz=>k' y z else Ga (.bool false):=(rfl)
def zuG (k k':D->D->Option D)(f g h:FV):FB:=λψ=>((f ψ).bind λx=>(g ψ).bind λy=>((k x y).bind toB).bind λt=>if t then(h ψ).bind λz=>k' y z else Ga (.bool false)).bind toB
theorem zuH (k k':D->D->Option D)(f g h:FV)(ψ:En):zuG k k' f g h ψ=((f ψ).bind λx=>(g ψ).bind λy=>((k x y).bind toB).bind λt=>if t then(h ψ).bind λz=>k' y z else Ga (.bool false)).bind toB:=(rfl)
def zaE :FL:=λψ=>Ga []
theorem zz1  (ψ:En):zaE ψ=Ga []:=(rfl)
def zaA (f:FV)(g:FL):FL:=λψ=>(f ψ).bind λd=>(g ψ).bind λds=>Ga (d::ds)
theorem zwK (f:FV)(g:FL)(ψ:En):zaA f g ψ=(f ψ).bind λd=>(g ψ).bind λds=>Ga (d::ds):=(rfl)
def zcU (g:FL):FV:=λψ=>(g ψ).bind λds=>Ga (.tuple ds)
theorem zz2 (g:FL)(ψ:En):zcU g ψ=(g ψ).bind λds=>Ga (.tuple ds):=(rfl)
def zbJ (g:FL):FV:=λψ=>(g ψ).bind λds=>Ga (.list ds)
theorem zz3 (g:FL)(ψ:En):zbJ g ψ=(g ψ).bind λds=>Ga (.list ds):=(rfl)
def zaG (fm:List D->Option D)(g:FL):FV:=λψ=>(g ψ).bind fm
theorem zwL (fm:List D->Option D)(g:FL)(ψ:En):zaG fm g ψ=(g ψ).bind fm:=(rfl)
def zfI (fm:List D->Option (List D))(g:FL):FL:=λψ=>(g ψ).bind fm
theorem zwM (fm:List D->Option (List D))(g:FL)(ψ:En):zfI fm g ψ=(g ψ).bind fm:=(rfl)
def shVN (f:FV):FL:=λψ=>(f ψ).bind toL
theorem zBU (f:FV)(ψ:En):shVN f ψ=(f ψ).bind toL:=(rfl)
def tL1N (f:FV):FL:=λψ=>(f ψ).bind toT
theorem zBV (f:FV)(ψ:En):tL1N f ψ=(f ψ).bind toT:=(rfl)
def zz4 (f:FL):FL:=λψ=>(f ψ).bind λxs=>Ga xs.reverse
theorem zz5 (f:FL)(ψ:En):zz4 f ψ=(f ψ).bind λxs=>Ga xs.reverse:=(rfl)
def zc3 (f:FV):FL:=λψ=>(f ψ).bind toS
theorem zz6 (f:FV)(ψ:En):zc3 f ψ=(f ψ).bind toS:=(rfl)
def zhJ (op:D->Option (List D))(f:FV):FL:=λψ=>(f ψ).bind op
theorem zz7 (op:D->Option (List D))(f:FV)(ψ:En):zhJ op f ψ=(f ψ).bind op:=(rfl)
def zz8 (op:D->D->Option (List D))(f g:FV):FL:=λψ=>(f ψ).bind λx=>(g ψ).bind λy=>op x y
theorem zz9 (op:D->D->Option (List D))(f g:FV)(ψ:En):zz8 op f g ψ=(f ψ).bind λx=>(g ψ).bind λy=>op x y:=(rfl)
def zeZ (i:Nat)(f:FV):FS:=λψ=>(go i ψ).bind λds=>(f ψ).bind λd=>(toL d).bind λes=>(extL ds es).bind λrs=>Ga (.nx (ψ.set i (.own rs)))
theorem zAa (i:Nat)(f:FV)(ψ:En):zeZ i f ψ=(go i ψ).bind λds=>(f ψ).bind λd=>(toL d).bind λes=>(extL ds es).bind λrs=>Ga (.nx (ψ.set i (.own rs))):=(rfl)
def zrG (f:FL):FL:=λψ=>(f ψ).bind sortD
theorem zwN (f:FL)(ψ:En):zrG f ψ=(f ψ).bind sortD:=(rfl)
def ixSN (f:FL)(g:FV):FV:=λψ=>(f ψ).bind λx=>(g ψ).bind λy=>dIxL x y
theorem zBW (f:FL)(g:FV)(ψ:En):ixSN f g ψ=(f ψ).bind λx=>(g ψ).bind λy=>dIxL x y:=(rfl)
def slVN (f:FV)(g h:FP):FV:=λψ=>(f ψ).bind λx=>(g ψ).bind λl=>(h ψ).bind λu=>dSl x l u
theorem zBX (f:FV)(g h:FP)(ψ:En):slVN f g h ψ=(f ψ).bind λx=>(g ψ).bind λl=>(h ψ).bind λu=>dSl x l u:=(rfl)
def noPN :FP:=λψ=>Ga Gb
theorem zBY  (ψ:En):noPN ψ=Ga Gb:=(rfl)
def zcJ (f:FV):FP:=λψ=>(f ψ).bind toI
theorem zwO (f:FV)(ψ:En):zcJ f ψ=(f ψ).bind toI:=(rfl)
def nxSN :FS:=λψ=>Ga (.nx ψ)
theorem zBZ  (ψ:En):nxSN ψ=Ga (.nx ψ):=(rfl)
def zwP :FS:=λψ=>Gb
theorem zAb  (ψ:En):zwP ψ=Gb:=(rfl)
def zaH (g k:FS):FS:=λψ=>thenD (g ψ) k
theorem zAc (g k:FS)(ψ:En):zaH g k ψ=thenD (g ψ) k:=(rfl)
def zbS (f:FV):FS:=λψ=>(f ψ).bind λd=>Ga (.rt d)
theorem zAd (f:FV)(ψ:En):zbS f ψ=(f ψ).bind λd=>Ga (.rt d):=(rfl)
def zkD (f:FL):FS:=λψ=>(f ψ).bind λd=>Ga (.ro d)
theorem zAe (f:FL)(ψ:En):zkD f ψ=(f ψ).bind λd=>Ga (.ro d):=(rfl)
def ifSN (c:FB)(g k:FS):FS:=λψ=>(c (frz ψ)).bind λt=>if t then g ψ else k ψ
theorem zB0 (c:FB)(g k:FS)(ψ:En):ifSN c g k ψ=(c (frz ψ)).bind λt=>if t then g ψ else k ψ:=(rfl)
def zaK (i:Nat)(f:FV):FS:=λψ=>(f ψ).bind λd=>Ga (.nx (ψ.set i (.val d)))
theorem zAf (i:Nat)(f:FV)(ψ:En):zaK i f ψ=(f ψ).bind λd=>Ga (.nx (ψ.set i (.val d))):=(rfl)
def zfG (i:Nat)(f:FL):FS:=λψ=>(f ψ).bind λd=>Ga (.nx (ψ.set i (.own d)))
theorem zAg (i:Nat)(f:FL)(ψ:En):zfG i f ψ=(f ψ).bind λd=>Ga (.nx (ψ.set i (.own d))):=(rfl)
def ziN (i:Nat)(g:FS):FS:=λψ=>(g ψ).bind λo=>Ga (frzO i o)
theorem zAh (i:Nat)(g:FS)(ψ:En):ziN i g ψ=(g ψ).bind λo=>Ga (frzO i o):=(rfl)
def zAi (i:Nat)(g:FS):FS:=λψ=>g (frzAt i ψ)
theorem zAj (i:Nat)(g:FS)(ψ:En):zAi i g ψ=g (frzAt i ψ):=(rfl)
def zwQ (i:Nat)(f:FV):FS:=λψ=>(go i ψ).bind λds=>(f ψ).bind λd=>if ds.length<1000000 then Ga (.nx (ψ.set i (.own (ds++[d])))) else Gb
theorem zAk (i:Nat)(f:FV)(ψ:En):zwQ i f ψ=(go i ψ).bind λds=>(f ψ).bind λd=>if ds.length<1000000 then Ga (.nx (ψ.set i (.own (ds++[d])))) else Gb:=(rfl)
def zhP (f:FL)(t:FT)(g:FS):FS:=λψ=>(f ψ).bind λds=>forD t g ds ψ
theorem zAl (f:FL)(t:FT)(g:FS)(ψ:En):zhP f t g ψ=(f ψ).bind λds=>forD t g ds ψ:=(rfl)
def zB1 (i:Nat):FS:=λψ=>Ga (.nx (ψ.set i (.dki Gb [])))
theorem zAm (i:Nat)(ψ:En):zB1 i ψ=Ga (.nx (ψ.set i (.dki Gb []))):=(rfl)
def tgNN (i:Nat):FT:=λd ψ=>Ga (ψ.set i (.val d))
theorem zB2 (i:Nat)(d:D)(ψ:En):tgNN i d ψ=Ga (ψ.set i (.val d)):=(rfl)
theorem zsF (d:D)(k:FS):thenD (Ga (.rt d)) k=Ga (.rt d):=(rfl)
theorem zsG (d:List D)(k:FS):thenD (Ga (.ro d)) k=Ga (.ro d):=(rfl)
theorem zsH (e:En)(k:FS):thenD (Ga (.nx e)) k=k e:=(rfl)
theorem zsI:frz []=[]:=(rfl)
theorem zqS (s:Sl)(e:En):frz (s::e)=frz1 s::frz e:=(rfl)
theorem zwR:frz1 .no=.no:=(rfl)
theorem zuI (d:D):frz1 (.val d)=.val d:=(rfl)
theorem zuJ (d:List D):frz1 (.own d)=.val (.list d):=(rfl)
theorem zuK (a:Option Gj)(d:List (Int×D)):frz1 (.dki a d)=.val (diD d):=(rfl)
theorem zB3 (d:D)(e:En):gv 0 (.val d::e)=Ga d:=(rfl)
theorem zAn (x s:Sl)(e:En):List.set (x::e) 0 s=s::e:=(rfl)
theorem zB4 (x:Sl)(e:En):slv (x::e)[0]?=slv (Ga x):=(rfl)
theorem zB5 (a0:Sl)(d:D)(e:En):gv 1 (a0::.val d::e)=Ga d:=(rfl)
theorem zAo (a0:Sl)(x s:Sl)(e:En):List.set (a0::x::e) 1 s=a0::s::e:=(rfl)
theorem zB6 (a0:Sl)(x:Sl)(e:En):slv (a0::x::e)[1]?=slv (Ga x):=(rfl)
theorem zB7 (a0 a1:Sl)(d:D)(e:En):gv 2 (a0::a1::.val d::e)=Ga d:=(rfl)
theorem zAp (a0 a1:Sl)(x s:Sl)(e:En):List.set (a0::a1::x::e) 2 s=a0::a1::s::e:=(rfl)
theorem zB8 (a0 a1:Sl)(d:List D)(e:En):frzAt 2 (a0::a1::.own d::e)=a0::a1::.val (.list d)::e:=(rfl)
theorem zB9 (a0 a1:Sl)(x:Sl)(e:En):slv (a0::a1::x::e)[2]?=slv (Ga x):=(rfl)
theorem zCa (a0 a1 a2:Sl)(d:D)(e:En):gv 3 (a0::a1::a2::.val d::e)=Ga d:=(rfl)
theorem zCb (a0 a1 a2:Sl)(d:List D)(e:En):go 3 (a0::a1::a2::.own d::e)=Ga d:=(rfl)
theorem zCc (a0 a1 a2:Sl)(d:List D)(e:En):gl 3 (a0::a1::a2::.own d::e)=Ga d:=(rfl)
theorem zAq (a0 a1 a2:Sl)(x s:Sl)(e:En):List.set (a0::a1::a2::x::e) 3 s=a0::a1::a2::s::e:=(rfl)
theorem zCd (a0 a1 a2:Sl)(d:List D)(e:En):frzAt 3 (a0::a1::a2::.own d::e)=a0::a1::a2::.val (.list d)::e:=(rfl)
theorem zCe (a0 a1 a2:Sl)(x:Sl)(e:En):slv (a0::a1::a2::x::e)[3]?=slv (Ga x):=(rfl)
theorem zCf (a0 a1 a2 a3:Sl)(d:D)(e:En):gv 4 (a0::a1::a2::a3::.val d::e)=Ga d:=(rfl)
theorem zCg (a0 a1 a2 a3:Sl)(d:List D)(e:En):go 4 (a0::a1::a2::a3::.own d::e)=Ga d:=(rfl)
theorem zCh (a0 a1 a2 a3:Sl)(d:List D)(e:En):gl 4 (a0::a1::a2::a3::.own d::e)=Ga d:=(rfl)
theorem zAr (a0 a1 a2 a3:Sl)(x s:Sl)(e:En):List.set (a0::a1::a2::a3::x::e) 4 s=a0::a1::a2::a3::s::e:=(rfl)
theorem zCi (a0 a1 a2 a3:Sl)(d:List D)(e:En):frzAt 4 (a0::a1::a2::a3::.own d::e)=a0::a1::a2::a3::.val (.list d)::e:=(rfl)
theorem zCj (a0 a1 a2 a3:Sl)(x:Sl)(e:En):slv (a0::a1::a2::a3::x::e)[4]?=slv (Ga x):=(rfl)
theorem zCk (a0 a1 a2 a3 a4:Sl)(d:D)(e:En):gv 5 (a0::a1::a2::a3::a4::.val d::e)=Ga d:=(rfl)
theorem zAs (a0 a1 a2 a3 a4:Sl)(x s:Sl)(e:En):List.set (a0::a1::a2::a3::a4::x::e) 5 s=a0::a1::a2::a3::a4::s::e:=(rfl)
theorem zCl (a0 a1 a2 a3 a4:Sl)(d:List D)(e:En):frzAt 5 (a0::a1::a2::a3::a4::.own d::e)=a0::a1::a2::a3::a4::.val (.list d)::e:=(rfl)
theorem zAt (a0 a1 a2 a3 a4:Sl)(q:Option Gj)(d:List (Int×D))(e:En):frzAt 5 (a0::a1::a2::a3::a4::.dki q d::e)=a0::a1::a2::a3::a4::.val (diD d)::e:=(rfl)
theorem zCm (a0 a1 a2 a3 a4:Sl)(x:Sl)(e:En):slv (a0::a1::a2::a3::a4::x::e)[5]?=slv (Ga x):=(rfl)
theorem zCn (a0 a1 a2 a3 a4 a5:Sl)(d:D)(e:En):gv 6 (a0::a1::a2::a3::a4::a5::.val d::e)=Ga d:=(rfl)
theorem zCo (a0 a1 a2 a3 a4 a5:Sl)(d:List D)(e:En):go 6 (a0::a1::a2::a3::a4::a5::.own d::e)=Ga d:=(rfl)
theorem zCp (a0 a1 a2 a3 a4 a5:Sl)(d:List D)(e:En):gl 6 (a0::a1::a2::a3::a4::a5::.own d::e)=Ga d:=(rfl)
theorem zAu (a0 a1 a2 a3 a4 a5:Sl)(x s:Sl)(e:En):List.set (a0::a1::a2::a3::a4::a5::x::e) 6 s=a0::a1::a2::a3::a4::a5::s::e:=(rfl)
theorem zCq (a0 a1 a2 a3 a4 a5 a6:Sl)(d:D)(e:En):gv 7 (a0::a1::a2::a3::a4::a5::a6::.val d::e)=Ga d:=(rfl)
theorem zAv (a0 a1 a2 a3 a4 a5 a6:Sl)(x s:Sl)(e:En):List.set (a0::a1::a2::a3::a4::a5::a6::x::e) 7 s=a0::a1::a2::a3::a4::a5::a6::s::e:=(rfl)
theorem zCr (a0 a1 a2 a3 a4 a5 a6:Sl)(d:List D)(e:En):frzAt 7 (a0::a1::a2::a3::a4::a5::a6::.own d::e)=a0::a1::a2::a3::a4::a5::a6::.val (.list d)::e:=(rfl)
theorem zCs (a0 a1 a2 a3 a4 a5 a6 a7:Sl)(d:D)(e:En):gv 8 (a0::a1::a2::a3::a4::a5::a6::a7::.val d::e)=Ga d:=(rfl)
theorem zAw (a0 a1 a2 a3 a4 a5 a6 a7:Sl)(x s:Sl)(e:En):List.set (a0::a1::a2::a3::a4::a5::a6::a7::x::e) 8 s=a0::a1::a2::a3::a4::a5::a6::a7::s::e:=(rfl)
theorem zCt (a0 a1 a2 a3 a4 a5 a6 a7 a8:Sl)(d:D)(e:En):gv 9 (a0::a1::a2::a3::a4::a5::a6::a7::a8::.val d::e)=Ga d:=(rfl)
theorem zAx (a0 a1 a2 a3 a4 a5 a6 a7 a8:Sl)(x s:Sl)(e:En):List.set (a0::a1::a2::a3::a4::a5::a6::a7::a8::x::e) 9 s=a0::a1::a2::a3::a4::a5::a6::a7::a8::s::e:=(rfl)
theorem zAy (a0 a1 a2 a3 a4 a5 a6 a7 a8 a9:Sl)(d:D)(e:En):gv 10 (a0::a1::a2::a3::a4::a5::a6::a7::a8::a9::.val d::e)=Ga d:=(rfl)
theorem zwS (a0 a1 a2 a3 a4 a5 a6 a7 a8 a9:Sl)(x s:Sl)(e:En):List.set (a0::a1::a2::a3::a4::a5::a6::a7::a8::a9::x::e) 10 s=a0::a1::a2::a3::a4::a5::a6::a7::a8::a9::s::e:=(rfl)
theorem zAz (a0 a1 a2 a3 a4 a5 a6 a7 a8 a9 a10:Sl)(d:D)(e:En):gv 11 (a0::a1::a2::a3::a4::a5::a6::a7::a8::a9::a10::.val d::e)=Ga d:=(rfl)
theorem zwT (a0 a1 a2 a3 a4 a5 a6 a7 a8 a9 a10:Sl)(x s:Sl)(e:En):List.set (a0::a1::a2::a3::a4::a5::a6::a7::a8::a9::a10::x::e) 11 s=a0::a1::a2::a3::a4::a5::a6::a7::a8::a9::a10::s::e:=(rfl)
def diSet (kvs:List (Int×D))(v:D):D->Option (List (Int×D))
 | .int n=>if kvs.length<1000000 then Ga (putD kvs n v) else Gb
 | _=>Gb
theorem zwU (kvs:List (Int×D))(v:D)(n:Int):diSet kvs v (.int n)=if kvs.length<1000000 then Ga (putD kvs n v) else Gb:=(rfl)
theorem zwV (i:Nat)(f g:FV)(ψ:En)(oa:Option Gj)(kvs:List (Int×D))(h:ψ[i]?=Ga (.dki oa kvs)):setI i f g ψ=(g ψ).bind λv=>(f ψ).bind λd=>(diSet kvs v d).bind λr=>Ga (.nx (ψ.set i (.dki oa r))):=by
 unfold setI
 congr 1;funext v;congr 1;funext d
 rw[h];cases d<;>try rfl
 show(if _ then _ else _)=(if _ then _ else _:Option _).bind _;split<;>rfl
theorem zwW (a0 a1 a2 a3 a4:Sl)(oa:Option Gj)(kvs:List (Int×D))(e:En)(f g:FV):setI 5 f g (a0::a1::a2::a3::a4::.dki oa kvs::e)=(g (a0::a1::a2::a3::a4::.dki oa kvs::e)).bind λv=>(f (a0::a1::a2::a3::a4::.dki oa kvs::e)).bind λd=>(diSet kvs v d).bind λr=>Ga (.nx (a0::a1::a2::a3::a4::.dki oa r::e)):=zwV _ _ _ _ _ _ rfl
theorem zsJ (e:En):prjE [] e=[]:=(rfl)
theorem zqT (i:Nat)(ix:List Nat)(e:En):prjE (i::ix) e=slv e[i]?::prjE ix e:=(rfl)
theorem zsK (d:D):slv (Ga (.val d))=.val d:=(rfl)
theorem zCu (i:Nat)(e:En):frzO i (.nx e)=.nx (frzAt i e):=(rfl)
theorem zAA (d:D):outV (Ga (.rt d))=Ga d:=(rfl)
theorem zAB (d:List D):outO (Ga (.ro d))=Ga d:=(rfl)
theorem zCv (b:Bool):toB (.bool b)=Ga b:=(rfl)
theorem zwX (b:Bool):tru (.bool b)=Ga b:=(rfl)
theorem zCw (d:List D):toL (.list d)=Ga d:=(rfl)
theorem zCx (d:List D):toT (.tuple d)=Ga d:=(rfl)
theorem zqU (d:List D):toS (.list d)=Ga d:=(rfl)
theorem zuL (d:List D):toS (.tuple d)=Ga d:=(rfl)
theorem zCy (i:Int):toI (.int i)=Ga (Ga i):=(rfl)
theorem zCz (i j:Int):dAdd (.int i) (.int j)=Ga (.int (i+j)):=(rfl)
theorem zCA (i j:Int):dSub (.int i) (.int j)=Ga (.int (i-j)):=(rfl)
theorem zCB (i:Int):dNeg (.int i)=Ga (.int (-i)):=(rfl)
theorem zD3 (i j:Int):dLt (.int i) (.int j)=Ga (.bool (decide (i<j))):=(rfl)
theorem zD4 (i j:Int):dLe (.int i) (.int j)=Ga (.bool (decide (i<=j))):=(rfl)
theorem zD5 (i j:Int):dGt (.int i) (.int j)=Ga (.bool (decide (j<i))):=(rfl)
theorem zD6 (i j:Int):dGe (.int i) (.int j)=Ga (.bool (decide (j<=i))):=(rfl)
theorem zAC (i j:Int):dMin2 (.int i) (.int j)=Ga (.int (if j<i then j else i)):=(rfl)
theorem zAD (i j:Int):dMax2 (.int i) (.int j)=Ga (.int (if j>i then j else i)):=(rfl)
theorem zCC (kvs:List (Int×D)):kvI (diD kvs)=Ga kvs:=zc7 kvs
theorem zwY (d:D):keysI d=(kvI d).bind λkvs=>Ga (kvs.map λp=>.int p.1):=(rfl)
theorem zCD (d:D)(k:Int):dIxI d (.int k)=(kvI d).bind λkvs=>atK kvs k:=(rfl)
theorem zAE (d:D):dLenI d=(kvI d).bind λkvs=>Ga (.int kvs.length):=(rfl)
theorem zCE (i j:Int):dXor (.int i) (.int j)=Ga (.int (vk i j)):=(rfl)
theorem zCF (i j:Int):dEq (.int i) (.int j)=Ga (.bool (decide (i=j))):=by rw[zi4];rfl
theorem zuM (i j:Int):dNe (.int i) (.int j)=Ga (.bool (decide (¬i=j))):=by rw[zn4];by_cases h:i=j<;>simp[h]
theorem zCG (d:List D)(i:Int):dIx (.tuple d) (.int i)=atI d i:=(rfl)
theorem zCH (d:List D)(i:Int):dIx (.list d) (.int i)=atI d i:=(rfl)
theorem zCI (d:List D)(i:Int):dIxL d (.int i)=atI d i:=(rfl)
theorem zwZ (x0 x1:D):atI [x0,x1] 0=Ga x0:=(rfl)
theorem zw0 (x0 x1:D):atI [x0,x1] 1=Ga x1:=(rfl)
theorem zw1 (x0 x1 x2:D):atI [x0,x1,x2] 1=Ga x1:=(rfl)
theorem zw2 (x0 x1 x2:D):atI [x0,x1,x2] 2=Ga x2:=(rfl)
theorem zAF (d:List D):dLen (.list d)=Ga (.int d.length):=(rfl)
theorem zAG (d:List D):dTupL d=Ga (.tuple d):=(rfl)
theorem zuN (c:FnC)(φ:D->Option D)(f:FV)(e:En):callF 0 c φ f (.fn c::e)=(f (.fn c::e)).bind φ:=Ge rfl
theorem zuO (c:FnC)(fm:List D->Option D)(g:FL)(e:En):callP 0 c fm g (.fn c::e)=(g (.fn c::e)).bind fm:=Ge rfl
theorem zuP (a0:Sl)(c:FnC)(fm:List D->Option D)(g:FL)(e:En):callP 1 c fm g (a0::.fn c::e)=(g (a0::.fn c::e)).bind fm:=Ge rfl
theorem zw3 (c:FnC):frz1 (.fn c)=.fn c:=(rfl)
theorem zuQ (c:FnC):slv (Ga (.fn c))=.fn c:=(rfl)
theorem zmU (x:List D):dIsT "tuple" (.tuple x)=Ga (.bool true):=(rfl)
theorem zw4 (x:Int):dIs (.int x) .none=Ga (.bool false):=(rfl)
theorem zpM (x:Int):dIsT "int" (.int x)=Ga (.bool true):=(rfl)
theorem zoB (x:Int):dIsT "bool" (.int x)=Ga (.bool false):=(rfl)
theorem zmV (x:Int):dIsT "tuple" (.int x)=Ga (.bool false):=(rfl)
theorem zsL {α:Type}(a b:α):(if false=true then a else b)=b:=Gf jy
def Goes (I:En->Prop)(o:Option Out):Prop:=∃ e,o=Ga (.nx e)/\I e
theorem zbV {I:En->Prop}{e:En}(h:I e):Goes I (Ga (.nx e)):=⟨e,rfl,h⟩
theorem zpN {I J:En->Prop}{o:Option Out}(h:Goes I o)(q:∀ e,I e->J e):Goes J o:=by
 obtain⟨e,rfl,hI⟩:=h;exact⟨e,rfl,q e hI⟩
theorem zoC {t:FT}{g:FS}{f:Nat->D}(I:Nat->En->Prop)(n:Nat)(st:∀ k,k<n->∀ ψ,I k ψ->Goes (I (k+1)) ((t (f k) ψ).bind g)):∀ (m a:Nat) (ψ:En),a+m=n->I a ψ->Goes (I n) (forD t g ((List.range' a m).map f) ψ)
 | 0,a,ψ,e,h=>by
  obtain rfl:a=n:=by omega
  exact⟨ψ,rfl,h⟩
 | m+1,a,ψ,e,h=>by
  obtain⟨e2,h1,h2⟩:=st a (by omega) ψ h;obtain⟨e1,x1,x2⟩:=kW.mp h1;obtain⟨z,y1,y2⟩:=zoC I n st m (a+1) e2 (by omega) h2;refine⟨z,?_,y2⟩;rw[List.range'_succ,jQ];unfold forD;rw[x1,jr,x2];exact y1
theorem zoD {t:FT}{g k:FS}{f:Nat->D}{ψ:En}{R:Option Out}(n:Nat)(I:Nat->En->Prop)(h0:I 0 ψ)(st:∀ k,k<n->∀ ψ,I k ψ->Goes (I (k+1)) ((t (f k) ψ).bind g))(q:∀ e,I n e->k e=R):thenD (forD t g ((jf n).map f) ψ) k=R:=by
 obtain⟨e,h1,h2⟩:=zoC I n st n 0 ψ (Nat.zero_add _) h0;rw[qO,h1];exact q e h2
theorem zkE {α:Type}{t:FT}{g:FS}(f:α->D)(I:List α->En->Prop)(as:List α)(st:∀ pre a suf,as=pre++a::suf->∀ ψ,I pre ψ->Goes (I (pre++[a])) ((t (f a) ψ).bind g)):∀ (suf pre:List α) (ψ:En),as=pre++suf->I pre ψ->Goes (I as) (forD t g (suf.map f) ψ)
 | [],pre,ψ,e,h=>⟨ψ,rfl,by rw[e,j7];exact h⟩
 | a::r,pre,ψ,e,h=>by
  obtain⟨e2,h1,h2⟩:=st pre a r e ψ h;obtain⟨e1,x1,x2⟩:=kW.mp h1;obtain⟨z,y1,y2⟩:=zkE f I as st r (pre++[a]) e2 (by rw[e,vq];rfl) h2;refine⟨z,?_,y2⟩;rw[jQ];unfold forD;rw[x1,jr,x2];exact y1
theorem zpO {α:Type}{t:FT}{g k:FS}{ψ:En}{R:Option Out}(f:α->D)(I:List α->En->Prop)(as:List α)(h0:I [] ψ)(st:∀ pre a suf,as=pre++a::suf->∀ ψ,I pre ψ->Goes (I (pre++[a])) ((t (f a) ψ).bind g))(q:∀ e,I as e->k e=R):thenD (forD t g (as.map f) ψ) k=R:=by
 obtain⟨e,h1,h2⟩:=zkE f I as st as [] ψ rfl h0;rw[h1];exact q e h2
theorem zuR {α:Type}{t:FT}{g:FS}{ψ:En}(f:α->D)(I:List α->En->Prop)(as:List α)(h0:I [] ψ)(st:∀ pre a suf,as=pre++a::suf->∀ ψ,I pre ψ->Goes (I (pre++[a])) ((t (f a) ψ).bind g)):Goes (I as) (forD t g (as.map f) ψ):=zkE f I as st as [] ψ rfl h0
theorem zbN (fi:FL)(fc:FB)(fe:FV)(ix:List Nat)(ψ:En):compF fi fc fe ix ψ=(fi ψ).bind λds=>if ds.length<=1000000 then compD fc fe (prjE ix ψ) ds else Gb:=(rfl)
end
end T3
namespace T3
open PySem PySem.Spec PyProof.Rows L2
def spXF (K:ja)(mg:Str->Option Gg)(c:FnC)(fx:List D->Option Str):Sp:=λvs H _ E=>∃ (F:Hp) (g:Gj) (us:List V) (ds:List D) (cn:Str),vs=.ref g::us/\c.C g F H/\Same F H/\Reps K F ds us/\fx ds=Ga cn/\Xw mg E cn H
def runXF (np n:Nat)(c:FnC)(k:FX)(ds:List D):Option Str:=if ds.length+1=np then k (startF n c ds) else Gb
section
variable {P:Program}{w:World}{K:ja}{mg:Str->Option Gg}{base:Heap}{x qual:Str}{st:Stmt}{f:Gj}{fd:Gi}{N ps:List Str}{k:Nat}{kx:FX}{c:FnC}
theorem okXF (F:Fun K x qual st f fd)(S:FnScope N ps (defScope st))
  (hb:∀ (cdv:Gg) (A:Around) (outer:List Env) (s:Gh) (H:Hp) (E:XK),Room k (A.deeper (envOfC qual (defScope st) s.heap.objs.size f cdv))->PSsx (cxOf (CX1 P w) P w K mg base N qual (defScope st) f cdv A outer s H E) E (defBody st) kx) :
  FnOk P w K mg base (CX1 P w) (k+1) f fd ps (spXF K mg c (runXF ps.length N.length c kx)):=by
 have hr0:∀ {ds:List D} {cn:Str},runXF ps.length N.length c kx ds=Ga cn->ds.length+1=ps.length/\kx (startF N.length c ds)=Ga cn:=λ{ds cn} h=>by
  unfold runXF at h;split at h
  .exact⟨by assumption,h⟩
  .cases h
 obtain⟨oc,od,kV,doc,pm,an,cdv,ct,osl,rfl,lk,hcd⟩:=F.ex;refine fn_of lk hcd S (λvs H Q E h=>?_) λA outer s H vs Q E hr h=>?_
 .obtain⟨F0,g0,us,ds,cn,rfl,_,_,r,e,_⟩:=h;rw[jJ,<- r.length];exact(hr0 e).1
 .obtain⟨F0,g0,us,ds,cn,rfl,hC,hs,r,e,w⟩:=h;exact⟨_,hb cdv A outer s H E hr,H,F0,_,cn,RS.startF hs r hC,(hr0 e).2,w⟩
end
open Classical in
noncomputable def clP (i:Nat)(c:FnC)(g:FL)(fx:List D->Option Str):FX:=λψ=>if ψ[i]?=Ga (.fn c) then(g ψ).bind fx else Gb
section
variable {X:Cx}{k:Nat}{f:Gj}{fd:Gi}{ps:List Str}{x:Str}{p pos:Pos}{es:List Expr}{g:FL}{c:FnC}
theorem zAH (i:Nat){y:Str}{py:Pos}{fx:List D->Option Str}(hxe:∀ e s,¬X.xe e s)(F:FnOk X.prog X.w X.K X.mg X.base (CX1 X.prog X.w) k f fd ps (spXF X.K X.mg c fx))(hr:Room k X.A)(hm:X.mg x=Ga (.ref f))(hk:kR X.K (.ref f)=true)(hb:Binds X.K fd ps [])(ha:PL X es g)(hg:Gl X x:=by rfl)
  (hN:X.N[i]?=Ga y:=by rfl) (hv:Vis X.env.scope y:=by first|exact uj rfl|exact kG (uj rfl)|exact kG (kG rfl)) (hd:(y==("__debug__":Str))=false:=by decide) (hcd:(y==("__classdict__":Str))=false:=by decide)
  (hdb:(x==("__debug__":Str))=false:=by decide) (he:starEach (.Name y py::es) X.env=(false,eval (.Name y py) X.env)::starEach es X.env:=by rfl) (hpl:(backTo pos (starEach es X.env)).any (·.1)=false:=by rfl) :
  PEw X (.Call (.Name x p) (.Name y py::es) [] pos) (clP i c g fx):=by
 intro ω s σ H H0 F0 ψ cn Ξ Q I r e1 w;unfold clP at e1;split at e1;rotate_left
 .cases e1
 rename_i hi;obtain⟨ds,e1,e2⟩:=bind_some e1;obtain⟨u,e3,h,e4,hh⟩:=r.sl i _ hi;subst e4;refine wpAny_Call_Name_kw (ld_glob I hg hm ?_ hdb);refine vK (h₀:=X.base) I.ok.mod.kin hk (wpAny_mono (pa_cons (pe_var (pos:=py) hN hv hd hcd) ha.pa he pos ω s σ H (λvs H1=>∃ F1 us,vs=.ref h::us/\c.C h F1 H1/\Reps X.K F1 ds us/\Same F1 H1/\Same H H1) I ⟨.ref h,e3,H0,F0,ψ,ds,r,e1,λvs H1 F1 g1 f1 fh1 n1 rv=>⟨F1,vs,rfl,c.mono _ _ _ _ _ f1 g1.fz hh,rv,fh1,g1⟩⟩) (λus s1 z=>?_) λe s z=>(hxe e s z).elim) he hpl;obtain⟨vs,H1,I1,rv,F1,us1,rfl,hC1,rr,fh1,g1⟩:=z;refine⟨I1.kIn,?_⟩;obtain⟨⟨C,hC⟩,w2⟩:=w;have sp:spXF X.K X.mg c fx (.ref h::us1) H1 (λ_ _=>False) (λcl _ H'=>cl=.ref C/\Same H1 H'):=⟨F1,h,us1,ds,cn,rfl,hC1,fh1,rr,e2,C,hC,λH' q=>⟨rfl,q⟩⟩;have hl:(us++[]).length=ps.length:=by rw[j7,<- rv.length];exact F.len _ _ _ _ sp
 refine wpAny_call (codeAny_mono (F.run X.A X.stack s1 H1 ⟨us,[]⟩ (us++[]) (.ref h::us1) (λ_ _=>False) _ hr I1.env0 (hb s1 us I1.kIn hl) (by rw[j7];exact rv) sp) λr s' hq=>?_);cases r with
 | error e =>
  obtain⟨x,C',H',rfl,os,bare,u,hok,t,hE,same⟩:=hq;cases hE;exact w2 _ s1 H1 x H' s' hC I1 ⟨os,bare,u,hok,t⟩ (g1.trans same)
 | ok fl =>
  cases fl with
  | ret u=>obtain⟨_,_,_,_,z⟩:=I1.after hq;exact z.elim
  | next=>exact False.elim hq
  | brk=>exact False.elim hq
  | cont=>exact False.elim hq
end
end T3
set_option maxHeartbeats 4000000
namespace T3
open PySem PySem.Spec PyProof.Rows L2
theorem fO {N P:List Str}{sc:Scope}(h:sc.kind=.function/\sc.isCoroutine=false/\sc.isGenerator=false/\N.Nodup/\N.take P.length=P/\(∀ x∈P,sc.names.lookup x=Ga .local\/sc.names.lookup x=Ga .cell)/\∀ y∈sc.names,y.2≠.free):FnScope N P sc:=⟨h.1,h.2.1,h.2.2.1,h.2.2.2.1,h.2.2.2.2.1,h.2.2.2.2.2.1,h.2.2.2.2.2.2⟩
theorem cO {N P N':List Str}{osc osc' scope:Scope}{x:Str}{fr:List Str}{ix:List Nat}(_:FnScope N P osc)(h:scope.kind=.function/\(∀ y∈scope.names,y.2≠.cell)/\(∀ y∈scope.names,y.2=.local->scope.names.lookup y.1=Ga .local)/\scope.names.lookup x=Ga .local/\(∀ y∈scope.names,y.2=.free->osc.names.lookup y.1=Ga .cell\/osc.names.lookup y.1=Ga .free)/\(∀ y∈fr,scope.names.lookup y=Ga .free)/\fr.length=ix.length/\(∀ p∈ix.zip fr,N[p.1]?=Ga p.2)/\ix.Nodup)(e1:N=N':=by rfl)(e2:osc=osc':=by rfl):CompSc N' osc' scope x fr ix:=by
 subst e1 e2;obtain⟨h1,h2,h3,h4,h5,h6,h7,h8,h9⟩:=h;exact⟨h1,h2,h3,h4,h5,h6,h7,λj i y a b=>h8 (i,y) (ky (List.getElem?_zip_eq_some.mpr ⟨a,b⟩)),h9⟩
theorem cV {P:Program}{w:World}{K:ja}{mg:Str->Option Gg}{base:Heap}{k:Nat}{f:Gj}{fd:Gi}{ps:List Str}{fm fm':List D->Option D}(h:FnOk P w K mg base CX0 k f fd ps (spV K fm'))(e:fm'=fm):FnOk P w K mg base CX0 k f fd ps (spV K fm):=e▸h
theorem cW {P:Program}{w:World}{K:ja}{mg:Str->Option Gg}{base:Heap}{k:Nat}{f:Gj}{fd:Gi}{ps:List Str}{fm fm':List D->Option (List D)}(h:FnOk P w K mg base CX0 k f fd ps (spO K fm'))(e:fm'=fm):FnOk P w K mg base CX0 k f fd ps (spO K fm):=e▸h
section
variable {X:Cx}{k j:Nat}{f:Gj}{fd:Gi}{ps:List Str}{x:Str}{st:Stmt}{p pos:Pos}{e:Expr}{es:List Expr}{g:FL}
theorem vc {fm:List D->Option D}(F:FnOk X.prog X.w X.K X.mg X.base CX0 k f fd ps (spV X.K fm))(W:Fn X.K X.mg x st ps f fd)(hr:Room j X.A)(ha:PL X (e::es) g)(hk:k<=j:=by decide)(hg:Gl X x:=by rfl)
  (hdb:(x==("__debug__":Str))=false:=by decide) (he:starEach (e::es) X.env=(false,eval e X.env)::starEach es X.env:=by rfl) (hpl:(backTo pos (starEach es X.env)).any (·.1)=false:=by rfl) :
  PV X (.Call (.Name x p) (e::es) [] pos) (λψ=>(g ψ).bind fm):=zpA F (hr.mono hk) W.m W.F.kp W.b ha hg hdb he hpl
end
end T3
namespace Law
noncomputable section
open PySem PySem.Spec PyProof.Rows L2 T3
def top (i:Nat):Stmt:=PySem.Challenge.pw_roundfall_k54_broken_refused.main.body.getD i (.Pass ⟨0,0,0,0⟩)
abbrev zhQ:Stmt:=top 6
abbrev zkF:Stmt:=top 7
abbrev zhR:Stmt:=top 8
abbrev zi6:Stmt:=top 9
abbrev zhS:Stmt:=top 10
abbrev zgF:Stmt:=top 15
abbrev ze0:Stmt:=top 16
abbrev zfS:Stmt:=top 17
abbrev zi7:Stmt:=top 18
abbrev zeF:Stmt:=top 19
abbrev zgG:Stmt:=top 20
abbrev ze1:Stmt:=top 21
abbrev zl1:Stmt:=top 22
abbrev zgH:Stmt:=top 23
abbrev zl2:Stmt:=top 24
abbrev zl3:Stmt:=top 25
abbrev zcX:Stmt:=top 27
abbrev zcC:Stmt:=top 28
abbrev zkG:Stmt:=top 29
abbrev zgI:Stmt:=top 31
abbrev zeG:Stmt:=top 32
abbrev zgJ:Stmt:=top 33
abbrev zhT:Stmt:=top 34
abbrev zd5:Stmt:=top 35
abbrev zi8:Stmt:=top 36
abbrev zcR:Stmt:=top 38
abbrev ze2:Stmt:=top 39
abbrev ze3:Stmt:=top 40
abbrev zdE:Stmt:=top 41
abbrev zl4:Stmt:=top 42
abbrev zeH:Stmt:=top 43
abbrev zfT:Stmt:=top 44
abbrev zeI:Stmt:=top 45
abbrev zkH:Stmt:=top 46
abbrev zfU:Stmt:=top 48
abbrev zdF:Stmt:=top 49
abbrev zhU:Stmt:=top 50
abbrev ze4:Stmt:=top 52
abbrev zeJ:Stmt:=top 53
abbrev zhV:Stmt:=top 54
abbrev zhW:Stmt:=top 55
abbrev zgK:Stmt:=top 56
abbrev zhX:Stmt:=top 57
abbrev zgL:Stmt:=top 59
abbrev zgM:Stmt:=top 61
abbrev zi9:Stmt:=top 62
abbrev zhY:Stmt:=top 63
abbrev zjA:Stmt:=top 64
abbrev zgN:Stmt:=top 65
abbrev zjB:Stmt:=top 66
abbrev ze5:Stmt:=top 67
abbrev zkI:Stmt:=top 68
abbrev zgO:Stmt:=top 72
abbrev ze6:Stmt:=top 73
abbrev zgP:Stmt:=top 74
abbrev ze7:Stmt:=top 75
abbrev zgQ:Stmt:=top 76
abbrev zgR:Stmt:=top 77
abbrev zl5:Stmt:=top 78
structure Adr where
 a_q39:Gj
 d_q39:Gi
 a_q52:Gj
 d_q52:Gi
 a_q36:Gj
 d_q36:Gi
 a_q44:Gj
 d_q44:Gi
 a_q40:Gj
 d_q40:Gi
 a_q32:Gj
 d_q32:Gi
 a_q16:Gj
 d_q16:Gi
 a_q21:Gj
 d_q21:Gi
 a_q49:Gj
 d_q49:Gi
 a_q10:Gj
 d_q10:Gi
 a_q26:Gj
 d_q26:Gi
 a_q18:Gj
 d_q18:Gi
 a_q54:Gj
 d_q54:Gi
 a_q30:Gj
 d_q30:Gi
 a_q57:Gj
 d_q57:Gi
 a_q55:Gj
 d_q55:Gi
 a_q2:Gj
 d_q2:Gi
 a_q0:Gj
 d_q0:Gi
 a_q53:Gj
 d_q53:Gi
 a_q25:Gj
 d_q25:Gi
 a_q8:Gj
 d_q8:Gi
 a_q34:Gj
 d_q34:Gi
 a_q37:Gj
 d_q37:Gi
 a_q5:Gj
 d_q5:Gi
 a_q45:Gj
 d_q45:Gi
 a_q1:Gj
 d_q1:Gi
 a_q14:Gj
 d_q14:Gi
 a_q17:Gj
 d_q17:Gi
 a_q3:Gj
 d_q3:Gi
 a_q56:Gj
 d_q56:Gi
 a_q7:Gj
 d_q7:Gi
 a_q19:Gj
 d_q19:Gi
 a_q6:Gj
 d_q6:Gi
 a_q50:Gj
 d_q50:Gi
 a_q20:Gj
 d_q20:Gi
 a_q4:Gj
 d_q4:Gi
 a_q41:Gj
 d_q41:Gi
 a_q12:Gj
 d_q12:Gi
 a_q9:Gj
 d_q9:Gi
 a_q43:Gj
 d_q43:Gi
 a_q38:Gj
 d_q38:Gi
 a_q22:Gj
 d_q22:Gi
 a_q42:Gj
 d_q42:Gi
 a_q27:Gj
 d_q27:Gi
 a_q28:Gj
 d_q28:Gi
 a_q48:Gj
 d_q48:Gi
 a_q35:Gj
 d_q35:Gi
 a_q46:Gj
 d_q46:Gi
 a_q33:Gj
 d_q33:Gi
 a_q47:Gj
 d_q47:Gi
 a_q11:Gj
 d_q11:Gi
 a_q51:Gj
 d_q51:Gi
 a_q24:Gj
 d_q24:Gi
 a_q13:Gj
 d_q13:Gi
 a_q23:Gj
 d_q23:Gi
 a_q15:Gj
 d_q15:Gi
 a_q31:Gj
 d_q31:Gi
 a_q29:Gj
 d_q29:Gi
 a_q58:Gj
 d_q58:Gi
 c0:Gj
 Pt:Gj
 x_NoBound:Gj
 x_Closed:Gj
 x_RoundError:Gj
 x_NoNumbers:Gj
structure Txt (K:ja)(mg:Str->Option Gg)(t:Adr):Prop where
 q39:Fn K mg "is_whole" zhQ ["thing"] t.a_q39 t.d_q39
 q52:Fn K mg "bit_of" zkF ["hand"] t.a_q52 t.d_q52
 q36:Fn K mg "has_hand" zhR ["mask","hand"] t.a_q36 t.d_q36
 q44:Fn K mg "mask_of" zi6 ["hands"] t.a_q44 t.d_q44
 q40:Fn K mg "hands_in" zhS ["mask"] t.a_q40 t.d_q40
 q32:Fn K mg "is_number" zgF ["thing"] t.a_q32 t.d_q32
 q16:Fn K mg "are_numbers" ze0 ["thing"] t.a_q16 t.d_q16
 q21:Fn K mg "many_hands" zfS ["run"] t.a_q21 t.d_q21
 q49:Fn K mg "fall_of" zi7 ["run","hand"] t.a_q49 t.d_q49
 q10:Fn K mg "without_fall" zeF ["run","hand"] t.a_q10 t.d_q10
 q26:Fn K mg "with_fall" zgG ["run","hand","at","reached"] t.a_q26 t.d_q26
 q18:Fn K mg "with_number" ze1 ["run","hand","number"] t.a_q18 t.d_q18
 q54:Fn K mg "is_up" zl1 ["run","hand","rounds"] t.a_q54 t.d_q54
 q30:Fn K mg "who_is_up" zgH ["run","rounds"] t.a_q30 t.d_q30
 q57:Fn K mg "comes" zl2 ["run","by","to","at"] t.a_q57 t.d_q57
 q55:Fn K mg "keeps" zl3 ["run","bound"] t.a_q55 t.d_q55
 q2:Fn K mg "with_reach_turned" zcX ["run","hand","to"] t.a_q2 t.d_q2
 q0:Fn K mg "changed_while_hushed" zcC ["run","other","hand","at","rounds"] t.a_q0 t.d_q0
 q53:Fn K mg "hushed" zkG ["run","hand","at","rounds"] t.a_q53 t.d_q53
 q25:Fn K mg "all_heard" zgI ["fall","up"] t.a_q25 t.d_q25
 q8:Fn K mg "is_found_out" zeG ["fall","up","rounds"] t.a_q8 t.d_q8
 q34:Fn K mg "found_out" zgJ ["run","rounds"] t.a_q34 t.d_q34
 q37:Fn K mg "waste_of" zhT ["run"] t.a_q37 t.d_q37
 q5:Fn K mg "closing_round" zd5 ["run","bound"] t.a_q5 t.d_q5
 q45:Fn K mg "is_open" zi8 ["run","bound","rounds"] t.a_q45 t.d_q45
 q1:Fn K mg "without_late_falls" zcR ["run","rounds"] t.a_q1 t.d_q1
 q14:Fn K mg "heard_falls" ze2 ["run","at"] t.a_q14 t.d_q14
 q17:Fn K mg "fallen_next" ze3 ["run","hand","at","rounds"] t.a_q17 t.d_q17
 q3:Fn K mg "with_heard_next" zdE ["run","at","rounds"] t.a_q3 t.d_q3
 q56:Fn K mg "risen" zl4 ["run","hand","at","rounds"] t.a_q56 t.d_q56
 q7:Fn K mg "heard_healed" zeH ["run","at","rounds"] t.a_q7 t.d_q7
 q19:Fn K mg "made_heard" zfT ["run","hand","at","rounds"] t.a_q19 t.d_q19
 q6:Fn K mg "round_healed" zeI ["run","at","rounds"] t.a_q6 t.d_q6
 q50:Fn K mg "healed" zkH ["run","bound","rounds"] t.a_q50 t.d_q50
 q20:Fn K mg "renumbered" zfU ["run","numbers","rounds"] t.a_q20 t.d_q20
 q4:Fn K mg "are_numbers_for" zdF ["run","thing"] t.a_q4 t.d_q4
 q41:Fn K mg "chain_of" zhU ["run","bound","rounds","numbers"] t.a_q41 t.d_q41
 q12:Fn K mg "view_behind" ze4 ["run","views","hand","at"] t.a_q12 t.d_q12
 q9:Fn K mg "views_behind" zeJ ["run","views","at"] t.a_q9 t.d_q9
 q43:Fn K mg "views_of" zhV ["run","rounds"] t.a_q43 t.d_q43
 q38:Fn K mg "own_part" zhW ["view"] t.a_q38 t.d_q38
 q22:Fn K mg "rounds_of" zgK ["view"] t.a_q22 t.d_q22
 q42:Fn K mg "own_past" zhX ["view","rounds"] t.a_q42 t.d_q42
 q27:Fn K mg "choice_by" zgL ["rule","view"] t.a_q27 t.d_q27
 q28:Fn K mg "number_by" zgM ["rule","view"] t.a_q28 t.d_q28
 q48:Fn K mg "told_by" zi9 ["rule","run","rounds"] t.a_q48 t.d_q48
 q35:Fn K mg "all_told" zhY ["told","number"] t.a_q35 t.d_q35
 q46:Fn K mg "torn_in" zjA ["run","told"] t.a_q46 t.d_q46
 q33:Fn K mg "strangers" zgN ["told","number"] t.a_q33 t.d_q33
 q47:Fn K mg "torn_on" zjB ["rule","chain","number","rounds"] t.a_q47 t.d_q47
 q11:Fn K mg "broken_from" ze5 ["rule","run","bound","rounds","number"] t.a_q11 t.d_q11
 q51:Fn K mg "broken" zkI ["rule","run","bound","rounds"] t.a_q51 t.d_q51
 q24:Fn K mg "_law_mixed" zgO ["number","k"] t.a_q24 t.d_q24
 q13:Fn K mg "_law_numbers" ze6 ["number","many"] t.a_q13 t.d_q13
 q23:Fn K mg "_law_falls" zgP ["mixed","many","most","last"] t.a_q23 t.d_q23
 q15:Fn K mg "_law_closing" ze7 ["run","bound"] t.a_q15 t.d_q15
 q31:Fn K mg "_law_asked" zgQ ["rule","run","bound","rounds"] t.a_q31 t.d_q31
 q29:Fn K mg "_law_first" zgR ["view"] t.a_q29 t.d_q29
 q58:Fn K mg "law" zl5 ["script"] t.a_q58 t.d_q58
 b_all:mg "all"=Gb
 b_bool:mg "bool"=Gb
 b_int:mg "int"=Gb
 b_isinstance:mg "isinstance"=Gb
 b_len:mg "len"=Gb
 b_list:mg "list"=Gb
 b_max:mg "max"=Gb
 b_min:mg "min"=Gb
 b_range:mg "range"=Gb
 b_reversed:mg "reversed"=Gb
 b_sorted:mg "sorted"=Gb
 b_tuple:mg "tuple"=Gb
 lam_cd:t.d_q58.code=.ref t.c0
 lam_hd:qe K t.c0 t.Pt=true
 lam_bm:∃ bm o,mg "__builtins__"=Ga (.ref bm)/\bm≠builtinsNs/\bm≠mainGlobals/\K.lookup bm=Ga o/\o.cls=.type "module"/\o.dict=Ga builtinsNs/\o.data=.plain
 x_NoBound:ClsT K mg "NoBound" t.x_NoBound
 x_Closed:ClsT K mg "Closed" t.x_Closed
 x_RoundError:ClsM K mg "RoundError" t.x_RoundError
 x_NoNumbers:ClsT K mg "NoNumbers" t.x_NoNumbers
 j_0:v7 K (.ref t.x_RoundError) (.type "BaseException")=Ga true
 j_1:jR K (.ref t.x_NoNumbers) (.ref t.x_NoBound)=Ga false
 j_2:jR K (.ref t.x_NoNumbers) (.ref t.x_NoNumbers)=Ga true
 j_3:jR K (.ref t.x_NoNumbers) (.ref t.x_Closed)=Ga false
 j_4:kS K (.ref t.x_NoNumbers) (.ref t.x_RoundError)=Ga true
 j_5:jR K (.ref t.x_NoBound) (.ref t.x_NoBound)=Ga true
 j_6:jR K (.ref t.x_NoBound) (.ref t.x_NoNumbers)=Ga false
 j_7:jR K (.ref t.x_NoBound) (.ref t.x_Closed)=Ga false
 j_8:kS K (.ref t.x_NoBound) (.ref t.x_RoundError)=Ga true
 j_9:jR K (.ref t.x_Closed) (.ref t.x_NoBound)=Ga false
 j_10:jR K (.ref t.x_Closed) (.ref t.x_NoNumbers)=Ga false
 j_11:jR K (.ref t.x_Closed) (.ref t.x_Closed)=Ga true
 j_12:kS K (.ref t.x_Closed) (.ref t.x_RoundError)=Ga true
 c_LAST_ROUND:∃ t,mg "LAST_ROUND"=Ga (.int 5 t)
 c_LEAST_HANDS:∃ t,mg "LEAST_HANDS"=Ga (.int 2 t)
 c_MOST_HANDS:∃ t,mg "MOST_HANDS"=Ga (.int 5 t)
variable {P:Program}{w:World}{K:ja}{mg:Str->Option Gg}{base:Heap}{t:Adr}
theorem zoE:FnScope ["thing"] ["thing"] (defScope zhQ):=fO (by decide +kernel)
def zhZ:FS:=zbS (zsE (unN (dIsT "int") (gv 0)) (zqR (unN (dIsT "bool") (gv 0))))
def zbH:List D->Option D:=runV 1 1 zhZ
theorem zjS (T:Txt K mg t):FnOk P w K mg base CX0 1 t.a_q39 t.d_q39 ["thing"] (spV K zbH) :=
 cV (okV T.q39.F zoE λ_ _ _ _ _ _ hr=>zaS (zbR (zr1 (zr3 (T:="int") (by decide) rfl T.b_isinstance rfl T.b_int boot_int (zaB 0)) (zo5 (zy1 (zr3 (T:="bool") (by decide) rfl T.b_isinstance rfl T.b_bool boot_bool (zaB 0))))))) rfl
theorem zgS:FnScope ["hand","bit","step"] ["hand"] (defScope zkF):=fO (by decide +kernel)
def zkJ:FS:=seqS (setS 1 (cst (.int 1))) (seqS (forS (un1L rng1 (gv 0)) (tgN 2) (setS 1 (bin dMul (gv 1) (cst (.int 2))))) (retS (gv 1)))
def zcL:List D->Option D:=runV 1 3 zkJ
theorem zjC (T:Txt K mg t):FnOk P w K mg base CX0 1 t.a_q52 t.d_q52 ["hand"] (spV K zcL) :=
 okV T.q52.F zgS λ_ _ _ _ _ _ hr=>zaJ (zbE 1 (zaF) zgS.nd) (zaJ (zhN PassesOwn.never rfl (zeT rfl T.b_range (zaB 0)) (zcV 2 zgS.nd) (zaS (zbE 1 (zmT (zaB 1) (zaF)) zgS.nd))) (zaS (zbR (zaB 1))))
theorem zoF:FnScope ["mask","hand"] ["mask","hand"] (defScope zhR):=fO (by decide +kernel)
def zpP:FS:=retS (bin dNe (bin dAnd (gv 0) (callV zcL (consL (gv 1) (nilL)))) (cst (.int 0)))
def zaU:List D->Option D:=runV 2 2 zpP
theorem zeW (T:Txt K mg t):FnOk P w K mg base CX0 2 t.a_q36 t.d_q36 ["mask","hand"] (spV K zaU) :=
 okV T.q36.F zoF λ_ _ _ _ _ _ hr=>zaS (zbR (v_ne (zdP hr) (zBm (zaB 0) (vc (zjC T) T.q52 hr (zaC (zaB 1) (zaN)))) (zaF)))
theorem zfJ:FnScope ["hands","mask","hand"] ["hands"] (defScope zi6):=fO (by decide +kernel)
def zjD:FS:=seqS (setS 1 (cst (.int 0))) (seqS (forS (seqI (gv 0)) (tgN 2) (setS 1 (bin dOr (gv 1) (callV zcL (consL (gv 2) (nilL)))))) (retS (gv 1)))
def zcK:List D->Option D:=runV 1 3 zjD
theorem zk2 (T:Txt K mg t):FnOk P w K mg base CX0 2 t.a_q44 t.d_q44 ["hands"] (spV K zcK) :=
 okV T.q44.F zfJ λ_ _ _ _ _ _ hr=>zaJ (zbE 1 (zaF) zfJ.nd) (zaJ (zhN PassesOwn.never rfl (zeV (zaB 0)) (zcV 2 zfJ.nd) (zaS (zbE 1 (zDO (zaB 1) (vc (zjC T) T.q52 hr (zaC (zaB 2) (zaN)))) zfJ.nd))) (zaS (zbR (zaB 1))))
theorem zjT:FnScope ["mask"] ["mask"] (defScope zhS):=fO (by decide +kernel)
def zh0:FS:=retO (compF (un1L rng1 (un dBits (gv 0))) (tst (callV zaU (consL (gv 1) (consL (gv 0) (nilL))))) (gv 0) [0])
def zb8:List D->Option (List D):=runO 1 1 zh0
theorem zoG (T:Txt K mg t):FnOk P w K mg base CX0 3 t.a_q40 t.d_q40 ["mask"] (spO K zb8) :=
 okO T.q40.F zjT λ_ _ _ _ _ _ hr=>zaS (ztF (zd1 rfl (cO zjT (fr:=["mask"]) (by decide +kernel)) (zeT rfl T.b_range (zBq (zaB 0))) (blk1 (by decide +kernel) rfl (λcl C s H fp ω=>zeU (vc (zeW T) T.q36 hr (zaC (zaB 1) (zaC (zaB 0) (zaN))))) (λcl C s H fp ω=>zaB 0))))
theorem zmW:FnScope ["thing"] ["thing"] (defScope zgF):=fO (by decide +kernel)
def zgT:FS:=zbS (zsE (zaG zbH (zaA (gv 0) (zaE))) (zoA dLt dLt (unN dNeg (binN dPow (cstN (.int 10)) (cstN (.int 60)))) (gv 0) (binN dPow (cstN (.int 10)) (cstN (.int 60)))))
def zcN:List D->Option D:=runV 1 1 zgT
theorem zmX (T:Txt K mg t):FnOk P w K mg base CX0 2 t.a_q32 t.d_q32 ["thing"] (spV K zcN) :=
 cV (okV T.q32.F zmW λ_ _ _ _ _ _ hr=>zaS (zbR (zr1 (vc (zjS T) T.q39 hr (zaC (zaB 0) (zaN))) (zo5 (ztK op_lt op_lt (zhM λ_ _ _=>.bl _) (zhM λ_ _ _=>.bl _) (zk8 (ztD (zaF) (zaF))) (zaB 0) (ztD (zaF) (zaF))))))) rfl
theorem zhG:FnScope ["thing"] ["thing"] (defScope ze0):=fO (by decide +kernel)
def ze8:FS:=zaH (ifSN (orBN (zc8 (tstN (unN (dIsT "tuple") (gv 0)))) (zc8 (zuG dLe dLe (cstN (.int 2)) (unN dLen (gv 0)) (cstN (.int 5))))) (zbS (cstN (.bool false))) (nxSN)) (zbS (unLN dAll (compF (zc3 (gv 0)) (λ_=>Ga true) (zaG zcN (zaA (gv 0) (zaE))) [])))
def zb7:List D->Option D:=runV 1 1 ze8
theorem zk9 (T:Txt K mg t):FnOk P w K mg base CX0 3 t.a_q16 t.d_q16 ["thing"] (spV K zb7) :=
 cV (okV T.q16.F zhG λ_ _ _ _ _ _ hr=>zaJ (s_if (PBW.b (b_or (ziM (zeU (zr3 (T:="tuple") (by decide) rfl T.b_isinstance rfl T.b_tuple boot_tuple (zaB 0)))) (zqC (ziM (zy9 op_le op_le (zhM λ_ _ _=>.bl _) (zhM λ_ _ _=>.bl _) (zqK T.c_LEAST_HANDS) (zjM rfl T.b_len (zaB 0)) (zqK T.c_MOST_HANDS)))))) (zaS (zbR (v_bl))) (zd0)) (zaS (zbR (zzA rfl rfl T.b_all (PO.sh (zd1 rfl (cO zhG (fr:=[]) (by decide +kernel)) (zeV (zaB 0)) (blk0 (by decide +kernel) rfl (λcl C s H fp ω=>vc (zmX T) T.q32 hr (zaC (zaB 0) (zaN)))))))))) rfl
theorem zl6:FnScope ["run"] ["run"] (defScope zfS):=fO (by decide +kernel)
def zmY:FS:=retS (un dLen (bin dIx (gv 0) (cst (.int 0))))
def zaL:List D->Option D:=runV 1 1 zmY
theorem zcD (T:Txt K mg t):FnOk P w K mg base CX0 1 t.a_q21 t.d_q21 ["run"] (spV K zaL) :=
 okV T.q21.F zl6 λ_ _ _ _ _ _ hr=>zaS (zbR (zjM rfl T.b_len (v_ix (zaB 0) (zaF))))
theorem zk3:FnScope ["run","hand","fall"] ["run","hand"] (defScope zi7):=fO (by decide +kernel)
def zjE:FS:=seqS (forS (seqI (bin dIx (gv 0) (cst (.int 1)))) (tgN 2) (ifS (cmpB dEq (bin dIx (gv 2) (cst (.int 0))) (gv 1)) (retS (gv 2)) (nxS))) (retS (cst .none))
def zaZ:List D->Option D:=runV 2 3 zjE
theorem zfK (T:Txt K mg t):FnOk P w K mg base CX0 1 t.a_q49 t.d_q49 ["run","hand"] (spV K zaZ) :=
 okV T.q49.F zk3 λ_ _ _ _ _ _ hr=>zaJ (zhN PassesOwn.never rfl (zeV (v_ix (zaB 0) (zaF))) (zcV 2 zk3.nd) (zaS (s_if (b_eq (zdP hr) (v_ix (zaB 2) (zaF)) (zaB 1)) (zaS (zbR (zaB 2))) (zd0)))) (zaS (zbR (zi2)))
theorem zf4:FnScope ["run","hand"] ["run","hand"] (defScope zeF):=fO (by decide +kernel)
def zeK:FS:=zbS (zcU (zaA (binN dIx (gv 0) (cstN (.int 0))) (zaA (unLN dTupL (compF (zc3 (binN dIx (gv 0) (cstN (.int 1)))) (zaQ dNe (binN dIx (gv 0) (cstN (.int 0))) (gv 1)) (gv 0) [1])) (zaE))))
def zbB:List D->Option D:=runV 2 2 zeK
theorem zd6 (T:Txt K mg t):FnOk P w K mg base CX0 1 t.a_q10 t.d_q10 ["run","hand"] (spV K zbB) :=
 cV (okV T.q10.F zf4 λ_ _ _ _ _ _ hr=>zaS (zbR (zf8 (zaC (v_ix (zaB 0) (zaF)) (zaC (zfH rfl T.b_tuple (PO.sh (zd1 rfl (cO zf4 (fr:=["hand"]) (by decide +kernel)) (zeV (v_ix (zaB 0) (zaF))) (blk1 (by decide +kernel) rfl (λcl C s H fp ω=>b_ne (zdP hr) (v_ix (zaB 0) (zaF)) (zaB 1)) (λcl C s H fp ω=>zaB 0))))) (zaN)))))) rfl
theorem ziT:FnScope ["run","hand","at","reached","others"] ["run","hand","at","reached"] (defScope zgG):=fO (by decide +kernel)
def zgU:FS:=zaH (zaK 4 (binN dIx (zaG zbB (zaA (gv 0) (zaA (gv 1) (zaE)))) (cstN (.int 1)))) (zbS (zcU (zaA (binN dIx (gv 0) (cstN (.int 0))) (zaA (unLN dTupL (zrG (tL1N (binN dAdd (gv 4) (zcU (zaA (zcU (zaA (gv 1) (zaA (gv 2) (zaA (gv 3) (zaE))))) (zaE))))))) (zaE)))))
def zbO:List D->Option D:=runV 4 5 zgU
theorem zfV (T:Txt K mg t):FnOk P w K mg base CX0 2 t.a_q26 t.d_q26 ["run","hand","at","reached"] (spV K zbO) :=
 cV (okV T.q26.F ziT λ_ _ _ _ _ _ hr=>zaJ (zbE 4 (v_ix (vc (zd6 T) T.q10 hr (zaC (zaB 0) (zaC (zaB 1) (zaN)))) (zaF)) ziT.nd) (zaS (zbR (zf8 (zaC (v_ix (zaB 0) (zaF)) (zaC (zfH rfl T.b_tuple (PO.sh (zt1 rfl T.b_sorted (zc6 (zaB 4) (zf8 (zaC (zf8 (zaC (zaB 1) (zaC (zaB 2) (zaC (zaB 3) (zaN))))) (zaN))))))) (zaN))))))) rfl
theorem zhH:FnScope ["run","hand","number","numbers"] ["run","hand","number"] (defScope ze1):=fO (by decide +kernel)
def ze9:FS:=zaH (zaK 3 (binN dIx (gv 0) (cstN (.int 0)))) (zbS (zcU (zaA (binN dAdd (binN dAdd (slVN (gv 3) (noPN) (zcJ (gv 1))) (zcU (zaA (gv 2) (zaE)))) (slVN (gv 3) (zcJ (binN dAdd (gv 1) (cstN (.int 1)))) (noPN))) (zaA (binN dIx (gv 0) (cstN (.int 1))) (zaE)))))
def za8:List D->Option D:=runV 3 4 ze9
theorem zlA (T:Txt K mg t):FnOk P w K mg base CX0 1 t.a_q18 t.d_q18 ["run","hand","number"] (spV K za8) :=
 cV (okV T.q18.F zhH λ_ _ _ _ _ _ hr=>zaJ (zbE 3 (v_ix (zaB 0) (zaF)) zhH.nd) (zaS (zbR (zf8 (zaC (zc6 (zc6 (zfR (zaB 3) (zfP) (zfQ (zaB 1))) (zf8 (zaC (zaB 2) (zaN)))) (zfR (zaB 3) (zfQ (zc6 (zaB 1) (zaF))) (zfP))) (zaC (v_ix (zaB 0) (zaF)) (zaN))))))) rfl
theorem znP:FnScope ["run","hand","rounds","fall"] ["run","hand","rounds"] (defScope zl1):=fO (by decide +kernel)
def zl7:FS:=seqS (setS 3 (callV zaZ (consL (gv 0) (consL (gv 1) (nilL))))) (retS (orV (bin dIs (gv 3) (cst .none)) (bin dGt (bin dIx (gv 3) (cst (.int 1))) (gv 2))))
def zeX:List D->Option D:=runV 3 4 zl7
theorem znQ (T:Txt K mg t):FnOk P w K mg base CX0 2 t.a_q54 t.d_q54 ["run","hand","rounds"] (spV K zeX) :=
 okV T.q54.F znP λ_ _ _ _ _ _ hr=>zaJ (zbE 3 (vc (zfK T) T.q49 hr (zaC (zaB 0) (zaC (zaB 1) (zaN)))) znP.nd) (zaS (zbR (v_or (v_is (zaB 3) (zi2)) (zo5 (v_gt (v_ix (zaB 3) (zaF)) (zaB 2))))))
theorem ziU:FnScope ["run","rounds"] ["run","rounds"] (defScope zgH):=fO (by decide +kernel)
def zgV:FS:=retO (compF (un1L rng1 (callV zaL (consL (gv 0) (nilL)))) (tst (callV zeX (consL (gv 2) (consL (gv 0) (consL (gv 1) (nilL)))))) (gv 0) [1,0])
def zaR:List D->Option (List D):=runO 2 2 zgV
theorem zcO (T:Txt K mg t):FnOk P w K mg base CX0 3 t.a_q30 t.d_q30 ["run","rounds"] (spO K zaR) :=
 okO T.q30.F ziU λ_ _ _ _ _ _ hr=>zaS (ztF (zd1 rfl (cO ziU (fr:=["rounds","run"]) (by decide +kernel)) (zeT rfl T.b_range (vc (zcD T) T.q21 hr (zaC (zaB 0) (zaN)))) (blk1 (by decide +kernel) rfl (λcl C s H fp ω=>zeU (vc (znQ T) T.q54 hr (zaC (zaB 2) (zaC (zaB 0) (zaC (zaB 1) (zaN)))))) (λcl C s H fp ω=>zaB 0))))
theorem znR:FnScope ["run","by","to","at","fall"] ["run","by","to","at"] (defScope zl2):=fO (by decide +kernel)
def zl8:FS:=seqS (ifS (orB (cmpB dEq (gv 1) (gv 2)) (notB (tst (callV zeX (consL (gv 0) (consL (gv 2) (consL (gv 3) (nilL)))))))) (retS (cst (.bool false))) (nxS)) (seqS (setS 4 (callV zaZ (consL (gv 0) (consL (gv 1) (nilL))))) (seqS (ifS (orB (cmpB dIs (gv 4) (cst .none)) (cmpB dGt (bin dIx (gv 4) (cst (.int 1))) (gv 3))) (retS (cst (.bool true))) (nxS)) (retS (andV (bin dEq (bin dIx (gv 4) (cst (.int 1))) (gv 3)) (callV zaU (consL (bin dIx (gv 4) (cst (.int 2))) (consL (gv 2) (nilL))))))))
def zc4:List D->Option D:=runV 4 5 zl8
theorem zsM (T:Txt K mg t):FnOk P w K mg base CX0 3 t.a_q57 t.d_q57 ["run","by","to","at"] (spV K zc4) :=
 okV T.q57.F znR λ_ _ _ _ _ _ hr=>zaJ (s_if (PBW.b (b_or (b_eq (zdP hr) (zaB 1) (zaB 2)) (zqC (ziM (zeU (vc (znQ T) T.q54 hr (zaC (zaB 0) (zaC (zaB 2) (zaC (zaB 3) (zaN)))))))))) (zaS (zbR (v_bl))) (zd0)) (zaJ (zbE 4 (vc (zfK T) T.q49 hr (zaC (zaB 0) (zaC (zaB 1) (zaN)))) znR.nd) (zaJ (s_if (PBW.b (b_or (b_is (zaB 4) (zi2)) (zqC (b_gt (v_ix (zaB 4) (zaF)) (zaB 3))))) (zaS (zbR (v_bl))) (zd0)) (zaS (zbR (zr1 (v_eq (zdP hr) (v_ix (zaB 4) (zaF)) (zaB 3)) (zo5 (vc (zeW T) T.q36 hr (zaC (v_ix (zaB 4) (zaF)) (zaC (zaB 2) (zaN))))))))))
theorem zsN:FnScope ["run","bound"] ["run","bound"] (defScope zl3):=fO (by decide +kernel)
def zl9:FS:=seqS (ifS (notB (tst (callV zbH (consL (gv 1) (nilL))))) (retS (cst (.bool false))) (nxS)) (retS (andV (chainV dLe dLe (cst (.int 0)) (gv 1) (bin dSub (callV zaL (consL (gv 0) (nilL))) (cst (.int 2)))) (bin dLe (un dLen (bin dIx (gv 0) (cst (.int 1)))) (gv 1))))
def zb5:List D->Option D:=runV 2 2 zl9
theorem znS (T:Txt K mg t):FnOk P w K mg base CX0 2 t.a_q55 t.d_q55 ["run","bound"] (spV K zb5) :=
 okV T.q55.F zsN λ_ _ _ _ _ _ hr=>zaJ (s_if (ziM (zeU (vc (zjS T) T.q39 hr (zaC (zaB 1) (zaN))))) (zaS (zbR (v_bl))) (zd0)) (zaS (zbR (zr1 (ztK op_le op_le (zhM λ_ _ _=>.bl _) (zhM λ_ _ _=>.bl _) (zaF) (zaB 1) (zgA (vc (zcD T) T.q21 hr (zaC (zaB 0) (zaN))) (zaF))) (zo5 (v_le (zjM rfl T.b_len (v_ix (zaB 0) (zaF))) (zaB 1))))))
theorem zd3:FnScope ["run","hand","to","fall"] ["run","hand","to"] (defScope zcX):=fO (by decide +kernel)
def zcY:FS:=zaH (zaK 3 (zaG zaZ (zaA (gv 0) (zaA (gv 1) (zaE))))) (zbS (zaG zbO (zaA (gv 0) (zaA (gv 1) (zaA (binN dIx (gv 3) (cstN (.int 1))) (zaA (binN dXor (binN dIx (gv 3) (cstN (.int 2))) (zaG zcL (zaA (gv 2) (zaE)))) (zaE)))))))
def zaI:List D->Option D:=runV 3 4 zcY
theorem zd4 (T:Txt K mg t):FnOk P w K mg base CX0 3 t.a_q2 t.d_q2 ["run","hand","to"] (spV K zaI) :=
 cV (okV T.q2.F zd3 λ_ _ _ _ _ _ hr=>zaJ (zbE 3 (vc (zfK T) T.q49 hr (zaC (zaB 0) (zaC (zaB 1) (zaN)))) zd3.nd) (zaS (zbR (vc (zfV T) T.q26 hr (zaC (zaB 0) (zaC (zaB 1) (zaC (v_ix (zaB 3) (zaF)) (zaC (zBD (v_ix (zaB 3) (zaF)) (vc (zjC T) T.q52 hr (zaC (zaB 2) (zaN)))) (zaN))))))))) rfl
theorem zfW:FnScope ["run","other","hand","at","rounds"] ["run","other","hand","at","rounds"] (defScope zcC):=fO (by decide +kernel)
def zcE (zaV:List D->Option (List D)):FS:=retS (bin dAdd (lstV (callO zaV (consL (gv 0) (consL (gv 2) (consL (gv 3) (consL (gv 4) (nilL))))))) (lstV (revL (callO zaV (consL (gv 1) (consL (gv 2) (consL (gv 3) (consL (gv 4) (nilL)))))))))
theorem zc5 (T:Txt K mg t){n:Nat}{fm:List D->Option (List D)}(R:FnOk P w K mg base CX0 (n+4) t.a_q53 t.d_q53 ["run","hand","at","rounds"] (spO K fm)):FnOk P w K mg base CX0 (n+4+1) t.a_q0 t.d_q0 ["run","other","hand","at","rounds"] (spV K (runV 5 5 (zcE fm))) :=
 okV T.q0.F zfW λ_ _ _ _ _ _ hr=>zaS (zbR (zc6 (PO.v (zf3 R (hr.mono (by omega)) T.q53.m T.q53.F.kp T.q53.b (zaC (zaB 0) (zaC (zaB 2) (zaC (zaB 3) (zaC (zaB 4) (zaN))))))) (PO.v (zpF rfl rfl T.b_list rfl T.b_reversed (PO.sh (zf3 R (hr.mono (by omega)) T.q53.m T.q53.F.kp T.q53.b (zaC (zaB 1) (zaC (zaB 2) (zaC (zaB 3) (zaC (zaB 4) (zaN)))))))))))
theorem zdG:FnScope ["run","hand","at","rounds","other","others","path","last","fewer"] ["run","hand","at","rounds"] (defScope zkG):=fO (by decide +kernel)
def zsO (zaV:List D->Option (List D))(zaD:List D->Option D):FS:=seqS (ifS (cmpB dGt (gv 2) (gv 3)) (retO (consL (gv 0) (nilL))) (nxS)) (seqS (fixS 5 (setO 5 (compF (seqI (lstV (callO zaR (consL (gv 0) (consL (gv 2) (nilL)))))) (cmpB dNe (gv 0) (gv 1)) (gv 0) [1]))) (seqS (setO 6 (callO zaV (consL (gv 0) (consL (gv 1) (consL (bin dAdd (gv 2) (cst (.int 1))) (consL (gv 3) (nilL))))))) (seqS (appS 6 (callV zbO (consL (gv 0) (consL (gv 1) (consL (gv 2) (consL (callV zcK (consL (gv 5) (nilL))) (nilL))))))) (seqS (forS (seqI (gv 5)) (tgN 4) (seqS (setS 7 (ixS (gl 6) (un dNeg (cst (.int 1))))) (seqS (setS 8 (callV zaI (consL (gv 7) (consL (gv 1) (consL (gv 4) (nilL)))))) (extS 6 (slV (callV zaD (consL (gv 7) (consL (gv 8) (consL (gv 4) (consL (bin dAdd (gv 2) (cst (.int 1))) (consL (gv 3) (nilL))))))) (someP (cst (.int 1))) (noP)))))) (retO (go 6))))))
def zaV:Nat->List D->Option (List D)
 | 0=>λ_=>Gb
 | n+1=>runO 4 9 (zsO (zaV n) (runV 5 5 (zcE (zaV n))))
def zaD (n:Nat):List D->Option D:=runV 5 5 (zcE (zaV n))
theorem zjF (T:Txt K mg t):∀ n,FnOk P w K mg base CX0 (2*n+4) t.a_q53 t.d_q53 ["run","hand","at","rounds"] (spO K (zaV n))
 | 0=>okO0
 | n+1=>by
  have R:=zjF T n;have R2:=zc5 T R;have e:2*(n+1)+4=2*n+4+1+1:=by omega
  rw[e];exact okO T.q53.F zdG λ_ _ _ _ _ _ hr=>zaJ (s_if (b_gt (zaB 2) (zaB 3)) (zaS (ztF (ziL (zaC (zaB 0) (zaN))))) (zd0)) (zaJ (zo9 5 (zkZ 5 rfl (cO zdG (fr:=["hand"]) (by decide +kernel)) (zeV (PO.v (zf3 (zcO T) (hr.mono (by omega)) T.q30.m T.q30.F.kp T.q30.b (zaC (zaB 0) (zaC (zaB 2) (zaN)))))) (blk1 (by decide +kernel) rfl (λcl C s H fp ω=>b_ne (zdP hr) (zaB 0) (zaB 1)) (λcl C s H fp ω=>zaB 0)) zdG.nd)) (zaJ (znJ 6 (zf3 R (hr.mono (by omega)) T.q53.m T.q53.F.kp T.q53.b (zaC (zaB 0) (zaC (zaB 1) (zaC (zc6 (zaB 2) (zaF)) (zaC (zaB 3) (zaN)))))) zdG.nd) (zaJ (zn1 6 (zpA (zfV T) (hr.mono (by omega)) T.q26.m T.q26.F.kp T.q26.b (zaC (zaB 0) (zaC (zaB 1) (zaC (zaB 2) (zaC (zpA (zk2 T) (hr.mono (by omega)) T.q44.m T.q44.F.kp T.q44.b (zaC (zaB 5) (zaN))) (zaN))))))) (zaJ (zhN PassesOwn.never rfl (zeV (zaB 5)) (zcV 4 zdG.nd) (zaJ (zbE 7 (zo7 (zo6 6) (zk8 (zaF))) zdG.nd) (zaJ (zbE 8 (zpA (zd4 T) (hr.mono (by omega)) T.q2.m T.q2.F.kp T.q2.b (zaC (zaB 7) (zaC (zaB 1) (zaC (zaB 4) (zaN))))) zdG.nd) (zaS (zgD 6 (zfR (zpA R2 (hr.mono (by omega)) T.q0.m T.q0.F.kp T.q0.b (zaC (zaB 7) (zaC (zaB 8) (zaC (zaB 4) (zaC (zc6 (zaB 2) (zaF)) (zaC (zaB 3) (zaN))))))) (zfQ (zaF)) (zfP))))))) (zaS (znI 6))))))
theorem zc9 (T:Txt K mg t)(n:Nat):FnOk P w K mg base CX0 (2*n+4+1) t.a_q0 t.d_q0 ["run","other","hand","at","rounds"] (spV K (zaD n)):=zc5 T (zjF T n)
theorem ziV:FnScope ["fall","up"] ["fall","up"] (defScope zgI):=fO (by decide +kernel)
def zgW:FS:=retS (unL dAll (compF (seqI (gv 1)) (λ_=>Ga true) (callV zaU (consL (bin dIx (gv 1) (cst (.int 2))) (consL (gv 0) (nilL)))) [0]))
def zbY:List D->Option D:=runV 2 2 zgW
theorem ziW (T:Txt K mg t):FnOk P w K mg base CX0 3 t.a_q25 t.d_q25 ["fall","up"] (spV K zbY) :=
 okV T.q25.F ziV λ_ _ _ _ _ _ hr=>zaS (zbR (zzA rfl rfl T.b_all (PO.sh (zd1 rfl (cO ziV (fr:=["fall"]) (by decide +kernel)) (zeV (zaB 1)) (blk0 (by decide +kernel) rfl (λcl C s H fp ω=>vc (zeW T) T.q36 hr (zaC (v_ix (zaB 1) (zaF)) (zaC (zaB 0) (zaN)))))))))
theorem zkK:FnScope ["fall","up","rounds"] ["fall","up","rounds"] (defScope zeG):=fO (by decide +kernel)
def zeL:FS:=retS (orV (bin dLt (bin dIx (gv 0) (cst (.int 1))) (gv 2)) (andV (bin dEq (bin dIx (gv 0) (cst (.int 1))) (gv 2)) (notV (callV zbY (consL (gv 0) (consL (gv 1) (nilL)))))))
def zcF:List D->Option D:=runV 3 3 zeL
theorem zkL (T:Txt K mg t):FnOk P w K mg base CX0 4 t.a_q8 t.d_q8 ["fall","up","rounds"] (spV K zcF) :=
 okV T.q8.F zkK λ_ _ _ _ _ _ hr=>zaS (zbR (v_or (v_lt (v_ix (zaB 0) (zaF)) (zaB 2)) (zo5 (zr1 (v_eq (zdP hr) (v_ix (zaB 0) (zaF)) (zaB 2)) (zo5 (zy1 (vc (ziW T) T.q25 hr (zaC (zaB 0) (zaC (zaB 1) (zaN))))))))))
theorem zfX:FnScope ["run","rounds","up"] ["run","rounds"] (defScope zgJ):=fO (by decide +kernel)
def zgX:FS:=seqS (setS 2 (lstV (callO zaR (consL (gv 0) (consL (gv 1) (nilL)))))) (seqS (ifS (cmpB dEq (un dLen (gv 2)) (cst (.int 0))) (retS (cst (.int 0))) (nxS)) (retS (callV zcK (consL (lstV (compF (seqI (bin dIx (gv 0) (cst (.int 1)))) (tst (callV zcF (consL (gv 0) (consL (gv 2) (consL (gv 1) (nilL)))))) (bin dIx (gv 0) (cst (.int 0))) [1,2])) (nilL)))))
def zcP:List D->Option D:=runV 2 3 zgX
theorem zmZ (T:Txt K mg t):FnOk P w K mg base CX0 5 t.a_q34 t.d_q34 ["run","rounds"] (spV K zcP) :=
 okV T.q34.F zfX λ_ _ _ _ _ _ hr=>zaJ (zbE 2 (PO.v (zf3 (zcO T) (hr.mono (by decide)) T.q30.m T.q30.F.kp T.q30.b (zaC (zaB 0) (zaC (zaB 1) (zaN))))) zfX.nd) (zaJ (s_if (b_eq (zdP hr) (zjM rfl T.b_len (zaB 2)) (zaF)) (zaS (zbR (zaF))) (zd0)) (zaS (zbR (vc (zk2 T) T.q44 hr (zaC (PO.v (zd1 rfl (cO zfX (fr:=["rounds","up"]) (by decide +kernel)) (zeV (v_ix (zaB 0) (zaF))) (blk1 (by decide +kernel) rfl (λcl C s H fp ω=>zeU (vc (zkL T) T.q8 hr (zaC (zaB 0) (zaC (zaB 2) (zaC (zaB 1) (zaN)))))) (λcl C s H fp ω=>v_ix (zaB 0) (zaF))))) (zaN))))))
theorem zjU:FnScope ["run"] ["run"] (defScope zhT):=fO (by decide +kernel)
def zh1:FS:=retS (unL dMaxL (shV (bin dAdd (lstV (consL (cst (.int 0)) (nilL))) (lstV (compF (binL rng2 (cst (.int 1)) (bin dAdd (cst (.int 5)) (cst (.int 1)))) (λ_=>Ga true) (bin dSub (un dLen (lstV (callO zb8 (consL (callV zcP (consL (gv 1) (consL (gv 0) (nilL)))) (nilL))))) (gv 0)) [0])))))
def zgY:List D->Option D:=runV 1 1 zh1
theorem zoH (T:Txt K mg t):FnOk P w K mg base CX0 6 t.a_q37 t.d_q37 ["run"] (spV K zgY) :=
 okV T.q37.F zjU λ_ _ _ _ _ _ hr=>zaS (zbR (zBz rfl rfl T.b_max (PV.sh (zc6 (PO.v (ziL (zaC (zaF) (zaN)))) (PO.v (zd1 rfl (cO zjU (fr:=["run"]) (by decide +kernel)) (ztI rfl T.b_range (zaF) (zc6 (zqK T.c_LAST_ROUND) (zaF))) (blk0 (by decide +kernel) rfl (λcl C s H fp ω=>zgA (zjM rfl T.b_len (PO.v (zf3 (zoG T) (hr.mono (by decide)) T.q40.m T.q40.F.kp T.q40.b (zaC (vc (zmZ T) T.q34 hr (zaC (zaB 1) (zaC (zaB 0) (zaN)))) (zaN))))) (zaB 0)))))))))
theorem zfL:FnScope ["run","bound"] ["run","bound"] (defScope zd5):=fO (by decide +kernel)
def zd7:FS:=seqS (ifS (notB (tst (callV zb5 (consL (gv 0) (consL (gv 1) (nilL)))))) (nevS) (nxS)) (retS (bin dSub (bin dAdd (gv 1) (cst (.int 1))) (callV zgY (consL (gv 0) (nilL)))))
def zdR:List D->Option D:=runV 2 2 zd7
theorem zjV (T:Txt K mg t):FnOk P w K mg base CX0 7 t.a_q5 t.d_q5 ["run","bound"] (spV K zdR) :=
 okV T.q5.F zfL λ_ _ _ _ _ _ hr=>zaJ (s_if (ziM (zeU (vc (znS T) T.q55 hr (zaC (zaB 0) (zaC (zaB 1) (zaN)))))) (zaS (zn5)) (zd0)) (zaS (zbR (zgA (zc6 (zaB 1) (zaF)) (vc (zoH T) T.q37 hr (zaC (zaB 0) (zaN))))))
def zdS:FX:=ifX (notB (tst (callV zb5 (consL (gv 0) (consL (gv 1) (nilL)))))) (raX "NoBound") (noX)
def zdT:List D->Option Str:=runX 2 2 zdS
theorem zjG (T:Txt K mg t):FnOk P w K mg base (CX1 P w) 7 t.a_q5 t.d_q5 ["run","bound"] (spX K mg zdT) :=
 okX T.q5.F zfL λ_ _ _ _ _ _ hr=>zpL (x_if (ziM (zeU (vc (znS T) T.q55 hr (zaC (zaB 0) (zaC (zaB 1) (zaN)))))) (zpL (zrF T.x_NoBound)) (zBH))
theorem zk4:FnScope ["run","bound","rounds"] ["run","bound","rounds"] (defScope zi8):=fO (by decide +kernel)
def zjH:FS:=retS (bin dLt (gv 2) (callV zdR (consL (gv 0) (consL (gv 1) (nilL)))))
def zbD:List D->Option D:=runV 3 3 zjH
theorem zh2 (T:Txt K mg t):FnOk P w K mg base CX0 8 t.a_q45 t.d_q45 ["run","bound","rounds"] (spV K zbD) :=
 okV T.q45.F zk4 λ_ _ _ _ _ _ hr=>zaS (zbR (v_lt (zaB 2) (vc (zjV T) T.q5 hr (zaC (zaB 0) (zaC (zaB 1) (zaN))))))
def zpQ:FX:=rhX (gv 2) (clX (consL (gv 0) (consL (gv 1) (nilL))) zdT)
def zdM:List D->Option Str:=runX 3 3 zpQ
theorem zoI (T:Txt K mg t):FnOk P w K mg base (CX1 P w) 8 t.a_q45 t.d_q45 ["run","bound","rounds"] (spX K mg zdM) :=
 okX T.q45.F zk4 λ_ _ _ _ _ _ hr=>zpL (zDX (zBL op_lt (zaB 2) (zt8 (zjG T) pass1 (hr.mono (by decide)) T.q5.m T.q5.F.kp T.q5.b (zaC (zaB 0) (zaC (zaB 1) (zaN))))))
theorem zdU:FnScope ["run","rounds"] ["run","rounds"] (defScope zcR):=fO (by decide +kernel)
def zcS:FS:=zbS (zcU (zaA (binN dIx (gv 0) (cstN (.int 0))) (zaA (unLN dTupL (compF (zc3 (binN dIx (gv 0) (cstN (.int 1)))) (zaQ dLe (binN dIx (gv 0) (cstN (.int 1))) (gv 1)) (gv 0) [1])) (zaE))))
def za6:List D->Option D:=runV 2 2 zcS
theorem zgZ (T:Txt K mg t):FnOk P w K mg base CX0 1 t.a_q1 t.d_q1 ["run","rounds"] (spV K za6) :=
 cV (okV T.q1.F zdU λ_ _ _ _ _ _ hr=>zaS (zbR (zf8 (zaC (v_ix (zaB 0) (zaF)) (zaC (zfH rfl T.b_tuple (PO.sh (zd1 rfl (cO zdU (fr:=["rounds"]) (by decide +kernel)) (zeV (v_ix (zaB 0) (zaF))) (blk1 (by decide +kernel) rfl (λcl C s H fp ω=>b_le (v_ix (zaB 0) (zaF)) (zaB 1)) (λcl C s H fp ω=>zaB 0))))) (zaN)))))) rfl
theorem zeM:FnScope ["run","at","up"] ["run","at"] (defScope ze2):=fO (by decide +kernel)
def zfA:FS:=zaH (zaK 2 (zbJ (zfI zaR (zaA (gv 0) (zaA (gv 1) (zaE)))))) (zbS (zbJ (compF (zc3 (binN dIx (gv 0) (cstN (.int 1)))) (zeY (zaQ dEq (binN dIx (gv 0) (cstN (.int 1))) (gv 1)) (tstN (zaG zbY (zaA (gv 0) (zaA (gv 2) (zaE)))))) (gv 0) [1,2])))
def zbT:List D->Option D:=runV 2 3 zfA
theorem zhI (T:Txt K mg t):FnOk P w K mg base CX0 4 t.a_q14 t.d_q14 ["run","at"] (spV K zbT) :=
 cV (okV T.q14.F zeM λ_ _ _ _ _ _ hr=>zaJ (zbE 2 (PO.v (zf3 (zcO T) (hr.mono (by decide)) T.q30.m T.q30.F.kp T.q30.b (zaC (zaB 0) (zaC (zaB 1) (zaN))))) zeM.nd) (zaS (zbR (PO.v (zd1 rfl (cO zeM (fr:=["at","up"]) (by decide +kernel)) (zeV (v_ix (zaB 0) (zaF))) (blk1 (by decide +kernel) rfl (λcl C s H fp ω=>PBW.b (ztB (b_eq (zdP hr) (v_ix (zaB 0) (zaF)) (zaB 1)) (zo4 (zeU (vc (ziW T) T.q25 hr (zaC (zaB 0) (zaC (zaB 2) (zaN)))))))) (λcl C s H fp ω=>zaB 0))))))) rfl
theorem zlB:FnScope ["run","hand","at","rounds"] ["run","hand","at","rounds"] (defScope ze3):=fO (by decide +kernel)
def zfB:FS:=zbS (ifVN (zaQ dLt (gv 2) (gv 3)) (zaG zbO (zaA (gv 0) (zaA (gv 1) (zaA (binN dAdd (gv 2) (cstN (.int 1))) (zaA (cstN (.int 0)) (zaE)))))) (zaG zbB (zaA (gv 0) (zaA (gv 1) (zaE)))))
def zbU:List D->Option D:=runV 4 4 zfB
theorem zlC (T:Txt K mg t):FnOk P w K mg base CX0 3 t.a_q17 t.d_q17 ["run","hand","at","rounds"] (spV K zbU) :=
 cV (okV T.q17.F zlB λ_ _ _ _ _ _ hr=>zaS (zbR (v_if (b_lt (zaB 2) (zaB 3)) (vc (zfV T) T.q26 hr (zaC (zaB 0) (zaC (zaB 1) (zaC (zc6 (zaB 2) (zaF)) (zaC (zaF) (zaN)))))) (vc (zd6 T) T.q10 hr (zaC (zaB 0) (zaC (zaB 1) (zaN))))))) rfl
theorem zcB:FnScope ["run","at","rounds","later","fall"] ["run","at","rounds"] (defScope zdE):=fO (by decide +kernel)
def zdH:FS:=zaH (zaK 3 (gv 0)) (zaH (zhP (zc3 (zaG zbT (zaA (gv 0) (zaA (gv 1) (zaE))))) (tgNN 4) (zaK 3 (zaG zbU (zaA (gv 3) (zaA (binN dIx (gv 4) (cstN (.int 0))) (zaA (gv 1) (zaA (gv 2) (zaE)))))))) (zbS (gv 3)))
def zbK:List D->Option D:=runV 3 5 zdH
theorem ziO (T:Txt K mg t):FnOk P w K mg base CX0 5 t.a_q3 t.d_q3 ["run","at","rounds"] (spV K zbK) :=
 cV (okV T.q3.F zcB λ_ _ _ _ _ _ hr=>zaJ (zbE 3 (zaB 0) zcB.nd) (zaJ (zhN PassesOwn.never rfl (zeV (vc (zhI T) T.q14 hr (zaC (zaB 0) (zaC (zaB 1) (zaN))))) (zcV 4 zcB.nd) (zaS (zbE 3 (vc (zlC T) T.q17 hr (zaC (zaB 3) (zaC (v_ix (zaB 4) (zaF)) (zaC (zaB 1) (zaC (zaB 2) (zaN)))))) zcB.nd))) (zaS (zbR (zaB 3))))) rfl
theorem zsP:FnScope ["run","hand","at","rounds"] ["run","hand","at","rounds"] (defScope zl4):=fO (by decide +kernel)
def zmA:FS:=zbS (zbJ (zz4 (zfI (zaV 12) (zaA (zaG zbB (zaA (gv 0) (zaA (gv 1) (zaE)))) (zaA (gv 1) (zaA (gv 2) (zaA (gv 3) (zaE))))))))
def zcQ:List D->Option D:=runV 4 4 zmA
theorem zsQ (T:Txt K mg t):FnOk P w K mg base CX0 29 t.a_q56 t.d_q56 ["run","hand","at","rounds"] (spV K zcQ) :=
 cV (okV T.q56.F zsP λ_ _ _ _ _ _ hr=>zaS (zbR (PO.v (zpF rfl rfl T.b_list rfl T.b_reversed (PO.sh (zf3 (zjF T 12) (hr.mono (by decide)) T.q53.m T.q53.F.kp T.q53.b (zaC (vc (zd6 T) T.q10 hr (zaC (zaB 0) (zaC (zaB 1) (zaN)))) (zaC (zaB 1) (zaC (zaB 2) (zaC (zaB 3) (zaN))))))))))) rfl
theorem zcG:FnScope ["run","at","rounds","hands","path","hand"] ["run","at","rounds"] (defScope zeH):=fO (by decide +kernel)
def zeN:FS:=zaH (ziN 3 (zfG 3 (compF (zc3 (zaG zbT (zaA (gv 0) (zaA (gv 1) (zaE))))) (λ_=>Ga true) (binN dIx (gv 0) (cstN (.int 0))) []))) (zaH (zfG 4 (zaA (gv 0) (zaE))) (zaH (ifSN (zaQ dGt (unN dLen (gv 3)) (cstN (.int 0))) (zwQ 4 (zaG zbK (zaA (gv 0) (zaA (gv 1) (zaA (gv 2) (zaE)))))) (nxSN)) (zaH (zhP (zc3 (gv 3)) (tgNN 5) (zeZ 4 (slVN (zaG zcQ (zaA (ixSN (gl 4) (unN dNeg (cstN (.int 1)))) (zaA (gv 5) (zaA (binN dAdd (gv 1) (cstN (.int 1))) (zaA (gv 2) (zaE)))))) (zcJ (cstN (.int 1))) (noPN)))) (zkD (go 4)))))
def zaW:List D->Option (List D):=runO 3 6 zeN
theorem zf5 (T:Txt K mg t):FnOk P w K mg base CX0 30 t.a_q7 t.d_q7 ["run","at","rounds"] (spO K zaW) :=
 cW (okO T.q7.F zcG λ_ _ _ _ _ _ hr=>zaJ (zo9 3 (zkZ 3 rfl (cO zcG (fr:=[]) (by decide +kernel)) (zeV (vc (zhI T) T.q14 hr (zaC (zaB 0) (zaC (zaB 1) (zaN))))) (blk0 (by decide +kernel) rfl (λcl C s H fp ω=>v_ix (zaB 0) (zaF))) zcG.nd)) (zaJ (znJ 4 (ziL (zaC (zaB 0) (zaN))) zcG.nd) (zaJ (s_if (b_gt (zjM rfl T.b_len (zaB 3)) (zaF)) (zaS (zn1 4 (vc (ziO T) T.q3 hr (zaC (zaB 0) (zaC (zaB 1) (zaC (zaB 2) (zaN))))))) (zd0)) (zaJ (zhN PassesOwn.never rfl (zeV (zaB 3)) (zcV 5 zcG.nd) (zaS (zgD 4 (zfR (vc (zsQ T) T.q56 hr (zaC (zo7 (zo6 4) (zk8 (zaF))) (zaC (zaB 5) (zaC (zc6 (zaB 1) (zaF)) (zaC (zaB 2) (zaN)))))) (zfQ (zaF)) (zfP))))) (zaS (znI 4)))))) rfl
theorem zcZ:FnScope ["run","hand","at","rounds","path","to","last","more"] ["run","hand","at","rounds"] (defScope zfT):=fO (by decide +kernel)
def zfY:FS:=zaH (zfG 4 (zaA (gv 0) (zaE))) (zaH (zhP (zc3 (zbJ (zfI zaR (zaA (gv 0) (zaA (gv 2) (zaE)))))) (tgNN 5) (zaH (zaK 6 (ixSN (gl 4) (unN dNeg (cstN (.int 1))))) (ifSN (zc8 (tstN (zaG zaU (zaA (binN dIx (zaG zaZ (zaA (gv 6) (zaA (gv 1) (zaE)))) (cstN (.int 2))) (zaA (gv 5) (zaE)))))) (zaH (zaK 7 (zaG zaI (zaA (gv 6) (zaA (gv 1) (zaA (gv 5) (zaE)))))) (zeZ 4 (slVN (zaG (zaD 12) (zaA (gv 6) (zaA (gv 7) (zaA (gv 5) (zaA (binN dAdd (gv 2) (cstN (.int 1))) (zaA (gv 3) (zaE))))))) (zcJ (cstN (.int 1))) (noPN)))) (nxSN)))) (zkD (go 4)))
def zbP:List D->Option D:=runV 4 8 zfY
theorem zmB (T:Txt K mg t):FnOk P w K mg base CX0 30 t.a_q19 t.d_q19 ["run","hand","at","rounds"] (spV K zbP) :=
 cV (okV T.q19.F zcZ λ_ _ _ _ _ _ hr=>zaJ (znJ 4 (ziL (zaC (zaB 0) (zaN))) zcZ.nd) (zaJ (zhN PassesOwn.never rfl (zeV (PO.v (zf3 (zcO T) (hr.mono (by decide)) T.q30.m T.q30.F.kp T.q30.b (zaC (zaB 0) (zaC (zaB 2) (zaN)))))) (zcV 5 zcZ.nd) (zaJ (zbE 6 (zo7 (zo6 4) (zk8 (zaF))) zcZ.nd) (zaS (s_if (ziM (zeU (vc (zeW T) T.q36 hr (zaC (v_ix (vc (zfK T) T.q49 hr (zaC (zaB 6) (zaC (zaB 1) (zaN)))) (zaF)) (zaC (zaB 5) (zaN)))))) (zaJ (zbE 7 (vc (zd4 T) T.q2 hr (zaC (zaB 6) (zaC (zaB 1) (zaC (zaB 5) (zaN))))) zcZ.nd) (zaS (zgD 4 (zfR (vc (zc9 T 12) T.q0 hr (zaC (zaB 6) (zaC (zaB 7) (zaC (zaB 5) (zaC (zc6 (zaB 2) (zaF)) (zaC (zaB 3) (zaN))))))) (zfQ (zaF)) (zfP))))) (zd0))))) (zaS (znI 4)))) rfl
theorem zcH:FnScope ["run","at","rounds","path","hands","hand"] ["run","at","rounds"] (defScope zeI):=fO (by decide +kernel)
def zeO:FS:=zaH (zfG 3 (zfI zaW (zaA (gv 0) (zaA (gv 1) (zaA (gv 2) (zaE)))))) (zaH (ziN 4 (zfG 4 (compF (zc3 (binN dIx (ixSN (gl 3) (unN dNeg (cstN (.int 1)))) (cstN (.int 1)))) (zaQ dEq (binN dIx (gv 0) (cstN (.int 1))) (gv 1)) (binN dIx (gv 0) (cstN (.int 0))) [1]))) (zaH (zhP (zc3 (gv 4)) (tgNN 5) (zaH (zeZ 3 (slVN (zaG zbP (zaA (ixSN (gl 3) (unN dNeg (cstN (.int 1)))) (zaA (gv 5) (zaA (gv 1) (zaA (gv 2) (zaE)))))) (zcJ (cstN (.int 1))) (noPN))) (zeZ 3 (slVN (zbJ (zfI zaW (zaA (ixSN (gl 3) (unN dNeg (cstN (.int 1)))) (zaA (gv 1) (zaA (gv 2) (zaE)))))) (zcJ (cstN (.int 1))) (noPN))))) (zkD (go 3))))
def zbC:List D->Option D:=runV 3 6 zeO
theorem zkM (T:Txt K mg t):FnOk P w K mg base CX0 31 t.a_q6 t.d_q6 ["run","at","rounds"] (spV K zbC) :=
 cV (okV T.q6.F zcH λ_ _ _ _ _ _ hr=>zaJ (znJ 3 (zf3 (zf5 T) (hr.mono (by decide)) T.q7.m T.q7.F.kp T.q7.b (zaC (zaB 0) (zaC (zaB 1) (zaC (zaB 2) (zaN))))) zcH.nd) (zaJ (zo9 4 (zkZ 4 rfl (cO zcH (fr:=["at"]) (by decide +kernel)) (zeV (v_ix (zo7 (zo6 3) (zk8 (zaF))) (zaF))) (blk1 (by decide +kernel) rfl (λcl C s H fp ω=>b_eq (zdP hr) (v_ix (zaB 0) (zaF)) (zaB 1)) (λcl C s H fp ω=>v_ix (zaB 0) (zaF))) zcH.nd)) (zaJ (zhN PassesOwn.never rfl (zeV (zaB 4)) (zcV 5 zcH.nd) (zaJ (zgD 3 (zfR (vc (zmB T) T.q19 hr (zaC (zo7 (zo6 3) (zk8 (zaF))) (zaC (zaB 5) (zaC (zaB 1) (zaC (zaB 2) (zaN)))))) (zfQ (zaF)) (zfP))) (zaS (zgD 3 (zfR (PO.v (zf3 (zf5 T) (hr.mono (by decide)) T.q7.m T.q7.F.kp T.q7.b (zaC (zo7 (zo6 3) (zk8 (zaF))) (zaC (zaB 1) (zaC (zaB 2) (zaN)))))) (zfQ (zaF)) (zfP)))))) (zaS (znI 3))))) rfl
theorem zg0:FnScope ["run","bound","rounds","path","seen","step"] ["run","bound","rounds"] (defScope zkH):=fO (by decide +kernel)
def zkN:FS:=zaH (zfG 3 (zaA (gv 0) (zaE))) (zaH (zaK 4 (zaG za6 (zaA (gv 0) (zaA (gv 2) (zaE))))) (zaH (ifSN (zaQ dNe (gv 4) (gv 0)) (zwQ 3 (gv 4)) (nxSN)) (zaH (zhP (zhJ rng1 (gv 2)) (tgNN 5) (zeZ 3 (slVN (zaG zbC (zaA (ixSN (gl 3) (unN dNeg (cstN (.int 1)))) (zaA (binN dSub (gv 2) (gv 5)) (zaA (gv 2) (zaE))))) (zcJ (cstN (.int 1))) (noPN)))) (zkD (go 3)))))
def zdI:List D->Option D:=runV 3 6 zkN
theorem zqV (T:Txt K mg t):FnOk P w K mg base CX0 32 t.a_q50 t.d_q50 ["run","bound","rounds"] (spV K zdI) :=
 cV (okV T.q50.F zg0 λ_ _ _ _ _ _ hr=>zaJ (znJ 3 (ziL (zaC (zaB 0) (zaN))) zg0.nd) (zaJ (zbE 4 (vc (zgZ T) T.q1 hr (zaC (zaB 0) (zaC (zaB 2) (zaN)))) zg0.nd) (zaJ (s_if (b_ne (zdP hr) (zaB 4) (zaB 0)) (zaS (zn1 3 (zaB 4))) (zd0)) (zaJ (zhN PassesOwn.never rfl (zeT rfl T.b_range (zaB 2)) (zcV 5 zg0.nd) (zaS (zgD 3 (zfR (vc (zkM T) T.q6 hr (zaC (zo7 (zo6 3) (zk8 (zaF))) (zaC (zgA (zaB 2) (zaB 5)) (zaC (zaB 2) (zaN))))) (zfQ (zaF)) (zfP))))) (zaS (znI 3)))))) rfl
theorem zc0:FnScope ["run","numbers","rounds","path","hand","last","other"] ["run","numbers","rounds"] (defScope zfU):=fO (by decide +kernel)
def zfZ:FS:=zaH (zfG 3 (zaA (gv 0) (zaE))) (zaH (zhP (zhJ rng1 (zaG zaL (zaA (gv 0) (zaE)))) (tgNN 4) (zaH (zaK 5 (ixSN (gl 3) (unN dNeg (cstN (.int 1))))) (ifSN (zaQ dNe (binN dIx (binN dIx (gv 5) (cstN (.int 0))) (gv 4)) (binN dIx (gv 1) (gv 4))) (zaH (zaK 6 (zaG za8 (zaA (gv 5) (zaA (gv 4) (zaA (binN dIx (gv 1) (gv 4)) (zaE)))))) (zeZ 3 (slVN (zaG (zaD 12) (zaA (gv 5) (zaA (gv 6) (zaA (gv 4) (zaA (cstN (.int 1)) (zaA (gv 2) (zaE))))))) (zcJ (cstN (.int 1))) (noPN)))) (nxSN)))) (zkD (go 3)))
def zb6:List D->Option D:=runV 3 7 zfZ
theorem zmC (T:Txt K mg t):FnOk P w K mg base CX0 30 t.a_q20 t.d_q20 ["run","numbers","rounds"] (spV K zb6) :=
 cV (okV T.q20.F zc0 λ_ _ _ _ _ _ hr=>zaJ (znJ 3 (ziL (zaC (zaB 0) (zaN))) zc0.nd) (zaJ (zhN PassesOwn.never rfl (zeT rfl T.b_range (vc (zcD T) T.q21 hr (zaC (zaB 0) (zaN)))) (zcV 4 zc0.nd) (zaJ (zbE 5 (zo7 (zo6 3) (zk8 (zaF))) zc0.nd) (zaS (s_if (b_ne (zdP hr) (v_ix (v_ix (zaB 5) (zaF)) (zaB 4)) (v_ix (zaB 1) (zaB 4))) (zaJ (zbE 6 (vc (zlA T) T.q18 hr (zaC (zaB 5) (zaC (zaB 4) (zaC (v_ix (zaB 1) (zaB 4)) (zaN))))) zc0.nd) (zaS (zgD 3 (zfR (vc (zc9 T 12) T.q0 hr (zaC (zaB 5) (zaC (zaB 6) (zaC (zaB 4) (zaC (zaF) (zaC (zaB 2) (zaN))))))) (zfQ (zaF)) (zfP))))) (zd0))))) (zaS (znI 3)))) rfl
theorem ziP:FnScope ["run","thing"] ["run","thing"] (defScope zdF):=fO (by decide +kernel)
def zdJ:FS:=zbS (zsE (zaG zb7 (zaA (gv 1) (zaE))) (binN dEq (unN dLen (gv 1)) (zaG zaL (zaA (gv 0) (zaE)))))
def zbL:List D->Option D:=runV 2 2 zdJ
theorem ziQ (T:Txt K mg t):FnOk P w K mg base CX0 4 t.a_q4 t.d_q4 ["run","thing"] (spV K zbL) :=
 cV (okV T.q4.F ziP λ_ _ _ _ _ _ hr=>zaS (zbR (zr1 (vc (zk9 T) T.q16 hr (zaC (zaB 1) (zaN))) (zo5 (v_eq (zdP hr) (zjM rfl T.b_len (zaB 1)) (vc (zcD T) T.q21 hr (zaC (zaB 0) (zaN)))))))) rfl
theorem zg1:FnScope ["run","bound","rounds","numbers","still_open","path"] ["run","bound","rounds","numbers"] (defScope zhU):=fO (by decide +kernel)
def zh3:FS:=zaH (zaK 4 (zaG zbD (zaA (gv 0) (zaA (gv 1) (zaA (gv 2) (zaE)))))) (zaH (ifSN (zc8 (tstN (zaG zbL (zaA (gv 0) (zaA (gv 3) (zaE)))))) (zwP) (nxSN)) (zaH (ifSN (zc8 (tstN (gv 4))) (zwP) (nxSN)) (zaH (zaK 5 (zaG zdI (zaA (gv 0) (zaA (gv 1) (zaA (gv 2) (zaE)))))) (zbS (binN dAdd (gv 5) (slVN (zaG zb6 (zaA (binN dIx (gv 5) (unN dNeg (cstN (.int 1)))) (zaA (gv 3) (zaA (gv 2) (zaE))))) (zcJ (cstN (.int 1))) (noPN)))))))
def zb9:List D->Option D:=runV 4 6 zh3
theorem zoJ (T:Txt K mg t):FnOk P w K mg base CX0 33 t.a_q41 t.d_q41 ["run","bound","rounds","numbers"] (spV K zb9) :=
 cV (okV T.q41.F zg1 λ_ _ _ _ _ _ hr=>zaJ (zbE 4 (vc (zh2 T) T.q45 hr (zaC (zaB 0) (zaC (zaB 1) (zaC (zaB 2) (zaN))))) zg1.nd) (zaJ (s_if (ziM (zeU (vc (ziQ T) T.q4 hr (zaC (zaB 0) (zaC (zaB 3) (zaN)))))) (zaS (zn5)) (zd0)) (zaJ (s_if (ziM (zeU (zaB 4))) (zaS (zn5)) (zd0)) (zaJ (zbE 5 (vc (zqV T) T.q50 hr (zaC (zaB 0) (zaC (zaB 1) (zaC (zaB 2) (zaN))))) zg1.nd) (zaS (zbR (zc6 (zaB 5) (zfR (vc (zmC T) T.q20 hr (zaC (v_ix (zaB 5) (zk8 (zaF))) (zaC (zaB 3) (zaC (zaB 2) (zaN))))) (zfQ (zaF)) (zfP))))))))) rfl
theorem zeP:FnScope ["run","views","hand","at","parts"] ["run","views","hand","at"] (defScope ze4):=fO (by decide +kernel)
def zfC:FS:=zaH (ziN 4 (zfG 4 (compF (zhJ rng1 (unN dLen (gv 1))) (λ_=>Ga true) (ifVN (orBN (zaQ dEq (gv 0) (gv 2)) (tstN (zaG zc4 (zaA (gv 3) (zaA (gv 0) (zaA (gv 2) (zaA (gv 1) (zaE)))))))) (binN dIx (gv 4) (gv 0)) (cstN .none)) [3,2,0,1]))) (zbS (zcU (zaA (gv 2) (zaA (unLN dTupL (shVN (gv 4))) (zaE)))))
def za9:List D->Option D:=runV 4 5 zfC
theorem zlD (T:Txt K mg t):FnOk P w K mg base CX0 4 t.a_q12 t.d_q12 ["run","views","hand","at"] (spV K za9) :=
 cV (okV T.q12.F zeP λ_ _ _ _ _ _ hr=>zaJ (zo9 4 (zkZ 4 rfl (cO zeP (fr:=["at","hand","run","views"]) (by decide +kernel)) (zeT rfl T.b_range (zjM rfl T.b_len (zaB 1))) (blk0 (by decide +kernel) rfl (λcl C s H fp ω=>v_if (PBW.b (b_or (b_eq (zdP hr) (zaB 0) (zaB 2)) (zqC (zeU (vc (zsM T) T.q57 hr (zaC (zaB 3) (zaC (zaB 0) (zaC (zaB 2) (zaC (zaB 1) (zaN)))))))))) (v_ix (zaB 4) (zaB 0)) (zi2))) zeP.nd)) (zaS (zbR (zf8 (zaC (zaB 2) (zaC (zfH rfl T.b_tuple (PV.sh (zaB 4))) (zaN))))))) rfl
theorem zd8:FnScope ["run","views","at","up"] ["run","views","at"] (defScope zeJ):=fO (by decide +kernel)
def zeQ:FS:=zaH (zaK 3 (zbJ (zfI zaR (zaA (gv 0) (zaA (gv 2) (zaE)))))) (zbS (zbJ (compF (zhJ rng1 (unN dLen (gv 1))) (λ_=>Ga true) (ifVN (zaQ dIn (gv 0) (gv 3)) (zaG za9 (zaA (gv 2) (zaA (gv 4) (zaA (gv 0) (zaA (gv 1) (zaE)))))) (cstN .none)) [2,0,3,1])))
def zbI:List D->Option D:=runV 3 4 zeQ
theorem zkO (T:Txt K mg t):FnOk P w K mg base CX0 5 t.a_q9 t.d_q9 ["run","views","at"] (spV K zbI) :=
 cV (okV T.q9.F zd8 λ_ _ _ _ _ _ hr=>zaJ (zbE 3 (PO.v (zf3 (zcO T) (hr.mono (by decide)) T.q30.m T.q30.F.kp T.q30.b (zaC (zaB 0) (zaC (zaB 2) (zaN))))) zd8.nd) (zaS (zbR (PO.v (zd1 rfl (cO zd8 (fr:=["at","run","up","views"]) (by decide +kernel)) (zeT rfl T.b_range (zjM rfl T.b_len (zaB 1))) (blk0 (by decide +kernel) rfl (λcl C s H fp ω=>v_if (b_in (zdP hr) (zaB 0) (zaB 3)) (vc (zlD T) T.q12 hr (zaC (zaB 2) (zaC (zaB 4) (zaC (zaB 0) (zaC (zaB 1) (zaN)))))) (zi2)))))))) rfl
theorem zdV:FnScope ["run","rounds","views","at"] ["run","rounds"] (defScope zhV):=fO (by decide +kernel)
def zh4:FS:=zaH (ziN 2 (zfG 2 (compF (zhJ rng1 (zaG zaL (zaA (gv 0) (zaE)))) (λ_=>Ga true) (zcU (zaA (gv 0) (zaA (binN dIx (binN dIx (gv 1) (cstN (.int 0))) (gv 0)) (zaE)))) [0]))) (zaH (zhP (zz8 rng2 (cstN (.int 1)) (binN dAdd (gv 1) (cstN (.int 1)))) (tgNN 3) (zaK 2 (zaG zbI (zaA (gv 0) (zaA (gv 2) (zaA (gv 3) (zaE))))))) (zbS (gv 2)))
def zbZ:List D->Option D:=runV 2 4 zh4
theorem zoK (T:Txt K mg t):FnOk P w K mg base CX0 6 t.a_q43 t.d_q43 ["run","rounds"] (spV K zbZ) :=
 cV (okV T.q43.F zdV λ_ _ _ _ _ _ hr=>zaJ (zo9 2 (zkZ 2 rfl (cO zdV (fr:=["run"]) (by decide +kernel)) (zeT rfl T.b_range (vc (zcD T) T.q21 hr (zaC (zaB 0) (zaN)))) (blk0 (by decide +kernel) rfl (λcl C s H fp ω=>zf8 (zaC (zaB 0) (zaC (v_ix (v_ix (zaB 1) (zaF)) (zaB 0)) (zaN))))) zdV.nd)) (zaJ (zhN PassesOwn.never rfl (ztI rfl T.b_range (zaF) (zc6 (zaB 1) (zaF))) (zcV 3 zdV.nd) (zaS (zbE 2 (vc (zkO T) T.q9 hr (zaC (zaB 0) (zaC (zaB 2) (zaC (zaB 3) (zaN))))) zdV.nd))) (zaS (zbR (zaB 2))))) rfl
theorem zoL:FnScope ["view"] ["view"] (defScope zhW):=fO (by decide +kernel)
def zh5:FS:=zbS (binN dIx (binN dIx (gv 0) (cstN (.int 1))) (binN dIx (gv 0) (cstN (.int 0))))
def zcA:List D->Option D:=runV 1 1 zh5
theorem zjW (T:Txt K mg t):FnOk P w K mg base CX0 1 t.a_q38 t.d_q38 ["view"] (spV K zcA) :=
 cV (okV T.q38.F zoL λ_ _ _ _ _ _ hr=>zaS (zbR (v_ix (v_ix (zaB 0) (zaF)) (v_ix (zaB 0) (zaF))))) rfl
theorem zeB:FnScope ["view","rounds"] ["view"] (defScope zgK):=fO (by decide +kernel)
def zg2:FS:=zaH (zaK 1 (cstN (.int 0))) (zaH (whileD (tstN (unN (dIsT "tuple") (binN dIx (gv 0) (cstN (.int 1))))) (zaH (zaK 0 (zaG zcA (zaA (gv 0) (zaE)))) (zaK 1 (binN dAdd (gv 1) (cstN (.int 1))))) 100) (zbS (gv 1)))
def za4:List D->Option D:=runV 1 2 zg2
theorem ziX (T:Txt K mg t):FnOk P w K mg base CX0 2 t.a_q22 t.d_q22 ["view"] (spV K za4) :=
 cV (okV T.q22.F zeB λ_ _ _ _ _ _ hr=>zaJ (zbE 1 (zaF) zeB.nd) (zaJ (zqI 100 PassesOwn.never (zeU (zr3 (T:="tuple") (by decide) rfl T.b_isinstance rfl T.b_tuple boot_tuple (v_ix (zaB 0) (zaF)))) (zaJ (zbE 0 (vc (zjW T) T.q38 hr (zaC (zaB 0) (zaN))) zeB.nd) (zaS (zbE 1 (zc6 (zaB 1) (zaF)) zeB.nd)))) (zaS (zbR (zaB 1))))) rfl
theorem zg3:FnScope ["view","rounds","step"] ["view","rounds"] (defScope zhX):=fO (by decide +kernel)
def zeE:FS:=zaH (zhP (zhJ rng1 (binN dSub (zaG za4 (zaA (gv 0) (zaE))) (gv 1))) (tgNN 2) (zaK 0 (zaG zcA (zaA (gv 0) (zaE))))) (zbS (gv 0))
def za2:List D->Option D:=runV 2 3 zeE
theorem zoM (T:Txt K mg t):FnOk P w K mg base CX0 3 t.a_q42 t.d_q42 ["view","rounds"] (spV K za2) :=
 cV (okV T.q42.F zg3 λ_ _ _ _ _ _ hr=>zaJ (zhN PassesOwn.never rfl (zeT rfl T.b_range (zgA (vc (ziX T) T.q22 hr (zaC (zaB 0) (zaN))) (zaB 1))) (zcV 2 zg3.nd) (zaS (zbE 0 (vc (zjW T) T.q38 hr (zaC (zaB 0) (zaN))) zg3.nd))) (zaS (zbR (zaB 0)))) rfl
theorem zf0:FnScope ["rule","view","rounds","number"] ["rule","view"] (defScope zgL):=fO (by decide +kernel)
def zoN (c:FnC)(φ:D->Option D):FS:=seqS (forS (un1L rng1 (bin dAdd (callV za4 (consL (gv 1) (nilL))) (cst (.int 1)))) (tgN 2) (seqS (setS 3 (callF 0 c φ (callV za2 (consL (gv 1) (consL (gv 2) (nilL)))))) (ifS (cmpB dIsnt (gv 3) (cst .none)) (retS (tupV (consL (gv 2) (consL (gv 3) (nilL))))) (nxS)))) (retS (cst .none))
def zb1 (c:FnC)(φ:D->Option D):List D->Option D:=runF 2 4 c (zoN c φ)
theorem zm0 (T:Txt K mg t){c:FnC}{φ:D->Option D}(hC:CallOk P w K mg base 2 c φ):FnOk P w K mg base CX0 4 t.a_q27 t.d_q27 ["rule","view"] (spF K c (zb1 c φ)) :=
 okF T.q27.F zf0 λ_ _ _ _ _ _ hr=>zaJ (zhN PassesOwn.never rfl (zeT rfl T.b_range (zc6 (vc (ziX T) T.q22 hr (zaC (zaB 1) (zaN))) (zaF))) (zcV 2 zf0.nd) (zaJ (zbE 3 (zzJ 0 hC (hr.mono (by decide)) (vc (zoM T) T.q42 hr (zaC (zaB 1) (zaC (zaB 2) (zaN))))) zf0.nd) (zaS (s_if (zx9 (zaB 3) (zi2)) (zaS (zbR (zf8 (zaC (zaB 2) (zaC (zaB 3) (zaN)))))) (zd0))))) (zaS (zbR (zi2)))
theorem ziY:FnScope ["rule","view","choice"] ["rule","view"] (defScope zgM):=fO (by decide +kernel)
def zoO (c:FnC)(φ:D->Option D):FS:=seqS (setS 2 (callP 0 c (zb1 c φ) (consL (gv 1) (nilL)))) (retS (ifV (cmpB dIs (gv 2) (cst .none)) (cst .none) (bin dIx (gv 2) (cst (.int 1)))))
def zb2 (c:FnC)(φ:D->Option D):List D->Option D:=runF 2 3 c (zoO c φ)
theorem zm1 (T:Txt K mg t){c:FnC}{φ:D->Option D}(hC:CallOk P w K mg base 2 c φ):FnOk P w K mg base CX0 5 t.a_q28 t.d_q28 ["rule","view"] (spF K c (zb2 c φ)) :=
 okF T.q28.F ziY λ_ _ _ _ _ _ hr=>zaJ (zbE 2 (zgE 0 (zm0 T hC) (hr.mono (by decide)) T.q27.m T.q27.F.kp T.q27.b (zaC (zaB 1) (zaN))) ziY.nd) (zaS (zbR (v_if (b_is (zaB 2) (zi2)) (zi2) (v_ix (zaB 2) (zaF)))))
theorem zh6:FnScope ["rule","run","rounds","views"] ["rule","run","rounds"] (defScope zi9):=fO (by decide +kernel)
def zqW (c:FnC)(φ:D->Option D):FS:=seqS (setS 3 (callV zbZ (consL (gv 1) (consL (gv 2) (nilL))))) (retS (lstV (compF (seqI (lstV (callO zaR (consL (gv 1) (consL (gv 2) (nilL)))))) (λ_=>Ga true) (tupV (consL (gv 0) (consL (callP 1 c (zb2 c φ) (consL (bin dIx (gv 2) (gv 0)) (nilL))) (nilL)))) [0,3])))
def zaO (c:FnC)(φ:D->Option D):List D->Option D:=runF 3 4 c (zqW c φ)
theorem zfM (T:Txt K mg t){c:FnC}{φ:D->Option D}(hC:CallOk P w K mg base 2 c φ):FnOk P w K mg base CX0 7 t.a_q48 t.d_q48 ["rule","run","rounds"] (spF K c (zaO c φ)) :=
 okF T.q48.F zh6 λ_ _ _ _ _ _ hr=>zaJ (zbE 3 (vc (zoK T) T.q43 hr (zaC (zaB 1) (zaC (zaB 2) (zaN)))) zh6.nd) (zaS (zbR (PO.v (zd1 rfl (cO zh6 (fr:=["rule","views"]) (by decide +kernel)) (zeV (PO.v (zf3 (zcO T) (hr.mono (by decide)) T.q30.m T.q30.F.kp T.q30.b (zaC (zaB 1) (zaC (zaB 2) (zaN)))))) (blk0 (by decide +kernel) rfl (λcl C s H fp ω=>zf8 (zaC (zaB 0) (zaC (zgE 1 (zm1 T hC) (hr.mono (by decide)) T.q28.m T.q28.F.kp T.q28.b (zaC (v_ix (zaB 2) (zaB 0)) (zaN))) (zaN)))))))))
theorem zjX:FnScope ["told","number"] ["told","number"] (defScope zhY):=fO (by decide +kernel)
def zh7:FS:=zbS (unLN dAll (compF (zc3 (gv 0)) (λ_=>Ga true) (binN dEq (binN dIx (gv 0) (cstN (.int 1))) (gv 1)) [1]))
def zaT:List D->Option D:=runV 2 2 zh7
theorem zjY (T:Txt K mg t):FnOk P w K mg base CX0 1 t.a_q35 t.d_q35 ["told","number"] (spV K zaT) :=
 cV (okV T.q35.F zjX λ_ _ _ _ _ _ hr=>zaS (zbR (zzA rfl rfl T.b_all (PO.sh (zd1 rfl (cO zjX (fr:=["number"]) (by decide +kernel)) (zeV (zaB 0)) (blk0 (by decide +kernel) rfl (λcl C s H fp ω=>v_eq (zdP hr) (v_ix (zaB 0) (zaF)) (zaB 1)))))))) rfl
theorem zh8:FnScope ["run","told","unlike"] ["run","told"] (defScope zjA):=fO (by decide +kernel)
def zjI:FS:=zaH (ziN 2 (zfG 2 (compF (zc3 (gv 1)) (zaQ dNe (binN dIx (gv 0) (cstN (.int 1))) (binN dIx (binN dIx (gv 1) (cstN (.int 0))) (cstN (.int 1)))) (binN dIx (gv 0) (cstN (.int 0))) [1]))) (zbS (zcU (zaA (cstN (.str (jl "torn"))) (zaA (gv 0) (zaA (binN dIx (binN dIx (gv 1) (cstN (.int 0))) (cstN (.int 0))) (zaA (binN dIx (gv 2) (cstN (.int 0))) (zaE)))))))
def zbW:List D->Option D:=runV 2 3 zjI
theorem zk5 (T:Txt K mg t):FnOk P w K mg base CX0 1 t.a_q46 t.d_q46 ["run","told"] (spV K zbW) :=
 cV (okV T.q46.F zh8 λ_ _ _ _ _ _ hr=>zaJ (zo9 2 (zkZ 2 rfl (cO zh8 (fr:=["told"]) (by decide +kernel)) (zeV (zaB 1)) (blk1 (by decide +kernel) rfl (λcl C s H fp ω=>b_ne (zdP hr) (v_ix (zaB 0) (zaF)) (v_ix (v_ix (zaB 1) (zaF)) (zaF))) (λcl C s H fp ω=>v_ix (zaB 0) (zaF))) zh8.nd)) (zaS (zbR (zf8 (zaC (ztA) (zaC (zaB 0) (zaC (v_ix (v_ix (zaB 1) (zaF)) (zaF)) (zaC (v_ix (zaB 2) (zaF)) (zaN))))))))) rfl
theorem ziZ:FnScope ["told","number"] ["told","number"] (defScope zgN):=fO (by decide +kernel)
def zg4:FS:=zbS (zbJ (compF (zc3 (gv 0)) (zeY (zaQ dIsnt (binN dIx (gv 0) (cstN (.int 1))) (cstN .none)) (zaQ dNe (binN dIx (gv 0) (cstN (.int 1))) (gv 1))) (binN dIx (gv 0) (cstN (.int 0))) [1]))
def zb3:List D->Option D:=runV 2 2 zg4
theorem zm2 (T:Txt K mg t):FnOk P w K mg base CX0 1 t.a_q33 t.d_q33 ["told","number"] (spV K zb3) :=
 cV (okV T.q33.F ziZ λ_ _ _ _ _ _ hr=>zaS (zbR (PO.v (zd1 rfl (cO ziZ (fr:=["number"]) (by decide +kernel)) (zeV (zaB 0)) (blk1 (by decide +kernel) rfl (λcl C s H fp ω=>PBW.b (ztB (zx9 (v_ix (zaB 0) (zaF)) (zi2)) (zo4 (b_ne (zdP hr) (v_ix (zaB 0) (zaF)) (zaB 1))))) (λcl C s H fp ω=>v_ix (zaB 0) (zaF))))))) rfl
theorem zdN:FnScope ["rule","chain","number","rounds","low","high","middle"] ["rule","chain","number","rounds"] (defScope zjB):=fO (by decide +kernel)
def zqX (c:FnC)(φ:D->Option D):FS:=seqS (setS 4 (cst (.int 0))) (seqS (setS 5 (bin dSub (un dLen (gv 1)) (cst (.int 1)))) (seqS (whileD (cmpB dGt (bin dSub (gv 5) (gv 4)) (cst (.int 1))) (seqS (setS 6 (bin dDiv (bin dAdd (gv 4) (gv 5)) (cst (.int 2)))) (ifS (tst (callV zaT (consL (callP 0 c (zaO c φ) (consL (bin dIx (gv 1) (gv 6)) (consL (gv 3) (nilL)))) (consL (gv 2) (nilL))))) (setS 4 (gv 6)) (setS 5 (gv 6)))) 100) (retS (callV zbW (consL (bin dIx (gv 1) (gv 5)) (consL (callP 0 c (zaO c φ) (consL (bin dIx (gv 1) (gv 5)) (consL (gv 3) (nilL)))) (nilL)))))))
def zc1 (c:FnC)(φ:D->Option D):List D->Option D:=runF 4 7 c (zqX c φ)
theorem zpR (T:Txt K mg t){c:FnC}{φ:D->Option D}(hC:CallOk P w K mg base 2 c φ):FnOk P w K mg base CX0 8 t.a_q47 t.d_q47 ["rule","chain","number","rounds"] (spF K c (zc1 c φ)) :=
 okF T.q47.F zdN λ_ _ _ _ _ _ hr=>zaJ (zbE 4 (zaF) zdN.nd) (zaJ (zbE 5 (zgA (zjM rfl T.b_len (zaB 1)) (zaF)) zdN.nd) (zaJ (zqI 100 PassesOwn.never (b_gt (zgA (zaB 5) (zaB 4)) (zaF)) (zaJ (zbE 6 (zjL (zc6 (zaB 4) (zaB 5)) (zaF)) zdN.nd) (zaS (s_if (zeU (vc (zjY T) T.q35 hr (zaC (zgE 0 (zfM T hC) (hr.mono (by decide)) T.q48.m T.q48.F.kp T.q48.b (zaC (v_ix (zaB 1) (zaB 6)) (zaC (zaB 3) (zaN)))) (zaC (zaB 2) (zaN))))) (zaS (zbE 4 (zaB 6) zdN.nd)) (zaS (zbE 5 (zaB 6) zdN.nd)))))) (zaS (zbR (vc (zk5 T) T.q46 hr (zaC (v_ix (zaB 1) (zaB 5)) (zaC (zgE 0 (zfM T hC) (hr.mono (by decide)) T.q48.m T.q48.F.kp T.q48.b (zaC (v_ix (zaB 1) (zaB 5)) (zaC (zaB 3) (zaN)))) (zaN))))))))
theorem zcM:FnScope ["rule","run","bound","rounds","number","other","chain","hands"] ["rule","run","bound","rounds","number"] (defScope ze5):=fO (by decide +kernel)
def zmD (c:FnC)(φ:D->Option D):FS:=seqS (setS 5 (ifV (cmpB dEq (gv 4) (cst (.int 0))) (cst (.int 1)) (cst (.int 0)))) (seqS (setS 6 (callV zb9 (consL (gv 1) (consL (gv 2) (consL (gv 3) (consL (unL dTupL (compF (un1L rng1 (callV zaL (consL (gv 1) (nilL)))) (λ_=>Ga true) (gv 1) [5])) (nilL))))))) (seqS (setS 7 (callV zb3 (consL (callP 0 c (zaO c φ) (consL (bin dIx (gv 6) (un dNeg (cst (.int 1)))) (consL (gv 3) (nilL)))) (consL (gv 5) (nilL))))) (seqS (ifS (cmpB dGt (un dLen (gv 7)) (cst (.int 0))) (retS (tupV (consL (cst (.str (jl "strange"))) (consL (bin dIx (gv 6) (un dNeg (cst (.int 1)))) (consL (bin dIx (gv 7) (cst (.int 0))) (nilL)))))) (nxS)) (retS (callP 0 c (zc1 c φ) (consL (gv 6) (consL (gv 4) (consL (gv 3) (nilL)))))))))
def zbX (c:FnC)(φ:D->Option D):List D->Option D:=runF 5 8 c (zmD c φ)
theorem zlE (T:Txt K mg t){c:FnC}{φ:D->Option D}(hC:CallOk P w K mg base 2 c φ):FnOk P w K mg base CX0 34 t.a_q11 t.d_q11 ["rule","run","bound","rounds","number"] (spF K c (zbX c φ)) :=
 okF T.q11.F zcM λ_ _ _ _ _ _ hr=>zaJ (zbE 5 (v_if (b_eq (zdP hr) (zaB 4) (zaF)) (zaF) (zaF)) zcM.nd) (zaJ (zbE 6 (vc (zoJ T) T.q41 hr (zaC (zaB 1) (zaC (zaB 2) (zaC (zaB 3) (zaC (zfH rfl T.b_tuple (PO.sh (zd1 rfl (cO zcM (fr:=["other"]) (by decide +kernel)) (zeT rfl T.b_range (vc (zcD T) T.q21 hr (zaC (zaB 1) (zaN)))) (blk0 (by decide +kernel) rfl (λcl C s H fp ω=>zaB 1))))) (zaN)))))) zcM.nd) (zaJ (zbE 7 (vc (zm2 T) T.q33 hr (zaC (zgE 0 (zfM T hC) (hr.mono (by decide)) T.q48.m T.q48.F.kp T.q48.b (zaC (v_ix (zaB 6) (zk8 (zaF))) (zaC (zaB 3) (zaN)))) (zaC (zaB 5) (zaN)))) zcM.nd) (zaJ (s_if (b_gt (zjM rfl T.b_len (zaB 7)) (zaF)) (zaS (zbR (zf8 (zaC (ztA) (zaC (v_ix (zaB 6) (zk8 (zaF))) (zaC (v_ix (zaB 7) (zaF)) (zaN))))))) (zd0)) (zaS (zbR (zgE 0 (zpR T hC) (hr.mono (by decide)) T.q47.m T.q47.F.kp T.q47.b (zaC (zaB 6) (zaC (zaB 4) (zaC (zaB 3) (zaN))))))))))
theorem zg5:FnScope ["rule","run","bound","rounds","told","number"] ["rule","run","bound","rounds"] (defScope zkI):=fO (by decide +kernel)
def zsR (c:FnC)(φ:D->Option D):FS:=seqS (ifS (notB (tst (callV zbD (consL (gv 1) (consL (gv 2) (consL (gv 3) (nilL))))))) (nevS) (nxS)) (seqS (setS 4 (callP 0 c (zaO c φ) (consL (gv 1) (consL (gv 3) (nilL))))) (seqS (setS 5 (bin dIx (bin dIx (gv 4) (cst (.int 0))) (cst (.int 1)))) (seqS (ifS (notB (tst (callV zaT (consL (gv 4) (consL (gv 5) (nilL)))))) (retS (callV zbW (consL (gv 1) (consL (gv 4) (nilL))))) (nxS)) (seqS (ifS (cmpB dIs (gv 5) (cst .none)) (retS (cst .none)) (nxS)) (retS (callP 0 c (zbX c φ) (consL (gv 1) (consL (gv 2) (consL (gv 3) (consL (gv 5) (nilL)))))))))))
def zdK (c:FnC)(φ:D->Option D):List D->Option D:=runF 4 6 c (zsR c φ)
theorem zqY (T:Txt K mg t){c:FnC}{φ:D->Option D}(hC:CallOk P w K mg base 2 c φ):FnOk P w K mg base CX0 35 t.a_q51 t.d_q51 ["rule","run","bound","rounds"] (spF K c (zdK c φ)) :=
 okF T.q51.F zg5 λ_ _ _ _ _ _ hr=>zaJ (s_if (ziM (zeU (vc (zh2 T) T.q45 hr (zaC (zaB 1) (zaC (zaB 2) (zaC (zaB 3) (zaN))))))) (zaS (zn5)) (zd0)) (zaJ (zbE 4 (zgE 0 (zfM T hC) (hr.mono (by decide)) T.q48.m T.q48.F.kp T.q48.b (zaC (zaB 1) (zaC (zaB 3) (zaN)))) zg5.nd) (zaJ (zbE 5 (v_ix (v_ix (zaB 4) (zaF)) (zaF)) zg5.nd) (zaJ (s_if (ziM (zeU (vc (zjY T) T.q35 hr (zaC (zaB 4) (zaC (zaB 5) (zaN)))))) (zaS (zbR (vc (zk5 T) T.q46 hr (zaC (zaB 1) (zaC (zaB 4) (zaN)))))) (zd0)) (zaJ (s_if (b_is (zaB 5) (zi2)) (zaS (zbR (zi2))) (zd0)) (zaS (zbR (zgE 0 (zlE T hC) (hr.mono (by decide)) T.q11.m T.q11.F.kp T.q11.b (zaC (zaB 1) (zaC (zaB 2) (zaC (zaB 3) (zaC (zaB 5) (zaN))))))))))))
def zqZ (c:FnC)(φ:D->Option D):FX:=orX (clX (consL (gv 1) (consL (gv 2) (consL (gv 3) (nilL)))) zdM) (ifX (notB (tst (callV zbD (consL (gv 1) (consL (gv 2) (consL (gv 3) (nilL))))))) (raX "Closed") (noX))
def zd9 (c:FnC)(φ:D->Option D):List D->Option Str:=runXF 4 6 c (zqZ c φ)
theorem zpS (T:Txt K mg t){c:FnC}{φ:D->Option D}(hC:CallOk P w K mg base 2 c φ):FnOk P w K mg base (CX1 P w) 35 t.a_q51 t.d_q51 ["rule","run","bound","rounds"] (spXF K mg c (zd9 c φ)) :=
 okXF T.q51.F zg5 λ_ _ _ _ _ _ hr=>zpL (x_or (zBI (zBK (zBJ (zt8 (zoI T) pass1 (hr.mono (by decide)) T.q45.m T.q45.F.kp T.q45.b (zaC (zaB 1) (zaC (zaB 2) (zaC (zaB 3) (zaN)))))))) (x_if (ziM (zeU (vc (zh2 T) T.q45 hr (zaC (zaB 1) (zaC (zaB 2) (zaC (zaB 3) (zaN))))))) (zpL (zrF T.x_Closed)) (zBH)))
theorem zi0:FnScope ["number","k","mixed"] ["number","k"] (defScope zgO):=fO (by decide +kernel)
def zg6:FS:=zaH (zaK 2 (binN dMod (binN dAdd (binN dMul (gv 0) (cstN (.int 48271))) (binN dMul (binN dMul (gv 1) (gv 1)) (cstN (.int 7919)))) (cstN (.int 2147483647)))) (zbS (binN dMod (binN dMul (gv 2) (gv 2)) (cstN (.int 2147483629))))
def zbG:List D->Option D:=runV 2 3 zg6
theorem zm3 (T:Txt K mg t):FnOk P w K mg base CX0 1 t.a_q24 t.d_q24 ["number","k"] (spV K zbG) :=
 cV (okV T.q24.F zi0 λ_ _ _ _ _ _ hr=>zaJ (zbE 2 (zf2 (zc6 (zmT (zaB 0) (zaF)) (zmT (zmT (zaB 1) (zaB 1)) (zaF))) (zaF)) zi0.nd) (zaS (zbR (zf2 (zmT (zaB 2) (zaB 2)) (zaF))))) rfl
theorem zdB:FnScope ["number","many","rest"] ["number","many"] (defScope ze6):=fO (by decide +kernel)
def zfD:FS:=zaH (zaK 2 (binN dDiv (gv 0) (cstN (.int 3)))) (zaH (ifSN (zaQ dEq (binN dMod (gv 0) (cstN (.int 3))) (cstN (.int 0))) (zbS (unLN dTupL (compF (zhJ rng1 (gv 1)) (λ_=>Ga true) (binN dSub (binN dMod (binN dDiv (gv 1) (binN dAdd (gv 0) (cstN (.int 1)))) (cstN (.int 4))) (cstN (.int 1))) [2]))) (nxSN)) (zbS (unLN dTupL (compF (zhJ rng1 (gv 1)) (λ_=>Ga true) (binN dSub (binN dMod (binN dAdd (binN dMul (gv 1) (binN dAdd (binN dMul (gv 0) (gv 0)) (cstN (.int 1)))) (gv 0)) (binN dMul (cstN (.int 2)) (binN dPow (cstN (.int 10)) (cstN (.int 59))))) (binN dPow (cstN (.int 10)) (cstN (.int 59)))) [2]))))
def zaX:List D->Option D:=runV 2 3 zfD
theorem zlF (T:Txt K mg t):FnOk P w K mg base CX0 1 t.a_q13 t.d_q13 ["number","many"] (spV K zaX) :=
 cV (okV T.q13.F zdB λ_ _ _ _ _ _ hr=>zaJ (zbE 2 (zjL (zaB 0) (zaF)) zdB.nd) (zaJ (s_if (b_eq (zdP hr) (zf2 (zaB 0) (zaF)) (zaF)) (zaS (zbR (zfH rfl T.b_tuple (PO.sh (zd1 rfl (cO zdB (fr:=["rest"]) (by decide +kernel)) (zeT rfl T.b_range (zaB 1)) (blk0 (by decide +kernel) rfl (λcl C s H fp ω=>zgA (zf2 (zjL (zaB 1) (zc6 (zaB 0) (zaF))) (zaF)) (zaF)))))))) (zd0)) (zaS (zbR (zfH rfl T.b_tuple (PO.sh (zd1 rfl (cO zdB (fr:=["rest"]) (by decide +kernel)) (zeT rfl T.b_range (zaB 1)) (blk0 (by decide +kernel) rfl (λcl C s H fp ω=>zgA (zf2 (zc6 (zmT (zaB 1) (zc6 (zmT (zaB 0) (zaB 0)) (zaF))) (zaB 0)) (zmT (zaF) (ztD (zaF) (zaF)))) (ztD (zaF) (zaF))))))))))) rfl
theorem zbQ:FnScope ["mixed","many","most","last","whole","falls","number","j","hand","reached"] ["mixed","many","most","last"] (defScope zgP):=fO (by decide +kernel)
def zg7:FS:=zaH (zaK 4 (binN dIx (zbJ (zaA (cstN (.int 3)) (zaA (cstN (.int 7)) (zaA (cstN (.int 15)) (zaA (cstN (.int 31)) (zaE)))))) (binN dSub (gv 1) (cstN (.int 2))))) (zaH (zB1 5) (zaH (zaK 6 (gv 0)) (zaH (zhP (zhJ rng1 (gv 1)) (tgNN 7) (zaH (zaK 6 (binN dMod (binN dAdd (binN dAdd (binN dMul (gv 6) (gv 6)) (binN dMul (cstN (.int 48271)) (gv 6))) (cstN (.int 7919))) (cstN (.int 2147483647)))) (zaH (zaK 8 (binN dMod (binN dAdd (gv 0) (gv 7)) (gv 1))) (zaH (zaK 9 (binN dMod (binN dDiv (gv 6) (cstN (.int 16))) (binN dAdd (gv 4) (cstN (.int 1))))) (zaH (ifSN (zaQ dEq (binN dMod (binN dDiv (gv 6) (cstN (.int 4))) (cstN (.int 4))) (cstN (.int 0))) (zaK 9 (gv 4)) (nxSN)) (zaH (ifSN (zaQ dEq (binN dMod (binN dDiv (gv 9) (binN dIx (zbJ (zaA (cstN (.int 1)) (zaA (cstN (.int 2)) (zaA (cstN (.int 4)) (zaA (cstN (.int 8)) (zaA (cstN (.int 16)) (zaE))))))) (gv 8))) (cstN (.int 2))) (cstN (.int 1))) (zaK 9 (binN dSub (gv 9) (binN dIx (zbJ (zaA (cstN (.int 1)) (zaA (cstN (.int 2)) (zaA (cstN (.int 4)) (zaA (cstN (.int 8)) (zaA (cstN (.int 16)) (zaE))))))) (gv 8)))) (nxSN)) (ifSN (zeY (zaQ dGt (binN dMod (gv 6) (cstN (.int 4))) (cstN (.int 0))) (zaQ dLt (unN dLenI (gv 5)) (gv 2))) (setI 5 (gv 8) (zcU (zaA (gv 8) (zaA (binN dAdd (cstN (.int 1)) (binN dMod (binN dDiv (gv 6) (cstN (.int 512))) (gv 3))) (zaA (gv 9) (zaE)))))) (nxSN)))))))) (zAi 5 (zbS (unLN dTupL (compF (zc3 (zbJ (zrG (zhJ keysI (gv 5))))) (λ_=>Ga true) (binN dIxI (gv 1) (gv 0)) [5])))))))
def za5:List D->Option D:=runV 4 10 zg7
theorem zm4 (T:Txt K mg t):FnOk P w K mg base CX0 1 t.a_q23 t.d_q23 ["mixed","many","most","last"] (spV K za5) :=
 cV (okV T.q23.F zbQ λ_ _ _ _ _ _ hr=>zaJ (zbE 4 (v_ix (PO.v (ziL (zaC (zaF) (zaC (zaF) (zaC (zaF) (zaC (zaF) (zaN))))))) (zgA (zaB 1) (zaF))) zbQ.nd) (zaJ (zzD 5 zbQ.nd) (zaJ (zbE 6 (zaB 0) zbQ.nd) (zaJ (zhN PassesOwn.never rfl (zeT rfl T.b_range (zaB 1)) (zcV 7 zbQ.nd) (zaJ (zbE 6 (zf2 (zc6 (zc6 (zmT (zaB 6) (zaB 6)) (zmT (zaF) (zaB 6))) (zaF)) (zaF)) zbQ.nd) (zaJ (zbE 8 (zf2 (zc6 (zaB 0) (zaB 7)) (zaB 1)) zbQ.nd) (zaJ (zbE 9 (zf2 (zjL (zaB 6) (zaF)) (zc6 (zaB 4) (zaF))) zbQ.nd) (zaJ (s_if (b_eq (zdP hr) (zf2 (zjL (zaB 6) (zaF)) (zaF)) (zaF)) (zaS (zbE 9 (zaB 4) zbQ.nd)) (zd0)) (zaJ (s_if (b_eq (zdP hr) (zf2 (zjL (zaB 9) (v_ix (PO.v (ziL (zaC (zaF) (zaC (zaF) (zaC (zaF) (zaC (zaF) (zaC (zaF) (zaN)))))))) (zaB 8))) (zaF)) (zaF)) (zaS (zbE 9 (zgA (zaB 9) (v_ix (PO.v (ziL (zaC (zaF) (zaC (zaF) (zaC (zaF) (zaC (zaF) (zaC (zaF) (zaN)))))))) (zaB 8))) zbQ.nd)) (zd0)) (zaS (s_if (PBW.b (ztB (b_gt (zf2 (zaB 6) (zaF)) (zaF)) (zo4 (b_lt (zBC rfl T.b_len (zaB 5)) (zaB 2))))) (zaS (zzF 5 (zaB 8) (zf8 (zaC (zaB 8) (zaC (zc6 (zaF) (zf2 (zjL (zaB 6) (zaF)) (zaB 3))) (zaC (zaB 9) (zaN))))))) (zd0))))))))) (zaS (zDS 5 (zbR (zfH rfl T.b_tuple (PO.sh (zd1 rfl (cO zbQ (fr:=["falls"]) (by decide +kernel)) (zeV (PO.v (zt2 rfl rfl T.b_sorted (zaB 5)))) (blk0 (by decide +kernel) rfl (λcl C s H fp ω=>zDV (zaB 1) (zaB 0))))))))))))) rfl
theorem zbA:FnScope ["run","bound","waste","k","fall","up","count","missed"] ["run","bound"] (defScope ze7):=fO (by decide +kernel)
def zh9:Scope:={ kind:=.function,names:=[(jl ".0",.local),(jl "fall",.local),(jl "k",.free)],isGenerator:=false,isCoroutine:=false,more:=[] }
def ziA:Scope:={ kind:=.function,names:=[(jl ".0",.local),(jl "hand",.local),(jl "k",.free),(jl "run",.free)],isGenerator:=false,isCoroutine:=false,more:=[] }
theorem zjZ:CompSc ["hand","k","run"] ziA zh9 "fall" ["k"] [1] :=
 ⟨rfl,by decide +kernel,by decide +kernel,rfl,by decide +kernel,by decide +kernel,rfl,λj i y h1 h2=>(by
  match j,h1,h2 with
  | 0,h1,h2=>cases h1;cases h2;rfl
  | j+1,h1,h2=>simp at h1),by decide⟩
def zfE:FS:=zaH (zaK 2 (cstN (.int 0))) (zaH (zhP (zz8 rng2 (cstN (.int 1)) (cstN (.int 4))) (tgNN 3) (zaH (ziN 5 (zfG 5 (compF (zhJ rng1 (unN dLen (binN dIx (gv 0) (cstN (.int 0))))) (zaQ dNin (gv 0) (zbJ (compF (zc3 (binN dIx (gv 2) (cstN (.int 1)))) (zaQ dLe (binN dIx (gv 0) (cstN (.int 1))) (gv 1)) (binN dIx (gv 0) (cstN (.int 0))) [1]))) (gv 0) [3,0]))) (zaH (zaK 6 (cstN (.int 0))) (zaH (zhP (zc3 (binN dIx (gv 0) (cstN (.int 1)))) (tgNN 4) (zaH (ziN 7 (zfG 7 (compF (zc3 (gv 5)) (zaQ dEq (binN dMod (binN dDiv (binN dIx (gv 1) (cstN (.int 2))) (binN dIx (zbJ (zaA (cstN (.int 1)) (zaA (cstN (.int 2)) (zaA (cstN (.int 4)) (zaA (cstN (.int 8)) (zaA (cstN (.int 16)) (zaE))))))) (gv 0))) (cstN (.int 2))) (cstN (.int 0))) (gv 0) [4]))) (ifSN (orBN (zaQ dLt (binN dIx (gv 4) (cstN (.int 1))) (gv 3)) (zeY (zaQ dEq (binN dIx (gv 4) (cstN (.int 1))) (gv 3)) (zaQ dNe (gv 7) (zbJ (zaE))))) (zaK 6 (binN dAdd (gv 6) (cstN (.int 1)))) (nxSN)))) (zaK 2 (binN dMax2 (gv 2) (binN dSub (gv 6) (gv 3)))))))) (zbS (binN dSub (binN dAdd (gv 1) (cstN (.int 1))) (gv 2))))
def za3:List D->Option D:=runV 2 8 zfE
theorem zlG (T:Txt K mg t):FnOk P w K mg base CX0 1 t.a_q15 t.d_q15 ["run","bound"] (spV K za3) :=
 cV (okV T.q15.F zbA λ_ _ _ _ _ _ hr=>zaJ (zbE 2 (zaF) zbA.nd) (zaJ (zhN PassesOwn.never rfl (ztI rfl T.b_range (zaF) (zaF)) (zcV 3 zbA.nd) (zaJ (zo9 5 (zkZ 5 rfl (cO zbA (fr:=["k","run"]) (by decide +kernel)) (zeT rfl T.b_range (zjM rfl T.b_len (v_ix (zaB 0) (zaF)))) (blk1 (by decide +kernel) rfl (λcl C s H fp ω=>zDT (zdP hr) (zaB 0) (PO.v (zd1 rfl (zjZ.nest (by decide +kernel)) (zeV (v_ix (zaB 2) (zaF))) (blk1 (by decide +kernel) rfl (λcl C s H fp ω=>b_le (v_ix (zaB 0) (zaF)) (zaB 1)) (λcl C s H fp ω=>v_ix (zaB 0) (zaF)))))) (λcl C s H fp ω=>zaB 0)) zbA.nd)) (zaJ (zbE 6 (zaF) zbA.nd) (zaJ (zhN PassesOwn.never rfl (zeV (v_ix (zaB 0) (zaF))) (zcV 4 zbA.nd) (zaJ (zo9 7 (zkZ 7 rfl (cO zbA (fr:=["fall"]) (by decide +kernel)) (zeV (zaB 5)) (blk1 (by decide +kernel) rfl (λcl C s H fp ω=>b_eq (zdP hr) (zf2 (zjL (v_ix (zaB 1) (zaF)) (v_ix (PO.v (ziL (zaC (zaF) (zaC (zaF) (zaC (zaF) (zaC (zaF) (zaC (zaF) (zaN)))))))) (zaB 0))) (zaF)) (zaF)) (λcl C s H fp ω=>zaB 0)) zbA.nd)) (zaS (s_if (PBW.b (b_or (b_lt (v_ix (zaB 4) (zaF)) (zaB 3)) (zqC (PBW.b (ztB (b_eq (zdP hr) (v_ix (zaB 4) (zaF)) (zaB 3)) (zo4 (b_ne (zdP hr) (zaB 7) (PO.v (ziL (zaN)))))))))) (zaS (zbE 6 (zc6 (zaB 6) (zaF)) zbA.nd)) (zd0))))) (zaS (zbE 2 (zBw rfl rfl T.b_max (zaB 2) (zgA (zaB 6) (zaB 3))) zbA.nd)))))) (zaS (zbR (zgA (zc6 (zaB 1) (zaF)) (zaB 2)))))) rfl
theorem zb4:FnScope ["rule","run","bound","rounds","told","word","e"] ["rule","run","bound","rounds"] (defScope zgQ):=fO (by decide +kernel)
def zdW (mkx:Str->FnC)(c:FnC)(φ:D->Option D):FS:=seqS (setS 4 (cst (.int 0))) (seqS (setS 5 (cst (.str (jl "fine")))) (seqS (tryS (setS 4 (callP 0 c (zdK c φ) (consL (gv 1) (consL (gv 2) (consL (gv 3) (nilL)))))) (clP 0 c (consL (gv 1) (consL (gv 2) (consL (gv 3) (nilL)))) (zd9 c φ)) (vO Prod.fst [("Closed",setS 5 (tupV (consL (isiX 6 (mkx "Closed") false) (consL (isiX 6 (mkx "Closed") false) (consL (isiX 6 (mkx "Closed") true) (nilL)))))),("NoBound",setS 5 (tupV (consL (isiX 6 (mkx "NoBound") true) (consL (isiX 6 (mkx "NoBound") false) (consL (isiX 6 (mkx "NoBound") false) (nilL)))))),("NoNumbers",setS 5 (tupV (consL (isiX 6 (mkx "NoNumbers") false) (consL (isiX 6 (mkx "NoNumbers") true) (consL (isiX 6 (mkx "NoNumbers") false) (nilL))))))]) 6 mkx (gsL [("Closed",setS 5 (tupV (consL (isiX 6 (mkx "Closed") false) (consL (isiX 6 (mkx "Closed") false) (consL (isiX 6 (mkx "Closed") true) (nilL)))))),("NoBound",setS 5 (tupV (consL (isiX 6 (mkx "NoBound") true) (consL (isiX 6 (mkx "NoBound") false) (consL (isiX 6 (mkx "NoBound") false) (nilL)))))),("NoNumbers",setS 5 (tupV (consL (isiX 6 (mkx "NoNumbers") false) (consL (isiX 6 (mkx "NoNumbers") true) (consL (isiX 6 (mkx "NoNumbers") false) (nilL))))))])) (retS (lstV (consL (gv 5) (consL (gv 4) (nilL)))))))
def zb0 (mkx:Str->FnC)(c:FnC)(φ:D->Option D):List D->Option D:=runF 4 7 c (zdW mkx c φ)
theorem zm5 (T:Txt K mg t){c:FnC}{φ:D->Option D}(hC:CallOk P w K mg base 2 c φ):FnOk P w K mg base CX0 36 t.a_q31 t.d_q31 ["rule","run","bound","rounds"] (spF K c (zb0 (EXC mg) c φ)) :=
 okF T.q31.F zb4 λ_ _ _ _ _ _ hr=>zaJ (zbE 4 (zaF) zb4.nd) (zaJ (zbE 5 (ztA) zb4.nd) (zaJ (zD1 (λ_ _ z=>z) ⟨rfl,rfl⟩ (zaS (zbE 4 (zgE 0 (zqY T hC) (hr.mono (by decide)) T.q51.m T.q51.F.kp T.q51.b (zaC (zaB 1) (zaC (zaB 2) (zaC (zaB 3) (zaN))))) zb4.nd)) (zD0 (zDZ (zAH 0 (λ_ _ z=>z) (zpS T hC) (hr.mono (by decide)) T.q51.m T.q51.F.kp T.q51.b (zaC (zaB 1) (zaC (zaB 2) (zaC (zaB 3) (zaN))))))) T.x_RoundError.m T.j_0 (zqQ ⟨_,T.x_Closed.m,T.j_12⟩ (zqQ ⟨_,T.x_NoBound.m,T.j_8⟩ (zqQ ⟨_,T.x_NoNumbers.m,T.j_4⟩ (λc h=>by cases h)))) (zn9 (λv=>zaS (zbE 5 (zf8 (zaC (zjR 6 rfl T.b_isinstance T.x_Closed.m T.x_Closed.f.ek (v:=.ref t.x_NoBound) (λu r=>by cases r;exact T.j_9) (pe_glob rfl T.x_NoBound.m rfl)) (zaC (zjR 6 rfl T.b_isinstance T.x_Closed.m T.x_Closed.f.ek (v:=.ref t.x_NoNumbers) (λu r=>by cases r;exact T.j_10) (pe_glob rfl T.x_NoNumbers.m rfl)) (zaC (zjR 6 rfl T.b_isinstance T.x_Closed.m T.x_Closed.f.ek (v:=.ref t.x_Closed) (λu r=>by cases r;exact T.j_11) (pe_glob rfl T.x_Closed.m rfl)) (zaN))))) zb4.nd)) (zn9 (λv=>zaS (zbE 5 (zf8 (zaC (zjR 6 rfl T.b_isinstance T.x_NoBound.m T.x_NoBound.f.ek (v:=.ref t.x_NoBound) (λu r=>by cases r;exact T.j_5) (pe_glob rfl T.x_NoBound.m rfl)) (zaC (zjR 6 rfl T.b_isinstance T.x_NoBound.m T.x_NoBound.f.ek (v:=.ref t.x_NoNumbers) (λu r=>by cases r;exact T.j_6) (pe_glob rfl T.x_NoNumbers.m rfl)) (zaC (zjR 6 rfl T.b_isinstance T.x_NoBound.m T.x_NoBound.f.ek (v:=.ref t.x_Closed) (λu r=>by cases r;exact T.j_7) (pe_glob rfl T.x_Closed.m rfl)) (zaN))))) zb4.nd)) (zn9 (λv=>zaS (zbE 5 (zf8 (zaC (zjR 6 rfl T.b_isinstance T.x_NoNumbers.m T.x_NoNumbers.f.ek (v:=.ref t.x_NoBound) (λu r=>by cases r;exact T.j_1) (pe_glob rfl T.x_NoBound.m rfl)) (zaC (zjR 6 rfl T.b_isinstance T.x_NoNumbers.m T.x_NoNumbers.f.ek (v:=.ref t.x_NoNumbers) (λu r=>by cases r;exact T.j_2) (pe_glob rfl T.x_NoNumbers.m rfl)) (zaC (zjR 6 rfl T.b_isinstance T.x_NoNumbers.m T.x_NoNumbers.f.ek (v:=.ref t.x_Closed) (λu r=>by cases r;exact T.j_3) (pe_glob rfl T.x_Closed.m rfl)) (zaN))))) zb4.nd)) (zzU)))) zb4.nd) (zaS (zbR (PO.v (ziL (zaC (zaB 5) (zaC (zaB 4) (zaN)))))))))
theorem zi1:FnScope ["view"] ["view"] (defScope zgR):=fO (by decide +kernel)
def zg8:FS:=zaH (whileD (tstN (unN (dIsT "tuple") (binN dIx (gv 0) (cstN (.int 1))))) (zaK 0 (binN dIx (binN dIx (gv 0) (cstN (.int 1))) (binN dIx (gv 0) (cstN (.int 0))))) 100) (zbS (binN dIx (gv 0) (cstN (.int 1))))
def za0:List D->Option D:=runV 1 1 zg8
theorem zm6 (T:Txt K mg t):FnOk P w K mg base CX0 1 t.a_q29 t.d_q29 ["view"] (spV K za0) :=
 cV (okV T.q29.F zi1 λ_ _ _ _ _ _ hr=>zaJ (zqI 100 PassesOwn.never (zeU (zr3 (T:="tuple") (by decide) rfl T.b_isinstance rfl T.b_tuple boot_tuple (v_ix (zaB 0) (zaF)))) (zaS (zbE 0 (v_ix (v_ix (zaB 0) (zaF)) (v_ix (zaB 0) (zaF))) zi1.nd))) (zaS (zbR (v_ix (zaB 0) (zaF))))) rfl
theorem zcT:FnScope ["script","k","mixed","many","run","least","good","bound","closing","rounds","found","silent",".t"] ["script"] (defScope zl5):=fO (by decide +kernel)
def zj0:Scope:={ kind:=.function,names:=[(jl "view",.local),(jl "silent",.free),(jl "_law_first",.globalImplicit),(jl "int",.globalImplicit)],isGenerator:=false,isCoroutine:=false,more:=[] }
theorem zsS:LamSc "view" ["silent"] zj0:=⟨rfl,rfl,rfl,by decide +kernel,rfl,by decide +kernel,by decide +kernel,by decide +kernel⟩
theorem zpT:∀ y∈zj0.names,y.2=.free->(defScope zl5).names.lookup y.1=Ga .cell\/(defScope zl5).names.lookup y.1=Ga .free:=by decide +kernel
theorem zpU:∀ (j i:Nat) (y:Str),([11]:List Nat)[j]?=Ga i->(["silent"]:List Str)[j]?=Ga y->(["script","k","mixed","many","run","least","good","bound","closing","rounds","found","silent",".t"]:List Str)[i]?=Ga y:=λj i y h1 h2=>(by
  match j,h1,h2 with
  | 0,h1,h2=>cases h1;cases h2;rfl
  | j+1,h1,h2=>simp at h1)
def zAI (mkx:Str->FnC)(mk:(D->Option D)->FnC)(Pt:Gj):FS:=seqS (forS (un1L rng1 (bin dMin2 (cst (.int 63)) (un dLen (gv 0)))) (tgN 1) (seqS (setS 2 (callV zbG (consL (bin dIx (gv 0) (gv 1)) (consL (gv 1) (nilL))))) (seqS (setS 3 (bin dAdd (cst (.int 2)) (bin dMod (gv 2) (cst (.int 3))))) (seqS (setS 4 (tupV (consL (callV zaX (consL (bin dIx (gv 0) (gv 1)) (consL (gv 3) (nilL)))) (consL (callV za5 (consL (bin dDiv (gv 2) (cst (.int 3))) (consL (gv 3) (consL (bin dSub (gv 3) (cst (.int 2))) (consL (cst (.int 3)) (nilL)))))) (nilL))))) (seqS (setS 5 (un dLen (bin dIx (gv 4) (cst (.int 1))))) (seqS (setS 6 (bin dGt (bin dMod (bin dDiv (gv 2) (cst (.int 9))) (cst (.int 3))) (cst (.int 0)))) (seqS (setS 7 (bin dAdd (gv 5) (bin dMod (bin dDiv (gv 2) (cst (.int 27))) (bin dSub (bin dSub (gv 3) (cst (.int 1))) (gv 5))))) (seqS (ifS (notB (tst (gv 6))) (setS 7 (bin dIx (lstV (consL (bin dSub (gv 5) (cst (.int 1))) (consL (bin dAdd (bin dSub (gv 3) (cst (.int 1))) (bin dMod (gv 2) (bin dPow (cst (.int 10)) (cst (.int 6))))) (consL (cst (.bool true)) (consL (cst .none) (consL (cst (.str (jl "0"))) (nilL))))))) (bin dMod (bin dDiv (gv 2) (cst (.int 27))) (cst (.int 5))))) (nxS)) (seqS (setS 8 (cst (.int 1))) (seqS (ifS (tst (gv 6)) (setS 8 (callV za3 (consL (gv 4) (consL (gv 7) (nilL))))) (nxS)) (seqS (setS 9 (bin dIx (lstV (consL (cst (.int 0)) (consL (bin dMin2 (cst (.int 1)) (bin dSub (gv 8) (cst (.int 1)))) (consL (gv 8) (consL (bin dMin2 (cst (.int 4)) (bin dAdd (gv 8) (cst (.int 1)))) (nilL)))))) (bin dMod (bin dDiv (gv 2) (cst (.int 135))) (cst (.int 4))))) (seqS (setS 11 (bin dEq (bin dMod (bin dDiv (gv 2) (cst (.int 540))) (cst (.int 2))) (cst (.int 0)))) (seqS (setS 10 (callL 12 Pt mk (bin dIx (lstV (consL (callV za0 (consL (gv 0) (nilL))) (consL (cst .none) (nilL)))) (un dInt (gv 1))) (zb0 mkx) [11] (consL (gv 4) (consL (gv 7) (consL (gv 9) (nilL)))))) (ifS (orB (notB (tst (gv 6))) (cmpB dGe (gv 9) (gv 8))) (ifS (cmpB dNe (gv 10) (lstV (consL (tupV (consL (notV (gv 6)) (consL (cst (.bool false)) (consL (gv 6) (nilL))))) (consL (cst (.int 0)) (nilL))))) (retS (cst (.bool false))) (nxS)) (ifS (orB (cmpB dNe (bin dIx (gv 10) (cst (.int 0))) (cst (.str (jl "fine")))) (orB (cmpB dNe (gv 11) (bin dIs (bin dIx (gv 10) (cst (.int 1))) (cst .none))) (andB (notB (tst (gv 11))) (notB (tst (un (dIsT "tuple") (bin dIx (gv 10) (cst (.int 1))))))))) (retS (cst (.bool false))) (nxS)))))))))))))))) (retS (cst (.bool true)))
def ziI (mkx:Str->FnC)(mk:(D->Option D)->FnC)(Pt:Gj):List D->Option D:=runT 1 13 Pt (zAI mkx mk Pt)
theorem zw5 (T:Txt K mg t):FnOk P w K mg base CX0 37 t.a_q58 t.d_q58 ["script"] (spT K t.Pt (ziI (EXC mg) (SemC P w K mg base 2) t.Pt)) :=
 okT T.q58.F T.lam_cd zcT (by decide) (by decide) λ_ _ _ _ _ hr=>zaJ (zhN PassesOwn.never rfl (zeT rfl T.b_range (ztR rfl rfl T.b_min (zaF) (zjM rfl T.b_len (zaB 0)))) (zcV 1 zcT.nd) (zaJ (zbE 2 (vc (zm3 T) T.q24 hr (zaC (v_ix (zaB 0) (zaB 1)) (zaC (zaB 1) (zaN)))) zcT.nd) (zaJ (zbE 3 (zc6 (zaF) (zf2 (zaB 2) (zaF))) zcT.nd) (zaJ (zbE 4 (zf8 (zaC (vc (zlF T) T.q13 hr (zaC (v_ix (zaB 0) (zaB 1)) (zaC (zaB 3) (zaN)))) (zaC (vc (zm4 T) T.q23 hr (zaC (zjL (zaB 2) (zaF)) (zaC (zaB 3) (zaC (zgA (zaB 3) (zaF)) (zaC (zaF) (zaN)))))) (zaN)))) zcT.nd) (zaJ (zbE 5 (zjM rfl T.b_len (v_ix (zaB 4) (zaF))) zcT.nd) (zaJ (zbE 6 (v_gt (zf2 (zjL (zaB 2) (zaF)) (zaF)) (zaF)) zcT.nd) (zaJ (zbE 7 (zc6 (zaB 5) (zf2 (zjL (zaB 2) (zaF)) (zgA (zgA (zaB 3) (zaF)) (zaB 5)))) zcT.nd) (zaJ (s_if (ziM (zeU (zaB 6))) (zaS (zbE 7 (v_ix (PO.v (ziL (zaC (zgA (zaB 5) (zaF)) (zaC (zc6 (zgA (zaB 3) (zaF)) (zf2 (zaB 2) (ztD (zaF) (zaF)))) (zaC (v_bl) (zaC (zi2) (zaC (ztA) (zaN)))))))) (zf2 (zjL (zaB 2) (zaF)) (zaF))) zcT.nd)) (zd0)) (zaJ (zbE 8 (zaF) zcT.nd) (zaJ (s_if (zeU (zaB 6)) (zaS (zbE 8 (vc (zlG T) T.q15 hr (zaC (zaB 4) (zaC (zaB 7) (zaN)))) zcT.nd)) (zd0)) (zaJ (zbE 9 (v_ix (PO.v (ziL (zaC (zaF) (zaC (ztR rfl rfl T.b_min (zaF) (zgA (zaB 8) (zaF))) (zaC (zaB 8) (zaC (ztR rfl rfl T.b_min (zaF) (zc6 (zaB 8) (zaF))) (zaN))))))) (zf2 (zjL (zaB 2) (zaF)) (zaF))) zcT.nd) (zaJ (zbE 11 (v_eq (zdP hr) (zf2 (zjL (zaB 2) (zaF)) (zaF)) (zaF)) zcT.nd) (zaJ (zbE 10 (zzM 12 (kl:=1) ⟨rfl,λh Y=>qS Y T.lam_hd,T.lam_bm⟩ zsS zpT (by decide +kernel) (λ_=>rfl) rfl zpU (λ_ _ _ _ _ _ _=>rfl) (λqual fl cdl cl A outer s H hr=>v_ix (PO.v (ziL (zaC (vc (zm6 T) T.q29 hr (zaC (zaB 0) (zaN))) (zaC (zi2) (zaN))))) (zBA rfl T.b_int (zaB 1))) (λφ=>zm5 T (zzK P w K mg base (1+1) φ)) (hr.mono (by decide)) T.q31.m T.q31.F.kp T.q31.b (zaC (zaB 4) (zaC (zaB 7) (zaC (zaB 9) (zaN))))) zcT.nd) (zaS (s_if (PBW.b (b_or (ziM (zeU (zaB 6))) (zqC (b_ge (zaB 9) (zaB 8))))) (zaS (s_if (b_ne (zdP hr) (zaB 10) (PO.v (ziL (zaC (zf8 (zaC (zy1 (zaB 6)) (zaC (v_bl) (zaC (zaB 6) (zaN))))) (zaC (zaF) (zaN)))))) (zaS (zbR (v_bl))) (zd0))) (zaS (s_if (PBW.b (b_or (b_ne (zdP hr) (v_ix (zaB 10) (zaF)) (ztA)) (b_or (b_ne (zdP hr) (zaB 11) (v_is (v_ix (zaB 10) (zaF)) (zi2))) (zqC (PBW.b (ztB (ziM (zeU (zaB 11))) (zo4 (ziM (zeU (zr3 (T:="tuple") (by decide) rfl T.b_isinstance rfl T.b_tuple boot_tuple (v_ix (zaB 10) (zaF)))))))))))) (zaS (zbR (v_bl))) (zd0)))))))))))))))))) (zaS (zbR (v_bl)))
theorem zCJ {K:ja}{mg:Str->Option Gg}{h:Heap}(X:K.In h)(G:h.Ns mainGlobals mg)
  {a_q39:Gj} {d_q39:Gi} {cd_q39:Gg} (w_q39:FnW K "is_whole" zhQ cd_q39 a_q39 d_q39)
  {a_q52:Gj} {d_q52:Gi} {cd_q52:Gg} (w_q52:FnW K "bit_of" zkF cd_q52 a_q52 d_q52)
  {a_q36:Gj} {d_q36:Gi} {cd_q36:Gg} (w_q36:FnW K "has_hand" zhR cd_q36 a_q36 d_q36)
  {a_q44:Gj} {d_q44:Gi} {cd_q44:Gg} (w_q44:FnW K "mask_of" zi6 cd_q44 a_q44 d_q44)
  {a_q40:Gj} {d_q40:Gi} {cd_q40:Gg} (w_q40:FnW K "hands_in" zhS cd_q40 a_q40 d_q40)
  {a_q32:Gj} {d_q32:Gi} {cd_q32:Gg} (w_q32:FnW K "is_number" zgF cd_q32 a_q32 d_q32)
  {a_q16:Gj} {d_q16:Gi} {cd_q16:Gg} (w_q16:FnW K "are_numbers" ze0 cd_q16 a_q16 d_q16)
  {a_q21:Gj} {d_q21:Gi} {cd_q21:Gg} (w_q21:FnW K "many_hands" zfS cd_q21 a_q21 d_q21)
  {a_q49:Gj} {d_q49:Gi} {cd_q49:Gg} (w_q49:FnW K "fall_of" zi7 cd_q49 a_q49 d_q49)
  {a_q10:Gj} {d_q10:Gi} {cd_q10:Gg} (w_q10:FnW K "without_fall" zeF cd_q10 a_q10 d_q10)
  {a_q26:Gj} {d_q26:Gi} {cd_q26:Gg} (w_q26:FnW K "with_fall" zgG cd_q26 a_q26 d_q26)
  {a_q18:Gj} {d_q18:Gi} {cd_q18:Gg} (w_q18:FnW K "with_number" ze1 cd_q18 a_q18 d_q18)
  {a_q54:Gj} {d_q54:Gi} {cd_q54:Gg} (w_q54:FnW K "is_up" zl1 cd_q54 a_q54 d_q54)
  {a_q30:Gj} {d_q30:Gi} {cd_q30:Gg} (w_q30:FnW K "who_is_up" zgH cd_q30 a_q30 d_q30)
  {a_q57:Gj} {d_q57:Gi} {cd_q57:Gg} (w_q57:FnW K "comes" zl2 cd_q57 a_q57 d_q57)
  {a_q55:Gj} {d_q55:Gi} {cd_q55:Gg} (w_q55:FnW K "keeps" zl3 cd_q55 a_q55 d_q55)
  {a_q2:Gj} {d_q2:Gi} {cd_q2:Gg} (w_q2:FnW K "with_reach_turned" zcX cd_q2 a_q2 d_q2)
  {a_q0:Gj} {d_q0:Gi} {cd_q0:Gg} (w_q0:FnW K "changed_while_hushed" zcC cd_q0 a_q0 d_q0)
  {a_q53:Gj} {d_q53:Gi} {cd_q53:Gg} (w_q53:FnW K "hushed" zkG cd_q53 a_q53 d_q53)
  {a_q25:Gj} {d_q25:Gi} {cd_q25:Gg} (w_q25:FnW K "all_heard" zgI cd_q25 a_q25 d_q25)
  {a_q8:Gj} {d_q8:Gi} {cd_q8:Gg} (w_q8:FnW K "is_found_out" zeG cd_q8 a_q8 d_q8)
  {a_q34:Gj} {d_q34:Gi} {cd_q34:Gg} (w_q34:FnW K "found_out" zgJ cd_q34 a_q34 d_q34)
  {a_q37:Gj} {d_q37:Gi} {cd_q37:Gg} (w_q37:FnW K "waste_of" zhT cd_q37 a_q37 d_q37)
  {a_q5:Gj} {d_q5:Gi} {cd_q5:Gg} (w_q5:FnW K "closing_round" zd5 cd_q5 a_q5 d_q5)
  {a_q45:Gj} {d_q45:Gi} {cd_q45:Gg} (w_q45:FnW K "is_open" zi8 cd_q45 a_q45 d_q45)
  {a_q1:Gj} {d_q1:Gi} {cd_q1:Gg} (w_q1:FnW K "without_late_falls" zcR cd_q1 a_q1 d_q1)
  {a_q14:Gj} {d_q14:Gi} {cd_q14:Gg} (w_q14:FnW K "heard_falls" ze2 cd_q14 a_q14 d_q14)
  {a_q17:Gj} {d_q17:Gi} {cd_q17:Gg} (w_q17:FnW K "fallen_next" ze3 cd_q17 a_q17 d_q17)
  {a_q3:Gj} {d_q3:Gi} {cd_q3:Gg} (w_q3:FnW K "with_heard_next" zdE cd_q3 a_q3 d_q3)
  {a_q56:Gj} {d_q56:Gi} {cd_q56:Gg} (w_q56:FnW K "risen" zl4 cd_q56 a_q56 d_q56)
  {a_q7:Gj} {d_q7:Gi} {cd_q7:Gg} (w_q7:FnW K "heard_healed" zeH cd_q7 a_q7 d_q7)
  {a_q19:Gj} {d_q19:Gi} {cd_q19:Gg} (w_q19:FnW K "made_heard" zfT cd_q19 a_q19 d_q19)
  {a_q6:Gj} {d_q6:Gi} {cd_q6:Gg} (w_q6:FnW K "round_healed" zeI cd_q6 a_q6 d_q6)
  {a_q50:Gj} {d_q50:Gi} {cd_q50:Gg} (w_q50:FnW K "healed" zkH cd_q50 a_q50 d_q50)
  {a_q20:Gj} {d_q20:Gi} {cd_q20:Gg} (w_q20:FnW K "renumbered" zfU cd_q20 a_q20 d_q20)
  {a_q4:Gj} {d_q4:Gi} {cd_q4:Gg} (w_q4:FnW K "are_numbers_for" zdF cd_q4 a_q4 d_q4)
  {a_q41:Gj} {d_q41:Gi} {cd_q41:Gg} (w_q41:FnW K "chain_of" zhU cd_q41 a_q41 d_q41)
  {a_q12:Gj} {d_q12:Gi} {cd_q12:Gg} (w_q12:FnW K "view_behind" ze4 cd_q12 a_q12 d_q12)
  {a_q9:Gj} {d_q9:Gi} {cd_q9:Gg} (w_q9:FnW K "views_behind" zeJ cd_q9 a_q9 d_q9)
  {a_q43:Gj} {d_q43:Gi} {cd_q43:Gg} (w_q43:FnW K "views_of" zhV cd_q43 a_q43 d_q43)
  {a_q38:Gj} {d_q38:Gi} {cd_q38:Gg} (w_q38:FnW K "own_part" zhW cd_q38 a_q38 d_q38)
  {a_q22:Gj} {d_q22:Gi} {cd_q22:Gg} (w_q22:FnW K "rounds_of" zgK cd_q22 a_q22 d_q22)
  {a_q42:Gj} {d_q42:Gi} {cd_q42:Gg} (w_q42:FnW K "own_past" zhX cd_q42 a_q42 d_q42)
  {a_q27:Gj} {d_q27:Gi} {cd_q27:Gg} (w_q27:FnW K "choice_by" zgL cd_q27 a_q27 d_q27)
  {a_q28:Gj} {d_q28:Gi} {cd_q28:Gg} (w_q28:FnW K "number_by" zgM cd_q28 a_q28 d_q28)
  {a_q48:Gj} {d_q48:Gi} {cd_q48:Gg} (w_q48:FnW K "told_by" zi9 cd_q48 a_q48 d_q48)
  {a_q35:Gj} {d_q35:Gi} {cd_q35:Gg} (w_q35:FnW K "all_told" zhY cd_q35 a_q35 d_q35)
  {a_q46:Gj} {d_q46:Gi} {cd_q46:Gg} (w_q46:FnW K "torn_in" zjA cd_q46 a_q46 d_q46)
  {a_q33:Gj} {d_q33:Gi} {cd_q33:Gg} (w_q33:FnW K "strangers" zgN cd_q33 a_q33 d_q33)
  {a_q47:Gj} {d_q47:Gi} {cd_q47:Gg} (w_q47:FnW K "torn_on" zjB cd_q47 a_q47 d_q47)
  {a_q11:Gj} {d_q11:Gi} {cd_q11:Gg} (w_q11:FnW K "broken_from" ze5 cd_q11 a_q11 d_q11)
  {a_q51:Gj} {d_q51:Gi} {cd_q51:Gg} (w_q51:FnW K "broken" zkI cd_q51 a_q51 d_q51)
  {a_q24:Gj} {d_q24:Gi} {cd_q24:Gg} (w_q24:FnW K "_law_mixed" zgO cd_q24 a_q24 d_q24)
  {a_q13:Gj} {d_q13:Gi} {cd_q13:Gg} (w_q13:FnW K "_law_numbers" ze6 cd_q13 a_q13 d_q13)
  {a_q23:Gj} {d_q23:Gi} {cd_q23:Gg} (w_q23:FnW K "_law_falls" zgP cd_q23 a_q23 d_q23)
  {a_q15:Gj} {d_q15:Gi} {cd_q15:Gg} (w_q15:FnW K "_law_closing" ze7 cd_q15 a_q15 d_q15)
  {a_q31:Gj} {d_q31:Gi} {cd_q31:Gg} (w_q31:FnW K "_law_asked" zgQ cd_q31 a_q31 d_q31)
  {a_q29:Gj} {d_q29:Gi} {cd_q29:Gg} (w_q29:FnW K "_law_first" zgR cd_q29 a_q29 d_q29)
  {a_q58:Gj} {d_q58:Gi} {cd_q58:Gg} (w_q58:FnW K "law" zl5 cd_q58 a_q58 d_q58)
  (z_all:j4 K mainGlobals "all"=Ga Gb)
  (z_bool:j4 K mainGlobals "bool"=Ga Gb)
  (z_int:j4 K mainGlobals "int"=Ga Gb)
  (z_isinstance:j4 K mainGlobals "isinstance"=Ga Gb)
  (z_len:j4 K mainGlobals "len"=Ga Gb)
  (z_list:j4 K mainGlobals "list"=Ga Gb)
  (z_max:j4 K mainGlobals "max"=Ga Gb)
  (z_min:j4 K mainGlobals "min"=Ga Gb)
  (z_range:j4 K mainGlobals "range"=Ga Gb)
  (z_reversed:j4 K mainGlobals "reversed"=Ga Gb)
  (z_sorted:j4 K mainGlobals "sorted"=Ga Gb)
  (z_tuple:j4 K mainGlobals "tuple"=Ga Gb)
  {k_LAST_ROUND} (c_LAST_ROUND:j4 K mainGlobals "LAST_ROUND"=Ga (Ga (.int 5 k_LAST_ROUND)))
  {k_LEAST_HANDS} (c_LEAST_HANDS:j4 K mainGlobals "LEAST_HANDS"=Ga (Ga (.int 2 k_LEAST_HANDS)))
  {k_MOST_HANDS} (c_MOST_HANDS:j4 K mainGlobals "MOST_HANDS"=Ga (Ga (.int 5 k_MOST_HANDS)))
  {x_NoBound:Gj} (n_NoBound:j4 K mainGlobals "NoBound"=Ga (Ga (.ref x_NoBound))) (y_NoBound:ClsF K "NoBound" x_NoBound)
  {x_Closed:Gj} (n_Closed:j4 K mainGlobals "Closed"=Ga (Ga (.ref x_Closed))) (y_Closed:ClsF K "Closed" x_Closed)
  {x_RoundError:Gj} (n_RoundError:j4 K mainGlobals "RoundError"=Ga (Ga (.ref x_RoundError)))
  {x_NoNumbers:Gj} (n_NoNumbers:j4 K mainGlobals "NoNumbers"=Ga (Ga (.ref x_NoNumbers))) (y_NoNumbers:ClsF K "NoNumbers" x_NoNumbers)
  (j_0:v7 K (.ref x_RoundError) (.type "BaseException")=Ga true)
  (j_1:jR K (.ref x_NoNumbers) (.ref x_NoBound)=Ga false)
  (j_2:jR K (.ref x_NoNumbers) (.ref x_NoNumbers)=Ga true)
  (j_3:jR K (.ref x_NoNumbers) (.ref x_Closed)=Ga false)
  (j_4:kS K (.ref x_NoNumbers) (.ref x_RoundError)=Ga true)
  (j_5:jR K (.ref x_NoBound) (.ref x_NoBound)=Ga true)
  (j_6:jR K (.ref x_NoBound) (.ref x_NoNumbers)=Ga false)
  (j_7:jR K (.ref x_NoBound) (.ref x_Closed)=Ga false)
  (j_8:kS K (.ref x_NoBound) (.ref x_RoundError)=Ga true)
  (j_9:jR K (.ref x_Closed) (.ref x_NoBound)=Ga false)
  (j_10:jR K (.ref x_Closed) (.ref x_NoNumbers)=Ga false)
  (j_11:jR K (.ref x_Closed) (.ref x_Closed)=Ga true)
  (j_12:kS K (.ref x_Closed) (.ref x_RoundError)=Ga true)
  {c0 Pt bm:Gj} {slm:Array (Option Gg)} (l_1:cd_q58=.ref c0) (l_2:qe K c0 Pt=true) (l_3:j4 K mainGlobals "__builtins__"=Ga (Ga (.ref bm))) (l_4:K.lookup bm=Ga ⟨.type "module",Ga builtinsNs,.plain,slm⟩) (l_5:bm≠builtinsNs) (l_6:bm≠mainGlobals)
  : ∃ t,Txt K mg t/\t.Pt=Pt/\t.a_q58=a_q58/\∀ (s:Gh) (v:Gg),BindsTo s t.d_q58 ⟨[v],[]⟩ [("script",v)]:=by
 exact⟨⟨a_q39,d_q39,a_q52,d_q52,a_q36,d_q36,a_q44,d_q44,a_q40,d_q40,a_q32,d_q32,a_q16,d_q16,a_q21,d_q21,a_q49,d_q49,a_q10,d_q10,a_q26,d_q26,a_q18,d_q18,a_q54,d_q54,a_q30,d_q30,a_q57,d_q57,a_q55,d_q55,a_q2,d_q2,a_q0,d_q0,a_q53,d_q53,a_q25,d_q25,a_q8,d_q8,a_q34,d_q34,a_q37,d_q37,a_q5,d_q5,a_q45,d_q45,a_q1,d_q1,a_q14,d_q14,a_q17,d_q17,a_q3,d_q3,a_q56,d_q56,a_q7,d_q7,a_q19,d_q19,a_q6,d_q6,a_q50,d_q50,a_q20,d_q20,a_q4,d_q4,a_q41,d_q41,a_q12,d_q12,a_q9,d_q9,a_q43,d_q43,a_q38,d_q38,a_q22,d_q22,a_q42,d_q42,a_q27,d_q27,a_q28,d_q28,a_q48,d_q48,a_q35,d_q35,a_q46,d_q46,a_q33,d_q33,a_q47,d_q47,a_q11,d_q11,a_q51,d_q51,a_q24,d_q24,a_q13,d_q13,a_q23,d_q23,a_q15,d_q15,a_q31,d_q31,a_q29,d_q29,a_q58,d_q58,c0,Pt,x_NoBound,x_Closed,x_RoundError,x_NoNumbers⟩,⟨zaY X G w_q39,zaY X G w_q52,zaY X G w_q36,zaY X G w_q44,zaY X G w_q40,zaY X G w_q32,zaY X G w_q16,zaY X G w_q21,zaY X G w_q49,zaY X G w_q10,zaY X G w_q26,zaY X G w_q18,zaY X G w_q54,zaY X G w_q30,zaY X G w_q57,zaY X G w_q55,zaY X G w_q2,zaY X G w_q0,zaY X G w_q53,zaY X G w_q25,zaY X G w_q8,zaY X G w_q34,zaY X G w_q37,zaY X G w_q5,zaY X G w_q45,zaY X G w_q1,zaY X G w_q14,zaY X G w_q17,zaY X G w_q3,zaY X G w_q56,zaY X G w_q7,zaY X G w_q19,zaY X G w_q6,zaY X G w_q50,zaY X G w_q20,zaY X G w_q4,zaY X G w_q41,zaY X G w_q12,zaY X G w_q9,zaY X G w_q43,zaY X G w_q38,zaY X G w_q22,zaY X G w_q42,zaY X G w_q27,zaY X G w_q28,zaY X G w_q48,zaY X G w_q35,zaY X G w_q46,zaY X G w_q33,zaY X G w_q47,zaY X G w_q11,zaY X G w_q51,zaY X G w_q24,zaY X G w_q13,zaY X G w_q23,zaY X G w_q15,zaY X G w_q31,zaY X G w_q29,zaY X G w_q58,kg X G z_all,kg X G z_bool,kg X G z_int,kg X G z_isinstance,kg X G z_len,kg X G z_list,kg X G z_max,kg X G z_min,kg X G z_range,kg X G z_reversed,kg X G z_sorted,kg X G z_tuple,w_q58.code.trans l_1,l_2,⟨bm,_,ut X G l_3,l_5,l_6,l_4,rfl,rfl,rfl⟩,⟨ut X G n_NoBound,y_NoBound⟩,⟨ut X G n_Closed,y_Closed⟩,⟨ut X G n_RoundError⟩,⟨ut X G n_NoNumbers,y_NoNumbers⟩,j_0,j_1,j_2,j_3,j_4,j_5,j_6,j_7,j_8,j_9,j_10,j_11,j_12,⟨_,ut X G c_LAST_ROUND⟩,⟨_,ut X G c_LEAST_HANDS⟩,⟨_,ut X G c_MOST_HANDS⟩⟩,rfl,rfl,w_q58.bt (Q:=λfd=>∀ (s:Gh) (v:Gg),BindsTo s fd ⟨[v],[]⟩ [("script",v)]) λ_ _ _ _ _ _ _ _=>.of_eq rfl⟩
theorem zCK {l:Program}{w:World}{K:ja}{mg:Str->Option Gg}{h:Heap}{fa a Pt:Gj}(X:K.In h)(G:h.Ns mainGlobals mg)(hmg:mg "law"=Ga (.ref fa))
  (z:∃ t,Txt K mg t/\t.Pt=Pt/\t.a_q58=a/\∀ (s:Gh) (v:Gg),BindsTo s t.d_q58 ⟨[v],[]⟩ [("script",v)]) :
  ∃ fd:Gi,(∀ (s:Gh) (v:Gg),BindsTo s fd ⟨[v],[]⟩ [("script",v)])/\∀ base:Heap,K.In base->base.Ns mainGlobals mg->FnOk l w K mg base CX0 37 fa fd ["script"] (λvs H Q E=>∀ mkx mk,spT K Pt (ziI mkx mk Pt) vs H Q E):=by
 obtain⟨t,T,rfl,_,hb⟩:=z;have e:=hmg.symm.trans T.q58.m;cases e;exact⟨t.d_q58,hb,λbase _ _=>(zw5 T).imp λvs H Q E h=>h _ _⟩
end
end Law
namespace Law
noncomputable section
open PySem PySem.Spec PyProof.Rows L2 T3
theorem zoP (x0:D):zbH [x0]=outV (zhZ [.val x0]):=rfl
theorem zm7 (x0:D):zcN [x0]=outV (zgT [.val x0]):=rfl
theorem zlH (x0:D):zb7 [x0]=outV (ze8 [.val x0]):=rfl
theorem zkP (x0 x1:D):zbB [x0,x1]=outV (zeK [.val x0,.val x1]):=rfl
theorem zm8 (x0 x1 x2 x3:D):zbO [x0,x1,x2,x3]=outV (zgU [.val x0,.val x1,.val x2,.val x3,.no]):=rfl
theorem zlI (x0 x1 x2:D):za8 [x0,x1,x2]=outV (ze9 [.val x0,.val x1,.val x2,.no]):=rfl
def zmE:FS:=zaH (ifSN (zc8 (tstN (zaG zbH (zaA (gv 1) (zaE))))) (zbS (cstN (.bool false))) (nxSN)) (zbS (zsE (zoA dLe dLe (cstN (.int 0)) (gv 1) (binN dSub (zaG zaL (zaA (gv 0) (zaE))) (cstN (.int 2)))) (binN dLe (unN dLen (binN dIx (gv 0) (cstN (.int 1)))) (gv 1))))
theorem znT (x0 x1:D):zb5 [x0,x1]=outV (zmE [.val x0,.val x1]):=rfl
theorem zhK (x0 x1 x2:D):zaI [x0,x1,x2]=outV (zcY [.val x0,.val x1,.val x2,.no]):=rfl
def zcI (zaV:List D->Option (List D)):FS:=zbS (binN dAdd (zbJ (zfI zaV (zaA (gv 0) (zaA (gv 2) (zaA (gv 3) (zaA (gv 4) (zaE))))))) (zbJ (zz4 (zfI zaV (zaA (gv 1) (zaA (gv 2) (zaA (gv 3) (zaA (gv 4) (zaE)))))))))
def zf6 (zaV:List D->Option (List D))(zaD:List D->Option D):FS:=zaH (ifSN (zaQ dGt (gv 2) (gv 3)) (zkD (zaA (gv 0) (zaE))) (nxSN)) (zaH (ziN 5 (zfG 5 (compF (zc3 (zbJ (zfI zaR (zaA (gv 0) (zaA (gv 2) (zaE)))))) (zaQ dNe (gv 0) (gv 1)) (gv 0) [1]))) (zaH (zfG 6 (zfI zaV (zaA (gv 0) (zaA (gv 1) (zaA (binN dAdd (gv 2) (cstN (.int 1))) (zaA (gv 3) (zaE))))))) (zaH (zwQ 6 (zaG zbO (zaA (gv 0) (zaA (gv 1) (zaA (gv 2) (zaA (zaG zcK (zaA (gv 5) (zaE))) (zaE))))))) (zaH (zhP (zc3 (gv 5)) (tgNN 4) (zaH (zaK 7 (ixSN (gl 6) (unN dNeg (cstN (.int 1))))) (zaH (zaK 8 (zaG zaI (zaA (gv 7) (zaA (gv 1) (zaA (gv 4) (zaE)))))) (zeZ 6 (slVN (zaG zaD (zaA (gv 7) (zaA (gv 8) (zaA (gv 4) (zaA (binN dAdd (gv 2) (cstN (.int 1))) (zaA (gv 3) (zaE))))))) (zcJ (cstN (.int 1))) (noPN)))))) (zkD (go 6))))))
theorem zmF (n:Nat)(x0 x1 x2 x3:D):zaV (n+1) [x0,x1,x2,x3]=outO (zf6 (zaV n) (zaD n) [.val x0,.val x1,.val x2,.val x3,.no,.no,.no,.no,.no]):=rfl
theorem zdA (n:Nat)(x0 x1 x2 x3 x4:D):zaD n [x0,x1,x2,x3,x4]=outV (zcI (zaV n) [.val x0,.val x1,.val x2,.val x3,.val x4]):=rfl
theorem zg9 (x0 x1:D):za6 [x0,x1]=outV (zcS [.val x0,.val x1]):=rfl
theorem zlJ (x0 x1:D):zbT [x0,x1]=outV (zfA [.val x0,.val x1,.no]):=rfl
theorem zlK (x0 x1 x2 x3:D):zbU [x0,x1,x2,x3]=outV (zfB [.val x0,.val x1,.val x2,.val x3]):=rfl
theorem ziR (x0 x1 x2:D):zbK [x0,x1,x2]=outV (zdH [.val x0,.val x1,.val x2,.no,.no]):=rfl
theorem zsT (x0 x1 x2 x3:D):zcQ [x0,x1,x2,x3]=outV (zmA [.val x0,.val x1,.val x2,.val x3]):=rfl
theorem zkQ (x0 x1 x2:D):zaW [x0,x1,x2]=outO (zeN [.val x0,.val x1,.val x2,.no,.no,.no]):=rfl
theorem zmG (x0 x1 x2 x3:D):zbP [x0,x1,x2,x3]=outV (zfY [.val x0,.val x1,.val x2,.val x3,.no,.no,.no,.no]):=rfl
theorem zkR (x0 x1 x2:D):zbC [x0,x1,x2]=outV (zeO [.val x0,.val x1,.val x2,.no,.no,.no]):=rfl
theorem zq0 (x0 x1 x2:D):zdI [x0,x1,x2]=outV (zkN [.val x0,.val x1,.val x2,.no,.no,.no]):=rfl
theorem zmH (x0 x1 x2:D):zb6 [x0,x1,x2]=outV (zfZ [.val x0,.val x1,.val x2,.no,.no,.no,.no]):=rfl
theorem ziS (x0 x1:D):zbL [x0,x1]=outV (zdJ [.val x0,.val x1]):=rfl
theorem zoQ (x0 x1 x2 x3:D):zb9 [x0,x1,x2,x3]=outV (zh3 [.val x0,.val x1,.val x2,.val x3,.no,.no]):=rfl
theorem zlL (x0 x1 x2 x3:D):za9 [x0,x1,x2,x3]=outV (zfC [.val x0,.val x1,.val x2,.val x3,.no]):=rfl
theorem zkS (x0 x1 x2:D):zbI [x0,x1,x2]=outV (zeQ [.val x0,.val x1,.val x2,.no]):=rfl
theorem zoR (x0 x1:D):zbZ [x0,x1]=outV (zh4 [.val x0,.val x1,.no,.no]):=rfl
theorem zoS (x0:D):zcA [x0]=outV (zh5 [.val x0]):=rfl
theorem zm9 (x0:D):za4 [x0]=outV (zg2 [.val x0,.no]):=rfl
theorem zhA (x0 x1:D):za2 [x0,x1]=outV (zeE [.val x0,.val x1,.no]):=rfl
def zj1 (c:FnC)(φ:D->Option D):FS:=zaH (zhP (zhJ rng1 (binN dAdd (zaG za4 (zaA (gv 1) (zaE))) (cstN (.int 1)))) (tgNN 2) (zaH (zaK 3 (callF 0 c φ (zaG za2 (zaA (gv 1) (zaA (gv 2) (zaE)))))) (ifSN (zaQ dIsnt (gv 3) (cstN .none)) (zbS (zcU (zaA (gv 2) (zaA (gv 3) (zaE))))) (nxSN)))) (zbS (cstN .none))
theorem znA (c:FnC)(φ:D->Option D)(x0:D):zb1 c φ [x0]=outV (zj1 c φ [.fn c,.val x0,.no,.no]):=rfl
def zj2 (c:FnC)(φ:D->Option D):FS:=zaH (zaK 2 (callP 0 c (zb1 c φ) (zaA (gv 1) (zaE)))) (zbS (ifVN (zaQ dIs (gv 2) (cstN .none)) (cstN .none) (binN dIx (gv 2) (cstN (.int 1)))))
theorem znB (c:FnC)(φ:D->Option D)(x0:D):zb2 c φ [x0]=outV (zj2 c φ [.fn c,.val x0,.no]):=rfl
def zmI (c:FnC)(φ:D->Option D):FS:=zaH (zaK 3 (zaG zbZ (zaA (gv 1) (zaA (gv 2) (zaE))))) (zbS (zbJ (compF (zc3 (zbJ (zfI zaR (zaA (gv 1) (zaA (gv 2) (zaE)))))) (λ_=>Ga true) (zcU (zaA (gv 0) (zaA (callP 1 c (zb2 c φ) (zaA (binN dIx (gv 2) (gv 0)) (zaE))) (zaE)))) [0,3])))
theorem zpV (c:FnC)(φ:D->Option D)(x0 x1:D):zaO c φ [x0,x1]=outV (zmI c φ [.fn c,.val x0,.val x1,.no]):=rfl
theorem zoT (x0 x1:D):zaT [x0,x1]=outV (zh7 [.val x0,.val x1]):=rfl
theorem zpW (x0 x1:D):zbW [x0,x1]=outV (zjI [.val x0,.val x1,.no]):=rfl
theorem znC (x0 x1:D):zb3 [x0,x1]=outV (zg4 [.val x0,.val x1]):=rfl
def zmJ (c:FnC)(φ:D->Option D):FS:=zaH (zaK 4 (cstN (.int 0))) (zaH (zaK 5 (binN dSub (unN dLen (gv 1)) (cstN (.int 1)))) (zaH (whileD (zaQ dGt (binN dSub (gv 5) (gv 4)) (cstN (.int 1))) (zaH (zaK 6 (binN dDiv (binN dAdd (gv 4) (gv 5)) (cstN (.int 2)))) (ifSN (tstN (zaG zaT (zaA (callP 0 c (zaO c φ) (zaA (binN dIx (gv 1) (gv 6)) (zaA (gv 3) (zaE)))) (zaA (gv 2) (zaE))))) (zaK 4 (gv 6)) (zaK 5 (gv 6)))) 100) (zbS (zaG zbW (zaA (binN dIx (gv 1) (gv 5)) (zaA (callP 0 c (zaO c φ) (zaA (binN dIx (gv 1) (gv 5)) (zaA (gv 3) (zaE)))) (zaE)))))))
theorem zpX (c:FnC)(φ:D->Option D)(x0 x1 x2:D):zc1 c φ [x0,x1,x2]=outV (zmJ c φ [.fn c,.val x0,.val x1,.val x2,.no,.no,.no]):=rfl
def ziB (c:FnC)(φ:D->Option D):FS:=zaH (zaK 5 (ifVN (zaQ dEq (gv 4) (cstN (.int 0))) (cstN (.int 1)) (cstN (.int 0)))) (zaH (zaK 6 (zaG zb9 (zaA (gv 1) (zaA (gv 2) (zaA (gv 3) (zaA (unLN dTupL (compF (zhJ rng1 (zaG zaL (zaA (gv 1) (zaE)))) (λ_=>Ga true) (gv 1) [5])) (zaE))))))) (zaH (zaK 7 (zaG zb3 (zaA (callP 0 c (zaO c φ) (zaA (binN dIx (gv 6) (unN dNeg (cstN (.int 1)))) (zaA (gv 3) (zaE)))) (zaA (gv 5) (zaE))))) (zaH (ifSN (zaQ dGt (unN dLen (gv 7)) (cstN (.int 0))) (zbS (zcU (zaA (cstN (.str (jl "strange"))) (zaA (binN dIx (gv 6) (unN dNeg (cstN (.int 1)))) (zaA (binN dIx (gv 7) (cstN (.int 0))) (zaE)))))) (nxSN)) (zbS (callP 0 c (zc1 c φ) (zaA (gv 6) (zaA (gv 4) (zaA (gv 3) (zaE)))))))))
theorem zlM (c:FnC)(φ:D->Option D)(x0 x1 x2 x3:D):zbX c φ [x0,x1,x2,x3]=outV (ziB c φ [.fn c,.val x0,.val x1,.val x2,.val x3,.no,.no,.no]):=rfl
def zkT (c:FnC)(φ:D->Option D):FS:=zaH (ifSN (zc8 (tstN (zaG zbD (zaA (gv 1) (zaA (gv 2) (zaA (gv 3) (zaE))))))) (zwP) (nxSN)) (zaH (zaK 4 (callP 0 c (zaO c φ) (zaA (gv 1) (zaA (gv 3) (zaE))))) (zaH (zaK 5 (binN dIx (binN dIx (gv 4) (cstN (.int 0))) (cstN (.int 1)))) (zaH (ifSN (zc8 (tstN (zaG zaT (zaA (gv 4) (zaA (gv 5) (zaE)))))) (zbS (zaG zbW (zaA (gv 1) (zaA (gv 4) (zaE))))) (nxSN)) (zaH (ifSN (zaQ dIs (gv 5) (cstN .none)) (zbS (cstN .none)) (nxSN)) (zbS (callP 0 c (zbX c φ) (zaA (gv 1) (zaA (gv 2) (zaA (gv 3) (zaA (gv 5) (zaE)))))))))))
theorem zmK (c:FnC)(φ:D->Option D)(x0 x1 x2:D):zdK c φ [x0,x1,x2]=outV (zkT c φ [.fn c,.val x0,.val x1,.val x2,.no,.no]):=rfl
theorem znD (x0 x1:D):zbG [x0,x1]=outV (zg6 [.val x0,.val x1,.no]):=rfl
theorem zlN (x0 x1:D):zaX [x0,x1]=outV (zfD [.val x0,.val x1,.no]):=rfl
theorem znE (x0 x1 x2 x3:D):za5 [x0,x1,x2,x3]=outV (zg7 [.val x0,.val x1,.val x2,.val x3,.no,.no,.no,.no,.no,.no]):=rfl
theorem zlO (x0 x1:D):za3 [x0,x1]=outV (zfE [.val x0,.val x1,.no,.no,.no,.no,.no,.no]):=rfl
theorem znF (x0:D):za0 [x0]=outV (zg8 [.val x0]):=rfl
def zuS (mkx:Str->FnC)(mk:(D->Option D)->FnC)(Pt:Gj):FS:=zaH (zhP (zhJ rng1 (binN dMin2 (cstN (.int 63)) (unN dLen (gv 0)))) (tgNN 1) (zaH (zaK 2 (zaG zbG (zaA (binN dIx (gv 0) (gv 1)) (zaA (gv 1) (zaE))))) (zaH (zaK 3 (binN dAdd (cstN (.int 2)) (binN dMod (gv 2) (cstN (.int 3))))) (zaH (zaK 4 (zcU (zaA (zaG zaX (zaA (binN dIx (gv 0) (gv 1)) (zaA (gv 3) (zaE)))) (zaA (zaG za5 (zaA (binN dDiv (gv 2) (cstN (.int 3))) (zaA (gv 3) (zaA (binN dSub (gv 3) (cstN (.int 2))) (zaA (cstN (.int 3)) (zaE)))))) (zaE))))) (zaH (zaK 5 (unN dLen (binN dIx (gv 4) (cstN (.int 1))))) (zaH (zaK 6 (binN dGt (binN dMod (binN dDiv (gv 2) (cstN (.int 9))) (cstN (.int 3))) (cstN (.int 0)))) (zaH (zaK 7 (binN dAdd (gv 5) (binN dMod (binN dDiv (gv 2) (cstN (.int 27))) (binN dSub (binN dSub (gv 3) (cstN (.int 1))) (gv 5))))) (zaH (ifSN (zc8 (tstN (gv 6))) (zaK 7 (binN dIx (zbJ (zaA (binN dSub (gv 5) (cstN (.int 1))) (zaA (binN dAdd (binN dSub (gv 3) (cstN (.int 1))) (binN dMod (gv 2) (binN dPow (cstN (.int 10)) (cstN (.int 6))))) (zaA (cstN (.bool true)) (zaA (cstN .none) (zaA (cstN (.str (jl "0"))) (zaE))))))) (binN dMod (binN dDiv (gv 2) (cstN (.int 27))) (cstN (.int 5))))) (nxSN)) (zaH (zaK 8 (cstN (.int 1))) (zaH (ifSN (tstN (gv 6)) (zaK 8 (zaG za3 (zaA (gv 4) (zaA (gv 7) (zaE))))) (nxSN)) (zaH (zaK 9 (binN dIx (zbJ (zaA (cstN (.int 0)) (zaA (binN dMin2 (cstN (.int 1)) (binN dSub (gv 8) (cstN (.int 1)))) (zaA (gv 8) (zaA (binN dMin2 (cstN (.int 4)) (binN dAdd (gv 8) (cstN (.int 1)))) (zaE)))))) (binN dMod (binN dDiv (gv 2) (cstN (.int 135))) (cstN (.int 4))))) (zaH (zaK 11 (binN dEq (binN dMod (binN dDiv (gv 2) (cstN (.int 540))) (cstN (.int 2))) (cstN (.int 0)))) (zaH (zaK 10 (callL 12 Pt mk (binN dIx (zbJ (zaA (zaG za0 (zaA (gv 0) (zaE))) (zaA (cstN .none) (zaE)))) (unN dInt (gv 1))) (zb0 mkx) [11] (zaA (gv 4) (zaA (gv 7) (zaA (gv 9) (zaE)))))) (ifSN (orBN (zc8 (tstN (gv 6))) (zaQ dGe (gv 9) (gv 8))) (ifSN (zaQ dNe (gv 10) (zbJ (zaA (zcU (zaA (zqR (gv 6)) (zaA (cstN (.bool false)) (zaA (gv 6) (zaE))))) (zaA (cstN (.int 0)) (zaE))))) (zbS (cstN (.bool false))) (nxSN)) (ifSN (orBN (zaQ dNe (binN dIx (gv 10) (cstN (.int 0))) (cstN (.str (jl "fine")))) (orBN (zaQ dNe (gv 11) (binN dIs (binN dIx (gv 10) (cstN (.int 1))) (cstN .none))) (zeY (zc8 (tstN (gv 11))) (zc8 (tstN (unN (dIsT "tuple") (binN dIx (gv 10) (cstN (.int 1))))))))) (zbS (cstN (.bool false))) (nxSN)))))))))))))))) (zbS (cstN (.bool true)))
theorem zw6 (mkx:Str->FnC)(mk:(D->Option D)->FnC)(Pt:Gj)(x0:D):ziI mkx mk Pt [x0]=outV (zuS mkx mk Pt [.val x0,.no,.no,.no,.no,.no,.no,.no,.no,.no,.no,.no,.tab Pt]):=rfl
end
end Law
namespace Law
open PySem T3
local macro_rules|`(tactic| simp_arith[$a,*])=>`(tactic| simp only[zBO,zBP,zD2,zBQ,zBR,zzW,zzX,zzY,zBS,zzZ,zz0,zBT,zuF,zuH,zz1,zwK,zz2,zz3,zwL,zwM,zBU,zBV,zz5,zz6,zz7,zz9,zAa,zwN,zBW,zBX,zBY,zwO,zBZ,zAb,zAc,zAd,zAe,zB0,zAf,zAg,zAh,zAj,zAk,zAl,zAm,zB2,zsF,zsG,zsH,zsI,zqS,zwR,zuI,zuJ,zuK,zB3,zAn,zB4,zB5,zAo,zB6,zB7,zAp,zB8,zB9,zCa,zCb,zCc,zAq,zCd,zCe,zCf,zCg,zCh,zAr,zCi,zCj,zCk,zAs,zCl,zAt,zCm,zCn,zCo,zCp,zAu,zCq,zAv,zCr,zCs,zAw,zCt,zAx,zAy,zwS,zAz,zwT,zwU,zwW,zsJ,zqT,zsK,zCu,zAA,zAB,zCv,zwX,zCw,zCx,zqU,zuL,zCy,zCz,zCA,zCB,zD3,zD4,zD5,zD6,zAC,zAD,zCC,zwY,zCD,zAE,zCE,zCF,zuM,zCG,zCH,zCI,zwZ,zw0,zw1,zw2,zAF,zAG,zuN,zuO,zuP,zw3,zuQ,zmU,zw4,zpM,zoB,zmV,jr,Option.bind_none,qV,Bool.not_false,zsL,ite_true,ite_false,decide_true,decide_false,$a,*])
theorem zrH (a:Sl):∀ (ds:List D) (b:Int) (x:Sl),∃ x',forD (tgN 2) (setS 1 (bin dMul (gv 1) (cst (.int 2)))) ds [a,.val (.int b),x]=Ga (.nx [a,.val (.int (b*2^ds.length)),x'])
 | [],b,x=>⟨x,by simp[forD]⟩
 | d::r,b,x=>by
  obtain⟨x',e⟩:=zrH a r (b*2) (.val d);refine⟨x',?_⟩;have hm:dMul (.int b) (.int 2)=Ga (.int (b*2)):=by simp[dMul,dI,cMul]
  unfold forD;simp only[tgN,setS,bin,cst,gv,List.set_cons_succ,List.set_cons_zero,vh,List.getElem?_cons_zero,jr,hm];rw[show(bin dMul (gv 1) (cst (.int 2)):FV)=λψ=>(gv 1 ψ).bind λx=>(cst (.int 2) ψ).bind λy=>dMul x y from rfl] at e;refine e.trans ?_;rw[jJ,Int.pow_succ',Int.mul_assoc]
theorem zmL (n:Int)(h0:0<=n)(h1:n<1000):zcL [.int n]=Ga (.int (2^n.toNat)):=by
 show outV (zkJ [.val (.int n),.no,.no])=_;have hr:rng1 (.int n)=Ga (rngD 0 n.toNat):=by unfold rng1;dsimp only;rw[Ge (by constructor<;>omega)]
 obtain⟨x',e⟩:=zrH (.val (.int n)) (rngD 0 n.toNat) 1 .no;have hl:(rngD 0 n.toNat).length=n.toNat:=by simp[rngD]
 rw[hl,Int.one_mul] at e;unfold zkJ;have e1:setS 1 (cst (.int 1)) [.val (.int n),.no,.no]=Ga (.nx [.val (.int n),.val (.int 1),.no]):=rfl;have e2:forS (un1L rng1 (gv 0)) (tgN 2) (setS 1 (bin dMul (gv 1) (cst (.int 2)))) [.val (.int n),.val (.int 1),.no]=Ga (.nx [.val (.int n),.val (.int (2^n.toNat)),x']):=by
  show(rng1 (.int n)).bind (λds=>forD _ _ ds _)=_;rw[hr];exact e
 show outV (thenD (setS 1 (cst (.int 1)) [.val (.int n),.no,.no]) _)=_;rw[e1];show outV (thenD (forS (un1L rng1 (gv 0)) (tgN 2) (setS 1 (bin dMul (gv 1) (cst (.int 2)))) [.val (.int n),.val (.int 1),.no]) _)=_;rw[e2];rfl
theorem zmM (m h:Int)(h0:0<=h)(h1:h<1000):zaU [.int m,.int h]=Ga (.bool (!(uI m (2^h.toNat)==0))):=by
 refine congrArg outV (zkA (ψ:=[.val (.int m),.val (.int h)]) ((zn2 ((zn2 rfl ((zdL rfl).trans (zmL h h0 h1))).trans rfl) rfl).trans ?_));exact zn4 _ _
structure Fl where
 h:Nat
 a:Int
 m:Nat
def fd (f:Fl):D:=.tuple [.int f.h,.int f.a,.int f.m]
def rd (ns:List D)(fs:List Fl):D:=.tuple [.tuple ns,.tuple (fs.map fd)]
def fof (fs:List Fl)(h:Nat):Option Fl:=fs.find? λf=>f.h==h
def fofD (fs:List Fl)(h:Nat):D:=match fof fs h with|some f=>fd f|none=>.none
def up (fs:List Fl)(h:Nat)(r:Int):Bool:=match fof fs h with|some f=>decide (r<f.a)|none=>true
structure Good (n:Nat)(fs:List Fl):Prop where
 n2:2<=n
 n5:n<=5
 hb:∀ f∈fs,f.h<n
 mb:∀ f∈fs,f.m<32
 nd:(fs.map Fl.h).Nodup
 ab:∀ f∈fs,1<=f.a
 a5:∀ f∈fs,f.a<=5
theorem eqH (f:Fl)(h:Nat):dEq (.int f.h) (.int h)=Ga (.bool (f.h==h)):=by
 rw[zi4];congr 2;rw[kA,beq_iff_eq,beq_iff_eq];omega
theorem zpY (a:Sl)(h:Nat):∀ (fs:List Fl) (x:Sl),
  (fof fs h=Gb->∃ x',forD (tgN 2) (ifS (cmpB dEq (bin dIx (gv 2) (cst (.int 0))) (gv 1)) (retS (gv 2)) (nxS)) (fs.map fd) [a,.val (.int h),x]=Ga (.nx [a,.val (.int h),x'])) /\
  (∀ f,fof fs h=Ga f->forD (tgN 2) (ifS (cmpB dEq (bin dIx (gv 2) (cst (.int 0))) (gv 1)) (retS (gv 2)) (nxS)) (fs.map fd) [a,.val (.int h),x]=Ga (.rt (fd f)))
 | [],x=>⟨λ_=>⟨x,rfl⟩,λf e=>by cases e⟩
 | f::r,x=>by
  obtain⟨i1,i2⟩:=zpY a h r (.val (fd f));have hc:cmpB dEq (bin dIx (gv 2) (cst (.int 0))) (gv 1) (frz [a,.val (.int h),.val (fd f)])=Ga (f.h==h):=zr5 (x:=.int f.h) (y:=.int h) rfl rfl (eqH f h);by_cases hh:(f.h==h)=true
  .have ef:fof (f::r) h=Ga f:=by unfold fof;exact kL (p:=λ(f:Fl)=>f.h==h) hh
   rw[ef];refine⟨λe=>by(cases e),λf' e=>?_⟩;cases e;rw[jQ];unfold forD;rw[show tgN 2 (fd f) [a,.val (.int h),x]=Ga [a,.val (.int h),.val (fd f)] from rfl,jr,if_t (hc.trans (congrArg Ga hh))];rfl
  .have ef:fof (f::r) h=fof r h:=by unfold fof;exact kz (p:=λ(f:Fl)=>f.h==h) hh
   have hf:(f.h==h)=false:=by cases hq:(f.h==h) with|true=>exact absurd hq hh|false=>rfl
   have st:∀ o,forD (tgN 2) (ifS (cmpB dEq (bin dIx (gv 2) (cst (.int 0))) (gv 1)) (retS (gv 2)) (nxS)) (r.map fd) [a,.val (.int h),.val (fd f)]=o->forD (tgN 2) (ifS (cmpB dEq (bin dIx (gv 2) (cst (.int 0))) (gv 1)) (retS (gv 2)) (nxS)) ((f::r).map fd) [a,.val (.int h),x]=o:=by
    intro o e;rw[jQ];rw[show ∀ t g d (ds:List D) ψ,forD t g (d::ds) ψ=(t d ψ).bind λe1=>(g e1).bind λo=>match o with|.nx e=>forD t g ds e|.ct e=>forD t g ds e|.bk e=>Ga (.nx e)|.rt d=>Ga (.rt d)|.ro ds=>Ga (.ro ds)|.rm a k=>Ga (.rm a k)|.rc d e=>Ga (.rc d e) from λ_ _ _ _ _=>rfl];rw[show tgN 2 (fd f) [a,.val (.int h),x]=Ga [a,.val (.int h),.val (fd f)] from rfl,jr,if_f (hc.trans (congrArg Ga hf))];exact e
   rw[ef];exact⟨λe=>by obtain⟨x',e'⟩:=i1 e;exact⟨x',st _ e'⟩,λf' e=>st _ (i2 f' e)⟩
theorem ziJ (ns:List D)(fs:List Fl)(h:Nat):zaZ [rd ns fs,.int h]=Ga (fofD fs h):=by
 obtain⟨i1,i2⟩:=zpY (.val (rd ns fs)) h fs .no;show outV (zjE [.val (rd ns fs),.val (.int h),.no])=_;unfold zjE fofD;cases e:fof fs h with
 | none =>
  obtain⟨x',e'⟩:=i1 e;rw[zd2 ((zy7 (ds:=fs.map fd) rfl).trans e')];rfl
 | some f=>rw[znM ((zy7 (ds:=fs.map fd) rfl).trans (i2 f e))];rfl
theorem zrI (ns:List D)(fs:List Fl)(h:Nat)(r:Int):zeX [rd ns fs,.int h,.int r]=Ga (.bool (up fs h r)):=by
 show outV (zl7 [.val (rd ns fs),.val (.int h),.val (.int r),.no])=_;unfold zl7;rw[zd2 (e:=[.val (rd ns fs),.val (.int h),.val (.int r),.val (fofD fs h)]) (zqF ((zdL (ds:=[rd ns fs,.int h]) rfl).trans (ziJ ns fs h)))];unfold fofD up;cases fof fs h<;>rfl
theorem zmN (ns:List D)(fs:List Fl):zaL [rd ns fs]=Ga (.int ns.length):=rfl
theorem zuT (ns:List D)(fs:List Fl)(r:Int)(hn:ns.length<=5):zaR [rd ns fs,.int r]=Ga (((jf ns.length).filter λh=>up fs h r).map λ(h:Nat)=>jc (h:Int)):=by
 show outO (zgV [.val (rd ns fs),.val (.int r)])=_;have ei:(un1L rng1 (callV zaL (consL (gv 0) (nilL)))) [.val (rd ns fs),.val (.int r)]=Ga (rngD 0 ns.length) :=
  (zBv (a:=.int ns.length) ((zdL (ds:=[rd ns fs]) rfl).trans (zmN ns fs))).trans (zrD (by omega))
 have e:=zBs ((zpD (fc:=tst (callV zeX (consL (gv 2) (consL (gv 0) (consL (gv 1) (nilL)))))) (fe:=gv 0) (ix:=[1,0]) ei (by rw[zv5];omega)).trans (zgB (p:=λd=>match d with|.int h=>up fs h.toNat r|_=>false) (F:=id) (λd hd=>by
  rw[ztS] at hd;obtain⟨k,hk,rfl⟩:=jx.mp hd;exact zpC ((zdL (ds:=[rd ns fs,.int (k:Int),.int r]) rfl).trans (zrI _ _ _ _)) rfl) (λd hd _=>rfl)))
 unfold zgV;rw[e,ztL,ztS,vf,jL];rfl
def mB (b0 b1 b2 b3 b4:Bool):Int:=(if b0 then 1 else 0)+(if b1 then 2 else 0)+(if b2 then 4 else 0)+(if b3 then 8 else 0)+(if b4 then 16 else 0)
theorem zD7:∀ (b0 b1 b2 b3 b4:Bool) (h:Fin 5),qT (mB b0 b1 b2 b3 b4) (2^h.val)=mB (b0||h.val==0) (b1||h.val==1) (b2||h.val==2) (b3||h.val==3) (b4||h.val==4):=by decide +kernel
theorem zpZ (a:Sl):∀ (hs:List Int) (b0 b1 b2 b3 b4:Bool) (x:Sl),(∀ h∈hs,0<=h/\h<5) ->
  ∃ x',forD (tgN 2) (setS 1 (bin dOr (gv 1) (callV zcL (consL (gv 2) (nilL))))) (hs.map jc) [a,.val (.int (mB b0 b1 b2 b3 b4)),x] =
   Ga (.nx [a,.val (.int (mB (b0||hs.contains 0) (b1||hs.contains 1) (b2||hs.contains 2) (b3||hs.contains 3) (b4||hs.contains 4))),x'])
 | [],b0,b1,b2,b3,b4,x,_=>⟨x,by simp only[qk,forD,List.contains_nil,uG]⟩
 | h::r,b0,b1,b2,b3,b4,x,hh=>by
  obtain⟨h0,h5⟩:=hh h jg;obtain⟨x',e⟩:=zpZ a r (b0||h.toNat==0) (b1||h.toNat==1) (b2||h.toNat==2) (b3||h.toNat==3) (b4||h.toNat==4) (.val (.int h)) (λy hy=>hh y (je _ hy));refine⟨x',?_⟩;have hm:=zD7 b0 b1 b2 b3 b4 ⟨h.toNat,by omega⟩;dsimp only at hm;have hb:(bin dOr (gv 1) (callV zcL (consL (gv 2) (nilL)))) [a,.val (.int (mB b0 b1 b2 b3 b4)),.val (.int h)]=Ga (.int (mB (b0||h.toNat==0) (b1||h.toNat==1) (b2||h.toNat==2) (b3||h.toNat==3) (b4||h.toNat==4))) :=
   (zn2 (a:=.int (mB b0 b1 b2 b3 b4)) rfl ((zdL rfl).trans (zmL h h0 (by omega)))).trans (congrArg (λz=>Ga (jc z)) hm)
  rw[jQ];unfold forD;rw[show(tgN 2 (jc h) [a,.val (.int (mB b0 b1 b2 b3 b4)),x])=Ga [a,.val (.int (mB b0 b1 b2 b3 b4)),.val (.int h)] from rfl,jr,zqF hb];refine e.trans ?_;have c:∀ k:Nat,((h.toNat==k)||r.contains (k:Int))=(h::r).contains (k:Int):=λk=>by
   rw[vP]
   congr 1
   rw[kA,beq_iff_eq,beq_iff_eq];omega
  simp only[Bool.or_assoc];rw[show((h.toNat==0)||r.contains (0:Int))=_ from c 0,show((h.toNat==1)||r.contains (1:Int))=_ from c 1,show((h.toNat==2)||r.contains (2:Int))=_ from c 2,show((h.toNat==3)||r.contains (3:Int))=_ from c 3,show((h.toNat==4)||r.contains (4:Int))=_ from c 4];rfl
theorem znU (hs:List Int)(hh:∀ h∈hs,0<=h/\h<5):zcK [.list (hs.map jc)]=Ga (.int (mB (hs.contains 0) (hs.contains 1) (hs.contains 2) (hs.contains 3) (hs.contains 4))):=by
 obtain⟨x',e⟩:=zpZ (.val (.list (hs.map jc))) hs false false false false false .no hh;simp only[v4] at e;rw[show mB false false false false false=0 from rfl] at e;show outV (zjD [.val (.list (hs.map jc)),.no,.no])=_;unfold zjD;rw[zd2 (e:=[.val (.list (hs.map jc)),.val (.int 0),.no]) rfl,zd2 ((zy7 (ds:=hs.map jc) rfl).trans e)];rfl
def bt (m h:Nat):Bool:=decide ((m:Int)/(2^h)%2=1)
theorem zw7:∀ (m:Fin 32) (h:Fin 5),(!(uI (m.val:Int) (2^h.val)==0))=decide ((m.val:Int)/(2^h.val)%2=1):=by decide +kernel
theorem zuU (m h:Nat)(hm:m<32)(hh:h<5):zaU [.int m,.int h]=Ga (.bool (decide ((m:Int)/(2^h)%2=1))):=by
 rw[zmM _ _ (by omega) (by omega),kN];exact congrArg (λb=>Ga (jW b)) (zw7 ⟨m,hm⟩ ⟨h,hh⟩)
def il (A:List Nat):List D:=A.map λ(k:Nat)=>jc (k:Int)
theorem zk6 (f:Fl)(hm:f.m<32)(U:List Nat)(hU:∀ x∈U,x<5)(hl:U.length<=5):zbY [fd f,.list (il U)]=Ga (.bool (U.all λh=>bt f.m h)):=by
 show outV (zgW [.val (fd f),.val (.list (il U))])=_;unfold zgW;have ec:compF (seqI (gv 1)) (λ_=>Ga true) (callV zaU (consL (bin dIx (gv 1) (cst (.int 2))) (consL (gv 0) (nilL)))) [0] [.val (fd f),.val (.list (il U))]=Ga ((U.map λh=>bt f.m h).map jW):=by
  refine(zpD (ds:=il U) rfl (by unfold il;rw[jb];omega)).trans ((zn3 (F:=λd=>match d with|.int t=>.bool (bt f.m t.toNat)|_=>.none) (λd hd=>?_)).trans ?_)
  .obtain⟨h,hh,rfl⟩:=jx.mp hd;show callV zaU _ [.val (.int h),.val (fd f)]=Ga (.bool (bt f.m (h:Int).toNat));rw[kN];exact(zdL (ds:=[.int f.m,.int h]) rfl).trans (zuU f.m h hm (hU h hh))
  .unfold il;rw[jL,jL];rfl
 refine(congrArg outV (zkA (d:=.bool (U.all λh=>bt f.m h)) ((zBt ec).trans ?_))).trans rfl;unfold dAll;rw[ziG,jr,qr];rfl
theorem zoU:∀ (n:Nat) (l:List Nat),l.Nodup->(∀ x∈l,x<n)->l.length<=n
 | 0,[],_,_=>jk _
 | 0,x::r,_,h=>absurd (h x jg) (Nat.not_lt_zero _)
 | n+1,l,nd,h=>by
  by_cases hm:n∈l
  .have ih:=zoU n (l.erase n) (nd.erase n) (λx hx=>by
    have h1:=(nd.mem_erase_iff.mp hx);have h2:=h x h1.2;have h3:=h1.1;omega)
   rw[v8 hm] at ih;omega
  .have ih:=zoU n l nd (λx hx=>by
    have h2:=h x hx;have h3:x≠n:=λe=>hm (e▸hx);omega)
   omega
theorem zCL {n:Nat}{fs:List Fl}(G:Good n fs):fs.length<=n:=by
 have:=zoU n (fs.map Fl.h) G.nd (λx hx=>by obtain⟨f,hf,rfl⟩:=jx.mp hx;exact G.hb f hf);rw[jb] at this;exact this
def bk (d:D):Fl:=match d with
 | .tuple [.int a,.int b,.int c]=>⟨a.toNat,b,c.toNat⟩
 | _=>⟨0,0,0⟩
theorem zw8 (f:Fl):bk (fd f)=f:=by
 show(⟨(f.h:Int).toNat,f.a,(f.m:Int).toNat⟩:Fl)=f;rw[kN,kN]
def thB (b0 b1 b2 b3 b4:Bool):List Int:=(if b0 then[0] else[])++(if b1 then[1] else[])++(if b2 then[2] else[])++(if b3 then[3] else[])++(if b4 then[4] else[])
theorem zq1:∀ (b0 b1 b2 b3 b4:Bool),zb8 [.int (mB b0 b1 b2 b3 b4)]=Ga ((thB b0 b1 b2 b3 b4).map jc):=by
 have key:∀ (b0 b1 b2 b3 b4:Bool),((jf (kM (mB b0 b1 b2 b3 b4))).map λ(k:Nat)=>(k:Int)).filter (λh=>!(uI (mB b0 b1 b2 b3 b4) (2^h.toNat)==0))=thB b0 b1 b2 b3 b4:=by decide +kernel
 have small:∀ (b0 b1 b2 b3 b4:Bool),kM (mB b0 b1 b2 b3 b4)<10:=by decide +kernel
 intro b0 b1 b2 b3 b4;have sm:=small b0 b1 b2 b3 b4;show outO (zh0 [.val (.int (mB b0 b1 b2 b3 b4))])=_;generalize hm:mB b0 b1 b2 b3 b4=m at sm ⊢;have ei:(un1L rng1 (un dBits (gv 0))) [.val (.int m)]=Ga (rngD 0 (kM m)):=by
  refine(zBv (a:=.int (kM m:Nat)) ((un_v (a:=.int m) rfl).trans rfl)).trans ?_;generalize kM m=k at sm;unfold rng1;dsimp only;rw[Ge (by constructor<;>omega),kN]
 have hlen:(rngD 0 (kM m)).length<=1000000:=by unfold rngD;rw[jb,jG];omega
 have e:=zBs ((zpD (fc:=tst (callV zaU (consL (gv 1) (consL (gv 0) (nilL))))) (fe:=gv 0) (ix:=[0]) ei hlen).trans (zgB (p:=λd=>match d with|.int h=>!(uI m (2^h.toNat)==0)|_=>false) (F:=id) (λd hd=>by
  obtain⟨k,hk,rfl⟩:=jx.mp hd;have hk':=jp.mp hk;exact zpC ((zdL rfl).trans (zmM _ _ (by omega) (by omega))) rfl) (λd hd _=>rfl)))
 unfold zh0;rw[e];rw[ztL];rw[List.map_id];rw[<- key b0 b1 b2 b3 b4];rw[hm];refine congrArg Ga ?_;unfold rngD;rw[vf,vf,jL];exact congr (congrArg vO (funext λx=>congrArg jc (Jj _))) (congrArg (λp=>List.filter p _) (funext λx=>congrArg (λz:Int=>!(uI m (2^z.toNat)==0)) (Jj (x:Int))))
theorem zD8 {f g:FV}{ψ:En}(h:f ψ=Ga (.bool false)):orV f g ψ=g ψ:=by show((f ψ).bind toB).bind _=_;rw[h];rfl
theorem zD9 {f g:FV}{ψ:En}(h:f ψ=Ga (.bool true)):orV f g ψ=Ga (.bool true):=by show((f ψ).bind toB).bind _=_;rw[h];rfl
theorem zyH {f g:FV}{ψ:En}(h:f ψ=Ga (.bool true)):andV f g ψ=g ψ:=by show((f ψ).bind toB).bind _=_;rw[h];rfl
theorem zCM {f g:FV}{ψ:En}(h:f ψ=Ga (.bool false)):andV f g ψ=Ga (.bool false):=by show((f ψ).bind toB).bind _=_;rw[h];rfl
theorem zw9 {f g h:FV}{ψ:En}{a b c:Int}(h1:f ψ=Ga (.int a))(h2:g ψ=Ga (.int b))(h3:h ψ=Ga (.int c))(q1:a<=b)(q2:b<=c):chainV dLe dLe f g h ψ=Ga (.bool true):=by
 show(f ψ).bind _=_;rw[h1,jr,h2,jr];rw[show(dLe (.int a) (.int b)).bind toB=Ga true from(by show Ga (decide (a<=b))=_;rw[Gc q1]),jr,Ge rfl,h3,jr];show Ga (jW (decide (b<=c)))=_;rw[Gc q2]
def extA:Nat->List (List Nat)
 | 0=>[[]]
 | n+1=>(extA n).flatMap λA=>((jf 5).filter λx=>!A.contains x).map λx=>x::A
theorem zrJ:∀ (A:List Nat),A.Nodup->(∀ x∈A,x<5)->A∈extA A.length
 | [],_,_=>jv.mpr rfl
 | x::A,nd,lt=>by
  rw[ka] at nd;show x::A∈(extA A.length).flatMap _;rw[List.mem_flatMap];refine⟨A,zrJ A nd.2 λy hy=>lt y (je _ hy),jx.mpr ⟨x,jD.mpr ⟨jp.mpr (lt x jg),?_⟩,rfl⟩⟩;rw[uh,<- jZ,ju];exact nd.1
def chkT (A:List Nat):Bool:=(thB ((A.map λ(k:Nat)=>(k:Int)).contains 0) ((A.map λ(k:Nat)=>(k:Int)).contains 1) ((A.map λ(k:Nat)=>(k:Int)).contains 2) ((A.map λ(k:Nat)=>(k:Int)).contains 3) ((A.map λ(k:Nat)=>(k:Int)).contains 4)).length==A.length
theorem zxA:(jf 6).all (λn=>(extA n).all chkT)=true:=by decide +kernel
theorem zsU (A:List Nat)(nd:A.Nodup)(lt:∀ x∈A,x<5):∃ L:List D,L.length=A.length/\∃ m:Int,zcK [.list (il A)]=Ga (.int m)/\zb8 [.int m]=Ga L:=by
 have hl:=zoU 5 A nd lt;have c:=jF.mp (jF.mp zxA A.length (jp.mpr (by omega))) A (zrJ A nd lt);have e:il A=(A.map λ(k:Nat)=>(k:Int)).map jc:=by unfold il;rw[jL];rfl
 have m:=znU (A.map λ(k:Nat)=>(k:Int)) (λh hh=>by
  obtain⟨k,hk,rfl⟩:=jx.mp hh;have:=lt k hk;omega)
 refine⟨_,?_,_,by rw[e];exact m,zq1 _ _ _ _ _⟩;rw[jb];exact eq_of_beq c
def foB (U:List Nat)(k:Nat)(f:Fl):Bool:=decide (f.a<(k:Int))||(decide (f.a=(k:Int))&&!(U.all λh=>bt f.m h))
theorem zq2 (f:Fl)(hm:f.m<32)(U:List Nat)(hU:∀ x∈U,x<5)(hl:U.length<=5)(k:Nat):zcF [fd f,.list (il U),.int k]=Ga (.bool (foB U k f)):=by
 have ha:=zk6 f hm U hU hl;show outV (zeL [.val (fd f),.val (.list (il U)),.val (.int k)])=_;generalize vj (il U)=W at ha;unfold zeL;refine(congrArg outV (zkA (d:=.bool (foB U k f)) ?_)).trans rfl;have c1:bin dLt (bin dIx (gv 0) (cst (.int 1))) (gv 2) [.val (fd f),.val W,.val (.int k)]=Ga (.bool (decide (f.a<(k:Int)))):=rfl;have c2:bin dEq (bin dIx (gv 0) (cst (.int 1))) (gv 2) [.val (fd f),.val W,.val (.int k)]=Ga (.bool (decide (f.a=(k:Int)))):=by
  refine(zn2 (a:=.int f.a) (b:=.int k) rfl rfl).trans ((zi4 _ _).trans (congrArg (λb=>Ga (jW b)) ?_));rw[kA,beq_iff_eq,decide_eq_true_eq]
 have c3:notV (callV zbY (consL (gv 0) (consL (gv 1) (nilL)))) [.val (fd f),.val W,.val (.int k)]=Ga (.bool (!(U.all λh=>bt f.m h))):=by
  show((callV zbY (consL (gv 0) (consL (gv 1) (nilL))) [.val (fd f),.val W,.val (.int k)]).bind toB).bind _=_;rw[(zdL (ds:=[fd f,W]) rfl).trans ha];rfl
 unfold foB;cases q1:decide (f.a<(k:Int)) with
 | true=>rw[q1] at c1;exact zD9 c1
 | false =>
  rw[q1] at c1;refine(zD8 c1).trans ?_;cases q2:decide (f.a=(k:Int)) with
  | true=>rw[q2] at c2;exact(zyH c2).trans c3
  | false=>rw[q2] at c2;exact zCM c2
def upL (n:Nat)(fs:List Fl)(k:Nat):List Nat:=(jf n).filter λh=>up fs h (k:Int)
theorem zCN {n:Nat}{fs:List Fl}{k x:Nat}(h:x∈upL n fs k):x<n:=jp.mp (jD.mp h).1
theorem zAJ (n:Nat)(fs:List Fl)(k:Nat):(upL n fs k).length<=n:=by
 have:=j6 (λh=>up fs h (k:Int)) (jf n);rw[jG] at this;exact this
def foL (n:Nat)(fs:List Fl)(k:Nat):List Fl:=if (upL n fs k).isEmpty then[] else fs.filter (foB (upL n fs k) k)
theorem zxB (ns:List D)(fs:List Fl)(G:Good ns.length fs)(k:Nat):∃ m:Int,∃ L:List D,zcP [rd ns fs,.int k]=Ga (.int m)/\zb8 [.int m]=Ga L/\L.length=(foL ns.length fs k).length:=by
 have n5:=G.n5;have hw:=zuT ns fs (k:Int) n5;have hlU:=zAJ ns.length fs k;have e0:(((jf ns.length).filter λh=>up fs h (k:Int)).map λ(h:Nat)=>jc (h:Int))=il (upL ns.length fs k):=rfl;rw[e0] at hw;show ∃ m:Int,∃ L:List D,outV (zgX [.val (rd ns fs),.val (.int k),.no])=_/\_;have hfo:∀ f∈fs,zcF [fd f,.list (il (upL ns.length fs k)),.int k]=Ga (.bool (foB (upL ns.length fs k) k f)):=λf hf=>zq2 f (G.mb f hf) _ (λx hx=>by have:=zCN hx;omega) (by omega) k;have hln:dLen (.list (il (upL ns.length fs k)))=Ga (.int (upL ns.length fs k).length):=by
  show Ga (jc ((il (upL ns.length fs k)).length:Nat))=_;unfold il;rw[jb]
 unfold foL;generalize upL ns.length fs k=U at hw hlU hfo hln;generalize il U=W at hw hfo hln;have s2:setS 2 (lstV (callO zaR (consL (gv 0) (consL (gv 1) (nilL))))) [.val (rd ns fs),.val (.int k),.no]=Ga (.nx [.val (rd ns fs),.val (.int k),.val (.list W)]):=zqF (zv1 ((zyA (ds:=[rd ns fs,.int k]) rfl).trans hw));have c1:cmpB dEq (un dLen (gv 2)) (cst (.int 0)) (frz [.val (rd ns fs),.val (.int k),.val (.list W)])=Ga ((U.length:Int)==0):=zr5 ((un_v (a:=.list W) rfl).trans hln) rfl (zi4 _ _);unfold zgX;by_cases hU:U=[]
 .subst hU;refine⟨0,[],?_,by decide +kernel,rfl⟩;rw[zd2 s2,znM (d:=.int 0) ((if_t c1).trans rfl)];rfl
 .have hne:U.isEmpty=false:=by cases U with|nil=>exact absurd rfl hU|cons _ _=>rfl
  have hz:((U.length:Int)==0)=false:=by
   rw[<- jZ,beq_iff_eq];cases U with
   | nil=>exact absurd rfl hU
   | cons a b=>rw[jJ];omega
  rw[hz] at c1;rw[hne,Gf jy];obtain⟨L,hL,m,hm,hh⟩:=zsU ((fs.filter (foB U k)).map Fl.h) (((kE (l:=fs) (p:=foB U k)).map Fl.h).nodup G.nd) (λx hx=>by obtain⟨f,hf,rfl⟩:=jx.mp hx;have:=G.hb f (jD.mp hf).1;omega);refine⟨m,L,?_,hh,by rw[hL,jb]⟩;rw[zd2 s2,zd2 ((if_f c1).trans rfl)];have ec:compF (seqI (bin dIx (gv 0) (cst (.int 1)))) (tst (callV zcF (consL (gv 0) (consL (gv 2) (consL (gv 1) (nilL)))))) (bin dIx (gv 0) (cst (.int 0))) [1,2] [.val (rd ns fs),.val (.int k),.val (.list W)]=Ga (il ((fs.filter (foB U k)).map Fl.h)):=by
   have lf:=zCL G;refine(zpD (ds:=fs.map fd) rfl (by rw[jb];omega)).trans ((zgB (p:=λd=>foB U k (bk d)) (F:=λd=>.int (bk d).h) (λd hd=>?_) (λd hd _=>?_)).trans ?_)
   .obtain⟨f,hf,rfl⟩:=jx.mp hd;rw[zw8];exact zpC ((zdL (ds:=[fd f,.list W,.int k]) rfl).trans (hfo f hf)) rfl
   .obtain⟨f,hf,rfl⟩:=jx.mp hd;rw[zw8];rfl
   .rw[vf,jL];unfold il;rw[jL];have e1:(λd=>foB U k (bk d))∘fd=foB U k:=by funext f;show foB U k (bk (fd f))=_;rw[zw8]
    rw[e1];refine congrArg Ga (km λf _=>?_);show jc ((bk (fd f)).h:Int)=_;rw[zw8];rfl
  exact(congrArg outV (zkA ((zdL (ds:=[.list (il ((fs.filter (foB U k)).map Fl.h))]) (zk0 (zv1 ec) rfl)).trans hm))).trans rfl
def cnt (n:Nat)(fs:List Fl)(k:Nat):Int:=((foL n fs k).length:Int)
def mx (a b:Int):Int:=if a<b then b else a
def wst (c:Nat->Int):Int:=mx (mx (mx (mx (mx 0 (c 1-1)) (c 2-2)) (c 3-3)) (c 4-4)) (c 5-5)
theorem zxC (ns:List D)(fs:List Fl)(G:Good ns.length fs):zgY [rd ns fs]=Ga (.int (wst (cnt ns.length fs))):=by
 have hf:=λk=>zxB ns fs G k;show outV (zh1 [.val (rd ns fs)])=_;have hc:∀ k:Nat,bin dSub (un dLen (lstV (callO zb8 (consL (callV zcP (consL (gv 1) (consL (gv 0) (nilL)))) (nilL))))) (gv 0) [.val (.int k),.val (rd ns fs)]=Ga (.int (cnt ns.length fs k-k)):=λk=>by
  obtain⟨m,L,e1,e2,e3⟩:=hf k;refine(zn2 (a:=.int (L.length:Nat)) (b:=.int k) ((un_v (a:=.list L) (zv1 ((zyA (ds:=[.int m]) (zk0 ((zdL (ds:=[rd ns fs,.int k]) rfl).trans e1) rfl)).trans e2))).trans rfl) rfl).trans ?_;show Ga (jc ((L.length:Int)-(k:Int)))=_;unfold cnt;rw[e3]
 unfold zh1;generalize rd ns fs=R at hc;have ec:compF (binL rng2 (cst (.int 1)) (bin dAdd (cst (.int 5)) (cst (.int 1)))) (λ_=>Ga true) (bin dSub (un dLen (lstV (callO zb8 (consL (callV zcP (consL (gv 1) (consL (gv 0) (nilL)))) (nilL))))) (gv 0)) [0] [.val R]=Ga ([cnt ns.length fs 1-1,cnt ns.length fs 2-2,cnt ns.length fs 3-3,cnt ns.length fs 4-4,cnt ns.length fs 5-5].map jc):=by
  refine(zpD (ds:=([1,2,3,4,5]:List Nat).map λ(k:Nat)=>jc (k:Int)) rfl (show 5<=1000000 by decide)).trans ((zn3 (F:=λd=>match d with|.int k=>.int (cnt ns.length fs k.toNat-k)|_=>.none) (λd hd=>?_)).trans rfl);obtain⟨k,_,rfl⟩:=jx.mp hd;exact hc k
 have ea:shV (bin dAdd (lstV (consL (cst (.int 0)) (nilL))) (lstV (compF (binL rng2 (cst (.int 1)) (bin dAdd (cst (.int 5)) (cst (.int 1)))) (λ_=>Ga true) (bin dSub (un dLen (lstV (callO zb8 (consL (callV zcP (consL (gv 1) (consL (gv 0) (nilL)))) (nilL))))) (gv 0)) [0]))) [.val R]=Ga ([0,cnt ns.length fs 1-1,cnt ns.length fs 2-2,cnt ns.length fs 3-3,cnt ns.length fs 4-4,cnt ns.length fs 5-5].map jc) :=
  sh_v ((zn2 (a:=.list [.int 0]) (b:=.list ([cnt ns.length fs 1-1,cnt ns.length fs 2-2,cnt ns.length fs 3-3,cnt ns.length fs 4-4,cnt ns.length fs 5-5].map jc)) rfl (zv1 ec)).trans rfl)
 refine(congrArg outV (zkA (d:=.int (wst (cnt ns.length fs))) ((zBt ea).trans ?_))).trans rfl;unfold dMaxL;rw[zjO,jr];rfl
theorem zxD (ns:List D)(fs:List Fl)(bd:Nat)(h1:bd+2<=ns.length)(h2:fs.length<=bd):zb5 [rd ns fs,.int bd]=Ga (.bool true):=by
 show outV (zl9 [.val (rd ns fs),.val (.int bd)])=_;unfold zl9;rw[zd2 ((if_f (ztM (b:=true) (zpC ((zdL (ds:=[.int bd]) rfl).trans rfl) rfl))).trans rfl)];have c1:chainV dLe dLe (cst (.int 0)) (gv 1) (bin dSub (callV zaL (consL (gv 0) (nilL))) (cst (.int 2))) [.val (rd ns fs),.val (.int bd)]=Ga (.bool true):=by
  refine zw9 (a:=0) (b:=bd) (c:=(ns.length:Int)-2) rfl rfl rfl (by omega) (by omega)
 have c2:bin dLe (un dLen (bin dIx (gv 0) (cst (.int 1)))) (gv 1) [.val (rd ns fs),.val (.int bd)]=Ga (.bool true):=by
  show Ga (jW (decide (((fs.map fd).length:Int)<=(bd:Int))))=_;rw[jb,Gc (by omega)]
 refine(congrArg outV (zkA (d:=.bool true) ?_)).trans rfl;exact(zyH c1).trans c2
theorem zsV (ns:List D)(fs:List Fl)(G:Good ns.length fs)(bd:Nat)(h1:bd+2<=ns.length)(h2:fs.length<=bd):zdR [rd ns fs,.int bd]=Ga (.int ((bd:Int)+1-wst (cnt ns.length fs))):=by
 have hk:=zxD ns fs bd h1 h2;have hw:=zxC ns fs G;show outV (zd7 [.val (rd ns fs),.val (.int bd)])=_;generalize rd ns fs=R at hk hw;unfold zd7;rw[zd2 ((if_f (ztM (b:=true) (zpC ((zdL (ds:=[R,.int bd]) rfl).trans hk) rfl))).trans rfl)];exact(congrArg outV (zkA ((zn2 (a:=.int ((bd:Int)+1)) rfl ((zdL (ds:=[R]) rfl).trans hw)).trans rfl))).trans rfl
theorem zuV (ns:List D)(fs:List Fl)(G:Good ns.length fs)(bd:Nat)(h1:bd+2<=ns.length)(h2:fs.length<=bd)(r:Int):zbD [rd ns fs,.int bd,.int r]=Ga (.bool (decide (r<(bd:Int)+1-wst (cnt ns.length fs)))):=by
 have hc:=zsV ns fs G bd h1 h2;show outV (zjH [.val (rd ns fs),.val (.int bd),.val (.int r)])=_;generalize rd ns fs=R at hc;unfold zjH;exact(congrArg outV (zkA ((zn2 (a:=.int r) rfl ((zdL (ds:=[R,.int bd]) rfl).trans hc)).trans rfl))).trans rfl
abbrev Fs:=Nat->Option (Int×Nat)
def upE (E:Fs)(h:Nat)(r:Int):Bool:=match E h with
 | some (a,_)=>decide (r<a)
 | none=>true
def cmE (E:Fs)(b t:Nat)(r:Int):Bool:=match E b with
 | some (a,m)=>decide (r<a)||(decide (a=r)&&bt m t)
 | none=>true
def VwE (n:Nat)(ns:Nat->D)(E:Fs):Nat->Nat->D
 | 0,h=>.tuple [.int h,ns h]
 | r+1,h=>if upE E h ((r:Int)+1)=true then .tuple [.int h,.tuple ((jf n).map λb=>if (b==h||cmE E b h ((r:Int)+1))=true then VwE n ns E r b else .none)] else .none
structure Hid (n:Nat)(ns1 ns2:Nat->D)(E1 E2:Fs)(S:Nat->Bool)(r0 k:Nat):Prop where
 up:∀ i r,i<n->S i=false->r<=k->upE E1 i (r:Int)=upE E2 i (r:Int)
 cm:∀ b t r,t<n->S b=false->S t=false->1<=r->r<=k->upE E1 t (r:Int)=true->cmE E1 b t (r:Int)=cmE E2 b t (r:Int)
 cmS:∀ b t r,t<n->S b=true->S t=false->1<=r->r<=r0->r<=k->upE E1 t (r:Int)=true->cmE E1 b t (r:Int)=cmE E2 b t (r:Int)
 no1:∀ b t r,t<n->S b=true->S t=false->r0<r->r<=k->upE E1 t (r:Int)=true->cmE E1 b t (r:Int)=false
 no2:∀ b t r,t<n->S b=true->S t=false->r0<r->r<=k->upE E1 t (r:Int)=true->cmE E2 b t (r:Int)=false
 upS:∀ i r,i<n->S i=true->r<r0->upE E1 i (r:Int)=upE E2 i (r:Int)
 cmT:∀ b t r,t<n->S t=true->1<=r->r<r0->cmE E1 b t (r:Int)=cmE E2 b t (r:Int)
 num:∀ i,S i=false\/0<r0->ns1 i=ns2 i
theorem zfN {n:Nat}{ns1 ns2:Nat->D}{E1 E2:Fs}{S:Nat->Bool}{r0 k:Nat}(H:Hid n ns1 ns2 E1 E2 S r0 k) :
  ∀ r,r<=k->(∀ i,i<n->S i=false->VwE n ns1 E1 r i=VwE n ns2 E2 r i)/\(r<r0->∀ i,i<n->VwE n ns1 E1 r i=VwE n ns2 E2 r i)
 | 0,_=>⟨λi _ hi=>by unfold VwE;rw[H.num i (.inl hi)],λh i _=>by unfold VwE;rw[H.num i (.inr h)]⟩
 | r+1,hk=>by
  obtain⟨ih1,ih2⟩:=zfN H r (by omega);have ec:((r+1:Nat):Int)=(r:Int)+1:=by omega
  have part:∀ i,(∀ b,b<n->(b==i)=false->upE E1 i ((r:Int)+1)=true->(if (b==i||cmE E1 b i ((r:Int)+1))=true then VwE n ns1 E1 r b else .none)=(if (b==i||cmE E2 b i ((r:Int)+1))=true then VwE n ns2 E2 r b else .none)) ->
    VwE n ns1 E1 r i=VwE n ns2 E2 r i->upE E1 i ((r:Int)+1)=upE E2 i ((r:Int)+1)->VwE n ns1 E1 (r+1) i=VwE n ns2 E2 (r+1) i:=λi h1 h2 h3=>by
   unfold VwE;rw[<- h3];cases hu:upE E1 i ((r:Int)+1) with
   | false=>rfl
   | true =>
    rw[Ge rfl,Ge rfl];refine congrArg (λl=>jT [jc (i:Int),jT l]) (km λb hbn=>?_);cases hb:(b==i) with
    | true =>
     rw[k6,k6,Ge rfl,Ge rfl];rw[beq_iff_eq] at hb;subst hb;exact h2
    | false =>
     have:=h1 b (jp.mp hbn) hb hu;rw[hb] at this;exact this
  have go:∀ i b,(b==i)=false->upE E1 i ((r:Int)+1)=true->cmE E1 b i ((r:Int)+1)=cmE E2 b i ((r:Int)+1)->(cmE E1 b i ((r:Int)+1)=true->VwE n ns1 E1 r b=VwE n ns2 E2 r b) ->
    (if (b==i||cmE E1 b i ((r:Int)+1))=true then VwE n ns1 E1 r b else .none)=(if (b==i||cmE E2 b i ((r:Int)+1))=true then VwE n ns2 E2 r b else .none):=λi b hb hu he hv=>by
   rw[hb,<- he,v4];cases hc:cmE E1 b i ((r:Int)+1) with
   | false=>rfl
   | true=>rw[Ge rfl,Ge rfl];exact hv hc
  refine⟨λi hin hi=>part i (λb hbn hb hu=>?_) (ih1 i hin hi) ?_,λhr i hin=>part i (λb hbn hb hu=>?_) (ih2 (by omega) i hin) ?_⟩
  .rw[<- ec] at hu;cases hs:S b with
   | false=>exact go i b hb (by rw[<- ec];exact hu) (by rw[<- ec];exact H.cm b i (r+1) hin hs hi (by omega) hk hu) λ_=>ih1 b hbn hs
   | true =>
    by_cases hr:r+1<=r0
    .exact go i b hb (by rw[<- ec];exact hu) (by rw[<- ec];exact H.cmS b i (r+1) hin hs hi (by omega) hr hk hu) λ_=>ih2 (by omega) b hbn
    .have n1:=H.no1 b i (r+1) hin hs hi (by omega) hk hu;have n2:=H.no2 b i (r+1) hin hs hi (by omega) hk hu;rw[ec] at n1 n2;exact go i b hb (by rw[<- ec];exact hu) (n1.trans n2.symm) λz=>by rw[n1] at z;cases z
  .rw[<- ec];exact H.up i (r+1) hin hi hk
  .cases hs:S i with
   | true=>exact go i b hb hu (by rw[<- ec];exact H.cmT b i (r+1) hin hs (by omega) hr) λ_=>ih2 (by omega) b hbn
   | false =>
    rw[<- ec] at hu;cases hs2:S b with
    | false=>exact go i b hb (by rw[<- ec];exact hu) (by rw[<- ec];exact H.cm b i (r+1) hin hs2 hs (by omega) hk hu) λ_=>ih2 (by omega) b hbn
    | true=>exact go i b hb (by rw[<- ec];exact hu) (by rw[<- ec];exact H.cmS b i (r+1) hin hs2 hs (by omega) (by omega) hk hu) λ_=>ih2 (by omega) b hbn
  .rw[<- ec];cases hs:S i with
   | true=>exact H.upS i (r+1) hin hs hr
   | false=>exact H.up i (r+1) hin hs hk
def updE (E:Fs)(h:Nat)(v:Option (Int×Nat)):Fs:=λi=>if i=h then v else E i
theorem zaM {E:Fs}{h:Nat}{v:Option (Int×Nat)}:updE E h v h=v:=Ge rfl
theorem zaP {E:Fs}{h i:Nat}{v:Option (Int×Nat)}(e:i≠h):updE E h v i=E i:=Gf e
theorem zk7 {E E':Fs}{i:Nat}(e:E i=E' i)(r:Int):upE E i r=upE E' i r:=by unfold upE;rw[e]
theorem zp0 {E E':Fs}{b:Nat}(e:E b=E' b)(t:Nat)(r:Int):cmE E b t r=cmE E' b t r:=by unfold cmE;rw[e]
theorem zdX {E:Fs}{i:Nat}{a:Int}{m:Nat}(e:E i=Ga (a,m))(r:Int):upE E i r=decide (r<a):=by unfold upE;rw[e]
theorem zeC {E:Fs}{b:Nat}{a:Int}{m:Nat}(e:E b=Ga (a,m))(t:Nat)(r:Int):cmE E b t r=(decide (r<a)||(decide (a=r)&&bt m t)):=by unfold cmE;rw[e]
theorem zdC {E:Fs}{i:Nat}(e:E i=Gb)(r:Int):upE E i r=true:=by unfold upE;rw[e]
theorem zlR {E:Fs}{b:Nat}(e:E b=Gb)(t:Nat)(r:Int):cmE E b t r=true:=by unfold cmE;rw[e]
theorem zrK (t:Nat):bt 0 t=false:=by unfold bt;rw[Int.natCast_zero,Int.zero_ediv];rfl
def nxt (k at_:Nat):Option (Int×Nat):=if at_<k then Ga ((at_:Int)+1,0) else Gb
theorem zuW {E:Fs}{h k at_:Nat}(e:E h=nxt k at_)(r:Nat)(hr:r<=at_):upE E h (r:Int)=true:=by
 unfold nxt at e;split at e
 .rw[zdX e];exact Gc (by omega)
 .exact zdC e _
theorem znV {E:Fs}{h k at_:Nat}(e:E h=nxt k at_)(t r:Nat)(hr:r<=at_):cmE E h t (r:Int)=true:=by
 unfold nxt at e;split at e
 .rw[zeC e,Gc (by omega),k6]
 .exact zlR e _ _
theorem zp1 {E:Fs}{h k at_:Nat}(e:E h=nxt k at_)(t r:Nat)(hr:at_<r)(hk:r<=k):cmE E h t (r:Int)=false:=by
 unfold nxt at e;rw[Ge (by omega)] at e;rw[zeC e,zrK,uv,uG];exact Gd (by omega)
theorem zAK {n:Nat}{ns:Nat->D}{E1 E2:Fs}{k at_:Nat}(S:Nat->Bool)(hS1:∀ h,S h=true->E1 h=nxt k at_)(hS2:∀ h,S h=true->∃ m,E2 h=Ga ((at_:Int),m)/\∀ t,t<n->S t=false->upE E1 t (at_:Int)=true->bt m t=true)
  (same:∀ i,S i=false->E1 i=E2 i):Hid n ns ns E1 E2 S at_ k where
 up:=λi r _ hi _=>zk7 (same i hi) _
 cm:=λb t r _ hb _ _ _ _=>zp0 (same b hb) _ _
 cmS:=λb t r htn hb ht h1 h2 h3 hu=>by
  rw[znV (hS1 b hb) t r h2];obtain⟨m,e,hm⟩:=hS2 b hb;rw[zeC e];by_cases c:(r:Int)<(at_:Int)
  .rw[Gc c,k6]
  .have:r=at_:=by omega
   subst this;rw[Gc rfl,hm t htn ht hu,Bool.and_self,Jl]
 no1:=λb t r _ hb _ h1 h2 _=>zp1 (hS1 b hb) t r h1 h2
 no2:=λb t r _ hb _ h1 h2 _=>by
  obtain⟨m,e,_⟩:=hS2 b hb;rw[zeC e,Gd (by omega),Gd (by omega),uV,uG]
 upS:=λi r _ hi hr=>by
  obtain⟨m,e,_⟩:=hS2 i hi;rw[zuW (hS1 i hi) r (by omega),zdX e,Gc (by omega)]
 cmT:=λb t r _ ht h1 h2=>by
  cases hb:S b with
  | false=>exact zp0 (same b hb) _ _
  | true =>
   obtain⟨m,e,_⟩:=hS2 b hb;rw[znV (hS1 b hb) t r (by omega),zeC e,Gc (by omega),k6]
 num:=λ_ _=>rfl
theorem zCO {n:Nat}{ns:Nat->D}{E1 E2:Fs}{k at_ h to:Nat}{m1 m2:Nat}(hne:h≠to)(h1:E1 h=Ga ((at_:Int),m1))(h2:E2 h=Ga ((at_:Int),m2))(hm:∀ t,t≠to->bt m1 t=bt m2 t)(t1:E1 to=nxt k at_)(t2:E2 to=nxt k at_)
  (same:∀ i,i≠h->i≠to->E1 i=E2 i):Hid n ns ns E1 E2 (λi=>i==to) at_ k:=by
 have sm:∀ i,(i==to)=false->∀ r,upE E1 i r=upE E2 i r:=λi hi r=>by
  rw[beq_eq_false_iff_ne] at hi;by_cases e:i=h
  .subst e;rw[zdX h1,zdX h2]
  .exact zk7 (same i e hi) _
 have sc:∀ b,(b==to)=false->∀ t r,t≠to->cmE E1 b t r=cmE E2 b t r:=λb hb t r ht=>by
  rw[beq_eq_false_iff_ne] at hb;by_cases e:b=h
  .subst e;rw[zeC h1,zeC h2,hm t ht]
  .exact zp0 (same b e hb) _ _
 refine⟨λi r _ hi _=>sm i hi _,λb t r _ hb ht _ _ _=>sc b hb t _ (beq_eq_false_iff_ne.mp ht),λb t r _ hb ht _ h _ _=>?_,λb t r _ hb ht h h' _=>?_,λb t r _ hb ht h h' _=>?_,λi r _ hi hr=>?_,λb t r _ ht hh h'=>?_,λ_ _=>rfl⟩
 .rw[beq_iff_eq] at hb;subst hb;rw[znV t1 t r h,znV t2 t r h]
 .rw[beq_iff_eq] at hb;subst hb;exact zp1 t1 t r h h'
 .rw[beq_iff_eq] at hb;subst hb;exact zp1 t2 t r h h'
 .rw[beq_iff_eq] at hi;subst hi;rw[zuW t1 r (by omega),zuW t2 r (by omega)]
 .rw[beq_iff_eq] at ht;subst ht;by_cases e:b=t
  .subst e;rw[znV t1 b r (by omega),znV t2 b r (by omega)]
  .by_cases e2:b=h
   .subst e2;rw[zeC h1,zeC h2,Gc (by omega),k6,k6]
   .exact zp0 (same b e2 e) _ _
theorem zEa {n:Nat}{ns1 ns2:Nat->D}{E:Fs}{k h:Nat}(hn:∀ i,i≠h->ns1 i=ns2 i)(t1:E h=nxt k 0):Hid n ns1 ns2 E E (λi=>i==h) 0 k where
 up:=λ_ _ _ _ _=>rfl
 cm:=λ_ _ _ _ _ _ _ _ _=>rfl
 cmS:=λ_ _ _ _ _ _ h1 h2 _ _=>by omega
 no1:=λb t r _ hb _ h1 h2 _=>by rw[beq_iff_eq] at hb;subst hb;exact zp1 t1 t r h1 h2
 no2:=λb t r _ hb _ h1 h2 _=>by rw[beq_iff_eq] at hb;subst hb;exact zp1 t1 t r h1 h2
 upS:=λ_ _ _ _ h=>by omega
 cmT:=λ_ _ _ _ _ _ h=>by omega
 num:=λi h=>hn i (h.elim (λz=>beq_eq_false_iff_ne.mp z) λz=>absurd z (jP 0))
def Chn {α:Type}(R:α->α->Prop):List α->Prop
 | []=>True
 | [_]=>True
 | a::b::r=>R a b/\Chn R (b::r)
theorem zjJ {α:Type}{R:α->α->Prop}:∀ {l m:List α},Chn R l->Chn R m->(∀ a b,l.getLast?=Ga a->m.head?=Ga b->R a b)->Chn R (l++m)
 | [],_,_,h,_=>h
 | [a],[],_,_,_=>trivial
 | [a],b::m,_,h,j=>⟨j a b rfl rfl,h⟩
 | a::b::l,m,h1,h2,j=>⟨h1.1,zjJ (l:=b::l) h1.2 h2 λx y hx hy=>j x y (by rw[qg];exact hx) hy⟩
theorem zxE {α:Type}{R:α->α->Prop}:∀ {l:List α},Chn R l->Chn R l.tail
 | [],_=>trivial
 | [_],_=>trivial
 | _::_::_,h=>h.2
theorem zoV {α:Type}{R:α->α->Prop}(sy:∀ a b,R a b->R b a):∀ {l:List α},Chn R l->Chn R l.reverse
 | [],_=>trivial
 | [_],_=>trivial
 | a::b::r,h=>by
  have ih:=zoV sy (l:=b::r) h.2;rw[uA];refine zjJ ih trivial λx y hx hy=>?_;rw[uS] at hx;cases hx;cases hy;exact sy _ _ h.1
def cntE (n:Nat)(E:Fs):Nat:=((jf n).filter λi=>(E i).isSome).length
theorem zfO {n:Nat}{E:Fs}(hc:cntE n E+2<=n)(h:Nat):∃ i,i<n/\i≠h/\E i=Gb:=by
 refine kn λno=>?_;have all:∀ i,i<n->i≠h->(E i).isSome=true:=λi hi hn=>by
  cases e:E i with
  | none=>exact absurd ⟨i,hi,hn,e⟩ no
  | some v=>rfl
 have key:∀ m,m<=n->m<=((jf m).filter λi=>(E i).isSome).length+(if h<m then 1 else 0):=by
  intro m;induction m with
  | zero=>exact λ_=>j8 _
  | succ m ih =>
   intro hm;have ih:=ih (by omega);rw[k8,kH,jh];by_cases e:m=h
   .subst e;rw[Gf (jP m)] at ih;rw[Ge (uK m)];omega
   .have:([m].filter λi=>(E i).isSome)=[m]:=by rw[jU (p:=λi=>(E i).isSome) (all m (by omega) e)];rfl
    rw[this,jV];split at ih<;>split<;>omega
 have:=key n (jk n);unfold cntE at hc;split at this<;>omega
theorem ziK {n:Nat}{E:Fs}{h:Nat}(v:Option (Int×Nat)):cntE n (updE E h v)<=cntE n E+1:=by
 unfold cntE;induction n with
 | zero=>exact j8 _
 | succ n ih =>
  rw[k8,kH,kH,jh,jh];by_cases e:n=h
  .subst e;have:((jf n).filter λi=>(updE E n v i).isSome)=(jf n).filter λi=>(E i).isSome:=kw λi hi=>by
    rw[zaP (jK (jp.mp hi))]
   rw[this];have:([n].filter λi=>(updE E n v i).isSome).length<=1:=j6 _ _;omega
  .have:([n].filter λi=>(updE E h v i).isSome)=[n].filter λi=>(E i).isSome:=kw λi hi=>by
    rw[jv.mp hi,zaP e]
   rw[this];omega
theorem zuX {n:Nat}{E E':Fs}(h:∀ i,i<n->(E i).isSome=(E' i).isSome):cntE n E=cntE n E':=by
 unfold cntE;rw[kw λi hi=>h i (jp.mp hi)]
theorem ziC {n:Nat}{E:Fs}{h:Nat}{u v:Int×Nat}(e:E h=Ga u):cntE n (updE E h (Ga v))=cntE n E:=by
 refine zuX λi _=>?_;by_cases c:i=h
 .subst c;rw[zaM,e];rfl
 .rw[zaP c]
structure Ok (n:Nat)(E:Fs)(at_:Nat):Prop where
 rnd:∀ i a m,E i=Ga (a,m)->1<=a/\a<=(at_:Int)
 hnd:∀ i a m,E i=Ga (a,m)->i<n
 msk:∀ i a m,E i=Ga (a,m)->m<2^n/\bt m i=false
theorem Ok.mono {n:Nat}{E:Fs}{a b:Nat}(h:Ok n E a)(e:a<=b):Ok n E b:=⟨λi x m z=>by have:=h.rnd i x m z;omega,h.hnd,h.msk⟩
theorem Ok.upd {n:Nat}{E:Fs}{a h:Nat}{x:Int}{m:Nat}(o:Ok n E a)(hh:h<n)(x1:1<=x)(x2:x<=(a:Int))(hm:m<2^n)(hb:bt m h=false):Ok n (updE E h (Ga (x,m))) a:=by
 refine⟨λi y l z=>?_,λi y l z=>?_,λi y l z=>?_⟩<;>(by_cases c:i=h)
 .subst c;rw[zaM] at z;cases z;exact⟨x1,x2⟩
 .rw[zaP c] at z;exact o.rnd i y l z
 .subst c;exact hh
 .rw[zaP c] at z;exact o.hnd i y l z
 .subst c;rw[zaM] at z;cases z;exact⟨hm,hb⟩
 .rw[zaP c] at z;exact o.msk i y l z
def Alk (n:Nat)(ns:Nat->D)(k:Nat)(E1 E2:Fs):Prop:=∃ i,i<n/\E1 i=Gb/\E2 i=Gb/\VwE n ns E1 k i=VwE n ns E2 k i
theorem Alk.symm {n:Nat}{ns:Nat->D}{k:Nat}{E1 E2:Fs}(h:Alk n ns k E1 E2):Alk n ns k E2 E1:=by
 obtain⟨i,h1,h2,h3,h4⟩:=h;exact⟨i,h1,h3,h2,h4.symm⟩
theorem zhB {n:Nat}{F E:Fs}(h:∀ i,(F i).isSome=true->(E i).isSome=true):cntE n F<=cntE n E:=by
 unfold cntE;have key:∀ l:List Nat,(l.filter λi=>(F i).isSome).length<=(l.filter λi=>(E i).isSome).length:=by
  intro l;induction l with
  | nil=>exact jk _
  | cons x l ih =>
   by_cases c:(F x).isSome=true
   .rw[jU (p:=λi=>(F i).isSome) c,jU (p:=λi=>(E i).isSome) (h x c),jJ,jJ];omega
   .rw[kj (p:=λi=>(F i).isSome) c];by_cases d:(E x).isSome=true
    .rw[jU (p:=λi=>(E i).isSome) d,jJ];omega
    .rw[kj (p:=λi=>(E i).isSome) d];exact ih
 exact key _
theorem zyI {n:Nat}{F E:Fs}{h:Nat}(hn:h<n)(m:∀ i,(F i).isSome=true->(E i).isSome=true)(e1:(E h).isSome=true)(e2:F h=Gb):cntE n F+1<=cntE n E:=by
 have key:∀ k,k<=n->((jf k).filter λi=>(F i).isSome).length+(if h<k then 1 else 0)<=((jf k).filter λi=>(E i).isSome).length:=by
  intro k;induction k with
  | zero=>exact λ_=>jk _
  | succ k ih =>
   intro hk;have ih:=ih (by omega);rw[k8,kH,kH,jh,jh];have one:∀ (G:Fs),([k].filter λi=>(G i).isSome).length=if (G k).isSome=true then 1 else 0:=λG=>by
    cases c:(G k).isSome with
    | true=>rw[jU (p:=λi=>(G i).isSome) c];rfl
    | false=>rw[kj (p:=λi=>(G i).isSome) (by rw[c];exact jy)];rfl
   rw[one F,one E];by_cases e:k=h
   .subst e;rw[e1,e2,Ge rfl,Ge (uK k)];rw[Gf (jP k)] at ih;rw[Gf (by show ¬(Gb:Option (Int×Nat)).isSome=true;exact jy)];omega
   .have:(if (F k).isSome=true then 1 else 0)<=(if (E k).isSome=true then 1 else 0:Nat):=by
     by_cases c:(F k).isSome=true
     .rw[Ge c,Ge (m k c)];exact jk _
     .rw[Gf c];exact j8 _
    by_cases y:h<k
    .rw[Ge y] at ih;rw[Ge (show h<k+1 by omega)];omega
    .rw[Gf y] at ih;rw[Gf (show ¬h<k+1 by omega)];omega
 have:=key n (jk n);rw[Ge hn] at this;exact this
def mN (b0 b1 b2 b3 b4:Bool):Nat:=(if b0 then 1 else 0)+(if b1 then 2 else 0)+(if b2 then 4 else 0)+(if b3 then 8 else 0)+(if b4 then 16 else 0)
def zbF (l:List Nat):Nat:=mN (l.contains 0) (l.contains 1) (l.contains 2) (l.contains 3) (l.contains 4)
def togN (m b:Nat):Nat:=m ^^^ 2^b
theorem zEb:∀ (b0 b1 b2 b3 b4:Bool),bt (mN b0 b1 b2 b3 b4) 0=b0/\bt (mN b0 b1 b2 b3 b4) 1=b1/\bt (mN b0 b1 b2 b3 b4) 2=b2/\bt (mN b0 b1 b2 b3 b4) 3=b3/\bt (mN b0 b1 b2 b3 b4) 4=b4:=by decide +kernel
theorem five {P:Nat->Prop}(h0:P 0)(h1:P 1)(h2:P 2)(h3:P 3)(h4:P 4):∀ i,i<5->P i
 | 0,_=>h0
 | 1,_=>h1
 | 2,_=>h2
 | 3,_=>h3
 | 4,_=>h4
 | n+5,h=>by omega
theorem zhC (l:List Nat):∀ i,i<5->bt (zbF l) i=l.contains i:=by
 obtain⟨h0,h1,h2,h3,h4⟩:=zEb (l.contains 0) (l.contains 1) (l.contains 2) (l.contains 3) (l.contains 4);exact five h0 h1 h2 h3 h4
theorem zAL:∀ (b0 b1 b2 b3 b4:Bool),mN b0 b1 b2 b3 b4<32:=by decide
theorem zCP:∀ (b0 b1 b2 b3:Bool),mN b0 b1 b2 b3 false<16:=by decide
theorem zCQ:∀ (b0 b1 b2:Bool),mN b0 b1 b2 false false<8:=by decide
theorem zCR:∀ (b0 b1:Bool),mN b0 b1 false false false<4:=by decide
theorem zkU {n:Nat}(h2:2<=n)(h5:n<=5)(l:List Nat)(hl:∀ i∈l,i<n):zbF l<2^n:=by
 have no:∀ i,n<=i->l.contains i=false:=λi hi=>by
  rw[<- jZ,ju];exact λz=>by have:=hl i z;omega
 unfold zbF;have:n=2\/n=3\/n=4\/n=5:=by omega
 rcases this with rfl|rfl|rfl|rfl
 .rw[no 2 (by omega),no 3 (by omega),no 4 (by omega)];exact zCR _ _
 .rw[no 3 (by omega),no 4 (by omega)];exact zCQ _ _ _
 .rw[no 4 (by omega)];exact zCP _ _ _ _
 .exact zAL _ _ _ _ _
theorem zCS:∀ (b0 b1 b2 b3 b4:Bool),togN (mN b0 b1 b2 b3 b4) 0=mN (!b0) b1 b2 b3 b4/\togN (mN b0 b1 b2 b3 b4) 1=mN b0 (!b1) b2 b3 b4/\togN (mN b0 b1 b2 b3 b4) 2=mN b0 b1 (!b2) b3 b4/\togN (mN b0 b1 b2 b3 b4) 3=mN b0 b1 b2 (!b3) b4/\togN (mN b0 b1 b2 b3 b4) 4=mN b0 b1 b2 b3 (!b4):=by decide +kernel
theorem zrL {o:Nat}{l:List Nat}(ho:o<5)(nd:o∉l):togN (zbF (o::l)) o=zbF l:=by
 have c1:l.contains o=false:=by rw[<- jZ,ju];exact nd
 have c2:∀ i,(o::l).contains i=(i==o||l.contains i):=λi=>vP;unfold zbF;simp only[c2];obtain⟨h0,h1,h2,h3,h4⟩:=zCS (0==o||l.contains 0) (1==o||l.contains 1) (2==o||l.contains 2) (3==o||l.contains 3) (4==o||l.contains 4);have:o=0\/o=1\/o=2\/o=3\/o=4:=by omega
 rcases this with rfl|rfl|rfl|rfl|rfl
 .rw[h0,c1];rfl
 .rw[h1,c1];rfl
 .rw[h2,c1];rfl
 .rw[h3,c1];rfl
 .rw[h4,c1];rfl
def othE (n:Nat)(E:Fs)(h at_:Nat):List Nat:=(jf n).filter λi=>upE E i (at_:Int)&&!(i==h)
def turnE (E:Fs)(h b:Nat):Fs:=match E h with
 | some (a,m)=>updE E h (Ga (a,togN m b))
 | none=>E
def hushS (H:Fs->Nat->List Fs)(E:Fs)(h:Nat)(p:List Fs)(o:Nat):List Fs:=p++(H (p.getLastD E) o++(H (turnE (p.getLastD E) h o) o).reverse).tail
def hushP (n k:Nat):Nat->Fs->Nat->List Fs
 | 0,E,_=>[E]
 | d+1,E,h=>(othE n E h (k-d)).foldl (hushS (hushP n k d) E h) (hushP n k d E h++[updE E h (Ga (((k-d:Nat):Int),zbF (othE n E h (k-d))))])
def hLen:Nat->Nat
 | 0=>1
 | d+1=>hLen d+1+4*(2*hLen d-1)
theorem zrM:∀ d,1<=hLen d
 | 0=>jk _
 | d+1=>by unfold hLen;have:=zrM d;omega
structure Hsh (n:Nat)(ns:Nat->D)(k d:Nat)(E:Fs)(T:Fs)(P:List Fs):Prop where
 hd:P.head?=Ga E
 lst:P.getLast?=Ga T
 ok:∀ F∈P,Ok n F (k+1)
 cnt:∀ F∈P,cntE n F<=cntE n E+d
 chn:Chn (Alk n ns k) P
theorem zAM {E:Fs}{h:Nat}(e:E h=Gb):updE E h Gb=E:=by
 funext i
 by_cases c:i=h
 .subst c;rw[zaM,e]
 .rw[zaP c]
theorem zj3 {E:Fs}{h:Nat}{u v:Option (Int×Nat)}:updE (updE E h u) h v=updE E h v:=by
 funext i
 by_cases c:i=h
 .subst c;rw[zaM,zaM]
 .rw[zaP c,zaP c,zaP c]
theorem zmO {α:Type}{p q:List α}{g t:α}(hp:p.getLast?=Ga g)(hq:q.head?=Ga g)(ht:q.getLast?=Ga t):(p++q.tail).getLast?=Ga t:=by
 cases q with
 | nil=>cases hq
 | cons a r =>
  cases hq;cases r with
  | nil=>cases ht;rw[qP,j7];exact hp
  | cons b r=>rw[qP,uB,<- qg,ht];rfl
theorem zoW {α:Type}{R:α->α->Prop}{p q:List α}{g:α}(hp:p.getLast?=Ga g)(hq:q.head?=Ga g)(c1:Chn R p)(c2:Chn R q):Chn R (p++q.tail):=by
 cases q with
 | nil=>cases hq
 | cons a r =>
  cases hq;refine zjJ c1 (zxE c2) λx y hx hy=>?_;rw[hp] at hx;cases hx;cases r with
  | nil=>cases hy
  | cons b r=>cases hy;exact c2.1
theorem zhD {α:Type}{p q:List α}{a:α}(h:p.head?=Ga a):(p++q).head?=Ga a:=by
 cases p with
 | nil=>cases h
 | cons b r=>exact h
theorem zeD {α:Type}{p:List α}{a d:α}(h:p.getLast?=Ga a):p.getLastD d=a:=by
 rw[List.getLastD_eq_getLast?,h];rfl
theorem zmP {n:Nat}{E:Fs}{at_ i:Nat}(o:Ok n E at_)(h:upE E i (at_:Int)=true):E i=Gb:=by
 cases e:E i with
 | none=>rfl
 | some v =>
  obtain⟨a,m⟩:=v;rw[zdX e,decide_eq_true_eq] at h;have:=(o.rnd i a m e).2;omega
theorem zp2 {n:Nat}{ns:Nat->D}{k d at_ h:Nat}{E:Fs}(h2:2<=n)(h5:n<=5)(IH:∀ (F:Fs) (i:Nat),i<n->F i=Gb->Ok n F (k+1-d)->cntE n F+d+2<=n->Hsh n ns k d F (updE F i (nxt k at_)) (hushP n k d F i)/\(hushP n k d F i).length<=hLen d)
  (hat:at_=k-d) (hk:d+1<=k) (hh:h<n) (ho:Ok n E at_) (hc:cntE n E+(d+1)+2<=n) {x:Nat} {l:List Nat} (nd:(x::l).Nodup) (hl:∀ i∈x::l,i<n/\i≠h/\E i=Gb) {p:List Fs} (H:Hsh n ns k (d+1) E (updE E h (Ga ((at_:Int),zbF (x::l)))) p) :
  Hsh n ns k (d+1) E (updE E h (Ga ((at_:Int),zbF l))) (hushS (hushP n k d) E h p x)/\(hushS (hushP n k d) E h p x).length<=p.length+(2*hLen d-1):=by
 have okG:∀ m,m<2^n->bt m h=false->Ok n (updE E h (Ga ((at_:Int),m))) at_:=λm h1 h2=>ho.upd hh (by omega) (kQ _) h1 h2;have cntG:∀ m,cntE n (updE E h (Ga ((at_:Int),m)))<=cntE n E+1:=λm=>ziK _;obtain⟨hx1,hx2,hx3⟩:=hl x jg;have nd':=ka.mp nd;have m1:zbF (x::l)<2^n:=zkU h2 h5 _ λi hi=>(hl i hi).1;have m2:zbF l<2^n:=zkU h2 h5 _ λi hi=>(hl i (je _ hi)).1;have b1:bt (zbF (x::l)) h=false:=by
  rw[zhC _ h (by omega),<- jZ,ju];exact λz=>(hl h z).2.1 rfl
 have b2:bt (zbF l) h=false:=by
  rw[zhC _ h (by omega),<- jZ,ju];exact λz=>(hl h (je _ z)).2.1 rfl
 have eg:p.getLastD E=updE E h (Ga ((at_:Int),zbF (x::l))):=zeD H.lst;have ef:turnE (updE E h (Ga ((at_:Int),zbF (x::l)))) h x=updE E h (Ga ((at_:Int),zbF l)):=by
  unfold turnE;rw[zaM];dsimp only;rw[zj3,zrL (by omega) nd'.1]
 have g0:updE E h (Ga ((at_:Int),zbF (x::l))) x=Gb:=by rw[zaP hx2];exact hx3
 have f0:updE E h (Ga ((at_:Int),zbF l)) x=Gb:=by rw[zaP hx2];exact hx3
 have A1:=IH (updE E h (Ga ((at_:Int),zbF (x::l)))) x hx1 g0 ((okG _ m1 b1).mono (by omega)) (by have:=cntG (zbF (x::l));omega);have A2:=IH (updE E h (Ga ((at_:Int),zbF l))) x hx1 f0 ((okG _ m2 b2).mono (by omega)) (by have:=cntG (zbF l);omega);obtain⟨A1,l1⟩:=A1;obtain⟨A2,l2⟩:=A2;have cG:=cntG (zbF (x::l));have cF:=cntG (zbF l);have step:hushS (hushP n k d) E h p x=p++(hushP n k d (updE E h (Ga ((at_:Int),zbF (x::l)))) x++(hushP n k d (updE E h (Ga ((at_:Int),zbF l))) x).reverse).tail:=by
  unfold hushS;rw[eg,ef]
 rw[step];generalize hushP n k d (updE E h (Ga ((at_:Int),zbF (x::l)))) x=P1 at A1 l1;generalize hushP n k d (updE E h (Ga ((at_:Int),zbF l))) x=P2 at A2 l2;have hq:(P1++P2.reverse).head?=Ga (updE E h (Ga ((at_:Int),zbF (x::l)))):=zhD A1.hd;have hql:(P1++P2.reverse).getLast?=Ga (updE E h (Ga ((at_:Int),zbF l))):=by
  rw[uB,uS,A2.hd];rfl
 have hqc:Chn (Alk n ns k) (P1++P2.reverse):=by
  refine zjJ A1.chn (zoV (λ_ _=>Alk.symm) A2.chn) λa b ha hb=>?_;rw[A1.lst] at ha;cases ha;rw[vQ,A2.lst] at hb;cases hb;have c2:cntE n (updE (updE E h (Ga ((at_:Int),zbF l))) x (nxt k at_))<=_:=A2.cnt _ (uW A2.lst);obtain⟨i,i1,i2,i3⟩:=zfO (n:=n) (E:=updE (updE E h (Ga ((at_:Int),zbF l))) x (nxt k at_)) (by omega) x;rw[zaP i2] at i3;have i4:i≠h:=λz=>by subst z;rw[zaM] at i3;cases i3
  rw[zaP i4] at i3;refine⟨i,i1,by rw[zaP i2,zaP i4];exact i3,by rw[zaP i2,zaP i4];exact i3,?_⟩;have B:=zCO (n:=n) (ns:=ns) (E1:=updE (updE E h (Ga ((at_:Int),zbF (x::l)))) x (nxt k at_)) (E2:=updE (updE E h (Ga ((at_:Int),zbF l))) x (nxt k at_)) (k:=k) (at_:=at_) (h:=h) (to:=x) (m1:=zbF (x::l)) (m2:=zbF l) (kX hx2)
   (by rw[zaP (kX hx2),zaM]) (by rw[zaP (kX hx2),zaM]) (λt ht=>?_) zaM zaM (λj j1 j2=>by rw[zaP j2,zaP j1,zaP j2,zaP j1])
  .exact(zfN B k (jk _)).1 i i1 (beq_eq_false_iff_ne.mpr i2)
  .by_cases t5:t<5
   .rw[zhC _ t t5,zhC _ t t5,vP,beq_eq_false_iff_ne.mpr ht,v4]
   .have big:∀ m:Nat,m<32->bt m t=false:=λm hm=>by
     unfold bt;have:(m:Int)/2^t=0:=by
      refine qu (by omega) ?_;have e1:(2:Nat)^5<=2^t:=uC (by decide) (by omega);have e2:((2^t:Nat):Int)=(2:Int)^t:=Int.natCast_pow 2 t;rw[<- e2];omega
     rw[this];rfl
    rw[big (zbF (x::l)) (zAL _ _ _ _ _),big (zbF l) (zAL _ _ _ _ _)]
 refine⟨⟨zhD H.hd,zmO H.lst hq hql,λF hF=>?_,λF hF=>?_,zoW H.lst hq H.chn hqc⟩,?_⟩
 .rcases jM.mp hF with z|z
  .exact H.ok F z
  .rcases jM.mp (kI z) with z|z
   .exact A1.ok F z
   .exact A2.ok F (uc.mp z)
 .rcases jM.mp hF with z|z
  .exact H.cnt F z
  .rcases jM.mp (kI z) with z|z
   .have:=A1.cnt F z;omega
   .have:=A2.cnt F (uc.mp z);omega
 .have lt:(P1++P2.reverse).tail.length<=2*hLen d-1:=by
   rw[ko,jh,kD];omega
  rw[jh];omega
theorem zhE {n:Nat}{ns:Nat->D}{k:Nat}(h2:2<=n)(h5:n<=5):∀ (d:Nat) (E:Fs) (h:Nat),d<=k->h<n->E h=Gb->Ok n E (k+1-d)->cntE n E+d+2<=n ->
  Hsh n ns k d E (updE E h (if d=0 then Gb else Ga ((k+1-d:Nat),0))) (hushP n k d E h)/\(hushP n k d E h).length<=hLen d
 | 0,E,h,_,hh,e0,o,hc=>by
  refine⟨⟨rfl,?_,λF hF=>?_,λF hF=>?_,trivial⟩,jk _⟩
  .rw[Ge rfl,zAM e0];rfl
  .rw[jv.mp hF];exact o
  .rw[jv.mp hF];exact jk _
 | d+1,E,h,hk,hh,e0,o,hc=>by
  obtain⟨at_,hat⟩:∃ at_,at_=k-d:=⟨_,rfl⟩;have ho:Ok n E at_:=by rw[hat,<- (show k+1-(d+1)=k-d by omega)];exact o
  have enx:∀ F:Fs,∀ i,updE F i (if d=0 then Gb else Ga (((k+1-d:Nat):Int),0))=updE F i (nxt k at_):=λF i=>by
   unfold nxt;by_cases c:d=0
   .rw[Ge c,Gf (by omega)]
   .rw[Gf c,Ge (by omega)];have:((k+1-d:Nat):Int)=(at_:Int)+1:=by omega
    rw[this]
  have IH:=zhE (ns:=ns) (k:=k) h2 h5 d;have okG:∀ m,m<2^n->bt m h=false->Ok n (updE E h (Ga ((at_:Int),m))) at_:=λm h1 h2=>ho.upd hh (by omega) (kQ _) h1 h2;have cntG:∀ m,cntE n (updE E h (Ga ((at_:Int),m)))<=cntE n E+1:=λm=>ziK _;have othM:∀ i,i∈othE n E h at_->i<n/\i≠h/\E i=Gb:=λi hi=>by
   obtain⟨x1,x2⟩:=jD.mp hi;rw[jI,uh,beq_eq_false_iff_ne] at x2;exact⟨jp.mp x1,x2.2,zmP ho x2.1⟩
  have L:∀ (l:List Nat),l.Nodup->(∀ i∈l,i<n/\i≠h/\E i=Gb)->∀ (p:List Fs),Hsh n ns k (d+1) E (updE E h (Ga ((at_:Int),zbF l))) p ->
    Hsh n ns k (d+1) E (updE E h (Ga ((at_:Int),0))) (l.foldl (hushS (hushP n k d) E h) p)/\(l.foldl (hushS (hushP n k d) E h) p).length<=p.length+l.length*(2*hLen d-1):=by
   intro l;induction l with
   | nil=>exact λ_ _ p H=>⟨H,by rw[uf,vH];omega⟩
   | cons x l ih =>
    intro nd hl p H;have nd':=ka.mp nd;obtain⟨s1,s2⟩:=zp2 h2 h5 (λF i i1 i2 i3 i4=>by
     have:=IH F i (by omega) i1 i2 i3 i4;rw[enx] at this;exact this) hat hk hh ho hc nd hl H
    obtain⟨r1,r2⟩:=ih nd'.2 (λi hi=>hl i (je _ hi)) _ s1;rw[k7];refine⟨r1,jn r2 ?_⟩;rw[jJ,uL];omega
  have P0:=IH E h (by omega) hh e0 (ho.mono (by omega)) (by omega);rw[enx] at P0;obtain⟨P0,l0⟩:=P0;have ndO:(othE n E h at_).Nodup:=kU (kE) ud;have mO:zbF (othE n E h at_)<2^n:=zkU h2 h5 _ λi hi=>(othM i hi).1;have bO:bt (zbF (othE n E h at_)) h=false:=by
   rw[zhC _ h (by omega),<- jZ,ju];exact λz=>(othM h z).2.1 rfl
  have S0:Hsh n ns k (d+1) E (updE E h (Ga ((at_:Int),zbF (othE n E h at_)))) (hushP n k d E h++[updE E h (Ga ((at_:Int),zbF (othE n E h at_)))]):=by
   refine⟨zhD P0.hd,by rw[uB];rfl,λF hF=>?_,λF hF=>?_,zjJ P0.chn trivial λa b ha hb=>?_⟩
   .rcases jM.mp hF with z|z
    .exact P0.ok F z
    .rw[jv.mp z];exact(okG _ mO bO).mono (by omega)
   .rcases jM.mp hF with z|z
    .have:=P0.cnt F z;omega
    .rw[jv.mp z];have:=cntG (zbF (othE n E h at_));omega
   .rw[P0.lst] at ha;cases ha;cases hb;obtain⟨i,i1,i2,i3⟩:=zfO (n:=n) (E:=E) (by omega) h;refine⟨i,i1,by rw[zaP i2];exact i3,by rw[zaP i2];exact i3,?_⟩;have A:=zAK (n:=n) (ns:=ns) (E1:=updE E h (nxt k at_)) (E2:=updE E h (Ga ((at_:Int),zbF (othE n E h at_)))) (k:=k) (at_:=at_) (λj=>j==h)
     (λj hj=>by rw[beq_iff_eq] at hj;subst hj;exact zaM) (λj hj=>⟨_,by rw[beq_iff_eq] at hj;subst hj;exact zaM,λt ht t1 t2=>?_⟩) (λj hj=>by rw[beq_eq_false_iff_ne] at hj;rw[zaP hj,zaP hj])
    .exact(zfN A k (jk _)).1 i i1 (beq_eq_false_iff_ne.mpr i2)
    .rw[zhC _ t (by omega),ju];refine jD.mpr ⟨jp.mpr ht,?_⟩;rw[zk7 (zaP (beq_eq_false_iff_ne.mp t1)) _] at t2;rw[t2,t1];rfl
  have R:=L (othE n E h at_) ndO othM _ S0;have e1:hushP n k (d+1) E h=(othE n E h at_).foldl (hushS (hushP n k d) E h) (hushP n k d E h++[updE E h (Ga ((at_:Int),zbF (othE n E h at_)))]):=by rw[hat];rfl
  have e2:((k+1-(d+1):Nat):Int)=(at_:Int):=by omega
  rw[e1,Gf (Jq d),e2];refine⟨R.1,jn R.2 ?_⟩;have lo:(othE n E h at_).length<=4:=by
   have a1:(othE n E h at_).length<=n:=by unfold othE;exact jn (j6 _ _) (by rw[jG];exact jk _)
   by_cases c:(othE n E h at_).length=n
   .exfalso;have:∀ i∈jf n,(upE E i (at_:Int)&&!(i==h))=true:=List.length_filter_eq_length_iff.mp (by rw[jG];exact c);have:=this h (jp.mpr hh);rw[beq_self_eq_true,qV,uv] at this;cases this
   .omega
  rw[jh,jV];have:(othE n E h at_).length*(2*hLen d-1)<=4*(2*hLen d-1):=uD _ lo;show _<=hLen d+1+4*(2*hLen d-1);omega
theorem zxF {α:Type}{P:List α->Prop}(h0:P [])(h1:∀ l x,P l->P (l++[x]))(l:List α):P l:=by
 have z:∀ r:List α,P r.reverse:=λr=>by
  induction r with
  | nil=>exact h0
  | cons x r ih=>rw[uA];exact h1 _ _ ih
 have:=z l.reverse;rw[List.reverse_reverse] at this;exact this
theorem zxG {n:Nat}{ns:Nat->D}{k d h:Nat}{E:Fs}(h2:2<=n)(h5:n<=5)(hk:d+1<=k)(hh:h<n)(e0:E h=Gb)(ho:Ok n E (k-d))(hc:cntE n E+(d+1)+2<=n) :
  ∀ (pre suf:List Nat),othE n E h (k-d)=pre++suf->Hsh n ns k (d+1) E (updE E h (Ga (((k-d:Nat):Int),zbF suf))) (pre.foldl (hushS (hushP n k d) E h) (hushP n k d E h++[updE E h (Ga (((k-d:Nat):Int),zbF (othE n E h (k-d))))])) /\
   (pre.foldl (hushS (hushP n k d) E h) (hushP n k d E h++[updE E h (Ga (((k-d:Nat):Int),zbF (othE n E h (k-d))))])).length<=hLen d+1+pre.length*(2*hLen d-1):=by
 obtain⟨at_,hat⟩:∃ at_,at_=k-d:=⟨_,rfl⟩;rw[<- hat] at ho ⊢;have enx:∀ F:Fs,∀ i,updE F i (if d=0 then Gb else Ga (((k+1-d:Nat):Int),0))=updE F i (nxt k at_):=λF i=>by
  unfold nxt;by_cases c:d=0
  .rw[Ge c,Gf (by omega)]
  .rw[Gf c,Ge (by omega)];have:((k+1-d:Nat):Int)=(at_:Int)+1:=by omega
   rw[this]
 have IH:=zhE (ns:=ns) (k:=k) h2 h5 d;have okG:∀ m,m<2^n->bt m h=false->Ok n (updE E h (Ga ((at_:Int),m))) at_:=λm h1 h2=>ho.upd hh (by omega) (kQ _) h1 h2;have cntG:∀ m,cntE n (updE E h (Ga ((at_:Int),m)))<=cntE n E+1:=λm=>ziK _;have othM:∀ i,i∈othE n E h at_->i<n/\i≠h/\E i=Gb:=λi hi=>by
  obtain⟨x1,x2⟩:=jD.mp hi;rw[jI,uh,beq_eq_false_iff_ne] at x2;exact⟨jp.mp x1,x2.2,zmP ho x2.1⟩
 have P0:=IH E h (by omega) hh e0 (ho.mono (by omega)) (by omega);rw[enx] at P0;obtain⟨P0,l0⟩:=P0;have ndO:(othE n E h at_).Nodup:=kU (kE) ud;have mO:zbF (othE n E h at_)<2^n:=zkU h2 h5 _ λi hi=>(othM i hi).1;have bO:bt (zbF (othE n E h at_)) h=false:=by
  rw[zhC _ h (by omega),<- jZ,ju];exact λz=>(othM h z).2.1 rfl
 have S0:Hsh n ns k (d+1) E (updE E h (Ga ((at_:Int),zbF (othE n E h at_)))) (hushP n k d E h++[updE E h (Ga ((at_:Int),zbF (othE n E h at_)))]):=by
  refine⟨zhD P0.hd,by rw[uB];rfl,λF hF=>?_,λF hF=>?_,zjJ P0.chn trivial λa b ha hb=>?_⟩
  .rcases jM.mp hF with z|z
   .exact P0.ok F z
   .rw[jv.mp z];exact(okG _ mO bO).mono (by omega)
  .rcases jM.mp hF with z|z
   .have:=P0.cnt F z;omega
   .rw[jv.mp z];have:=cntG (zbF (othE n E h at_));omega
  .rw[P0.lst] at ha;cases ha;cases hb;obtain⟨i,i1,i2,i3⟩:=zfO (n:=n) (E:=E) (by omega) h;refine⟨i,i1,by rw[zaP i2];exact i3,by rw[zaP i2];exact i3,?_⟩;have A:=zAK (n:=n) (ns:=ns) (E1:=updE E h (nxt k at_)) (E2:=updE E h (Ga ((at_:Int),zbF (othE n E h at_)))) (k:=k) (at_:=at_) (λj=>j==h)
    (λj hj=>by rw[beq_iff_eq] at hj;subst hj;exact zaM) (λj hj=>⟨_,by rw[beq_iff_eq] at hj;subst hj;exact zaM,λt ht t1 t2=>?_⟩) (λj hj=>by rw[beq_eq_false_iff_ne] at hj;rw[zaP hj,zaP hj])
   .exact(zfN A k (jk _)).1 i i1 (beq_eq_false_iff_ne.mpr i2)
   .rw[zhC _ t (by omega),ju];refine jD.mpr ⟨jp.mpr ht,?_⟩;rw[zk7 (zaP (beq_eq_false_iff_ne.mp t1)) _] at t2;rw[t2,t1];rfl
 intro pre;induction pre using zxF with
 | h0 =>
  intro suf e;rw[List.nil_append] at e;rw[<- e,uf];exact⟨S0,by rw[jh,jV,vH];omega⟩
 | h1 pre x ih =>
  intro suf e;rw[vq,qF] at e;obtain⟨r1,r2⟩:=ih (x::suf) e;rw[uE,k7,uf];have nd:(x::suf).Nodup:=by rw[e] at ndO;exact(uU.mp ndO).2.1
  have hl:∀ i∈x::suf,i<n/\i≠h/\E i=Gb:=λi hi=>othM i (by rw[e];exact jS _ hi);obtain⟨s1,s2⟩:=zp2 h2 h5 (λF i i1 i2 i3 i4=>by
   have:=IH F i (by omega) i1 i2 i3 i4;rw[enx] at this;exact this) hat hk hh ho hc nd hl r1
  refine⟨s1,jn s2 ?_⟩;rw[jh,jV,uL];omega
theorem zoX {α β:Type}{f g:α->Option β}:∀ {l:List α},(∀ x∈l,f x=g x)->l.filterMap f=l.filterMap g
 | [],_=>rfl
 | x::l,h=>by
  have ih:=zoX (l:=l) λy hy=>h y (je _ hy);have e:=h x jg;cases w:g x with
  | none=>rw[jN (f:=f) (e.trans w),jN (f:=g) w,ih]
  | some y=>rw[j9 (f:=f) (e.trans w),j9 (f:=g) w,ih]
def flE (n:Nat)(E:Fs):List Fl:=(jf n).filterMap λi=>(E i).map λp=>⟨i,p.1,p.2⟩
theorem zc2 {n:Nat}{E:Fs}{f:Fl}:f∈flE n E↔f.h<n/\E f.h=Ga (f.a,f.m):=by
 unfold flE;rw[uO];constructor
 .rintro⟨i,hi,e⟩;obtain⟨p,hp,rfl⟩:=qq.mp e;exact⟨jp.mp hi,hp⟩
 .rintro⟨h1,h2⟩;exact⟨f.h,jp.mpr h1,by rw[h2];rfl⟩
theorem zp3 (n:Nat)(E:Fs):(flE n E).map Fl.h=(jf n).filter λi=>(E i).isSome:=by
 unfold flE;induction n with
 | zero=>rfl
 | succ n ih =>
  rw[k8,uT,jO,ih,kH];refine congrArg _ ?_;cases e:E n with
  | none=>rw[jN (by rw[e];rfl),kj (by rw[e];exact jy)];rfl
  | some p=>rw[j9 (by rw[e];rfl),jU (by rw[e];rfl)];rfl
theorem zuY (n:Nat)(E:Fs):((flE n E).map Fl.h).Nodup:=by
 rw[zp3];exact kU kE ud
theorem zf1 (n:Nat)(E:Fs):(flE n E).length=cntE n E:=by
 unfold cntE;rw[<- zp3,jb]
theorem zrN {fs:List Fl}(nd:(fs.map Fl.h).Nodup){f:Fl}(hf:f∈fs):fof fs f.h=Ga f:=by
 unfold fof;induction fs with
 | nil=>cases hf
 | cons g fs ih =>
  rw[jQ,ka] at nd;rcases jt.mp hf with rfl|hf
  .rw[kL (by exact beq_self_eq_true _)]
  .rw[kz,ih nd.2 hf];intro z;rw[beq_iff_eq] at z;exact nd.1 (by rw[z];exact u8 hf)
theorem zkV {n:Nat}{E:Fs}{h:Nat}(hn:h<n):fof (flE n E) h=(E h).map λp=>⟨h,p.1,p.2⟩:=by
 cases e:E h with
 | some p =>
  have:=zrN (zuY n E) (f:=⟨h,p.1,p.2⟩) (zc2.mpr ⟨hn,e⟩);exact this
 | none =>
  unfold fof;rw[vR.mpr]
  .rfl
  .intro f hf z;rw[beq_iff_eq] at z;obtain⟨_,h2⟩:=zc2.mp hf;rw[z,e] at h2;cases h2
theorem zrO {n:Nat}{E:Fs}{h:Nat}(hn:h<n)(r:Int):up (flE n E) h r=upE E h r:=by
 unfold up upE;rw[zkV hn];cases E h with
 | none=>rfl
 | some p=>rfl
theorem zq3 (n:Nat)(E:Fs)(h:Nat):(flE n E).filter (λf=>!(f.h==h))=flE n (updE E h Gb):=by
 unfold flE;induction n with
 | zero=>rfl
 | succ n ih =>
  rw[k8,uT,uT,kH,ih];refine congrArg _ ?_;by_cases c:n=h
  .subst c;cases e:E n with
   | none=>rw[jN (by rw[e];rfl),jN (by rw[zaM];rfl)];rfl
   | some p =>
    rw[j9 (by rw[e];rfl),jN (by rw[zaM];rfl)];rw[kj (by rw[beq_self_eq_true];decide)];rfl
  .cases e:E n with
   | none=>rw[jN (by rw[e];rfl),jN (by rw[zaP c,e];rfl)];rfl
   | some p =>
    rw[j9 (by rw[e];rfl),j9 (by rw[zaP c,e];rfl)];rw[jU (by rw[beq_eq_false_iff_ne.mpr c];rfl)];rfl
def canon (X:List Fl):List Fl:=(jf 5).filterMap λi=>fof X i
theorem ziD {X Y:List Fl}(nd:(X.map Fl.h).Nodup)(hY:∀ y∈Y,y∈X)(hs:Y.map Fl.h=(jf 5).filter λi=>(X.map Fl.h).contains i):Y=canon X:=by
 have e1:∀ Y:List Fl,(∀ y∈Y,y∈X)->Y=(Y.map Fl.h).filterMap λi=>fof X i:=by
  intro Y;induction Y with
  | nil=>exact λ_=>rfl
  | cons y Y ih =>
   intro h;rw[jQ,j9 (zrN nd (h y jg)),<- ih λz hz=>h z (je _ hz)]
 rw[e1 Y hY,hs];unfold canon;have e2:∀ l:List Nat,(l.filter λi=>(X.map Fl.h).contains i).filterMap (λi=>fof X i)=l.filterMap λi=>fof X i:=by
  intro l;induction l with
  | nil=>rfl
  | cons i l ih =>
   by_cases c:(X.map Fl.h).contains i=true
   .rw[jU c];cases e:fof X i with
    | none=>rw[jN e,jN e];exact ih
    | some f=>rw[j9 e,j9 e,ih]
   .rw[kj c,ih];have:fof X i=Gb:=by
     unfold fof;refine vR.mpr λf hf z=>c ?_;rw[beq_iff_eq] at z;rw[ju,<- z];exact u8 hf
    rw[jN this]
 exact e2 _
theorem zsW {n:Nat}{E:Fs}{h:Nat}{a:Int}{m:Nat}(h5:n<=5)(hn:h<n):canon (flE n (updE E h Gb)++[⟨h,a,m⟩])=flE n (updE E h (Ga (a,m))):=by
 have hlook:∀ i,fof (flE n (updE E h Gb)++[⟨h,a,m⟩]) i=if i<n then(updE E h (Ga (a,m)) i).map (λp=>(⟨i,p.1,p.2⟩:Fl)) else Gb:=λi=>by
  unfold fof;rw[List.find?_append];by_cases c:i<n
  .rw[Ge c];have:=zkV (E:=updE E h Gb) c;unfold fof at this;rw[this];by_cases e:i=h
   .subst e;rw[zaM,zaM];rw[kL (by exact beq_self_eq_true _)];rfl
   .rw[zaP e,zaP e];cases E i with
    | some p=>rfl
    | none=>rw[kz (by intro z;rw[beq_iff_eq] at z;exact e z.symm)];rfl
  .rw[Gf c];rw[vR.mpr,kz (by intro z;rw[beq_iff_eq] at z;have z:h=i:=z;omega)]
   .rfl
   .intro f hf z;rw[beq_iff_eq] at z;have:=(zc2.mp hf).1;omega
 unfold canon;rw[show(λi=>fof (flE n (updE E h Gb)++[⟨h,a,m⟩]) i)=λi=>if i<n then(updE E h (Ga (a,m)) i).map (λp=>(⟨i,p.1,p.2⟩:Fl)) else Gb from funext hlook];unfold flE;have key:∀ k,n<=k->(jf k).filterMap (λi=>if i<n then(updE E h (Ga (a,m)) i).map (λp=>(⟨i,p.1,p.2⟩:Fl)) else Gb)=(jf n).filterMap λi=>(updE E h (Ga (a,m)) i).map λp=>(⟨i,p.1,p.2⟩:Fl):=by
  intro k;induction k with
  | zero =>
   intro hk;obtain rfl:n=0:=by omega
   rfl
  | succ k ih =>
   intro hk;by_cases c:n=k+1
   .subst c;exact zoX λi hi=>Ge (jp.mp hi)
   .rw[k8,uT,ih (by omega),jN (by rw[Gf (by omega)])];exact j7 _
 exact key 5 h5
abbrev Rn:=(Nat->Int)×Fs
def VwR (n:Nat)(r:Rn)(k i:Nat):D:=VwE n (λj=>.int (r.1 j)) r.2 k i
def AlkR (n k:Nat)(r1 r2:Rn):Prop:=∃ i,i<n/\r1.2 i=Gb/\r2.2 i=Gb/\VwR n r1 k i=VwR n r2 k i
theorem AlkR.symm {n k:Nat}{r1 r2:Rn}(h:AlkR n k r1 r2):AlkR n k r2 r1:=by
 obtain⟨i,h1,h2,h3,h4⟩:=h;exact⟨i,h1,h3,h2,h4.symm⟩
theorem zoY {α β:Type}{R:α->α->Prop}{Q:β->β->Prop}(f:α->β)(h:∀ a b,R a b->Q (f a) (f b)):∀ {l:List α},Chn R l->Chn Q (l.map f)
 | [],_=>trivial
 | [_],_=>trivial
 | a::b::r,c=>⟨h a b c.1,zoY f h (l:=b::r) c.2⟩
def noE:Fs:=λ_=>Gb
def updN (v:Nat->Int)(h:Nat)(x:Int):Nat->Int:=λi=>if i=h then x else v i
def seg (n k d:Nat)(v v':Nat->Int)(E E':Fs)(h:Nat):List Rn:=(hushP n k d E h).map (λF=>(v,F))++((hushP n k d E' h).map λF=>(v',F)).reverse
def renS (n k:Nat)(new:Nat->Int)(p:List Rn)(h:Nat):List Rn :=
 if (p.getLastD (new,noE)).1 h=new h then p else p++(seg n k k (p.getLastD (new,noE)).1 (updN (p.getLastD (new,noE)).1 h (new h)) (p.getLastD (new,noE)).2 (p.getLastD (new,noE)).2 h).tail
structure Pth (n k t:Nat)(a b:Rn)(P:List Rn):Prop where
 hd:P.head?=Ga a
 lst:P.getLast?=Ga b
 ok:∀ r∈P,Ok n r.2 5
 cnt:∀ r∈P,cntE n r.2<=t
 chn:Chn (AlkR n k) P
 num:∀ r∈P,∀ i,r.1 i=a.1 i\/r.1 i=b.1 i
theorem ziE (n:Nat):cntE n noE=0:=by
 unfold cntE;rw[List.length_eq_zero_iff];exact ur.mpr λi _=>by unfold noE;exact jy
theorem znW (n a:Nat):Ok n noE a:=⟨λ_ _ _ z=>(by cases z),λ_ _ _ z=>(by cases z),λ_ _ _ z=>(by cases z)⟩
theorem zyJ {n k d:Nat}(h2:2<=n)(h5:n<=5)(k4:k<=4){v v':Nat->Int}{E E':Fs}{h:Nat}(hd:d<=k)(hh:h<n)(e1:E h=Gb)(e2:E' h=Gb)(o1:Ok n E (k+1-d))(o2:Ok n E' (k+1-d))(c1:cntE n E+d+2<=n)(c2:cntE n E'+d+2<=n){t:Nat}(t1:cntE n E+d<=t)(t2:cntE n E'+d<=t)
  (mid:∀ i,i≠h->VwR n (v,updE E h (nxt k (k-d))) k i=VwR n (v',updE E' h (nxt k (k-d))) k i\/n<=i) (non:∀ i,E i=Gb↔E' i=Gb):Pth n k t (v,E) (v',E') (seg n k d v v' E E' h)/\(seg n k d v v' E E' h).length<=2*hLen d:=by
 have enx:∀ F:Fs,updE F h (if d=0 then Gb else Ga (((k+1-d:Nat):Int),0))=updE F h (nxt k (k-d)):=λF=>by
  unfold nxt;by_cases c:d=0
  .rw[Ge c,Gf (by omega)]
  .rw[Gf c,Ge (by omega)];have:((k+1-d:Nat):Int)=((k-d:Nat):Int)+1:=by omega
   rw[this]
 obtain⟨A1,l1⟩:=zhE (ns:=λj=>.int (v j)) (k:=k) h2 h5 d E h hd hh e1 o1 c1;obtain⟨A2,l2⟩:=zhE (ns:=λj=>.int (v' j)) (k:=k) h2 h5 d E' h hd hh e2 o2 c2;rw[enx] at A1 A2;unfold seg;refine⟨⟨?_,?_,λr hr=>?_,λr hr=>?_,?_,λr hr i=>?_⟩,?_⟩
 .exact zhD (by rw[qQ,A1.hd];rfl)
 .rw[uB,uS,qQ,A2.hd];rfl
 .rcases jM.mp hr with z|z
  .obtain⟨F,hF,rfl⟩:=jx.mp z;exact(A1.ok F hF).mono (by omega)
  .obtain⟨F,hF,rfl⟩:=jx.mp (uc.mp z);exact(A2.ok F hF).mono (by omega)
 .rcases jM.mp hr with z|z
  .obtain⟨F,hF,rfl⟩:=jx.mp z;exact jn (A1.cnt F hF) t1
  .obtain⟨F,hF,rfl⟩:=jx.mp (uc.mp z);exact jn (A2.cnt F hF) t2
 .refine zjJ (zoY (Q:=AlkR n k) (λF=>(v,F)) (λa b ab=>ab) A1.chn) (zoV (R:=AlkR n k) (λ_ _=>AlkR.symm) (zoY (Q:=AlkR n k) (λF=>(v',F)) (λa b ab=>ab) A2.chn)) λa b ha hb=>?_;rw[kf,A1.lst] at ha;cases ha;rw[vQ,kf,A2.lst] at hb;cases hb;have c3:=A1.cnt _ (uW A1.lst);obtain⟨i,i1,i2,i3⟩:=zfO (n:=n) (E:=updE E h (nxt k (k-d))) (by omega) h;rw[zaP i2] at i3;exact⟨i,i1,by show updE E h _ i=Gb;rw[zaP i2];exact i3,by show updE E' h _ i=Gb;rw[zaP i2];exact(non i).mp i3,(mid i i2).resolve_right (by omega)⟩
 .rcases jM.mp hr with z|z
  .obtain⟨F,hF,rfl⟩:=jx.mp z;exact .inl rfl
  .obtain⟨F,hF,rfl⟩:=jx.mp (uc.mp z);exact .inr rfl
 .rw[jh,kD,jb,jb];omega
theorem zuZ {n k:Nat}(h2:2<=n)(h5:n<=5)(hk:k+2<=n)(v new:Nat->Int):∀ m,m<=n->∃ w,(∀ i,w i=if i<m then new i else v i)/\Pth n k k (v,noE) (w,noE) ((jf m).foldl (renS n k new) [(v,noE)])/\((jf m).foldl (renS n k new) [(v,noE)]).length<=1+m*(2*hLen k)
 | 0,_=>⟨v,λi=>by rw[Gf (Nat.not_lt_zero i)],⟨rfl,rfl,λr hr=>(by rw[jv.mp hr];exact znW n _),λr hr=>(by rw[jv.mp hr];show cntE n noE<=k;rw[ziE];exact j8 _),trivial,λr hr i=>(by rw[jv.mp hr];exact .inl rfl)⟩,by show 1<=1+0*(2*hLen k);omega⟩
 | m+1,hm=>by
  obtain⟨w,hw,H,hl⟩:=zuZ h2 h5 hk v new m (by omega);rw[k8,uE];show ∃ w',_/\Pth n k k (v,noE) (w',noE) (renS n k new ((jf m).foldl (renS n k new) [(v,noE)]) m)/\(renS n k new ((jf m).foldl (renS n k new) [(v,noE)]) m).length<=_;generalize (jf m).foldl (renS n k new) [(v,noE)]=p at H hl;have el:p.getLastD (new,noE)=(w,noE):=zeD H.lst;unfold renS;rw[el];dsimp only;by_cases c:w m=new m
  .rw[Ge c];refine⟨w,λi=>?_,H,by rw[uL];omega⟩;by_cases e:i=m
   .subst e;rw[c,Ge (uK i)]
   .rw[hw i];by_cases e2:i<m
    .rw[Ge e2,Ge (by omega)]
    .rw[Gf e2,Gf (by omega)]
  .rw[Gf c];have S:=zyJ (n:=n) (k:=k) (d:=k) h2 h5 (by omega) (v:=w) (v':=updN w m (new m)) (E:=noE) (E':=noE) (h:=m) (jk _) (by omega) rfl rfl (znW _ _) (znW _ _) (by rw[ziE];omega) (by rw[ziE];omega) (t:=k) (by rw[ziE];omega) (by rw[ziE];omega) (λi hi=>by
    by_cases hn:i<n
    .refine .inl ?_;have C:=zEa (n:=n) (ns1:=λj=>jc (w j)) (ns2:=λj=>jc (updN w m (new m) j)) (E:=updE noE m (nxt k (k-k))) (k:=k) (h:=m) (λj hj=>by unfold updN;rw[Gf hj]) (by rw[zaM,Nat.sub_self]);exact(zfN C k (jk _)).1 i hn (beq_eq_false_iff_ne.mpr hi)
    .exact .inr (by omega)) (λ_=>Iff.rfl)
   obtain⟨S,sl⟩:=S;generalize seg n k k w (updN w m (new m)) noE noE m=q at S sl;refine⟨updN w m (new m),λi=>?_,⟨zhD H.hd,zmO H.lst S.hd S.lst,λr hr=>?_,λr hr=>?_,zoW H.lst S.hd H.chn S.chn,λr hr i=>?_⟩,?_⟩
   .unfold updN;by_cases e:i=m
    .subst e;rw[Ge rfl,Ge (uK i)]
    .rw[Gf e,hw i];by_cases e2:i<m
     .rw[Ge e2,Ge (by omega)]
     .rw[Gf e2,Gf (by omega)]
   .rcases jM.mp hr with z|z
    .exact H.ok r z
    .exact S.ok r (kI z)
   .rcases jM.mp hr with z|z
    .exact H.cnt r z
    .exact S.cnt r (kI z)
   .have W:∀ j,w j=v j\/w j=updN w m (new m) j:=λj=>by
     by_cases e:j=m
     .left;subst e;rw[hw j,Gf (jP j)]
     .right;unfold updN;rw[Gf e]
    rcases jM.mp hr with z|z
    .rcases H.num r z i with z|z
     .exact .inl z
     .rcases W i with y|y
      .exact .inl (z.trans y)
      .exact .inr (z.trans y)
    .rcases S.num r (kI z) i with z|z
     .rcases W i with y|y
      .exact .inl (z.trans y)
      .exact .inr (z.trans y)
     .exact .inr z
   .rw[jh,ko,uL];omega
theorem Pth.one {n k t:Nat}{r:Rn}(o:Ok n r.2 5)(c:cntE n r.2<=t):Pth n k t r r [r] :=
 ⟨rfl,rfl,λx hx=>(by rw[jv.mp hx];exact o),λx hx=>(by rw[jv.mp hx];exact c),trivial,λx hx i=>(by rw[jv.mp hx];exact .inl rfl)⟩
theorem Pth.join {n k t:Nat}{a b c:Rn}{p q:List Rn}(A:Pth n k t a b p)(B:Pth n k t b c q)(hv:a.1=b.1\/b.1=c.1):Pth n k t a c (p++q.tail):=by
 refine⟨zhD A.hd,zmO A.lst B.hd B.lst,λr hr=>?_,λr hr=>?_,zoW A.lst B.hd A.chn B.chn,λr hr i=>?_⟩
 .rcases jM.mp hr with z|z
  .exact A.ok r z
  .exact B.ok r (kI z)
 .rcases jM.mp hr with z|z
  .exact A.cnt r z
  .exact B.cnt r (kI z)
 .rcases jM.mp hr with z|z
  .rcases A.num r z i with y|y
   .exact .inl y
   .rcases hv with e|e
    .exact .inl (y.trans (congrFun e i).symm)
    .exact .inr (y.trans (congrFun e i))
  .rcases B.num r (kI z) i with y|y
   .rcases hv with e|e
    .exact .inl (y.trans (congrFun e i).symm)
    .exact .inr (y.trans (congrFun e i))
   .exact .inr y
theorem Pth.snoc {n k t:Nat}{a b c:Rn}{p:List Rn}(A:Pth n k t a b p)(l:AlkR n k b c)(o:Ok n c.2 5)(h:cntE n c.2<=t)(hv:b.1=c.1):Pth n k t a c (p++[c]):=by
 have B:Pth n k t b c [b,c]:=⟨rfl,rfl,λr hr=>?_,λr hr=>?_,⟨l,trivial⟩,λr hr i=>?_⟩
 .exact A.join B (.inr hv)
 .rcases jt.mp hr with rfl|hr
  .exact A.ok _ (uW A.lst)
  .rw[jv.mp hr];exact o
 .rcases jt.mp hr with rfl|hr
  .exact A.cnt _ (uW A.lst)
  .rw[jv.mp hr];exact h
 .rcases jt.mp hr with rfl|hr
  .exact .inl rfl
  .rw[jv.mp hr];exact .inr rfl
def heardB (n:Nat)(E:Fs)(at_ i:Nat):Bool:=match E i with
 | some (a,m)=>decide (a=(at_:Int))&&((jf n).filter λj=>upE E j (at_:Int)).all λj=>bt m j
 | none=>false
def heardL (n:Nat)(E:Fs)(at_:Nat):List Nat:=(jf n).filter (heardB n E at_)
def hnext (k at_:Nat)(E:Fs)(l:List Nat):Fs:=l.foldl (λF h=>updE F h (nxt k at_)) E
theorem zrP (k at_:Nat):∀ (l:List Nat) (E:Fs) (i:Nat),hnext k at_ E l i=if i∈l then nxt k at_ else E i
 | [],E,i=>by rw[Gf kK];rfl
 | h::l,E,i=>by
  show hnext k at_ (updE E h (nxt k at_)) l i=_;rw[zrP k at_ l];by_cases c:i∈l
  .rw[Ge c,Ge (je _ c)]
  .rw[Gf c];by_cases e:i=h
   .subst e;rw[zaM,Ge jg]
   .rw[zaP e,Gf λz=>(jt.mp z).elim e c]
def risP (n k at_:Nat)(v:Nat->Int)(F:Fs)(h:Nat):List Rn:=((hushP n k (k-at_) (updE F h Gb) h).map λG=>(v,G)).reverse
def hhS (n k at_:Nat)(v:Nat->Int)(E:Fs)(p:List Rn)(h:Nat):List Rn:=p++(risP n k at_ v (p.getLastD (v,E)).2 h).tail
def hhP (n k at_:Nat)(v:Nat->Int)(E:Fs):List Rn:=(heardL n E at_).foldl (hhS n k at_ v E) (if (heardL n E at_).length>0 then[(v,E)]++[(v,hnext k at_ E (heardL n E at_))] else[(v,E)])
theorem zdO {n:Nat}{E:Fs}{at_ i:Nat}(h:heardB n E at_ i=true):∃ m,E i=Ga ((at_:Int),m)/\∀ j,j<n->upE E j (at_:Int)=true->bt m j=true:=by
 unfold heardB at h;split at h
 .rename_i a m e;rw[jI,decide_eq_true_eq,jF] at h;obtain⟨rfl,h⟩:=h;exact⟨m,e,λj hj hu=>h j (jD.mpr ⟨jp.mpr hj,hu⟩)⟩
 .cases h
theorem zrQ {k at_:Nat}{a:Int}{m:Nat}(h:nxt k at_=Ga (a,m)):a=(at_:Int)+1/\m=0:=by
 unfold nxt at h;split at h<;>cases h;exact⟨rfl,rfl⟩
theorem zCT {n k at_ t:Nat}(h2:2<=n)(h5:n<=5)(k4:k<=4)(hat:at_<=k){v:Nat->Int}{F:Fs}{h:Nat}(hh:h<n)(e:F h=nxt k at_)(o:Ok n (updE F h Gb) (at_+1))(c:cntE n (updE F h Gb)+(k-at_)<=t)(ht:t+2<=n) :
  Pth n k t (v,F) (v,updE F h Gb) (risP n k at_ v F h)/\(risP n k at_ v F h).length<=hLen (k-at_):=by
 obtain⟨A,l⟩:=zhE (ns:=λj=>.int (v j)) (k:=k) h2 h5 (k-at_) (updE F h Gb) h (by omega) hh zaM (o.mono (by omega)) (by omega);have eT:updE (updE F h Gb) h (if k-at_=0 then Gb else Ga (((k+1-(k-at_):Nat):Int),0))=F:=by
  rw[zj3]
  funext i
  by_cases z:i=h
  .subst z;rw[zaM,e];unfold nxt;by_cases y:k-at_=0
   .rw[Ge y,Gf (by omega)]
   .rw[Gf y,Ge (by omega)];have:((k+1-(k-at_):Nat):Int)=(at_:Int)+1:=by omega
    rw[this]
  .rw[zaP z]
 rw[eT] at A;unfold risP;refine⟨⟨?_,?_,λr hr=>?_,λr hr=>?_,?_,λr hr i=>?_⟩,?_⟩
 .rw[vQ,kf,A.lst];rfl
 .rw[uS,qQ,A.hd];rfl
 .obtain⟨G,hG,rfl⟩:=jx.mp (uc.mp hr);exact(A.ok G hG).mono (by omega)
 .obtain⟨G,hG,rfl⟩:=jx.mp (uc.mp hr);exact jn (A.cnt G hG) c
 .exact zoV (R:=AlkR n k) (λ_ _=>AlkR.symm) (zoY (Q:=AlkR n k) (λF=>(v,F)) (λa b ab=>ab) A.chn)
 .obtain⟨G,hG,rfl⟩:=jx.mp (uc.mp hr);exact .inl rfl
 .rw[kD,jb];exact l
def Runs {α:Type}(Step:α->Nat->α->Prop):List Nat->α->α->Prop
 | [],p,q=>q=p
 | h::l,p,q=>∃ p',Step p h p'/\Runs Step l p' q
structure HStep (n k at_:Nat)(v:Nat->Int)(t:Nat)(p:List Rn)(h:Nat)(p':List Rn):Prop where
 w:∃ F:Fs,p.getLast?=Ga (v,F)/\h<n/\F h=nxt k at_/\Ok n (updE F h Gb) (at_+1)/\cntE n (updE F h Gb)+(k-at_)<=t/\p'=p++(risP n k at_ v F h).tail
def healE (n:Nat)(E:Fs)(at_:Nat):Fs:=λi=>if heardB n E at_ i=true then Gb else E i
theorem zxH {n k at_ t:Nat}(h2:2<=n)(h5:n<=5)(k4:k<=4)(h1:1<=at_)(hat:at_<=k){v:Nat->Int}{E:Fs}(o:Ok n E at_)(c:cntE n E<=t)(ht:t+2<=n)(hc:(∃ i,heardB n E at_ i=true)->cntE n E+(k-at_)<=t+1) :
  (Pth n k t (v,E) (v,healE n E at_) (hhP n k at_ v E)/\(hhP n k at_ v E).length<=2+5*hLen (k-at_))/\Runs (HStep n k at_ v t) (heardL n E at_) (if (heardL n E at_).length>0 then[(v,E)]++[(v,hnext k at_ E (heardL n E at_))] else[(v,E)]) (hhP n k at_ v E):=by
 have hM:∀ i,i∈heardL n E at_->i<n/\heardB n E at_ i=true:=λi hi=>⟨jp.mp (jD.mp hi).1,(jD.mp hi).2⟩;have hI:∀ i,heardB n E at_ i=true->i∈heardL n E at_:=λi hi=>by
  obtain⟨m,e,_⟩:=zdO hi;exact jD.mpr ⟨jp.mpr (o.hnd i _ _ e),hi⟩
 have hN:(heardL n E at_).Nodup:=kU kE ud;have hL:(heardL n E at_).length<=5:=by
  unfold heardL;exact jn (j6 _ _) (by rw[jG];exact h5)
 unfold hhP;generalize heardL n E at_=hs at hM hI hN hL;by_cases h0:hs=[]
 .subst h0;have eE:healE n E at_=E:=by
   funext i
   unfold healE;rw[Gf λz=>by cases hI i z]
  rw[eE];exact⟨⟨Pth.one (o.mono (by omega)) c,by show 1<=_;omega⟩,rfl⟩
 .have hl0:hs.length>0:=List.length_pos_iff.mpr h0;rw[Ge hl0];have hc:=hc (by
   cases hs with
   | nil=>exact absurd rfl h0
   | cons a r=>exact⟨a,(hM a jg).2⟩)
  have hx:=zrP k at_ hs E;generalize hnext k at_ E hs=X at hx;have hxS:∀ i,(X i).isSome=true->(E i).isSome=true:=λi hi=>by
   rw[hx i] at hi;by_cases z:i∈hs
   .obtain⟨m,e,_⟩:=zdO (hM i z).2;rw[e];rfl
   .rw[Gf z] at hi;exact hi
  have okX:∀ F:Fs,(∀ i,F i=Gb\/F i=E i\/F i=nxt k at_/\i<n)->Ok n F (at_+1):=λF hF=>by
   refine⟨λi a m e=>?_,λi a m e=>?_,λi a m e=>?_⟩<;>rcases hF i with z|z|⟨z,y⟩<;>rw[e] at z
   .cases z
   .have:=o.rnd i a m z.symm;omega
   .obtain⟨rfl,_⟩:=zrQ z.symm;omega
   .cases z
   .exact o.hnd i a m z.symm
   .exact y
   .cases z
   .exact o.msk i a m z.symm
   .obtain⟨_,rfl⟩:=zrQ z.symm;exact⟨Nat.two_pow_pos n,zrK i⟩
  have lnk:AlkR n k (v,E) (v,X):=by
   obtain⟨i,i1,i2,i3⟩:=zfO (n:=n) (E:=E) (by omega) n;have ni:i∉hs:=λz=>by
    obtain⟨m,e,_⟩:=zdO (hM i z).2;rw[i3] at e;cases e
   have eX:X i=Gb:=by rw[hx i,Gf ni];exact i3
   refine⟨i,i1,i3,eX,?_⟩;have A:=zAK (n:=n) (ns:=λj=>jc (v j)) (E1:=X) (E2:=E) (k:=k) (at_:=at_) (λj=>hs.contains j)
    (λj hj=>by rw[ju] at hj;rw[hx j,Ge hj]) (λj hj=>by
     rw[ju] at hj;obtain⟨m,e,hm⟩:=zdO (hM j hj).2;refine⟨m,e,λy hy y1 y2=>hm y hy ?_⟩;have ny:y∉hs:=λz=>by rw[<- ju,y1] at z;cases z
     rw[<- zk7 (E:=X) (by rw[hx y,Gf ny])];exact y2) (λj hj=>by
     have nj:j∉hs:=λz=>by rw[<- ju,hj] at z;cases z
     rw[hx j,Gf nj])
   exact((zfN A k (jk _)).1 i i1 (by rw[<- jZ,ju];exact ni)).symm
  have P0:Pth n k t (v,E) (v,X) ([(v,E)]++[(v,X)]):=(Pth.one (r:=(v,E)) (o.mono (by omega)) c).snoc lnk ((okX X λi=>by
   by_cases z:i∈hs
   .exact .inr (.inr ⟨by rw[hx i,Ge z],(hM i z).1⟩)
   .exact .inr (.inl (by rw[hx i,Gf z]))).mono (by omega)) (jn (zhB hxS) c) rfl
  have L:∀ (l:List Nat) (F:Fs) (p:List Rn),l.Nodup->(∀ i∈l,i∈hs)->(∀ i,F i=if i∈hs/\i∉l then Gb else X i)->Pth n k t (v,E) (v,F) p ->
    Pth n k t (v,E) (v,healE n E at_) (l.foldl (hhS n k at_ v E) p)/\(l.foldl (hhS n k at_ v E) p).length<=p.length+l.length*hLen (k-at_)/\Runs (HStep n k at_ v t) l p (l.foldl (hhS n k at_ v E) p):=by
   intro l;induction l with
   | nil =>
    intro F p _ _ hF H;have eF:F=healE n E at_:=by
     funext i
     rw[hF i];unfold healE;by_cases z:heardB n E at_ i=true
     .rw[Ge ⟨hI i z,kK⟩,Ge z]
     .rw[Gf (λy=>z (hM i y.1).2),Gf z,hx i,Gf λy=>z (hM i y).2]
    rw[<- eF];exact⟨H,by rw[uf];omega,rfl⟩
   | cons h l ih =>
    intro F p nd hl hF H;have hh:=hl h jg;have nd':=ka.mp nd;have eh:F h=nxt k at_:=by rw[hF h,Gf λz=>z.2 jg,hx h,Ge hh]
    have hFX:∀ i,F i=Gb\/F i=E i\/F i=nxt k at_/\i<n:=λi=>by
     rw[hF i];by_cases z:i∈hs/\i∉h::l
     .rw[Ge z];exact .inl rfl
     .rw[Gf z,hx i];by_cases y:i∈hs
      .rw[Ge y];exact .inr (.inr ⟨rfl,(hM i y).1⟩)
      .rw[Gf y];exact .inr (.inl rfl)
    have hF0:∀ i,updE F h Gb i=Gb\/updE F h Gb i=E i\/updE F h Gb i=nxt k at_/\i<n:=λi=>by
     by_cases z:i=h
     .subst z;rw[zaM];exact .inl rfl
     .rw[zaP z];exact hFX i
    have cl:cntE n (updE F h Gb)+1<=cntE n E:=by
     obtain⟨m,e,_⟩:=zdO (hM h hh).2;refine zyI (h:=h) (hM h hh).1 (λi hi=>?_) (by rw[e];rfl) zaM;by_cases z:i=h
     .subst z;rw[e];rfl
     .rw[zaP z,hF i] at hi;by_cases y:i∈hs/\i∉h::l
      .rw[Ge y] at hi;cases hi
      .rw[Gf y] at hi;exact hxS i hi
    have cS:cntE n (updE F h Gb)+(k-at_)<=t:=by omega
    have hst:HStep n k at_ v t p h (p++(risP n k at_ v F h).tail):=⟨F,H.lst,(hM h hh).1,eh,okX _ hF0,cS,rfl⟩;obtain⟨R,rl⟩:=zCT (t:=t) h2 h5 k4 hat (v:=v) (F:=F) (hM h hh).1 eh (okX _ hF0) (by omega) ht;have el:p.getLastD (v,E)=(v,F):=zeD H.lst;have step:hhS n k at_ v E p h=p++(risP n k at_ v F h).tail:=by unfold hhS;rw[el]
    rw[k7,step];generalize risP n k at_ v F h=q at R rl hst;have N:=ih (updE F h Gb) (p++q.tail) nd'.2 (λi hi=>hl i (je _ hi)) (λi=>by
     by_cases z:i=h
     .subst z;rw[zaM,Ge ⟨hh,nd'.1⟩]
     .rw[zaP z,hF i];by_cases y:i∈hs/\i∉l
      .rw[Ge y,Ge ⟨y.1,λw=>(jt.mp w).elim z y.2⟩]
      .rw[Gf y,Gf λw=>y ⟨w.1,λu=>w.2 (je _ u)⟩]) (H.join R (.inl rfl))
    refine⟨N.1,jn N.2.1 ?_,_,hst,N.2.2⟩;rw[jh,ko,jJ,uL];omega
  obtain⟨r1,r2,r3⟩:=L hs X _ hN (λ_ h=>h) (λi=>by rw[Gf λz=>z.2 z.1]) P0;refine⟨⟨r1,jn r2 ?_⟩,r3⟩;have:hs.length*hLen (k-at_)<=5*hLen (k-at_):=uD _ hL;show 2+_<=_;omega
def upLE (n:Nat)(E:Fs)(at_:Nat):List Nat:=(jf n).filter λj=>upE E j (at_:Int)
def mhS (n k at_:Nat)(v:Nat->Int)(E:Fs)(h:Nat)(p:List Rn)(to:Nat):List Rn:=match (p.getLastD (v,E)).2 h with
 | some (_,m)=>if bt m to=true then p else p++(seg n k (k-at_) v v (p.getLastD (v,E)).2 (turnE (p.getLastD (v,E)).2 h to) to).tail
 | none=>p
def mhP (n k at_:Nat)(v:Nat->Int)(E:Fs)(h:Nat):List Rn:=(upLE n E at_).foldl (mhS n k at_ v E h) [(v,E)]
theorem zyK:∀ (m:Fin 32) (b t:Fin 5),bt (togN m.val b.val) t.val=if t.val=b.val then !bt m.val t.val else bt m.val t.val:=by decide +kernel
theorem zp4:∀ (m:Fin 32) (b:Fin 5),togN m.val b.val<32/\(b.val<4->m.val<16->togN m.val b.val<16)/\(b.val<3->m.val<8->togN m.val b.val<8)/\(b.val<2->m.val<4->togN m.val b.val<4):=by decide +kernel
theorem zAN {n m b:Nat}(h2:2<=n)(h5:n<=5)(hm:m<2^n)(hb:b<n):togN m b<2^n:=by
 have:n=2\/n=3\/n=4\/n=5:=by omega
 rcases this with rfl|rfl|rfl|rfl
 .exact(zp4 ⟨m,by omega⟩ ⟨b,by omega⟩).2.2.2 hb hm
 .exact(zp4 ⟨m,by omega⟩ ⟨b,by omega⟩).2.2.1 hb hm
 .exact(zp4 ⟨m,by omega⟩ ⟨b,by omega⟩).2.1 hb hm
 .exact(zp4 ⟨m,by omega⟩ ⟨b,by omega⟩).1
theorem zlS {n:Nat}(h5:n<=5):2^n<=32:=uC (by decide) h5
theorem zyL {m t:Nat}(hm:m<32)(ht:5<=t):bt m t=false:=by
 unfold bt;have:(m:Int)/2^t=0:=by
  refine qu (by omega) ?_;have e1:(2:Nat)^5<=2^t:=uC (by decide) ht;have e2:((2^t:Nat):Int)=(2:Int)^t:=Int.natCast_pow 2 t;rw[<- e2];omega
 rw[this];rfl
theorem zu0 {m b t:Nat}(hm:m<32)(hb:b<5)(ht:t≠b):bt (togN m b) t=bt m t:=by
 by_cases t5:t<5
 .have:=zyK ⟨m,hm⟩ ⟨b,hb⟩ ⟨t,t5⟩;rw[Gf ht] at this;exact this
 .rw[zyL hm (by omega),zyL (zp4 ⟨m,hm⟩ ⟨b,hb⟩).1 (by omega)]
theorem zyM {m b:Nat}(hm:m<32)(hb:b<5):bt (togN m b) b=!bt m b:=by
 have:=zyK ⟨m,hm⟩ ⟨b,hb⟩ ⟨b,hb⟩;rw[Ge rfl] at this;exact this
structure MStep (n k at_:Nat)(v:Nat->Int)(E:Fs)(h:Nat)(p:List Rn)(x:Nat)(p':List Rn):Prop where
 w:∃ m,p.getLast?=Ga (v,updE E h (Ga ((at_:Int),m)))/\m<2^n/\bt m h=false/\x<n/\x≠h/\E x=Gb/\((bt m x=true/\p'=p)\/(bt m x=false/\togN m x<2^n/\bt (togN m x) h=false/\p'=p++(seg n k (k-at_) v v (updE E h (Ga ((at_:Int),m))) (updE E h (Ga ((at_:Int),togN m x))) x).tail))
theorem zCU {n k at_ t:Nat}(h2:2<=n)(h5:n<=5)(k4:k<=4)(h1:1<=at_)(hat:at_<=k){v:Nat->Int}{E:Fs}(o:Ok n E at_)(ht:t+2<=n)(hc:cntE n E+(k-at_)<=t){h m0:Nat}(e0:E h=Ga ((at_:Int),m0)) :
  ∃ m,m<2^n/\bt m h=false/\(∀ j,j<n->upE E j (at_:Int)=true->bt m j=true)/\Pth n k t (v,E) (v,updE E h (Ga ((at_:Int),m))) (mhP n k at_ v E h)/\(mhP n k at_ v E h).length<=1+5*(2*hLen (k-at_))/\Runs (MStep n k at_ v E h) (upLE n E at_) [(v,E)] (mhP n k at_ v E h):=by
 have hh:=o.hnd _ _ _ e0;obtain⟨b0,n0⟩:=o.msk _ _ _ e0;have p32:=zlS h5;have hM:∀ i,i∈upLE n E at_->i<n/\upE E i (at_:Int)=true:=λi hi=>⟨jp.mp (jD.mp hi).1,(jD.mp hi).2⟩;have hI:∀ i,i<n->upE E i (at_:Int)=true->i∈upLE n E at_:=λi hi hu=>jD.mpr ⟨jp.mpr hi,hu⟩;have hN:(upLE n E at_).Nodup:=kU kE ud;have hL:(upLE n E at_).length<=5:=by
  unfold upLE;exact jn (j6 _ _) (by rw[jG];exact h5)
 have cU:∀ m,cntE n (updE E h (Ga ((at_:Int),m)))=cntE n E:=λm=>ziC e0;have L:∀ (l:List Nat),(∀ i∈l,i<n/\upE E i (at_:Int)=true)->∀ (m:Nat) (p:List Rn),m<2^n->bt m h=false->Pth n k t (v,E) (v,updE E h (Ga ((at_:Int),m))) p ->
   ∃ m',m'<2^n/\bt m' h=false/\(∀ j,bt m j=true->bt m' j=true)/\(∀ j∈l,bt m' j=true)/\Pth n k t (v,E) (v,updE E h (Ga ((at_:Int),m'))) (l.foldl (mhS n k at_ v E h) p)/\(l.foldl (mhS n k at_ v E h) p).length<=p.length+l.length*(2*hLen (k-at_))/\Runs (MStep n k at_ v E h) l p (l.foldl (mhS n k at_ v E h) p):=by
  intro l;induction l with
  | nil=>exact λ_ m p h1 h2 H=>⟨m,h1,h2,λ_ z=>z,λ_ z=>(by cases z),H,by rw[uf];omega,rfl⟩
  | cons x l ih =>
   intro hl m p hm hb H;obtain⟨x1,x2⟩:=hl x jg;have xh:x≠h:=λz=>by
    subst z;rw[zdX e0,decide_eq_true_eq] at x2;omega
   have ex:E x=Gb:=zmP o x2;have el:p.getLastD (v,E)=(v,updE E h (Ga ((at_:Int),m))):=zeD H.lst;have step:mhS n k at_ v E h p x=if bt m x=true then p else p++(seg n k (k-at_) v v (updE E h (Ga ((at_:Int),m))) (updE E h (Ga ((at_:Int),togN m x))) x).tail:=by
    unfold mhS;rw[el];have eT:turnE (updE E h (Ga ((at_:Int),m))) h x=updE E h (Ga ((at_:Int),togN m x)):=by
     unfold turnE;rw[zaM];dsimp only;rw[zj3]
    dsimp only;rw[zaM,eT]
   rw[k7,step];by_cases c:bt m x=true
   .rw[Ge c];obtain⟨m',a1,a2,a3,a4,a5,a6,a7⟩:=ih (λi hi=>hl i (je _ hi)) m p hm hb H;refine⟨m',a1,a2,a3,λj hj=>?_,a5,by rw[jJ,uL];omega,_,⟨m,H.lst,hm,hb,x1,xh,ex,.inl ⟨c,rfl⟩⟩,a7⟩;rcases jt.mp hj with rfl|hj
    .exact a3 j c
    .exact a4 j hj
   .rw[Gf c];rw[jZ] at c;have tm:=zAN h2 h5 hm x1;have tb:bt (togN m x) h=false:=by rw[zu0 (by omega) (by omega) (kX xh)];exact hb
    have okU:∀ m,m<2^n->bt m h=false->Ok n (updE E h (Ga ((at_:Int),m))) at_:=λm a b=>o.upd hh (by omega) (kQ _) a b;have S:=zyJ (n:=n) (k:=k) (d:=k-at_) h2 h5 k4 (v:=v) (v':=v) (E:=updE E h (Ga ((at_:Int),m))) (E':=updE E h (Ga ((at_:Int),togN m x))) (h:=x) (by omega) x1 (by rw[zaP xh];exact ex) (by rw[zaP xh];exact ex)
     ((okU m hm hb).mono (by omega)) ((okU _ tm tb).mono (by omega)) (by rw[cU];omega) (by rw[cU];omega) (t:=t) (by rw[cU];omega) (by rw[cU];omega) (λi hi=>by
      by_cases hn:i<n
      .refine .inl ?_;have ek:k-(k-at_)=at_:=by omega
       rw[ek];have B:=zCO (n:=n) (ns:=λj=>jc (v j)) (E1:=updE (updE E h (Ga ((at_:Int),m))) x (nxt k at_)) (E2:=updE (updE E h (Ga ((at_:Int),togN m x))) x (nxt k at_)) (k:=k) (at_:=at_) (h:=h) (to:=x) (m1:=m) (m2:=togN m x) (kX xh)
        (by rw[zaP (kX xh),zaM]) (by rw[zaP (kX xh),zaM]) (λt ht=>(zu0 (by omega) (by omega) ht).symm) zaM zaM (λj j1 j2=>by rw[zaP j2,zaP j1,zaP j2,zaP j1])
       exact(zfN B k (jk _)).1 i hn (beq_eq_false_iff_ne.mpr hi)
      .exact .inr (by omega)) (λi=>by
      by_cases z:i=h
      .subst z;rw[zaM,zaM];constructor<;>(intro y;cases y)
      .rw[zaP z,zaP z])
    obtain⟨S,sl⟩:=S;have mst:MStep n k at_ v E h p x (p++(seg n k (k-at_) v v (updE E h (Ga ((at_:Int),m))) (updE E h (Ga ((at_:Int),togN m x))) x).tail):=⟨m,H.lst,hm,hb,x1,xh,ex,.inr ⟨c,tm,tb,rfl⟩⟩;generalize seg n k (k-at_) v v (updE E h (Ga ((at_:Int),m))) (updE E h (Ga ((at_:Int),togN m x))) x=q at S sl mst;obtain⟨m',a1,a2,a3,a4,a5,a6,a7⟩:=ih (λi hi=>hl i (je _ hi)) (togN m x) (p++q.tail) tm tb (H.join S (.inl rfl));refine⟨m',a1,a2,λj hj=>a3 j ?_,λj hj=>?_,a5,jn a6 ?_,_,mst,a7⟩
    .by_cases z:j=x
     .subst z;rw[zyM (by omega) (by omega),c];rfl
     .rw[zu0 (by omega) (by omega) z];exact hj
    .rcases jt.mp hj with rfl|hj
     .exact a3 j (by rw[zyM (by omega) (by omega),c];rfl)
     .exact a4 j hj
    .rw[jh,ko,jJ,uL];omega
 have eE:updE E h (Ga ((at_:Int),m0))=E:=by
  funext i
  by_cases z:i=h
  .subst z;rw[zaM,e0]
  .rw[zaP z]
 obtain⟨m,a1,a2,a3,a4,a5,a6,a7⟩:=L (upLE n E at_) hM m0 [(v,E)] b0 n0 (by rw[eE];exact Pth.one (o.mono (by omega)) (by show cntE n E<=t;omega));refine⟨m,a1,a2,λj hj hu=>a4 j (hI j hj hu),a5,jn a6 ?_,a7⟩;have:(upLE n E at_).length*(2*hLen (k-at_))<=5*(2*hLen (k-at_)):=uD _ hL;show 1+_<=_;omega
def rhS (n k at_:Nat)(v:Nat->Int)(E:Fs)(p:List Rn)(h:Nat):List Rn :=
 (p++(mhP n k at_ v (p.getLastD (v,E)).2 h).tail)++(hhP n k at_ v ((p++(mhP n k at_ v (p.getLastD (v,E)).2 h).tail).getLastD (v,E)).2).tail
def atL (n:Nat)(E:Fs)(at_:Nat):List Nat:=(jf n).filter λi=>match E i with
 | some (a,_)=>decide (a=(at_:Int))
 | none=>false
def rhP (n k at_:Nat)(v:Nat->Int)(E:Fs):List Rn:=(atL n ((hhP n k at_ v E).getLastD (v,E)).2 at_).foldl (rhS n k at_ v E) (hhP n k at_ v E)
def befE (E:Fs)(at_:Nat):Fs:=λi=>match E i with
 | some (a,m)=>if a<(at_:Int) then Ga (a,m) else Gb
 | none=>Gb
structure RStep (n k at_:Nat)(v:Nat->Int)(t:Nat)(p:List Rn)(h:Nat)(p':List Rn):Prop where
 w:∃ (F:Fs) (m0 m:Nat),p.getLast?=Ga (v,F)/\Ok n F at_/\cntE n F+(k-at_)<=t/\F h=Ga ((at_:Int),m0)/\(p++(mhP n k at_ v F h).tail).getLast?=Ga (v,updE F h (Ga ((at_:Int),m)))/\Ok n (updE F h (Ga ((at_:Int),m))) at_/\cntE n (updE F h (Ga ((at_:Int),m)))=cntE n F/\p'=(p++(mhP n k at_ v F h).tail)++(hhP n k at_ v (updE F h (Ga ((at_:Int),m)))).tail
theorem zCV {n k at_ t:Nat}(h2:2<=n)(h5:n<=5)(k4:k<=4)(h1:1<=at_)(hat:at_<=k){v:Nat->Int}{E:Fs}(o:Ok n E at_)(c:cntE n E<=t)(ht:t+2<=n)(hc:(∃ i,heardB n E at_ i=true)->cntE n E+(k-at_)<=t+1)
  (hu:cntE n (healE n E at_)+(k-at_)<=t\/∀ i,healE n E at_ i=befE E at_ i):(Pth n k t (v,E) (v,befE E at_) (rhP n k at_ v E)/\(rhP n k at_ v E).length<=100*hLen (k-at_))/\Runs (RStep n k at_ v t) (atL n (healE n E at_) at_) (hhP n k at_ v E) (rhP n k at_ v E):=by
 obtain⟨⟨A,al⟩,_⟩:=zxH h2 h5 k4 h1 hat (v:=v) o c ht hc;have el0:(hhP n k at_ v E).getLastD (v,E)=(v,healE n E at_):=zeD A.lst;unfold rhP;rw[el0];dsimp only;have hp:=zrM (k-at_);have hM:∀ i,i∈atL n (healE n E at_) at_->∃ m j,healE n E at_ i=Ga ((at_:Int),m)/\E i=Ga ((at_:Int),m)/\j<n/\E j=Gb/\bt m j=false:=λi hi=>by
  obtain⟨x1,x2⟩:=jD.mp hi;have x1:=jp.mp x1;cases e:healE n E at_ i with
  | none=>rw[e] at x2;cases x2
  | some w =>
   obtain⟨a,m⟩:=w;rw[e] at x2;have ea:a=(at_:Int):=of_decide_eq_true x2;subst ea;have nh:heardB n E at_ i=false:=by
    cases z:heardB n E at_ i with
    | false=>rfl
    | true=>unfold healE at e;rw[Ge z] at e;cases e
   have eE:E i=Ga ((at_:Int),m):=by
    unfold healE at e;rw[nh,Gf jy] at e;exact e
   refine⟨m,?_⟩;have:∃ j,j<n/\upE E j (at_:Int)=true/\bt m j=false:=by
    refine kn λno=>?_;have:heardB n E at_ i=true:=by
     unfold heardB;rw[eE];dsimp only;rw[jI,decide_eq_true_eq,jF];refine⟨rfl,λj hj=>?_⟩;obtain⟨y1,y2⟩:=jD.mp hj;cases z:bt m j with
     | true=>rfl
     | false=>exact absurd ⟨j,jp.mp y1,y2,z⟩ no
    rw[nh] at this;cases this
   obtain⟨j,j1,j2,j3⟩:=this;exact⟨j,rfl,eE,j1,zmP o j2,j3⟩
 have hN:(atL n (healE n E at_) at_).Nodup:=kU kE ud;have hL5:(atL n (healE n E at_) at_).length<=5:=by
  unfold atL;exact jn (j6 _ _) (by rw[jG];exact h5)
 have hA:∀ i,i∉atL n (healE n E at_) at_->healE n E at_ i=befE E at_ i:=λi hi=>by
  unfold befE;cases e:E i with
  | none =>
   unfold healE;rw[e];split<;>rfl
  | some w =>
   obtain⟨a,m⟩:=w;dsimp only;have rb:=o.rnd i a m e;by_cases z:a<(at_:Int)
   .rw[Ge z];unfold healE;rw[Gf,e];intro y;obtain⟨m',e',_⟩:=zdO y;rw[e] at e';cases e';omega
   .rw[Gf z];have ea:a=(at_:Int):=by omega
    cases y:heardB n E at_ i with
    | true=>unfold healE;rw[Ge y]
    | false =>
     refine absurd (jD.mpr ⟨jp.mpr (o.hnd i a m e),?_⟩) hi;have:healE n E at_ i=Ga (a,m):=by unfold healE;rw[y,Gf jy,e]
     rw[this];exact Gc ea
 have okF:∀ F:Fs,(∀ i,F i=Gb\/F i=E i)->Ok n F at_:=λF hF=>by
  refine⟨λi a m e=>?_,λi a m e=>?_,λi a m e=>?_⟩<;>rcases hF i with z|z<;>rw[e] at z
  .cases z
  .exact o.rnd i a m z.symm
  .cases z
  .exact o.hnd i a m z.symm
  .cases z
  .exact o.msk i a m z.symm
 have hHE:∀ i,healE n E at_ i=Gb\/healE n E at_ i=E i:=λi=>by
  unfold healE;split
  .exact .inl rfl
  .exact .inr rfl
 have hcF:atL n (healE n E at_) at_≠[]->cntE n (healE n E at_)+(k-at_)<=t:=λne=>by
  rcases hu with z|z
  .exact z
  .exfalso;cases e:atL n (healE n E at_) at_ with
   | nil=>exact ne e
   | cons i r =>
    have hi:i∈atL n (healE n E at_) at_:=by rw[e];exact jg
    obtain⟨m,j,e1,e2,_⟩:=hM i hi;have:=z i;rw[e1] at this;unfold befE at this;rw[e2] at this;dsimp only at this;rw[Gf (qW _)] at this;cases this
 generalize atL n (healE n E at_) at_=hs at hM hN hL5 hA hcF;have L:∀ (l:List Nat) (F:Fs) (p:List Rn),l.Nodup->(∀ i∈l,i∈hs)->(∀ i,F i=if i∈hs/\i∉l then Gb else healE n E at_ i)->Pth n k t (v,E) (v,F) p ->
   Pth n k t (v,E) (v,befE E at_) (l.foldl (rhS n k at_ v E) p)/\(l.foldl (rhS n k at_ v E) p).length<=p.length+l.length*(18*hLen (k-at_))/\Runs (RStep n k at_ v t) l p (l.foldl (rhS n k at_ v E) p):=by
  intro l;induction l with
  | nil =>
   intro F p _ _ hF H;have eF:F=befE E at_:=by
    funext i
    rw[hF i];by_cases z:i∈hs
    .rw[Ge ⟨z,kK⟩];obtain⟨m,j,_,e2,_⟩:=hM i z;unfold befE;rw[e2];dsimp only;rw[Gf (qW _)]
    .rw[Gf λy=>z y.1];exact hA i z
   rw[<- eF];exact⟨H,by rw[uf];omega,rfl⟩
  | cons h l ih =>
   intro F p nd hl hF H;have hh:=hl h jg;have nd':=ka.mp nd;obtain⟨m0,w0,e1,e2,_,_,_⟩:=hM h hh;have eh:F h=Ga ((at_:Int),m0):=by rw[hF h,Gf λz=>z.2 jg];exact e1
   have hFE:∀ i,F i=Gb\/F i=E i:=λi=>by
    rw[hF i];split
    .exact .inl rfl
    .exact hHE i
   have oF:=okF F hFE;have cF:cntE n F+(k-at_)<=t:=by
    have a:=hcF λz=>by rw[z] at hh;cases hh
    have b:cntE n F<=cntE n (healE n E at_):=zhB λi hi=>by
     rw[hF i] at hi;split at hi
     .cases hi
     .exact hi
    omega
   obtain⟨m,m1,m2,m3,B,bl,_⟩:=zCU h2 h5 k4 h1 hat (v:=v) oF ht cF eh;have o2:Ok n (updE F h (Ga ((at_:Int),m))) at_:=oF.upd (oF.hnd _ _ _ eh) (by omega) (kQ _) m1 m2;have c2:cntE n (updE F h (Ga ((at_:Int),m)))=cntE n F:=ziC eh;have upS:∀ j,upE (updE F h (Ga ((at_:Int),m))) j (at_:Int)=upE F j (at_:Int):=λj=>by
    by_cases z:j=h
    .subst z;rw[zdX zaM,zdX eh]
    .exact zk7 (zaP z) _
   have hrd:∀ i,heardB n (updE F h (Ga ((at_:Int),m))) at_ i=true↔i=h:=λi=>by
    constructor
    .intro y;refine kn λz=>?_;obtain⟨m',e',y2⟩:=zdO y;rw[zaP z] at e';have ih2:i∈hs/\E i=Ga ((at_:Int),m'):=by
      have e3:E i=Ga ((at_:Int),m'):=by
       rcases hFE i with w|w
       .rw[e'] at w;cases w
       .rw[<- w];exact e'
      refine⟨kn λw=>?_,e3⟩;have:=hA i w;rw[hF i,Gf λq=>w q.1,this] at e';unfold befE at e';rw[e3] at e';dsimp only at e';rw[Gf (qW _)] at e';cases e'
     obtain⟨m'',j,_,e4,j1,j2,j3⟩:=hM i ih2.1;rw[ih2.2] at e4;cases e4;have fj:F j=Gb:=by
      rcases hFE j with w|w
      .exact w
      .rw[w];exact j2
     have:=y2 j j1 (by rw[upS j];exact zdC fj _);rw[j3] at this;cases this
    .rintro rfl;unfold heardB;rw[zaM];dsimp only;rw[jI,decide_eq_true_eq,jF];refine⟨rfl,λj hj=>?_⟩;obtain⟨y1,y2⟩:=jD.mp hj;exact m3 j (jp.mp y1) (by rw[<- upS j];exact y2)
   obtain⟨⟨C,cl⟩,_⟩:=zxH h2 h5 k4 h1 hat (v:=v) o2 (by omega) ht (λ_=>by omega);have eHl:healE n (updE F h (Ga ((at_:Int),m))) at_=updE F h Gb:=by
    funext i
    unfold healE;by_cases z:i=h
    .rw[Ge ((hrd i).mpr z)];subst z;rw[zaM]
    .rw[Gf λy=>z ((hrd i).mp y),zaP z,zaP z]
   rw[eHl] at C;have el:p.getLastD (v,E)=(v,F):=zeD H.lst;have J1:=H.join B (.inl rfl);have el2:(p++(mhP n k at_ v F h).tail).getLastD (v,E)=(v,updE F h (Ga ((at_:Int),m))):=zeD J1.lst;have step:rhS n k at_ v E p h=(p++(mhP n k at_ v F h).tail)++(hhP n k at_ v (updE F h (Ga ((at_:Int),m)))).tail:=by
    unfold rhS;rw[el];dsimp only;rw[el2]
   have rst:RStep n k at_ v t p h ((p++(mhP n k at_ v F h).tail)++(hhP n k at_ v (updE F h (Ga ((at_:Int),m)))).tail):=⟨F,m0,m,H.lst,oF,cF,eh,J1.lst,o2,c2,rfl⟩;rw[k7,step];generalize hhP n k at_ v (updE F h (Ga ((at_:Int),m)))=q2 at C cl rst;generalize mhP n k at_ v F h=q1 at B bl J1 rst;have N:=ih (updE F h Gb) _ nd'.2 (λi hi=>hl i (je _ hi)) (λi=>by
    by_cases z:i=h
    .subst z;rw[zaM,Ge ⟨hh,nd'.1⟩]
    .rw[zaP z,hF i];by_cases y:i∈hs/\i∉l
     .rw[Ge y,Ge ⟨y.1,λw=>(jt.mp w).elim z y.2⟩]
     .rw[Gf y,Gf λw=>y ⟨w.1,λu=>w.2 (je _ u)⟩]) (J1.join C (.inl rfl))
   refine⟨N.1,jn N.2.1 ?_,_,rst,N.2.2⟩;rw[jh,jh,ko,ko,jJ,uL];omega
 obtain⟨r1,r2,r3⟩:=L hs (healE n E at_) _ hN (λ_ h=>h) (λi=>by rw[Gf λz=>z.2 z.1]) A;refine⟨⟨r1,jn r2 ?_⟩,r3⟩;have:hs.length*(18*hLen (k-at_))<=5*(18*hLen (k-at_)):=uD _ hL5;omega
def sameE (n:Nat)(E F:Fs):Bool:=(jf n).all λi=>E i==F i
def healS (n k:Nat)(v:Nat->Int)(E:Fs)(p:List Rn)(s:Nat):List Rn:=p++(rhP n k (k-s) v (p.getLastD (v,E)).2).tail
def healP (n k:Nat)(v:Nat->Int)(E:Fs):List Rn:=(jf k).foldl (healS n k v E) (if sameE n (befE E (k+1)) E=true then[(v,E)] else[(v,E)]++[(v,befE E (k+1))])
theorem zAO {E:Fs}{a b:Nat}(h:b<=a):befE (befE E a) b=befE E b:=by
 funext i
 unfold befE;cases e:E i with
 | none=>rfl
 | some w =>
  obtain⟨x,m⟩:=w;dsimp only;by_cases z:x<(a:Int)
  .rw[Ge z]
  .rw[Gf z,Gf (by omega)]
theorem zu1 {n:Nat}{E:Fs}{a:Nat}(o:Ok n E 5):Ok n (befE E (a+1)) a:=by
 have key:∀ i x m,befE E (a+1) i=Ga (x,m)->E i=Ga (x,m)/\x<((a+1:Nat):Int):=λi x m e=>by
  unfold befE at e;cases h:E i with
  | none=>rw[h] at e;cases e
  | some w =>
   obtain⟨y,l⟩:=w;rw[h] at e;dsimp only at e;by_cases z:y<((a+1:Nat):Int)
   .rw[Ge z] at e;cases e;exact⟨rfl,z⟩
   .rw[Gf z] at e;cases e
 exact⟨λi x m e=>⟨(o.rnd i x m (key i x m e).1).1,by have:=(key i x m e).2;omega⟩,λi x m e=>o.hnd i x m (key i x m e).1,λi x m e=>o.msk i x m (key i x m e).1⟩
theorem zq4 {n:Nat}{E:Fs}{a:Nat}:cntE n (befE E a)<=cntE n E:=zhB λi hi=>by
 unfold befE at hi;cases h:E i with
 | none=>rw[h] at hi;exact hi
 | some w=>rfl
structure GStep (n k:Nat)(v:Nat->Int)(t:Nat)(p:List Rn)(s:Nat)(p':List Rn):Prop where
 w:∃ F:Fs,p.getLast?=Ga (v,F)/\1<=k-s/\k-s<=k/\Ok n F (k-s)/\cntE n F<=t/\cntE n F+(k-(k-s))<=t+1/\cntE n (healE n F (k-s))+(k-(k-s))<=t/\p'=p++(rhP n k (k-s) v F).tail
theorem zp5 {α:Type}{Step:α->Nat->α->Prop}:∀ {l:List Nat} {p q r:α} {x:Nat},Runs Step l p q->Step q x r->Runs Step (l++[x]) p r
 | [],p,q,r,x,h,s=>by cases h;exact⟨r,s,rfl⟩
 | y::l,p,q,r,x,⟨p',h1,h2⟩,s=>⟨p',h1,zp5 h2 s⟩
theorem zu2 {n k t:Nat}(h2:2<=n)(h5:n<=5)(k4:k<=4){v:Nat->Int}{E:Fs}(o:Ok n E 5)(c:cntE n E<=t)(ht:t+2<=n)(H1:∀ a,1<=a->a<=k->cntE n (befE E (a+1))+(k-a)<=t+1)
  (H2:∀ a,1<=a->a<=k->cntE n (healE n (befE E (a+1)) a)+(k-a)<=t):(Pth n k t (v,E) (v,noE) (healP n k v E)/\(healP n k v E).length<=2+k*(100*hLen (k-1)))/\Runs (GStep n k v t) (jf k) (if sameE n (befE E (k+1)) E=true then[(v,E)] else[(v,E)]++[(v,befE E (k+1))]) (healP n k v E):=by
 have mono:∀ d e,d<=e->hLen d<=hLen e:=by
  intro d e h;induction e with
  | zero=>rw[Nat.le_zero.mp h];exact jk _
  | succ e ih =>
   by_cases z:d=e+1
   .rw[z];exact jk _
   .have:=ih (by omega);have q:hLen (e+1)=hLen e+1+4*(2*hLen e-1):=rfl;omega
 have P0:Pth n k t (v,E) (v,befE E (k+1)) (if sameE n (befE E (k+1)) E=true then[(v,E)] else[(v,E)]++[(v,befE E (k+1))]):=by
  by_cases z:sameE n (befE E (k+1)) E=true
  .rw[Ge z];have e:befE E (k+1)=E:=by
    funext i
    by_cases y:i<n
    .unfold sameE at z;rw[jF] at z;exact eq_of_beq (z i (jp.mpr y))
    .have:E i=Gb:=by
      cases w:E i with
      | none=>rfl
      | some u=>obtain⟨a,m⟩:=u;exact absurd (o.hnd i a m w) y
     unfold befE;rw[this]
   rw[e];exact Pth.one o c
  .rw[Gf z];refine(Pth.one (r:=(v,E)) o c).snoc ?_ ((zu1 o).mono (by omega)) (jn zq4 c) rfl;obtain⟨i,i1,i2,i3⟩:=zfO (n:=n) (E:=E) (by omega) n;have e0:befE E (k+1) i=Gb:=by unfold befE;rw[i3]
   refine⟨i,i1,i3,e0,?_⟩;have ups:∀ j r,r<=k->upE E j (r:Int)=upE (befE E (k+1)) j (r:Int):=λj r hr=>by
    cases w:E j with
    | none=>rw[zdC w,zdC (by unfold befE;rw[w])]
    | some u =>
     obtain⟨a,m⟩:=u;by_cases y:a<((k+1:Nat):Int)
     .exact zk7 (by unfold befE;rw[w];dsimp only;rw[Ge y]) _
     .rw[zdX w,zdC (by unfold befE;rw[w];dsimp only;rw[Gf y])];exact Gc (by omega)
   have cms:∀ b t r,r<=k->cmE E b t (r:Int)=cmE (befE E (k+1)) b t (r:Int):=λj t r hr=>by
    cases w:E j with
    | none=>rw[zlR w,zlR (by unfold befE;rw[w])]
    | some u =>
     obtain⟨a,m⟩:=u;by_cases y:a<((k+1:Nat):Int)
     .exact zp0 (by unfold befE;rw[w];dsimp only;rw[Ge y]) _ _
     .rw[zeC w,zlR (by unfold befE;rw[w];dsimp only;rw[Gf y]),Gc (by omega),k6]
   have A:Hid n (λj=>jc (v j)) (λj=>jc (v j)) E (befE E (k+1)) (λ_=>false) 0 k :=
    ⟨λi r _ _ hr=>ups i r hr,λb t r _ _ _ _ hr _=>cms b t r hr,λ_ _ _ _ z=>(by cases z),λ_ _ _ _ z=>(by cases z),λ_ _ _ _ z=>(by cases z),λ_ _ _ z=>(by cases z),λ_ _ _ _ z=>(by cases z),λ_ _=>rfl⟩
   exact(zfN A k (jk _)).1 i i1 rfl
 have L:∀ s,s<=k->Pth n k t (v,E) (v,befE E (k-s+1)) ((jf s).foldl (healS n k v E) (if sameE n (befE E (k+1)) E=true then[(v,E)] else[(v,E)]++[(v,befE E (k+1))]))/\((jf s).foldl (healS n k v E) (if sameE n (befE E (k+1)) E=true then[(v,E)] else[(v,E)]++[(v,befE E (k+1))])).length<=2+s*(100*hLen (k-1))/\Runs (GStep n k v t) (jf s) (if sameE n (befE E (k+1)) E=true then[(v,E)] else[(v,E)]++[(v,befE E (k+1))]) ((jf s).foldl (healS n k v E) (if sameE n (befE E (k+1)) E=true then[(v,E)] else[(v,E)]++[(v,befE E (k+1))])):=by
  intro s;induction s with
  | zero =>
   intro _;refine⟨P0,?_,rfl⟩;show(if _ then _ else _:List Rn).length<=_;split
   .show 1<=_;omega
   .show 2<=_;omega
  | succ s ih =>
   intro hs;obtain⟨H,hl,hR⟩:=ih (by omega);rw[k8,uE];show Pth n k t (v,E) _ (healS n k v E _ s)/\(healS n k v E _ s).length<=_/\Runs (GStep n k v t) (jf s++[s]) _ (healS n k v E _ s);generalize (jf s).foldl (healS n k v E) (if sameE n (befE E (k+1)) E=true then[(v,E)] else[(v,E)]++[(v,befE E (k+1))])=p at H hl hR;have el:p.getLastD (v,E)=(v,befE E (k-s+1)):=zeD H.lst;unfold healS;rw[el];dsimp only;have gst:GStep n k v t p s (p++(rhP n k (k-s) v (befE E (k-s+1))).tail):=⟨_,H.lst,by omega,by omega,zu1 o,jn zq4 c,H1 (k-s) (by omega) (by omega),H2 (k-s) (by omega) (by omega),rfl⟩;obtain⟨⟨R,rl⟩,_⟩:=zCV (at_:=k-s) (t:=t) h2 h5 k4 (by omega) (by omega) (v:=v) (zu1 o) (jn zq4 c) ht (λ_=>H1 (k-s) (by omega) (by omega)) (.inl (H2 (k-s) (by omega) (by omega)));rw[zAO (by omega)] at R;have e:k-(s+1)+1=k-s:=by omega
   rw[e];refine⟨H.join R (.inl rfl),?_,zp5 hR gst⟩;have:=mono (k-(k-s)) (k-1) (by omega);rw[jh,ko,uL];omega
 obtain⟨r1,r2,r3⟩:=L k (jk k);have e:befE E (k-k+1)=noE:=by
  funext i
  unfold befE noE;cases w:E i with
  | none=>rfl
  | some u =>
   obtain⟨a,m⟩:=u;dsimp only;rw[Gf];have:=(o.rnd i a m w).1;omega
 rw[e] at r1;exact⟨⟨r1,r2⟩,r3⟩
def srtB (hs:List Nat):Bool:=match runK (λi j=>Ga (decide (hs.getD i 0<hs.getD j 0))) (uY hs.length) with
 | some p=>decide (p.size<=64)&&decide (p.toList.map (λi=>hs.getD i 0)=(jf 5).filter λi=>hs.contains i)&&p.toList.all λi=>decide (i<hs.length)
 | none=>false
theorem srt2:∀ a b:Fin 5,[a.val,b.val].Nodup->srtB [a.val,b.val]=true:=by decide +kernel
theorem srt3:∀ a b c:Fin 5,[a.val,b.val,c.val].Nodup->srtB [a.val,b.val,c.val]=true:=by decide +kernel
theorem srt4:∀ a b c d:Fin 5,[a.val,b.val,c.val,d.val].Nodup->srtB [a.val,b.val,c.val,d.val]=true:=by decide +kernel
theorem srt5:∀ a b c d e:Fin 5,[a.val,b.val,c.val,d.val,e.val].Nodup->srtB [a.val,b.val,c.val,d.val,e.val]=true:=by decide +kernel
theorem zAP {hs:List Nat}(h2:2<=hs.length)(h5:hs.length<=5)(nd:hs.Nodup)(hb:∀ h∈hs,h<5):srtB hs=true:=by
 match hs,h2,h5,nd,hb with
 | [a,b],_,_,nd,hb=>exact srt2 ⟨a,hb a (by simp only[jt,true_or])⟩ ⟨b,hb b (by simp only[jt,true_or,or_true])⟩ nd
 | [a,b,c],_,_,nd,hb=>exact srt3 ⟨a,hb a (by simp only[jt,true_or])⟩ ⟨b,hb b (by simp only[jt,true_or,or_true])⟩ ⟨c,hb c (by simp only[jt,true_or,or_true])⟩ nd
 | [a,b,c,d],_,_,nd,hb=>exact srt4 ⟨a,hb a (by simp only[jt,true_or])⟩ ⟨b,hb b (by simp only[jt,true_or,or_true])⟩ ⟨c,hb c (by simp only[jt,true_or,or_true])⟩ ⟨d,hb d (by simp only[jt,true_or,or_true])⟩ nd
 | [a,b,c,d,e],_,_,nd,hb=>exact srt5 ⟨a,hb a (by simp only[jt,true_or])⟩ ⟨b,hb b (by simp only[jt,true_or,or_true])⟩ ⟨c,hb c (by simp only[jt,true_or,or_true])⟩ ⟨d,hb d (by simp only[jt,true_or,or_true])⟩ ⟨e,hb e (by simp only[jt,true_or,or_true])⟩ nd
 | a::b::c::d::e::f::r,_,h5,_,_=>simp only[jJ] at h5;omega
theorem zkW {n:Nat}{lt lt':Nat->Nat->Option Bool}(h:∀ i j,i<n->j<n->lt i j=lt' i j):∀ {t:qo (Array Nat)},chkK n t=true->runK lt t=runK lt' t
 | .ret p,_=>rfl
 | .ask i j k,c=>by
  unfold chkK at c;rw[jI,jI,jI,decide_eq_true_eq,decide_eq_true_eq] at c;obtain⟨⟨⟨h1,h2⟩,h3⟩,h4⟩:=c;show(lt i j).bind _=(lt' i j).bind _;rw[h i j h1 h2];cases lt' i j with
  | none=>rfl
  | some b =>
   show runK lt (k b)=runK lt' (k b);cases b with
   | true=>exact zkW h h3
   | false=>exact zkW h h4
def f0:Fl:=⟨0,0,0⟩
theorem zEc {f g:Fl}(h:f=g\/f.h≠g.h):ltD (fd f) (fd g)=Ga (decide (f.h<g.h)):=by
 have e:ltD (fd f) (fd g)=Ga (lexI [(f.h:Int),f.a,(f.m:Int)] [(g.h:Int),g.a,(g.m:Int)]):=ztP [(f.h:Int),f.a,(f.m:Int)] [(g.h:Int),g.a,(g.m:Int)];rw[e];refine congrArg Ga ?_;rcases h with rfl|h
 .rw[Gd (jP _)];unfold lexI;rw[Ge (beq_self_eq_true _)];unfold lexI;rw[Ge (beq_self_eq_true _)];unfold lexI;rw[Ge (beq_self_eq_true _)];rfl
 .unfold lexI;rw[Gf (by rw[beq_iff_eq];omega)];by_cases c:f.h<g.h
  .rw[Gc c,Gc (by omega)]
  .rw[Gd c,Gd (by omega)]
theorem zrR (g:Fl->D)(hlt:∀ f f':Fl,f=f'\/f.h≠f'.h->ltD (g f) (g f')=Ga (decide (f.h<f'.h)))(hok:∀ X:List Fl,okSort (X.map g)=true){X:List Fl}(hl:X.length<=5)(nd:(X.map Fl.h).Nodup)(hb:∀ f∈X,f.h<5):sortD (X.map g)=Ga ((canon X).map g):=by
 by_cases h2:X.length<2
 .have e:sortD (X.map g)=Ga (X.map g):=by unfold sortD;rw[Ge (by rw[jb];exact h2)]
  rw[e,<- ziD nd (λ_ h=>h)]
  match X,h2,hb with
  | [],_,_=>rfl
  | [f],_,hb =>
   have:f.h<5:=hb f jg;have key:∀ a:Fin 5,[a.val]=(jf 5).filter λi=>[a.val].contains i:=by decide +kernel
   exact key ⟨f.h,this⟩
  | _::_::_,h,_=>simp only[jJ] at h;omega
 .have hs:srtB (X.map Fl.h)=true:=zAP (by rw[jb];omega) (by rw[jb];exact hl) nd λh hh=>by
   obtain⟨f,hf,rfl⟩:=jx.mp hh;exact hb f hf
  unfold srtB at hs;split at hs;rotate_left
  .cases hs
  rename_i p hp;rw[jI,jI,decide_eq_true_eq,decide_eq_true_eq,jF] at hs;obtain⟨⟨p1,p2⟩,p3⟩:=hs;rw[jb] at hp p3;have getX:∀ i,i<X.length->∃ f,X[i]?=Ga f/\f∈X/\(X.map Fl.h).getD i 0=f.h/\(X.map g)[i]?=Ga (g f):=λi hi=>⟨X[i],jw hi,qd hi,by rw[jB,jz,jw hi];rfl,by rw[jz,jw hi];rfl⟩;have cg:runK (ltAt (X.map g)) (uY X.length)=Ga p:=by
   rw[<- hp];refine zkW (n:=X.length) (λi j hi hj=>?_) (zv4 _ (by omega));obtain⟨f,f1,f2,f3,f4⟩:=getX i hi;obtain⟨f',g1,g2,g3,g4⟩:=getX j hj;unfold ltAt;rw[f4,g4,f3,g3];refine hlt _ _ ?_;by_cases e:f.h=f'.h
   .left;have a:=zrN nd f2;have b:=zrN nd g2;rw[e,b] at a;cases a;rfl
   .exact .inr e
  unfold sortD;have ok:okSort (X.map g)=true:=hok X;rw[Gf (by rw[jb];exact h2),Ge (by rw[ok,Bool.and_true,decide_eq_true_eq,jb];omega),jb,cg,jr,Ge p1];refine congrArg Ga ?_;have eY:p.toList.map (λi=>(X.map g).getD i .none)=(p.toList.map λi=>X.getD i f0).map g:=by
   rw[jL];refine km λi hi=>?_;obtain⟨f,f1,f2,f3,f4⟩:=getX i (of_decide_eq_true (p3 i hi));show(X.map g).getD i .none=g (X.getD i f0);rw[jB,jB,f4,f1];rfl
  rw[eY];refine congrArg (vO g) (ziD nd (λy hy=>?_) ?_)
  .obtain⟨i,hi,rfl⟩:=jx.mp hy;obtain⟨f,f1,f2,f3,f4⟩:=getX i (of_decide_eq_true (p3 i hi));rw[jB,f1];exact f2
  .rw[<- p2,jL];refine km λi hi=>?_;obtain⟨f,f1,f2,f3,f4⟩:=getX i (of_decide_eq_true (p3 i hi));show(X.getD i f0).h=_;rw[f3,jB,f1];rfl
theorem zsX {X:List Fl}(hl:X.length<=5)(nd:(X.map Fl.h).Nodup)(hb:∀ f∈X,f.h<5):sortD (X.map fd)=Ga ((canon X).map fd) :=
 zrR fd (λ_ _ h=>zEc h) (λX=>by
   unfold okSort;rw[vG];right;rw[jF];intro d hd;obtain⟨f,_,rfl⟩:=jx.mp hd;rfl) hl nd hb
theorem zsY {X:List Fl}(hl:X.length<=5)(nd:(X.map Fl.h).Nodup)(hb:∀ f∈X,f.h<5):sortD (X.map λf=>.int (f.h:Int))=Ga ((canon X).map λf=>.int (f.h:Int)) :=
 zrR (λf=>.int (f.h:Int)) (λf g _=>by
   show Ga (decide ((f.h:Int)<(g.h:Int)))=_;refine congrArg Ga ?_;rw[kA,decide_eq_true_eq,decide_eq_true_eq];omega) (λX=>by
   unfold okSort;rw[vG];left;rw[jF];intro d hd;obtain⟨f,_,rfl⟩:=jx.mp hd;rfl) hl nd hb
abbrev rdE (ns:List D)(E:Fs):D:=rd ns (flE ns.length E)
theorem zyN (ns:List D)(fs:List Fl):dIx (rd ns fs) (.int 0)=Ga (.tuple ns):=rfl
theorem zyO (ns:List D)(fs:List Fl):dIx (rd ns fs) (.int 1)=Ga (.tuple (fs.map fd)):=rfl
theorem zyP (f:Fl):dIx (fd f) (.int 0)=Ga (.int f.h):=rfl
theorem zj4 (f:Fl):dIx (fd f) (.int 1)=Ga (.int f.a):=rfl
theorem zyQ (f:Fl):dIx (fd f) (.int 2)=Ga (.int f.m):=rfl
theorem zrS (n:Nat)(E:Fs):cntE n E<=n:=by unfold cntE;exact jn (j6 _ _) (by rw[jG];exact jk _)
theorem zp6 {n:Nat}(E:Fs)(h5:n<=5):((flE n E).map fd).length<=1000000:=by rw[jb,zf1];have:=zrS n E;omega
theorem zeR {α:Type}{fc:FB}{fe:FV}{base:En}(f:α->D)(p:α->Bool)(F:α->D):∀ {l:List α},(∀ a∈l,fc (.val (f a)::base)=Ga (p a))->(∀ a∈l,p a=true->fe (.val (f a)::base)=Ga (F a))->compD fc fe base (l.map f)=Ga ((l.filter p).map F)
 | [],_,_=>rfl
 | x::r,h1,h2=>by
  have ih:=zeR (fc:=fc) (fe:=fe) (base:=base) f p F (l:=r) (λa ha=>h1 a (je _ ha)) (λa ha=>h2 a (je _ ha));rw[jQ];unfold compD;rw[h1 x jg,jr];cases c:p x with
  | true=>rw[Ge rfl,h2 x jg c,jr,ih,jU c];rfl
  | false=>rw[Gf jy,ih,kj (by rw[c];exact jy)]
theorem zeS {α:Type}{fe:FV}{base:En}(f:α->D)(F:α->D){l:List α}(h2:∀ a∈l,fe (.val (f a)::base)=Ga (F a)):compD (λ_=>Ga true) fe base (l.map f)=Ga (l.map F):=by
 rw[zeR (fc:=λ_=>Ga true) f (λ_=>true) F (λ_ _=>rfl) (λa ha _=>h2 a ha)];rw[List.filter_eq_self.mpr (λ_ _=>rfl)]
theorem zyR (a b:Nat):decide (¬(a:Int)=(b:Int))=!(a==b):=by
 by_cases c:a=b
 .subst c;rw[beq_self_eq_true,Gd (λz=>z rfl)];rfl
 .rw[beq_eq_false_iff_ne.mpr c,Gc (by omega)];rfl
theorem zCW (a b:Nat):decide ((a:Int)=(b:Int))=(a==b):=by
 by_cases c:a=b
 .subst c;rw[beq_self_eq_true,Gc rfl]
 .rw[beq_eq_false_iff_ne.mpr c,Gd (by omega)]
theorem zkX (ns:List D)(E:Fs)(h:Nat)(h5:ns.length<=5):zbB [rdE ns E,.int h]=Ga (rdE ns (updE E h Gb)):=by
 have cp:compD (zaQ dNe (binN dIx (gv 0) (cstN (.int 0))) (gv 1)) (gv 0) [.val (.int (h:Int))] ((flE ns.length E).map fd)=Ga ((flE ns.length (updE E h Gb)).map fd):=by
  rw[<- zq3];refine zeR fd (λf=>!(f.h==h)) fd (λf _=>?_) λf _ _=>rfl;simp_arith[zyP,zyR]
 rw[zkP];unfold zeK;simp_arith[zyN,zyO,zbN,Ge (zp6 E h5),cp];rfl
theorem zq5 {xs ys:List D}(h:xs.length+ys.length<=1000):dAdd (.tuple xs) (.tuple ys)=Ga (.tuple (xs++ys)):=by
 show(if xs.length+ys.length<=sizeLine then _ else _)=_;rw[Ge (jn h (by rw[sizeLine_eq];decide))]
theorem zq6 (ns:List D)(E:Fs)(h:Nat)(a:Int)(m:Nat)(h5:ns.length<=5)(hh:h<ns.length):zbO [rdE ns E,.int h,.int a,.int m]=Ga (rdE ns (updE E h (Ga (a,m)))):=by
 have hw:=zkX ns E h h5;have hl:(flE ns.length (updE E h Gb)).length+1<=5:=by
  rw[zf1];have:cntE ns.length (updE E h Gb)+1<=cntE ns.length (updE E h (Ga (a,m))):=zyI hh (λi hi=>by
   by_cases e:i=h
   .subst e;rw[zaM];rfl
   .rw[zaP e] at hi ⊢;exact hi) (by rw[zaM];rfl) zaM
  have:=zrS ns.length (updE E h (Ga (a,m)));omega
 have ad:dAdd (.tuple ((flE ns.length (updE E h Gb)).map fd)) (.tuple [.tuple [.int (h:Int),.int a,.int (m:Int)]])=Ga (.tuple ((flE ns.length (updE E h Gb)++[(⟨h,a,m⟩:Fl)]).map fd)):=by
  rw[zq5 (by rw[jb,jV];omega),jO];rfl
 have st:sortD ((flE ns.length (updE E h Gb)++[(⟨h,a,m⟩:Fl)]).map fd)=Ga ((flE ns.length (updE E h (Ga (a,m)))).map fd):=by
  rw[zsX,zsW h5 hh]
  .rw[jh,jV];exact hl
  .rw[jO,uU];refine⟨zuY _ _,ka.mpr ⟨kK,vw⟩,λx hx y hy=>?_⟩;rw[jv.mp hy];intro z;obtain⟨f,hf,e⟩:=jx.mp hx;have:=(zc2.mp hf).2;rw[show f.h=h from e.trans z,zaM] at this;cases this
  .intro f hf;rcases jM.mp hf with z|z
   .have:=(zc2.mp z).1;omega
   .rw[jv.mp z];show h<5;omega
 rw[zm8];unfold zgU;simp_arith[hw,zyN,zyO,ad,st];rfl
theorem zAQ:∀ (m:Fin 32) (b:Fin 5),vk (m.val:Int) (2^b.val)=((togN m.val b.val:Nat):Int):=by decide +kernel
theorem zu3 (R R2:D)(h to a m T B:Int)(hf:zaZ [R,.int h]=Ga (.tuple [.int h,.int a,.int m]))(hb:zcL [.int to]=Ga (.int B))(hx:vk m B=T)(hw:zbO [R,.int h,.int a,.int T]=Ga R2):zaI [R,.int h,.int to]=Ga R2:=by
 rw[zhK];unfold zcY;simp_arith[hf,hb,hx,hw]
theorem zp7 (ns:List D)(E:Fs)(h to:Nat)(a:Int)(m:Nat)(h5:ns.length<=5)(hh:h<ns.length)(ht:to<5)(hm:m<32)(e:E h=Ga (a,m)):zaI [rdE ns E,.int h,.int to]=Ga (rdE ns (turnE E h to)):=by
 have hf:zaZ [rdE ns E,.int h]=Ga (.tuple [.int (h:Int),.int a,.int (m:Int)]):=by
  rw[ziJ];unfold fofD;rw[zkV hh,e];rfl
 have hb:zcL [.int (to:Int)]=Ga (.int (2^to)):=by rw[zmL _ (by omega) (by omega)];rfl
 have et:turnE E h to=updE E h (Ga (a,togN m to)):=by unfold turnE;rw[e]
 rw[et];exact zu3 _ _ _ _ _ _ _ _ hf hb (zAQ ⟨m,hm⟩ ⟨to,ht⟩) (zq6 ns E h a (togN m to) h5 hh)
theorem zu4 (ns:List D)(E:Fs)(h at_:Nat)(h5:ns.length<=5):∃ U:List D,zaR [rdE ns E,.int (at_:Int)]=Ga U/\U.length<=5/\compD (zaQ dNe (gv 0) (gv 1)) (gv 0) [.val (.int (h:Int))] U=Ga ((othE ns.length E h at_).map λ(i:Nat)=>.int (i:Int)):=by
 refine⟨_,zuT ns _ _ h5,?_,?_⟩
 .rw[jb];exact jn (j6 _ _) (by rw[jG];exact h5)
 .rw[zeR (λ(i:Nat)=>jc (i:Int)) (λi=>!(i==h)) (λ(i:Nat)=>jc (i:Int)) (λi _=>by simp_arith[zyR]) (λi _ _=>rfl)];refine congrArg Ga (congrArg _ ?_);unfold othE;rw[Jb];refine kw λi hi=>?_;rw[zrO (jp.mp hi),Bool.and_comm]
theorem zxI (l:List Nat)(hl:∀ i∈l,i<5):zcK [.list (l.map λ(i:Nat)=>.int (i:Int))]=Ga (.int (zbF l:Nat)):=by
 have e:=znU (l.map λ(i:Nat)=>(i:Int)) (λh hh=>by
  obtain⟨i,hi,rfl⟩:=jx.mp hh;have:=hl i hi;omega)
 rw[jL] at e;have c:∀ k:Nat,(l.map λ(i:Nat)=>(i:Int)).contains (k:Int)=l.contains k:=λk=>by
  rw[kA,ju,ju];constructor
  .intro z;obtain⟨i,hi,e⟩:=jx.mp z;have:i=k:=by omega
   rw[<- this];exact hi
  .exact λz=>u8 z
 rw[show(l.map λ(i:Nat)=>(i:Int)).contains 0=l.contains 0 from c 0,show(l.map λ(i:Nat)=>(i:Int)).contains 1=l.contains 1 from c 1,show(l.map λ(i:Nat)=>(i:Int)).contains 2=l.contains 2 from c 2,show(l.map λ(i:Nat)=>(i:Int)).contains 3=l.contains 3 from c 3,show(l.map λ(i:Nat)=>(i:Int)).contains 4=l.contains 4 from c 4] at e;refine Eq.trans e (congrArg (λx=>Ga (jc x)) ?_);unfold zbF;have key:∀ b0 b1 b2 b3 b4:Bool,mB b0 b1 b2 b3 b4=((mN b0 b1 b2 b3 b4:Nat):Int):=by decide
 exact key _ _ _ _ _
theorem zhF (xs:List D):dSl (.list xs) (Ga 1) Gb=Ga (.list xs.tail):=by
 show Ga (vj (cutD xs (Ga 1) Gb))=_;refine congrArg (λl=>Ga (vj l)) ?_;unfold cutD;rw[HT.sIx_none,show(Ga (1:Int))=Ga ((1:Nat):Int) from rfl,HT.sIx_nat];cases xs with
 | nil=>rfl
 | cons x r =>
  rw[jJ,qB (by omega),List.drop_one,qP];exact qw (by omega)
theorem zfF {p:List D}{l:D}(h:p.getLast?=Ga l):L2.atI p (-1)=Ga l:=by
 obtain⟨q,rfl⟩:∃ q,p=q++[l]:=List.getLast?_eq_some_iff.mp h;exact L2.atI_last q l
theorem znX (H:List D->Option (List D))(r1 r2 h a k:D)(p q:List D)(h1:H [r1,h,a,k]=Ga p)(h2:H [r2,h,a,k]=Ga q)(hl:p.length+q.length<=1000000):outV (zcI H [.val r1,.val r2,.val h,.val a,.val k])=Ga (.list (p++q.reverse)):=by
 have ad:dAdd (.list p) (.list q.reverse)=Ga (.list (p++q.reverse)):=by
  show(if p.length+q.reverse.length<=sizeLine then _ else _)=_;rw[Ge (jn (by rw[kD];exact hl) (by rw[sizeLine_eq];decide))]
 unfold zcI;simp_arith[h1,h2,ad]
theorem zsZ (H:List D->Option (List D))(C:List D->Option D)(R h:D)(a k:Int)(ha:k<a):outO (zf6 H C [.val R,.val h,.val (.int a),.val (.int k),.no,.no,.no,.no,.no])=Ga [R]:=by
 unfold zf6;simp_arith[Gc ha]
theorem zu5 (H:List D->Option (List D))(C:List D->Option D)(R:D)(h a k mk:Int)(ha:¬k<a)(U:List D)(O:List Nat)(hU:zaR [R,.int a]=Ga U)(hUl:U.length<=1000000)(hO:compD (zaQ dNe (gv 0) (gv 1)) (gv 0) [.val (.int h)] U=Ga (O.map λ(i:Nat)=>.int (i:Int)))
  (P0:List D) (h0:H [R,.int h,.int (a+1),.int k]=Ga P0) (hl0:P0.length<1000000) (hm:zcK [.list (O.map λ(i:Nat)=>.int (i:Int))]=Ga (.int mk)) (R1:D) (hw:zbO [R,.int h,.int a,.int mk]=Ga R1)
  (W:List Nat->List D) (hW:W []=P0++[R1]) (hS:∀ (pre:List Nat) (o:Nat) (suf:List Nat),O=pre++o::suf->∃ l f q,(W pre).getLast?=Ga l/\zaI [l,.int h,.int (o:Int)]=Ga f/\C [l,f,.int (o:Int),.int (a+1),.int k]=Ga (.list q)/\W (pre++[o])=W pre++q.tail/\(W pre).length+q.tail.length<=1000000) :
  outO (zf6 H C [.val R,.val (.int h),.val (.int a),.val (.int k),.no,.no,.no,.no,.no])=Ga (W O):=by
 unfold zf6;simp_arith[Gd ha,hU,zbN,Ge hUl,hO,h0,hm,hw,Ge hl0];refine(congrArg outO (zpO (R:=Ga (.ro (W O))) (λ(i:Nat)=>jc (i:Int)) (λpre ψ=>∃ x4 x7 x8,ψ=[.val R,.val (.int h),.val (.int a),.val (.int k),x4,.val (.list (O.map λ(i:Nat)=>.int (i:Int))),.own (W pre),x7,x8]) O ⟨_,_,_,by rw[hW]⟩ ?_ ?_)).trans rfl
 .rintro pre o suf e _ ⟨x4,x7,x8,rfl⟩;obtain⟨l,f,q,q1,q2,q3,q4,q5⟩:=hS pre o suf e;rw[q4];have q1:=zfF q1;have q6:extL (W pre) q.tail=Ga (W pre++q.tail):=by unfold extL;rw[Ge q5]
  generalize W pre=p at q1 q6;simp_arith[q1,q2,q3,zhF,q6];exact zbV ⟨_,_,_,rfl⟩
 .rintro _ ⟨x4,x7,x8,rfl⟩;simp_arith[]
theorem zoZ:∀ d,d<=3->hLen d<=456
 | 0,_=>by decide
 | 1,_=>by decide
 | 2,_=>by decide
 | 3,_=>by decide
theorem zj5 (ns:List D)(h2:2<=ns.length)(h5:ns.length<=5)(k:Nat):∀ (d N:Nat) (E:Fs) (h:Nat),d<N->d<=k->h<ns.length->E h=Gb->Ok ns.length E (k+1-d)->cntE ns.length E+d+2<=ns.length ->
  zaV N [rdE ns E,.int (h:Int),.int ((k+1-d:Nat):Int),.int (k:Int)]=Ga ((hushP ns.length k d E h).map (rdE ns))
 | _,0,_,_,hN,_,_,_,_,_=>by omega
 | 0,N+1,E,h,_,_,_,_,_,_=>by
  rw[zmF];exact zsZ _ _ _ _ _ _ (by omega)
 | d+1,N+1,E,h,hN,hk,hh,e0,ho,hc=>by
  have ea:k+1-(d+1)=k-d:=by omega
  rw[ea] at ho ⊢;have IH:=zj5 ns h2 h5 k d N;have eb:((k-d:Nat):Int)+1=((k+1-d:Nat):Int):=by omega
  have hl:=zoZ d (by omega);have PR:=zxG (ns:=λi=>ns.getD i .none) h2 h5 hk hh e0 ho hc;obtain⟨U,u1,u2,u3⟩:=zu4 ns E h (k-d) h5;have othM:∀ i,i∈othE ns.length E h (k-d)->i<ns.length/\i≠h/\E i=Gb:=λi hi=>by
   obtain⟨x1,x2⟩:=jD.mp hi;rw[jI,uh,beq_eq_false_iff_ne] at x2;exact⟨jp.mp x1,x2.2,zmP ho x2.1⟩
  have okG:∀ m,m<2^ns.length->bt m h=false->Ok ns.length (updE E h (Ga (((k-d:Nat):Int),m))) (k+1-d):=λm h1 h2=>(ho.upd hh (by omega) (kQ _) h1 h2).mono (by omega);have cntG:∀ m,cntE ns.length (updE E h (Ga (((k-d:Nat):Int),m)))<=cntE ns.length E+1:=λm=>ziK _;have HO:=λF o a b c e=>(zhE (ns:=λi=>ns.getD i .none) (k:=k) h2 h5 d F o (by omega) a b c e).2;rw[zmF];have l4:(othE ns.length E h (k-d)).length<=5:=by unfold othE;exact jn (j6 _ _) (by rw[jG];exact h5)
  refine zu5 (zaV N) (zaD N) (rdE ns E) h ((k-d:Nat):Int) k _ (by omega) U (othE ns.length E h (k-d)) u1 (by omega) u3 _ (by rw[eb];exact IH E h (by omega) (by omega) hh e0 (ho.mono (by omega)) (by omega)) ?_ (zxI _ λi hi=>by have:=(othM i hi).1;omega) _ (zq6 ns E h _ _ h5 hh)
   (λpre=>(pre.foldl (hushS (hushP ns.length k d) E h) (hushP ns.length k d E h++[updE E h (Ga (((k-d:Nat):Int),zbF (othE ns.length E h (k-d))))])).map (rdE ns)) (by rw[uf,jO];rfl) ?_
  .rw[jb];have:=HO E h hh e0 (ho.mono (by omega)) (by omega);omega
  .intro pre o suf e;obtain⟨P,pl⟩:=PR pre (o::suf) e;generalize eP:pre.foldl (hushS (hushP ns.length k d) E h) (hushP ns.length k d E h++[updE E h (Ga (((k-d:Nat):Int),zbF (othE ns.length E h (k-d))))])=p at P pl;have hl':∀ i∈o::suf,i<ns.length/\i≠h/\E i=Gb:=λi hi=>othM i (by rw[e];exact jS _ hi);obtain⟨o1,o2,o3⟩:=hl' o jg;have nd:(o::suf).Nodup:=by
    have ndO:(othE ns.length E h (k-d)).Nodup:=kU (kE) ud;rw[e] at ndO;exact(uU.mp ndO).2.1
   have bb:∀ l:List Nat,(∀ i∈l,i≠h)->bt (zbF l) h=false:=λl hl=>by
    rw[zhC _ h (by omega),<- jZ,ju];exact λz=>hl h z rfl
   have m1:zbF (o::suf)<2^ns.length:=zkU h2 h5 _ λi hi=>(hl' i hi).1;have m2:zbF suf<2^ns.length:=zkU h2 h5 _ λi hi=>(hl' i (je _ hi)).1;have b1:=bb (o::suf) λi hi=>(hl' i hi).2.1;have b2:=bb suf λi hi=>(hl' i (je _ hi)).2.1;have et:turnE (updE E h (Ga (((k-d:Nat):Int),zbF (o::suf)))) h o=updE E h (Ga (((k-d:Nat):Int),zbF suf)):=by
    unfold turnE;rw[zaM];show updE _ h (Ga (_,togN (zbF (o::suf)) o))=_;rw[zj3,zrL (by omega) (ka.mp nd).1]
   have c1:=cntG (zbF (o::suf));have c2:=cntG (zbF suf);have n1:updE E h (Ga (((k-d:Nat):Int),zbF (o::suf))) o=Gb:=by rw[zaP o2];exact o3
   have n2:updE E h (Ga (((k-d:Nat):Int),zbF suf)) o=Gb:=by rw[zaP o2];exact o3
   have l1:=HO _ o o1 n1 (okG _ m1 b1) (by omega);have l2:=HO _ o o1 n2 (okG _ m2 b2) (by omega);have i1:=IH _ o (by omega) (by omega) o1 n1 (okG _ m1 b1) (by omega);have i2:=IH _ o (by omega) (by omega) o1 n2 (okG _ m2 b2) (by omega);have pw:2^ns.length<=32:=uC (by omega) h5 (n:=2);refine⟨rdE ns (updE E h (Ga (((k-d:Nat):Int),zbF (o::suf)))),rdE ns (updE E h (Ga (((k-d:Nat):Int),zbF suf))),
    (hushP ns.length k d (updE E h (Ga (((k-d:Nat):Int),zbF (o::suf)))) o).map (rdE ns)++((hushP ns.length k d (updE E h (Ga (((k-d:Nat):Int),zbF suf))) o).map (rdE ns)).reverse,?_,?_,?_,?_,?_⟩
   .rw[kf,P.lst];rfl
   .rw[<- et];exact zp7 ns _ h o _ _ h5 hh (by omega) (by omega) zaM
   .rw[zdA,eb];exact znX _ _ _ _ _ _ _ _ i1 i2 (by rw[jb,jb];omega)
   .rw[uE,k7,uf,eP];unfold hushS;rw[zeD P.lst,et,jO,ue,jO,qh]
   .rw[jb,ko,jh,kD,jb,jb];have pl5:pre.length<=5:=by rw[e,jh] at l4;omega
    have:pre.length*(2*hLen d-1)<=5*(2*hLen d-1):=uD _ pl5;omega
theorem zs0 (i:Int){j:Int}(h1:-(2^64)<j)(h2:j<2^64):dMul (.int i) (.int j)=Ga (.int (i*j)):=zBx (by unfold cMul;rw[Gc h1,Gc h2];exact Jl _)
theorem zyS {i:Int}(j:Int)(h1:-(2^64)<i)(h2:i<2^64):dMul (.int i) (.int j)=Ga (.int (i*j)):=zBx (by unfold cMul;rw[Gc h1,Gc h2];rfl)
def kvX (g:Fl->D)(X:List Fl):List (Int×D):=X.map λf=>((f.h:Int),g f)
theorem zu6 (g:Fl->D)(h:Nat):∀ X:List Fl,atK (kvX g X) (h:Int)=(fof X h).map g
 | []=>rfl
 | f::X=>by
  have ih:=zu6 g h X;unfold atK kvX fof at ih ⊢;rw[jQ];by_cases c:f.h=h
  .rw[kL (p:=λ(p:Int×D)=>decide (p.1=(h:Int))) (Gc (by show((f.h:Nat):Int)=_;rw[c])),kL (p:=λ(f:Fl)=>f.h==h) (by rw[beq_iff_eq];exact c)];rfl
  .rw[kz (p:=λ(p:Int×D)=>decide (p.1=(h:Int))) (by rw[decide_eq_true_eq];intro z;exact c (by have z:((f.h:Nat):Int)=(h:Int):=z;omega)),kz (p:=λ(f:Fl)=>f.h==h) (by rw[beq_iff_eq];exact c)];exact ih
def putF (X:List Fl)(f:Fl):List Fl:=if (X.any λx=>x.h==f.h)=true then X.map (λx=>if x.h=f.h then f else x) else X++[f]
theorem zxJ (g:Fl->D)(X:List Fl)(f:Fl):putD (kvX g X) (f.h:Int) (g f)=kvX g (putF X f):=by
 unfold putD putF;have e:((kvX g X).any λkv=>decide (kv.1=(f.h:Int)))=X.any λx=>x.h==f.h:=by
  unfold kvX;rw[List.any_map]
  congr 1
  funext x
  show decide ((x.h:Int)=(f.h:Int))=_;rw[zCW]
 rw[e];split
 .unfold kvX;rw[jL,jL];refine km λx hx=>?_;show(if (x.h:Int)=(f.h:Int) then((x.h:Int),g f) else((x.h:Int),g x))=(((if x.h=f.h then f else x).h:Int),g (if x.h=f.h then f else x));by_cases c:x.h=f.h
  .rw[Ge c,Ge (by rw[c]),c]
  .rw[Gf c,Gf (by omega)]
 .unfold kvX;rw[jO];rfl
theorem zxK {X:List Fl}{f x:Fl}(h:x∈putF X f):x=f\/x∈X:=by
 unfold putF at h;split at h
 .obtain⟨y,hy,e⟩:=jx.mp h;split at e
  .exact .inl e.symm
  .subst e;exact .inr hy
 .rcases jM.mp h with z|z
  .exact .inr z
  .exact .inl (jv.mp z)
theorem zxL (X:List Fl)(f:Fl):(putF X f).length<=X.length+1:=by
 unfold putF;split
 .rw[jb];omega
 .rw[jh];exact jk _
theorem zAR {X:List Fl}{f:Fl}(nd:(X.map Fl.h).Nodup):((putF X f).map Fl.h).Nodup:=by
 unfold putF;split
 .rw[jL,show(X.map (Fl.h∘λx=>if x.h=f.h then f else x))=X.map Fl.h from km λx _=>by
   show(if x.h=f.h then f else x).h=x.h;split
   .rename_i c;exact c.symm
   .rfl]
  exact nd
 .rename_i c;rw[jO,uU];refine⟨nd,ka.mpr ⟨kK,vw⟩,λa ha b hb=>?_⟩;intro e;apply c;obtain⟨x,hx,rfl⟩:=jx.mp ha;rw[jQ,qk,jv] at hb;rw[Jr];exact⟨x,hx,by rw[beq_iff_eq,e,hb]⟩
def tab (X:List Fl):Fs:=λi=>(fof X i).map λf=>(f.a,f.m)
theorem zp8 {n N:Nat}(h:n<=N)(p:Nat->Bool)(hp:∀ i,n<=i->p i=false):(jf N).filter p=(jf n).filter p:=by
 obtain⟨k,rfl⟩:=Nat.exists_eq_add_of_le h;rw[List.range_add,kH];have:((jf k).map λx=>n+x).filter p=[]:=by
  rw[ur];intro a ha;obtain⟨i,_,rfl⟩:=jx.mp ha;rw[hp _ (by omega)];exact jy
 rw[this,j7]
theorem zxM {X:List Fl}{h:Nat}{f:Fl}(e:fof X h=Ga f):f.h=h/\f∈X:=by
 unfold fof at e;exact⟨by have:=Jw e;rw[beq_iff_eq] at this;exact this,vV e⟩
theorem zu7 {X:List Fl}{n:Nat}(h5:n<=5)(nd:(X.map Fl.h).Nodup)(hb:∀ f∈X,f.h<n):canon X=flE n (tab X):=by
 refine(ziD nd (λy hy=>?_) ?_).symm
 .obtain⟨_,e⟩:=zc2.mp hy;unfold tab at e;cases ef:fof X y.h with
  | none=>rw[ef] at e;cases e
  | some g =>
   rw[ef] at e;obtain⟨g1,g2⟩:=zxM ef;have:y=g:=by
    cases y;cases g;cases e;cases g1;rfl
   rw[this];exact g2
 .rw[zp3];have ec:(λi=>(tab X i).isSome)=λi=>(X.map Fl.h).contains i:=by
   funext i
   unfold tab;rw[Jf,kA,ju];unfold fof;rw[List.find?_isSome];constructor
   .rintro⟨x,hx,e⟩;rw[beq_iff_eq] at e;rw[<- e];exact u8 hx
   .intro z;obtain⟨x,hx,e⟩:=jx.mp z;exact⟨x,hx,by rw[beq_iff_eq];exact e⟩
  rw[ec,zp8 h5];intro i hi;rw[<- jZ,ju];intro z;obtain⟨x,hx,e⟩:=jx.mp z;have:=hb x hx;omega
theorem zxN (a k m1:Int)(h0:-(2^64)<k)(h1:k<2^64)(e1:(a*48271+k*k*7919)%2147483647=m1)(h2:-(2^64)<m1)(h3:m1<2^64):zbG [.int a,.int k]=Ga (.int (m1*m1%2147483629)):=by
 rw[znD];unfold zg6;simp_arith[zs0 a (show -(2^64)<(48271:Int) by decide) (by decide),zs0 k h0 h1,zs0 (k*k) (show -(2^64)<(7919:Int) by decide) (by decide),zgC (show(0:Int)<2147483647 by decide),zgC (show(0:Int)<2147483629 by decide),e1,zs0 m1 h2 h3]
theorem zxO (a:Int)(k:Nat)(hk:k<=1000):∃ M:Nat,M<2147483629/\zbG [.int a,.int k]=Ga (.int (M:Int)):=by
 have e:=zxN a k _ (by omega) (by omega) rfl (by omega) (by omega);generalize (a*48271+(k:Int)*k*7919)%2147483647=y at e;generalize y*y=z at e;refine⟨(z%2147483629).toNat,by omega,?_⟩;rw[e];refine congrArg (λx=>Ga (jc x)) ?_;omega
theorem zdY {n:Nat}(h:n<1000000):rng1 (.int (n:Int))=Ga ((jf n).map λ(k:Nat)=>.int (k:Int)):=by
 rw[zrD h];unfold rngD;simp
theorem pw5:∀ h:Fin 5,L2.atI [jc 1,.int 2,.int 4,.int 8,.int 16] (h.val:Int)=Ga (.int (2^h.val)):=by
 intro h
 match h with
 | ⟨0,_⟩=>rfl
 | ⟨1,_⟩=>rfl
 | ⟨2,_⟩=>rfl
 | ⟨3,_⟩=>rfl
 | ⟨4,_⟩=>rfl
theorem zCX:∀ h:Fin 5,(0:Int)<2^h.val/\(2:Int)^h.val<1073741824:=by decide
theorem ten59:∃ T:Int,(10:Int)^59=T/\0<2*T/\(10:Int)^60=10*T/\10<=T:=⟨10^59,rfl,by decide,by decide,by decide⟩
structure FI (n most last:Nat)(X:List Fl):Prop where
 nd:(X.map Fl.h).Nodup
 ln:X.length<=most
 ok:∀ f∈X,f.h<n/\1<=f.a/\f.a<=(last:Int)/\f.m<2^n/\bt f.m f.h=false
theorem FI.put {n most last:Nat}{X:List Fl}{f:Fl}(h:FI n most last X)(hl:X.length<most)(hf:f.h<n/\1<=f.a/\f.a<=(last:Int)/\f.m<2^n/\bt f.m f.h=false):FI n most last (putF X f) :=
 ⟨zAR h.nd,jn (zxL X f) hl,λx hx=>by rcases zxK hx with rfl|z;exact hf;exact h.ok x z⟩
theorem zAS:∀ (m:Fin 32) (h:Fin 5),∃ m':Nat,((m':Int)=if (m.val:Int)/2^h.val%2=1 then(m.val:Int)-2^h.val else(m.val:Int))/\m'<=m.val/\decide ((m':Int)/2^h.val%2=1)=false:=by
 intro m h;by_cases c:(m.val:Int)/2^h.val%2=1
 .have key:∀ (m:Fin 32) (h:Fin 5),(m.val:Int)/2^h.val%2=1->2^h.val<=m.val/\((m.val-2^h.val:Nat):Int)=(m.val:Int)-2^h.val/\decide (((m.val-2^h.val:Nat):Int)/2^h.val%2=1)=false:=by decide +kernel
  obtain⟨k1,k2,k3⟩:=key m h c;exact⟨m.val-2^h.val,by rw[Ge c];exact k2,Nat.sub_le _ _,k3⟩
 .exact⟨m.val,by rw[Gf c],jk _,Gd c⟩
theorem zs1 (mixed n most last whole number j hand r2:Int)(X:List Fl)(x7 x8 x9:Sl)(m':Nat)(h:Nat)(eh:(mixed+j)%n=(h:Int))(hn:0<n)(hl:0<last)(hl2:X.length<1000000)(hw:0<whole+1)(P:Int)(hP:L2.atI [jc 1,.int 2,.int 4,.int 8,.int 16] (h:Int)=Ga (.int P))(hP0:0<P)(hP1:P<1073741824)
  (hb0:-(2^64)<number) (hb1:number<2^64) (n2:Int) (en:(number*number+48271*number+7919)%2147483647=n2)
  (er:(if n2/4%4=0 then whole else n2/16%(whole+1))=r2) (em:(m':Int)=if r2/P%2=1 then r2-P else r2) :
  Goes (λψ=>∃ X',(X'=X\/((X.length:Int)<most/\X'=putF X ⟨h,1+n2/512%last,m'⟩))/\∃ x7 x8 x9,ψ=[.val (.int mixed),.val (.int n),.val (.int most),.val (.int last),.val (.int whole),.dki Gb (kvX fd X'),.val (.int n2),x7,x8,x9])
   ((tgNN 7 (.int j) [.val (.int mixed),.val (.int n),.val (.int most),.val (.int last),.val (.int whole),.dki Gb (kvX fd X),.val (.int number),x7,x8,x9]).bind (zaH (zaK 6 (binN dMod (binN dAdd (binN dAdd (binN dMul (gv 6) (gv 6)) (binN dMul (cstN (.int 48271)) (gv 6))) (cstN (.int 7919))) (cstN (.int 2147483647)))) (zaH (zaK 8 (binN dMod (binN dAdd (gv 0) (gv 7)) (gv 1))) (zaH (zaK 9 (binN dMod (binN dDiv (gv 6) (cstN (.int 16))) (binN dAdd (gv 4) (cstN (.int 1))))) (zaH (ifSN (zaQ dEq (binN dMod (binN dDiv (gv 6) (cstN (.int 4))) (cstN (.int 4))) (cstN (.int 0))) (zaK 9 (gv 4)) (nxSN)) (zaH (ifSN (zaQ dEq (binN dMod (binN dDiv (gv 9) (binN dIx (zbJ (zaA (cstN (.int 1)) (zaA (cstN (.int 2)) (zaA (cstN (.int 4)) (zaA (cstN (.int 8)) (zaA (cstN (.int 16)) (zaE))))))) (gv 8))) (cstN (.int 2))) (cstN (.int 1))) (zaK 9 (binN dSub (gv 9) (binN dIx (zbJ (zaA (cstN (.int 1)) (zaA (cstN (.int 2)) (zaA (cstN (.int 4)) (zaA (cstN (.int 8)) (zaA (cstN (.int 16)) (zaE))))))) (gv 8)))) (nxSN)) (ifSN (zeY (zaQ dGt (binN dMod (gv 6) (cstN (.int 4))) (cstN (.int 0))) (zaQ dLt (unN dLenI (gv 5)) (gv 2))) (setI 5 (gv 8) (zcU (zaA (gv 8) (zaA (binN dAdd (cstN (.int 1)) (binN dMod (binN dDiv (gv 6) (cstN (.int 512))) (gv 3))) (zaA (gv 9) (zaE)))))) (nxSN)))))))):=by
 have a1:dMul (.int number) (.int number)=Ga (.int (number*number)):=zs0 _ hb0 hb1;have a2:dMul (.int 48271) (.int number)=Ga (.int (48271*number)):=zyS _ (by decide) (by decide);have a3:∀ x:Int,dMod (.int x) (.int 2147483647)=Ga (.int (x%2147483647)):=λx=>zgC (by decide);have a4:dMod (.int (mixed+j)) (.int n)=Ga (.int (h:Int)):=by rw[<- eh];exact zgC hn
 have a5:∀ x:Int,dDiv (.int x) (.int 16)=Ga (.int (x/16)):=λx=>zkB (by decide) (by decide);have a6:∀ x:Int,dMod (.int x) (.int (whole+1))=Ga (.int (x%(whole+1))):=λx=>zgC hw;have a7:∀ x:Int,dDiv (.int x) (.int 4)=Ga (.int (x/4)):=λx=>zkB (by decide) (by decide);have a8:∀ x:Int,dMod (.int x) (.int 4)=Ga (.int (x%4)):=λx=>zgC (by decide);have a9:∀ x:Int,dDiv (.int x) (.int P)=Ga (.int (x/P)):=λx=>zkB hP0 hP1;have b1:∀ x:Int,dMod (.int x) (.int 2)=Ga (.int (x%2)):=λx=>zgC (by decide);have b2:∀ x:Int,dDiv (.int x) (.int 512)=Ga (.int (x/512)):=λx=>zkB (by decide) (by decide);have b3:∀ x:Int,dMod (.int x) (.int last)=Ga (.int (x%last)):=λx=>zgC hl;have kl:(kvX fd X).length=X.length:=by unfold kvX;rw[jb]
 have pd:putD (kvX fd X) (h:Int) (.tuple [.int (h:Int),.int (1+n2/512%last),.int (m':Int)])=kvX fd (putF X ⟨h,1+n2/512%last,m'⟩):=zxJ fd X ⟨h,1+n2/512%last,m'⟩;have kk:(kvX fd X).length<1000000:=by rw[kl];exact hl2
 by_cases c1:n2/4%4=0
 .rw[Ge c1] at er;subst er;by_cases c2:whole/P%2=1
  .rw[Ge c2] at em;rw[em] at pd;by_cases c3:0<n2%4
   .by_cases c4:(X.length:Int)<most
    .simp_arith[a1,a2,a3,en,a4,a5,a6,a7,a8,a9,b1,b2,b3,hP,Gc c1,Gc c2,Gc c3,Gc c4,kl,pd,Ge hl2,zc7];exact zbV ⟨_,.inr ⟨c4,rfl⟩,_,_,_,rfl⟩
    .simp_arith[a1,a2,a3,en,a4,a5,a6,a7,a8,a9,b1,b2,b3,hP,Gc c1,Gc c2,Gc c3,Gd c4,kl,pd,Ge hl2,zc7];exact zbV ⟨_,.inl rfl,_,_,_,rfl⟩
   .simp_arith[a1,a2,a3,en,a4,a5,a6,a7,a8,a9,b1,b2,b3,hP,Gc c1,Gc c2,Gd c3,kl,pd,Ge hl2,zc7];exact zbV ⟨_,.inl rfl,_,_,_,rfl⟩
  .rw[Gf c2] at em;rw[em] at pd;by_cases c3:0<n2%4
   .by_cases c4:(X.length:Int)<most
    .simp_arith[a1,a2,a3,en,a4,a5,a6,a7,a8,a9,b1,b2,b3,hP,Gc c1,Gd c2,Gc c3,Gc c4,kl,pd,Ge hl2,zc7];exact zbV ⟨_,.inr ⟨c4,rfl⟩,_,_,_,rfl⟩
    .simp_arith[a1,a2,a3,en,a4,a5,a6,a7,a8,a9,b1,b2,b3,hP,Gc c1,Gd c2,Gc c3,Gd c4,kl,pd,Ge hl2,zc7];exact zbV ⟨_,.inl rfl,_,_,_,rfl⟩
   .simp_arith[a1,a2,a3,en,a4,a5,a6,a7,a8,a9,b1,b2,b3,hP,Gc c1,Gd c2,Gd c3,kl,pd,Ge hl2,zc7];exact zbV ⟨_,.inl rfl,_,_,_,rfl⟩
 .rw[Gf c1] at er;subst er;by_cases c2:n2/16%(whole+1)/P%2=1
  .rw[Ge c2] at em;rw[em] at pd;by_cases c3:0<n2%4
   .by_cases c4:(X.length:Int)<most
    .simp_arith[a1,a2,a3,en,a4,a5,a6,a7,a8,a9,b1,b2,b3,hP,Gd c1,Gc c2,Gc c3,Gc c4,kl,pd,Ge hl2,zc7];exact zbV ⟨_,.inr ⟨c4,rfl⟩,_,_,_,rfl⟩
    .simp_arith[a1,a2,a3,en,a4,a5,a6,a7,a8,a9,b1,b2,b3,hP,Gd c1,Gc c2,Gc c3,Gd c4,kl,pd,Ge hl2,zc7];exact zbV ⟨_,.inl rfl,_,_,_,rfl⟩
   .simp_arith[a1,a2,a3,en,a4,a5,a6,a7,a8,a9,b1,b2,b3,hP,Gd c1,Gc c2,Gd c3,kl,pd,Ge hl2,zc7];exact zbV ⟨_,.inl rfl,_,_,_,rfl⟩
  .rw[Gf c2] at em;rw[em] at pd;by_cases c3:0<n2%4
   .by_cases c4:(X.length:Int)<most
    .simp_arith[a1,a2,a3,en,a4,a5,a6,a7,a8,a9,b1,b2,b3,hP,Gd c1,Gd c2,Gc c3,Gc c4,kl,pd,Ge hl2,zc7];exact zbV ⟨_,.inr ⟨c4,rfl⟩,_,_,_,rfl⟩
    .simp_arith[a1,a2,a3,en,a4,a5,a6,a7,a8,a9,b1,b2,b3,hP,Gd c1,Gd c2,Gc c3,Gd c4,kl,pd,Ge hl2,zc7];exact zbV ⟨_,.inl rfl,_,_,_,rfl⟩
   .simp_arith[a1,a2,a3,en,a4,a5,a6,a7,a8,a9,b1,b2,b3,hP,Gd c1,Gd c2,Gd c3,kl,pd,Ge hl2,zc7];exact zbV ⟨_,.inl rfl,_,_,_,rfl⟩
theorem zEd {t:FT}{g k:FS}{f:Nat->D}{ψ:En}(Q:Option Out->Prop)(n:Nat)(I:Nat->En->Prop)(h0:I 0 ψ)(st:∀ k,k<n->∀ ψ,I k ψ->Goes (I (k+1)) ((t (f k) ψ).bind g))(q:∀ e,I n e->Q (k e)):Q (thenD (forD t g ((jf n).map f) ψ) k):=by
 have G:=zoC I n st n 0 ψ (Nat.zero_add n) h0;rw[<- qO] at G;obtain⟨e,e1,e2⟩:=G;rw[e1];exact q e e2
theorem wh5:∀ n:Nat,2<=n->n<=5->L2.atI [jc 3,.int 7,.int 15,.int 31] ((n:Int)-2)=Ga (.int ((2^n-1:Nat):Int))
 | 2,_,_=>rfl
 | 3,_,_=>rfl
 | 4,_,_=>rfl
 | 5,_,_=>rfl
theorem zu8 (mixed n most last whole num:Int)(x7 x8 x9:Sl)(kv:List (Int×D))(ks ds:List D)(hs:sortD (kv.map λp=>.int p.1)=Ga ks)(hl:ks.length<=1000000)(hc:compD (λ_=>Ga true) (binN dIxI (gv 1) (gv 0)) [.val (diD kv)] ks=Ga ds) :
  outV (zAi 5 (zbS (unLN dTupL (compF (zc3 (zbJ (zrG (zhJ keysI (gv 5))))) (λ_=>Ga true) (binN dIxI (gv 1) (gv 0)) [5]))) [.val (.int mixed),.val (.int n),.val (.int most),.val (.int last),.val (.int whole),.dki Gb kv,.val (.int num),x7,x8,x9])=Ga (.tuple ds):=by
 simp_arith[zc7,hs,zbN,Ge hl,hc]
theorem zu9 (mixed n most last whole:Int)(N:Nat)(hw:L2.atI [jc 3,.int 7,.int 15,.int 31] (n-2)=Ga (.int whole))(hr:rng1 (.int n)=Ga ((jf N).map λ(k:Nat)=>.int (k:Int)))(I:List Fl->Int->Prop)(Q:D->Prop)(h0:I [] mixed)
  (st:∀ (k:Nat),k<N->∀ X num,I X num->∀ x7 x8 x9,Goes (λψ=>∃ X' n2,I X' n2/\∃ x7 x8 x9,ψ=[.val (.int mixed),.val (.int n),.val (.int most),.val (.int last),.val (.int whole),.dki Gb (kvX fd X'),.val (.int n2),x7,x8,x9])
   ((tgNN 7 (.int (k:Int)) [.val (.int mixed),.val (.int n),.val (.int most),.val (.int last),.val (.int whole),.dki Gb (kvX fd X),.val (.int num),x7,x8,x9]).bind (zaH (zaK 6 (binN dMod (binN dAdd (binN dAdd (binN dMul (gv 6) (gv 6)) (binN dMul (cstN (.int 48271)) (gv 6))) (cstN (.int 7919))) (cstN (.int 2147483647)))) (zaH (zaK 8 (binN dMod (binN dAdd (gv 0) (gv 7)) (gv 1))) (zaH (zaK 9 (binN dMod (binN dDiv (gv 6) (cstN (.int 16))) (binN dAdd (gv 4) (cstN (.int 1))))) (zaH (ifSN (zaQ dEq (binN dMod (binN dDiv (gv 6) (cstN (.int 4))) (cstN (.int 4))) (cstN (.int 0))) (zaK 9 (gv 4)) (nxSN)) (zaH (ifSN (zaQ dEq (binN dMod (binN dDiv (gv 9) (binN dIx (zbJ (zaA (cstN (.int 1)) (zaA (cstN (.int 2)) (zaA (cstN (.int 4)) (zaA (cstN (.int 8)) (zaA (cstN (.int 16)) (zaE))))))) (gv 8))) (cstN (.int 2))) (cstN (.int 1))) (zaK 9 (binN dSub (gv 9) (binN dIx (zbJ (zaA (cstN (.int 1)) (zaA (cstN (.int 2)) (zaA (cstN (.int 4)) (zaA (cstN (.int 8)) (zaA (cstN (.int 16)) (zaE))))))) (gv 8)))) (nxSN)) (ifSN (zeY (zaQ dGt (binN dMod (gv 6) (cstN (.int 4))) (cstN (.int 0))) (zaQ dLt (unN dLenI (gv 5)) (gv 2))) (setI 5 (gv 8) (zcU (zaA (gv 8) (zaA (binN dAdd (cstN (.int 1)) (binN dMod (binN dDiv (gv 6) (cstN (.int 512))) (gv 3))) (zaA (gv 9) (zaE)))))) (nxSN)))))))))
  (fin:∀ X num,I X num->∃ ks ds,sortD ((kvX fd X).map λp=>.int p.1)=Ga ks/\ks.length<=1000000/\compD (λ_=>Ga true) (binN dIxI (gv 1) (gv 0)) [.val (diD (kvX fd X))] ks=Ga ds/\Q (.tuple ds)) :
  ∃ d,za5 [.int mixed,.int n,.int most,.int last]=Ga d/\Q d:=by
 rw[znE];unfold zg7;simp_arith[hw,hr];refine zEd (λo=>∃ d,outV o=Ga d/\Q d) N (λk ψ=>∃ X num,I X num/\∃ x7 x8 x9,ψ=[.val (.int mixed),.val (.int n),.val (.int most),.val (.int last),.val (.int whole),.dki Gb (kvX fd X),.val (.int num),x7,x8,x9]) ⟨[],_,h0,_,_,_,rfl⟩ ?_ ?_
 .rintro k hk _ ⟨X,num,F,x7,x8,x9,rfl⟩;exact st k hk X num F x7 x8 x9
 .rintro _ ⟨X,num,F,x7,x8,x9,rfl⟩;obtain⟨ks,ds,f1,f2,f3,f4⟩:=fin X num F;exact⟨_,zu8 _ _ _ _ _ _ x7 x8 x9 _ _ _ f1 f2 f3,f4⟩
theorem zCY (kv:List (Int×D))(h:Int)(v:D)(e:atK kv h=Ga v):(binN dIxI (gv 1) (gv 0)) [.val (.int h),.val (diD kv)]=Ga v:=by
 simp_arith[zc7,e]
theorem zyT {α:Type}[BEq α][LawfulBEq α]:∀ {l m:List α},l.Nodup->(∀ i∈l,i∈m)->l.length<=m.length
 | [],_,_,_=>j8 _
 | x::l,m,nd,h=>by
  obtain⟨n1,n2⟩:=ka.mp nd;have hx:x∈m:=h x jg;have:=zyT (m:=m.erase x) n2 λi hi=>(List.mem_erase_of_ne (λe=>n1 (by rw[<- e];exact hi))).mpr (h i (je _ hi));rw[v8 hx] at this;have:=vt hx;rw[jJ];omega
theorem zxP (mixed n most last:Nat)(hm:mixed<2^62)(h2:2<=n)(h5:n<=5)(hl:1<=last)(hmo:most<=5):∃ X,FI n most last X/\za5 [.int (mixed:Int),.int (n:Int),.int (most:Int),.int (last:Int)]=Ga (.tuple ((flE n (tab X)).map fd)):=by
 have hw:=wh5 n h2 h5;have hr:=zdY (n:=n) (by omega);have pw:2^n<=32:=uC (by omega) h5 (n:=2);have pw0:1<=2^n:=Nat.one_le_two_pow;have key:∃ d,za5 [.int (mixed:Int),.int (n:Int),.int (most:Int),.int (last:Int)]=Ga d/\∃ X,FI n most last X/\d=jT ((flE n (tab X)).map fd):=by
  refine zu9 (mixed:Int) (n:Int) (most:Int) (last:Int) ((2^n-1:Nat):Int) n hw hr (λX num=>FI n most last X/\-(2^64)<num/\num<2^64) (λd=>∃ X,FI n most last X/\d=jT ((flE n (tab X)).map fd)) ⟨⟨vw,j8 _,λf hf=>absurd hf kK⟩,by omega,by omega⟩ ?_ ?_
  .rintro k hk X num ⟨F,n1,n2⟩ x7 x8 x9;obtain⟨h,eh⟩:∃ h:Nat,((mixed:Int)+(k:Int))%(n:Int)=(h:Int):=⟨(((mixed:Int)+(k:Int))%(n:Int)).toNat,by have:=kT ((mixed:Int)+(k:Int)) (show(n:Int)≠0 by omega);omega⟩;have hh:h<n:=by have:=kJ ((mixed:Int)+(k:Int)) (show(0:Int)<n by omega);omega
   have hp:=zCX ⟨h,by omega⟩;obtain⟨m2,e2⟩:∃ m2:Int,(num*num+48271*num+7919)%2147483647=m2:=⟨_,rfl⟩;have m20:0<=m2:=by rw[<- e2];exact kT _ (by decide)
   have m21:m2<2147483647:=by rw[<- e2];exact kJ _ (by decide)
   obtain⟨r2,er⟩:∃ r2:Nat,(if m2/4%4=0 then((2^n-1:Nat):Int) else m2/16%(((2^n-1:Nat):Int)+1))=(r2:Int)/\r2<2^n:=by
    split
    .exact⟨2^n-1,rfl,by omega⟩
    .have a:=kT (m2/16) (show((2^n-1:Nat):Int)+1≠0 by omega);have b:=kJ (m2/16) (show(0:Int)<((2^n-1:Nat):Int)+1 by omega);generalize m2/16%(((2^n-1:Nat):Int)+1)=z at a b;exact⟨z.toNat,by omega,by omega⟩
   obtain⟨m',o1,o2,o3⟩:=zAS ⟨r2,by omega⟩ ⟨h,by omega⟩;have ST:=zs1 (mixed:Int) (n:Int) (most:Int) (last:Int) ((2^n-1:Nat):Int) num (k:Int) 0 (r2:Int) X x7 x8 x9 m' h eh (by omega) (by omega) (by have:=F.ln;omega) (by omega) _ (pw5 ⟨h,by omega⟩) hp.1 hp.2 n1 n2 m2 e2 er.1 o1;refine zpN ST ?_;rintro _ ⟨X',hX,y7,y8,y9,rfl⟩;refine⟨X',m2,⟨?_,by omega,by omega⟩,_,_,_,rfl⟩;rcases hX with rfl|⟨hlt,rfl⟩
   .exact F
   .refine F.put (by omega) ⟨hh,?_,?_,?_,o3⟩
    .have:=kT (m2/512) (show(last:Int)≠0 by omega);show 1<=1+m2/512%(last:Int);omega
    .have:=kJ (m2/512) (show(0:Int)<last by omega);show 1+m2/512%(last:Int)<=last;omega
    .have:m'<=r2:=o2;have:=er.2;show m'<_;omega
  .rintro X num ⟨F,n1,n2⟩;have hb:∀ f∈X,f.h<n:=λf hf=>(F.ok f hf).1;have l5:X.length<=5:=jn F.ln hmo;have e1:(kvX fd X).map (λp=>jc p.1)=X.map λf=>.int (f.h:Int):=by unfold kvX;rw[jL];rfl
   have sr:=zsY l5 F.nd (λf hf=>by have:=hb f hf;omega);rw[<- e1,zu7 h5 F.nd hb] at sr;refine⟨_,_,sr,?_,?_,X,F,rfl⟩
   .rw[jb,zf1];have:=zrS n (tab X);omega
   .refine zeS (λf=>jc (Fl.h f:Int)) fd λf hf=>?_;obtain⟨_,ef⟩:=zc2.mp hf;have at1:atK (kvX fd X) (f.h:Int)=Ga (fd f):=by
     rw[zu6];unfold tab at ef;cases z:fof X f.h with
     | none=>rw[z] at ef;cases ef
     | some g =>
      rw[z] at ef;obtain⟨g1,_⟩:=zxM z;have:g=f:=by cases f;cases g;cases ef;cases g1;rfl
      rw[this];rfl
    exact zCY _ _ _ at1
 obtain⟨d,d1,X,d2,d3⟩:=key;exact⟨X,d2,by rw[d1,d3]⟩
theorem zCZ {n most last:Nat}{X:List Fl}(F:FI n most last X):Ok n (tab X) last/\cntE n (tab X)<=X.length:=by
 have mem:∀ i a m,tab X i=Ga (a,m)->∃ f∈X,f.h=i/\f.a=a/\f.m=m:=λi a m e=>by
  unfold tab at e;cases z:fof X i with
  | none=>rw[z] at e;cases e
  | some g =>
   rw[z] at e;cases e;exact⟨g,(zxM z).2,(zxM z).1,rfl,rfl⟩
 refine⟨⟨λi a m e=>?_,λi a m e=>?_,λi a m e=>?_⟩,?_⟩
 .obtain⟨f,hf,rfl,rfl,rfl⟩:=mem i a m e;exact⟨(F.ok f hf).2.1,(F.ok f hf).2.2.1⟩
 .obtain⟨f,hf,rfl,rfl,rfl⟩:=mem i a m e;exact(F.ok f hf).1
 .obtain⟨f,hf,rfl,rfl,rfl⟩:=mem i a m e;exact⟨(F.ok f hf).2.2.2.1,(F.ok f hf).2.2.2.2⟩
 .unfold cntE;have sub:∀ i∈(jf n).filter (λi=>(tab X i).isSome),i∈X.map Fl.h:=λi hi=>by
   obtain⟨_,z⟩:=jD.mp hi;obtain⟨⟨a,m⟩,e⟩:=u9.mp z;obtain⟨f,hf,e,_⟩:=mem i a m e;exact jx.mpr ⟨f,hf,e⟩
  have nd:((jf n).filter λi=>(tab X i).isSome).Nodup:=kU kE ud;have:=zyT nd sub;rw[jb] at this;exact this
theorem zrT {m:Nat}(h:m<1000):rng2 (.int 1) (.int ((m:Int)+1))=Ga ((jf m).map λ(k:Nat)=>.int ((k:Int)+1)):=by
 unfold rng2;dsimp only;rw[Ge ⟨by decide,by decide,by omega,by omega⟩];unfold rngD;rw[show((m:Int)+1-1).toNat=m by omega];refine congrArg Ga (km λk _=>?_);rw[Int.add_comm]
theorem pow60:dPow (.int 10) (.int 60)=Ga (.int ((10:Int)^60)):=by
 show(if (decide ((0:Int)<=60)&&decide ((60:Int)<=1000000)&&decide ((10:Int).natAbs<2^64))=true then Ga (jc ((10:Int)^(60:Int).toNat)) else Gb)=_;rw[Ge (by decide)];rfl
def nmD (n:Nat)(v:Nat->Int):List D:=(jf n).map λi=>.int (v i)
theorem za1 (n:Nat)(v:Nat->Int):(nmD n v).length=n:=by unfold nmD;rw[jb,jG]
theorem znY {n:Nat}{v:Nat->Int}{i:Nat}(h:i<n):(nmD n v)[i]?=Ga (.int (v i)):=by unfold nmD;rw[jz,um h];rfl
theorem zxQ (is:List Int):nmD is.length (λi=>is.getD i 0)=is.map jc:=by
 refine vZ λi=>?_;by_cases h:i<is.length
 .rw[znY h,jz,jB,jw h];rfl
 .rw[kh (by rw[za1];omega),kh (by rw[jb];omega)]
theorem zo0 (n:Nat)(v:Nat->Int):nmD n v=((jf n).map v).map jc:=by unfold nmD;rw[jL];rfl
def rdR (n:Nat)(r:Rn):D:=rdE (nmD n r.1) r.2
theorem zvA (R N F a b c N' x:D)(h:Int)(h0:dIx R (.int 0)=Ga N)(h1:dIx R (.int 1)=Ga F)(ha:dSl N Gb (Ga h)=Ga a)(hb:dAdd a (.tuple [x])=Ga b)(hc:dSl N (Ga (h+1)) Gb=Ga c)(hd:dAdd b c=Ga N'):za8 [R,.int h,x]=Ga (.tuple [N',F]):=by
 rw[zlI];unfold ze9;simp_arith[h0,h1,ha,hb,hc,hd]
theorem zC0 (xs:List D)(h:Nat)(hh:h<xs.length):dSl (.tuple xs) Gb (Ga (h:Int))=Ga (.tuple (xs.take h)):=by
 show(if HT.sIx xs.length 0 Gb=0/\HT.sIx xs.length xs.length (Ga (h:Int))=xs.length then Gb else Ga (jT (cutD xs Gb (Ga (h:Int)))))=_;rw[HT.sIx_nat,Gf (by omega)];unfold cutD;rw[HT.sIx_none,HT.sIx_nat,List.drop_zero,Nat.sub_zero,qB (by omega)]
theorem zC1 (xs:List D)(h:Nat)(hh:h<xs.length):dSl (.tuple xs) (Ga ((h:Int)+1)) Gb=Ga (.tuple (xs.drop (h+1))):=by
 rw[show(h:Int)+1=((h+1:Nat):Int) by omega];show(if HT.sIx xs.length 0 (Ga ((h+1:Nat):Int))=0/\HT.sIx xs.length xs.length Gb=xs.length then Gb else Ga (jT (cutD xs (Ga ((h+1:Nat):Int)) Gb)))=_;rw[HT.sIx_nat,Gf (by omega)];unfold cutD;rw[HT.sIx_none,HT.sIx_nat,qB (by omega),qw (by rw[vy];exact jk _)]
theorem zvB (n:Nat)(v:Nat->Int)(E:Fs)(h:Nat)(x:Int)(h5:n<=5)(hh:h<n):za8 [rdR n (v,E),.int (h:Int),.int x]=Ga (rdR n (updN v h x,E)):=by
 have ln:=za1 n v;have es:(nmD n v).take h++[jc x]++(nmD n v).drop (h+1)=nmD n (updN v h x):=by
  rw[vq,qF];have:=List.set_eq_take_append_cons_drop (l:=nmD n v) (i:=h) (a:=jc x);rw[Ge (by omega)] at this;rw[<- this];refine vZ λi=>?_;by_cases c:i<n
  .rw[znY c,v3];unfold updN;by_cases d:h=i
   .rw[Ge d,Ge (by omega),Ge d.symm]
   .rw[Gf d,Gf (λz=>d z.symm),znY c]
  .rw[kh (by rw[List.length_set,ln];omega),kh (by rw[za1];omega)]
 have e:=zvA (rdR n (v,E)) (.tuple (nmD n v)) (.tuple ((flE n E).map fd)) _ _ _ (.tuple (nmD n (updN v h x))) (.int x) (h:Int) rfl (by unfold rdR rdE;rw[za1];rfl) (zC0 _ h (by omega)) (zq5 (by rw[uX,jV];omega)) (zC1 _ h (by omega)) (by rw[zq5 (by rw[jh,uX,jV,vy];omega),es]);rw[e];unfold rdR rdE rd;rw[za1]
theorem zxR (R Nw l N0 a b:D)(h k:Int)(p p':List D)(x4 x5 x6:Sl)(h1:L2.atI p (-1)=Ga l)(h2:dIx l (.int 0)=Ga N0)(h3:dIx N0 (.int h)=Ga a)(h4:dIx Nw (.int h)=Ga b)(hc:(dNe a b=Ga (.bool false)/\p'=p)\/(dNe a b=Ga (.bool true)/\∃ o q,za8 [l,.int h,b]=Ga o/\zaD 12 [l,o,.int h,.int 1,.int k]=Ga (.list q)/\extL p q.tail=Ga p')) :
  Goes (λψ=>∃ x4 x5 x6,ψ=[.val R,.val Nw,.val (.int k),.own p',x4,x5,x6]) ((tgNN 4 (.int h) [.val R,.val Nw,.val (.int k),.own p,x4,x5,x6]).bind (zaH (zaK 5 (ixSN (gl 3) (unN dNeg (cstN (.int 1))))) (ifSN (zaQ dNe (binN dIx (binN dIx (gv 5) (cstN (.int 0))) (gv 4)) (binN dIx (gv 1) (gv 4))) (zaH (zaK 6 (zaG za8 (zaA (gv 5) (zaA (gv 4) (zaA (binN dIx (gv 1) (gv 4)) (zaE)))))) (zeZ 3 (slVN (zaG (zaD 12) (zaA (gv 5) (zaA (gv 6) (zaA (gv 4) (zaA (cstN (.int 1)) (zaA (gv 2) (zaE))))))) (zcJ (cstN (.int 1))) (noPN)))) (nxSN)))):=by
 generalize za8=A1 at *;generalize zaD 12=A2 at *;rcases hc with ⟨c,rfl⟩|⟨c,o,q,c1,c2,c3⟩
 .simp_arith[h1,h2,h3,h4,c];exact zbV ⟨_,_,_,rfl⟩
 .simp_arith[h1,h2,h3,h4,c,c1,c2,zhF,c3];exact zbV ⟨_,_,_,rfl⟩
theorem zC2 (R Nw:D)(k n:Int)(N:Nat)(W:Nat->List D)(hm:zaL [R]=Ga (.int n))(hr:rng1 (.int n)=Ga ((jf N).map λ(k:Nat)=>.int (k:Int)))(h0:W 0=[R])(st:∀ h:Nat,h<N->∀ x4 x5 x6,Goes (λψ=>∃ x4 x5 x6,ψ=[.val R,.val Nw,.val (.int k),.own (W (h+1)),x4,x5,x6]) ((tgNN 4 (.int (h:Int)) [.val R,.val Nw,.val (.int k),.own (W h),x4,x5,x6]).bind (zaH (zaK 5 (ixSN (gl 3) (unN dNeg (cstN (.int 1))))) (ifSN (zaQ dNe (binN dIx (binN dIx (gv 5) (cstN (.int 0))) (gv 4)) (binN dIx (gv 1) (gv 4))) (zaH (zaK 6 (zaG za8 (zaA (gv 5) (zaA (gv 4) (zaA (binN dIx (gv 1) (gv 4)) (zaE)))))) (zeZ 3 (slVN (zaG (zaD 12) (zaA (gv 5) (zaA (gv 6) (zaA (gv 4) (zaA (cstN (.int 1)) (zaA (gv 2) (zaE))))))) (zcJ (cstN (.int 1))) (noPN)))) (nxSN))))):zb6 [R,Nw,.int k]=Ga (.list (W N)):=by
 have fin:∀ o,o=thenD (forD (tgNN 4) (zaH (zaK 5 (ixSN (gl 3) (unN dNeg (cstN (.int 1))))) (ifSN (zaQ dNe (binN dIx (binN dIx (gv 5) (cstN (.int 0))) (gv 4)) (binN dIx (gv 1) (gv 4))) (zaH (zaK 6 (zaG za8 (zaA (gv 5) (zaA (gv 4) (zaA (binN dIx (gv 1) (gv 4)) (zaE)))))) (zeZ 3 (slVN (zaG (zaD 12) (zaA (gv 5) (zaA (gv 6) (zaA (gv 4) (zaA (cstN (.int 1)) (zaA (gv 2) (zaE))))))) (zcJ (cstN (.int 1))) (noPN)))) (nxSN))) ((jf N).map λ(k:Nat)=>.int (k:Int)) [.val R,.val Nw,.val (.int k),.own [R],.no,.no,.no]) (zkD (go 3))->outV o=Ga (.list (W N)):=by
  rintro _ rfl;refine(congrArg outV (zoD (R:=Ga (.ro (W N))) N (λh ψ=>∃ x4 x5 x6,ψ=[.val R,.val Nw,.val (.int k),.own (W h),x4,x5,x6]) ⟨_,_,_,by rw[h0]⟩ ?_ ?_)).trans rfl
  .rintro h hh _ ⟨x4,x5,x6,rfl⟩;exact st h hh x4 x5 x6
  .rintro _ ⟨x4,x5,x6,rfl⟩;simp_arith[]
 rw[zmH];refine fin _ ?_;clear fin st;unfold zfZ;generalize za8=A1 at *;generalize zaD 12=A2 at *;generalize zaL=A3 at *;simp_arith[hm,hr]
theorem zmQ (n k d N:Nat)(v v':Nat->Int)(E E':Fs)(h:Nat)(h2:2<=n)(h5:n<=5)(hN:d<N)(hd:d<=k)(hh:h<n)(e1:E h=Gb)(e2:E' h=Gb)(o1:Ok n E (k+1-d))(o2:Ok n E' (k+1-d))(c1:cntE n E+d+2<=n)(c2:cntE n E'+d+2<=n) :
  zaD N [rdR n (v,E),rdR n (v',E'),.int (h:Int),.int ((k+1-d:Nat):Int),.int (k:Int)]=Ga (.list ((seg n k d v v' E E' h).map (rdR n))):=by
 have i1:=zj5 (nmD n v) (by rw[za1];exact h2) (by rw[za1];exact h5) k d N E h hN hd (by rw[za1];exact hh) e1 (by rw[za1];exact o1) (by rw[za1];exact c1);have i2:=zj5 (nmD n v') (by rw[za1];exact h2) (by rw[za1];exact h5) k d N E' h hN hd (by rw[za1];exact hh) e2 (by rw[za1];exact o2) (by rw[za1];exact c2);have l1:=(zhE (ns:=λ_=>.none) (k:=k) h2 h5 d E h hd hh e1 o1 c1).2;have l2:=(zhE (ns:=λ_=>.none) (k:=k) h2 h5 d E' h hd hh e2 o2 c2).2;have hl:=zoZ d (by omega);rw[za1] at i1 i2;rw[zdA];have e:=znX _ (rdR n (v,E)) (rdR n (v',E')) _ _ _ _ _ i1 i2 (by rw[jb,jb];omega);rw[e];unfold seg;rw[jO,qh,jL,jL];rfl
theorem zo1 (n k:Nat)(h2:2<=n)(h5:n<=5)(hk:k+2<=n)(v new:Nat->Int):zb6 [rdR n (v,noE),.tuple (nmD n new),.int (k:Int)]=Ga (.list (((jf n).foldl (renS n k new) [(v,noE)]).map (rdR n))):=by
 refine zC2 _ _ _ (n:Int) n (λm=>((jf m).foldl (renS n k new) [(v,noE)]).map (rdR n)) ?_ (zdY (by omega)) rfl ?_
 .have:=zmN (nmD n v) (flE n noE);unfold rdR rdE;rw[za1] at this ⊢;exact this
 .intro h hh x4 x5 x6;obtain⟨w,hw,H,hl⟩:=zuZ h2 h5 hk v new h (by omega);have hkl:=zoZ k (by omega);rw[k8,uE,k7,uf];generalize (jf h).foldl (renS n k new) [(v,noE)]=p at H hl;have el:p.getLastD (new,noE)=(w,noE):=zeD H.lst;have e0:w h=v h:=by rw[hw h,Gf (jP h)]
  refine zxR _ _ (rdR n (w,noE)) (.tuple (nmD n w)) (.int (w h)) (.int (new h)) (h:Int) (k:Int) _ _ x4 x5 x6 (zfF (by rw[kf,H.lst];rfl)) rfl (L2.atI_nat (znY hh)) (L2.atI_nat (znY hh)) ?_;unfold renS;rw[el];dsimp only;by_cases c:w h=new h
  .refine .inl ⟨?_,by rw[Ge c]⟩;rw[c,zuM,Gd (λz=>z rfl)]
  .refine .inr ⟨by rw[zuM,Gc c],?_⟩;have C:=zmQ n k k 12 w (updN w h (new h)) noE noE h h2 h5 (by omega) (jk _) hh rfl rfl (znW _ _) (znW _ _) (by rw[ziE];omega) (by rw[ziE];omega);rw[show((k+1-k:Nat):Int)=1 by omega] at C;have SL:(seg n k k w (updN w h (new h)) noE noE h).length<=2*hLen k:=by
    unfold seg;rw[jh,kD,jb,jb];have:=(zhE (ns:=λ_=>.none) (k:=k) h2 h5 k noE h (jk _) hh rfl (znW _ _) (by rw[ziE];omega)).2;omega
   refine⟨_,_,zvB n w noE h (new h) h5 hh,C,?_⟩;rw[Gf c,jO,ue];unfold extL;rw[Ge];rw[jb,ko,jb];have:h*(2*hLen k)<=5*(2*456):=vS (by omega) (by omega);omega
theorem zrU {α:Type}{S:α->Nat->α->Prop}(len:α->Nat)(mono:∀ p h p',S p h p'->len p<=len p'):∀ {l:List Nat} {p q:α},Runs S l p q->len p<=len q
 | [],p,q,h=>by cases h;exact jk _
 | h::l,p,q,⟨p',h1,h2⟩=>jn (mono _ _ _ h1) (zrU len mono h2)
theorem zj6 {α β:Type}{S:α->Nat->α->Prop}{T:β->Nat->β->Prop}(f:α->β)(B:Nat)(len:α->Nat)(mono:∀ p h p',S p h p'->len p<=len p')(st:∀ p h p',S p h p'->len p'<=B->T (f p) h (f p')):∀ {l:List Nat} {p q:α},Runs S l p q->len q<=B->Runs T l (f p) (f q)
 | [],p,q,h,_=>by cases h;exact rfl
 | h::l,p,q,⟨p',h1,h2⟩,hq=>⟨f p',st _ _ _ h1 (jn (zrU len mono h2) hq),zj6 f B len mono st h2 hq⟩
theorem zp9 {t:FT}{g:FS}(f:Nat->D){T:List D->Nat->List D->Prop}(I:List D->En->Prop)(st:∀ p h p',T p h p'->∀ ψ,I p ψ->Goes (I p') ((t (f h) ψ).bind g)):∀ {l:List Nat} {p q:List D},Runs T l p q->∀ {ψ:En},I p ψ->Goes (I q) (forD t g (l.map f) ψ)
 | [],p,q,h,ψ,he=>by cases h;exact⟨ψ,rfl,he⟩
 | h::l,p,q,⟨p',h1,h2⟩,ψ,he=>by
  obtain⟨e2,y1,y2⟩:=st _ _ _ h1 ψ he;obtain⟨e1,x1,x2⟩:=kW.mp y1;obtain⟨z,z1,z2⟩:=zp9 f I st h2 y2;refine⟨z,?_,z2⟩;rw[jQ];unfold forD;rw[x1,jr,x2];exact z1
theorem zj7 {t:FT}{g k:FS}(f:Nat->D){T:List D->Nat->List D->Prop}(I:List D->En->Prop)(st:∀ p h p',T p h p'->∀ ψ,I p ψ->Goes (I p') ((t (f h) ψ).bind g)){l:List Nat}{p q:List D}(hr:Runs T l p q){ψ:En}{R:Option Out}(h0:I p ψ)(hq:∀ e,I q e->k e=R):thenD (forD t g (l.map f) ψ) k=R:=by
 obtain⟨e,h1,h2⟩:=zp9 f I st hr h0;rw[h1];exact hq e h2
theorem zf7 (n:Nat)(E:Fs)(p:Fl->Bool):(flE n E).filter p=flE n (λi=>(E i).bind λw=>if p ⟨i,w.1,w.2⟩=true then Ga w else Gb):=by
 unfold flE;rw[List.filter_filterMap];refine zoX λi _=>?_;dsimp only;cases E i with
 | none=>rfl
 | some w =>
  show Option.filter p (Ga _)=_;rw[jr];by_cases c:p ⟨i,w.1,w.2⟩=true
  .rw[Ge c,Jc,Ge c];rfl
  .rw[Gf c,Jc,Gf c];rfl
theorem zAT (R N F:D)(fs fs':List D)(k:Int)(h0:dIx R (.int 0)=Ga N)(h1:dIx R (.int 1)=Ga F)(hs:toS F=Ga fs)(hl:fs.length<=1000000)(hc:compD (zaQ dLe (binN dIx (gv 0) (cstN (.int 1))) (gv 1)) (gv 0) [.val (.int k)] fs=Ga fs'):za6 [R,.int k]=Ga (.tuple [N,.tuple fs']):=by
 rw[zg9];unfold zcS;simp_arith[h0,h1,hs,zbN,Ge hl,hc]
theorem zC3 (ns:List D)(E:Fs):dIx (rdE ns E) (.int 0)=Ga (.tuple ns):=rfl
theorem zvC (ns:List D)(E:Fs):dIx (rdE ns E) (.int 1)=Ga (.tuple ((flE ns.length E).map fd)):=rfl
theorem zAU (ns:List D)(E:Fs)(k:Nat)(h5:ns.length<=5):za6 [rdE ns E,.int (k:Int)]=Ga (rdE ns (befE E (k+1))):=by
 rw[zAT (rdE ns E) _ _ _ (((flE ns.length E).filter λf=>decide (f.a<=(k:Int))).map fd) (k:Int) (zC3 _ _) (zvC _ _) rfl (zp6 E h5) (zeR fd (λf=>decide (f.a<=(k:Int))) fd (λf _=>by simp_arith[zj4]) (λf _ _=>rfl)),zf7];have:(λi=>(E i).bind λ(w:Int×Nat)=>if decide ((⟨i,w.1,w.2⟩:Fl).a<=(k:Int))=true then Ga w else Gb)=befE E (k+1):=by
  funext i
  unfold befE;cases E i with
  | none=>rfl
  | some w =>
   obtain⟨a,m⟩:=w;dsimp only;rw[jr];by_cases c:a<=(k:Int)
   .rw[Ge (Gc c),Ge (by omega)]
   .rw[Gf (λz=>c (of_decide_eq_true z)),Gf (by omega)]
 rw[this];rfl
theorem zxS (R F:D)(a:Int)(U fs out:List D)(hU:zaR [R,.int a]=Ga U)(h1:dIx R (.int 1)=Ga F)(hs:toS F=Ga fs)(hl:fs.length<=1000000)(hc:compD (zeY (zaQ dEq (binN dIx (gv 0) (cstN (.int 1))) (gv 1)) (tstN (zaG zbY (zaA (gv 0) (zaA (gv 2) (zaE)))))) (gv 0) [.val (.int a),.val (.list U)] fs=Ga out):zbT [R,.int a]=Ga (.list out):=by
 rw[zlJ];unfold zfA;generalize zbY=A1 at *;simp_arith[hU,h1,hs,zbN,Ge hl,hc]
theorem zxT (ns:List D)(E:Fs)(a:Nat)(h5:ns.length<=5):zaR [rdE ns E,.int (a:Int)]=Ga (il (upLE ns.length E a)):=by
 rw[show rdE ns E=rd ns (flE ns.length E) from rfl,zuT ns _ _ h5];unfold il upLE;refine congrArg Ga (congrArg _ (kw λi hi=>zrO (jp.mp hi) _))
theorem zmR {n:Nat}{E:Fs}{a i:Nat}(h:i∈upLE n E a):i<n:=jp.mp (jD.mp h).1
theorem zlT (n:Nat)(E:Fs)(a:Nat):(upLE n E a).length<=n:=jn (j6 _ _) (by rw[jG];exact jk _)
theorem zxU (A:List D->Option D)(f:Fl)(U:D)(a:Int)(b:Bool)(hA:A [fd f,U]=Ga (.bool b)):(zeY (zaQ dEq (binN dIx (gv 0) (cstN (.int 1))) (gv 1)) (tstN (zaG A (zaA (gv 0) (zaA (gv 2) (zaE)))))) [.val (fd f),.val (.int a),.val U]=Ga (decide (f.a=a)&&b):=by
 by_cases c:f.a=a
 .simp_arith[zj4,Gc c,hA];rw[v9]
 .simp_arith[zj4,Gd c];rw[uV]
theorem zrV (ns:List D)(E:Fs)(a b:Nat)(h5:ns.length<=5)(o:Ok ns.length E b):zbT [rdE ns E,.int (a:Int)]=Ga (.list (((flE ns.length E).filter λf=>heardB ns.length E a f.h).map fd)):=by
 have p32:=zlS h5;have H:=zeR (l:=flE ns.length E) (fc:=zeY (zaQ dEq (binN dIx (gv 0) (cstN (.int 1))) (gv 1)) (tstN (zaG zbY (zaA (gv 0) (zaA (gv 2) (zaE)))))) (fe:=gv 0) (base:=[.val (.int (a:Int)),.val (.list (il (upLE ns.length E a)))]) fd (λf=>decide (f.a=(a:Int))&&(upLE ns.length E a).all λh=>bt f.m h) fd (λf hf=>zxU _ f _ _ _ (zk6 f (by
   have:=(o.msk _ _ _ (zc2.mp hf).2).1;omega) _ (λx hx=>by have:=zmR hx;omega) (jn (zlT _ _ _) h5))) (λf _ _=>rfl)
 rw[zxS _ _ _ _ _ _ (zxT ns E a h5) (zvC ns E) rfl (zp6 E h5) H];refine congrArg (λl=>Ga (vj (vO fd l))) (kw λf hf=>?_);unfold heardB;rw[(zc2.mp hf).2];rfl
theorem zrW (n:Nat)(E:Fs)(a:Nat):((flE n E).filter λf=>heardB n E a f.h).map Fl.h=heardL n E a:=by
 have:(λf:Fl=>heardB n E a f.h)=(λi=>heardB n E a i)∘Fl.h:=rfl;rw[this,<- vf,zp3,Jb];unfold heardL;refine kw λi _=>?_;cases e:heardB n E a i with
 | false=>rfl
 | true =>
  obtain⟨m,e2,_⟩:=zdO e;rw[e2];rfl
theorem zvD (R R1 R2:D)(h a k:Int)(h1:zbO [R,.int h,.int (a+1),.int 0]=Ga R1)(h2:zbB [R,.int h]=Ga R2):zbU [R,.int h,.int a,.int k]=Ga (if a<k then R1 else R2):=by
 rw[zlK];unfold zfB;generalize zbO=A1 at *;generalize zbB=A2 at *;by_cases c:a<k
 .simp_arith[h1,h2,Gc c,Ge c]
 .simp_arith[h1,h2,Gd c,Gf c]
theorem zvE (ns:List D)(E:Fs)(h a k:Nat)(h5:ns.length<=5)(hh:h<ns.length):zbU [rdE ns E,.int (h:Int),.int (a:Int),.int (k:Int)]=Ga (rdE ns (updE E h (nxt k a))):=by
 rw[zvD _ _ _ _ _ _ (zq6 ns E h ((a:Int)+1) 0 h5 hh) (zkX ns E h h5)];unfold nxt;by_cases c:a<k
 .rw[Ge (by omega),Ge c]
 .rw[Gf (by omega),Gf c]
theorem zAV (R:D)(a k:Int)(X:List Fl)(W:List Fl->D)(h0:W []=R)(hf:zbT [R,.int a]=Ga (.list (X.map fd)))(st:∀ pre f suf,X=pre++f::suf->zbU [W pre,.int (f.h:Int),.int a,.int k]=Ga (W (pre++[f]))):zbK [R,.int a,.int k]=Ga (W X):=by
 have fin:∀ o,o=thenD (forD (tgNN 4) (zaK 3 (zaG zbU (zaA (gv 3) (zaA (binN dIx (gv 4) (cstN (.int 0))) (zaA (gv 1) (zaA (gv 2) (zaE))))))) (X.map fd) [.val R,.val (.int a),.val (.int k),.val R,.no]) (zbS (gv 3))->outV o=Ga (W X):=by
  rintro _ rfl;refine(congrArg outV (zpO (R:=Ga (.rt (W X))) fd (λpre ψ=>∃ x4,ψ=[.val R,.val (.int a),.val (.int k),.val (W pre),x4]) X ⟨_,by rw[h0]⟩ ?_ ?_)).trans rfl
  .rintro pre f suf e _ ⟨x4,rfl⟩;have s:=st pre f suf e;generalize zbU=A1 at *;simp_arith[zyP,s];exact zbV ⟨_,rfl⟩
  .rintro _ ⟨x4,rfl⟩;simp_arith[]
 rw[ziR];refine fin _ ?_;clear fin st;unfold zdH;generalize zbU=A1 at *;simp_arith[hf]
theorem zAW (ns:List D)(E:Fs)(a b k:Nat)(h5:ns.length<=5)(o:Ok ns.length E b):zbK [rdE ns E,.int (a:Int),.int (k:Int)]=Ga (rdE ns (hnext k a E (heardL ns.length E a))):=by
 have:=zAV (rdE ns E) (a:Int) (k:Int) ((flE ns.length E).filter λf=>heardB ns.length E a f.h) (λpre=>rdE ns (hnext k a E (pre.map Fl.h))) rfl (zrV ns E a b h5 o) (λpre f suf e=>by
  have hf:f∈(flE ns.length E).filter λf=>heardB ns.length E a f.h:=by rw[e];exact jS _ jg
  rw[zvE _ _ _ _ _ h5 (zc2.mp (jD.mp hf).1).1,jO];unfold hnext;rw[uE];rfl)
 rw[this,zrW]
theorem zxV (R R1:D)(h a k:Int)(P:List D)(h1:zbB [R,.int h]=Ga R1)(h2:zaV 12 [R1,.int h,.int a,.int k]=Ga P):zcQ [R,.int h,.int a,.int k]=Ga (.list P.reverse):=by
 rw[zsT];unfold zmA;generalize zbB=A1 at *;generalize zaV 12=A2 at *;simp_arith[h1,h2]
theorem zxW (n k a:Nat)(v:Nat->Int)(F:Fs)(h:Nat)(h2:2<=n)(h5:n<=5)(hat:a<=k)(k12:k<12)(hh:h<n)(o:Ok n (updE F h Gb) (a+1))(c:cntE n (updE F h Gb)+(k-a)+2<=n):zcQ [rdR n (v,F),.int (h:Int),.int ((a:Int)+1),.int (k:Int)]=Ga (.list ((risP n k a v F h).map (rdR n))):=by
 have i1:=zj5 (nmD n v) (by rw[za1];exact h2) (by rw[za1];exact h5) k (k-a) 12 (updE F h Gb) h (by omega) (by omega) (by rw[za1];exact hh) zaM (by rw[za1];exact o.mono (by omega)) (by rw[za1];exact c);rw[show((k+1-(k-a):Nat):Int)=(a:Int)+1 by omega,za1] at i1;have e:=zxV (rdR n (v,F)) _ (h:Int) ((a:Int)+1) (k:Int) _ (zkX (nmD n v) F h (by rw[za1];exact h5)) i1;rw[e];unfold risP;rw[qh,jL];rfl
theorem zqA {p q:List D}(h:(p++q).length<=1000000):extL p q=Ga (p++q):=by
 unfold extL;rw[Ge (by rw[<- jh];exact h)]
def hhT (a k:Int)(p:List D)(h:Nat)(p':List D):Prop:=∃ l q,p.getLast?=Ga l/\zcQ [l,.int (h:Int),.int (a+1),.int k]=Ga (.list q)/\p'=p++q.tail/\p'.length<=1000000
theorem zAX (R HS:D)(a k:Int)(p:List D)(h:Nat)(p':List D)(x5:Sl)(T:hhT a k p h p'):Goes (λψ=>∃ x5,ψ=[.val R,.val (.int a),.val (.int k),.val HS,.own p',x5]) ((tgNN 5 (.int (h:Int)) [.val R,.val (.int a),.val (.int k),.val HS,.own p,x5]).bind (zeZ 4 (slVN (zaG zcQ (zaA (ixSN (gl 4) (unN dNeg (cstN (.int 1)))) (zaA (gv 5) (zaA (binN dAdd (gv 1) (cstN (.int 1))) (zaA (gv 2) (zaE)))))) (zcJ (cstN (.int 1))) (noPN)))):=by
 obtain⟨l,q,h1,h2,rfl,h3⟩:=T;have h1:=zfF h1;have h3:=zqA h3;generalize zcQ=A1 at *;simp_arith[h1,h2,zhF,h3];exact zbV ⟨_,rfl⟩
theorem zEe (R:D)(a k nl:Int)(fl:List D)(hs:List Nat)(P0 P:List D)(hf:zbT [R,.int a]=Ga (.list fl))(hl:fl.length<=1000000)(hc:compD (λ_=>Ga true) (binN dIx (gv 0) (cstN (.int 0))) [] fl=Ga (hs.map λ(i:Nat)=>.int (i:Int)))(hn:((hs.map λ(i:Nat)=>jc (i:Int)).length:Int)=nl)
  (h0:(0<nl/\∃ X,zbK [R,.int a,.int k]=Ga X/\P0=[R]++[X])\/(¬0<nl/\P0=[R])) (hr:Runs (hhT a k) hs P0 P):zaW [R,.int a,.int k]=Ga P:=by
 have fin:∀ o,o=thenD (forD (tgNN 5) (zeZ 4 (slVN (zaG zcQ (zaA (ixSN (gl 4) (unN dNeg (cstN (.int 1)))) (zaA (gv 5) (zaA (binN dAdd (gv 1) (cstN (.int 1))) (zaA (gv 2) (zaE)))))) (zcJ (cstN (.int 1))) (noPN))) (hs.map λ(i:Nat)=>.int (i:Int)) [.val R,.val (.int a),.val (.int k),.val (.list (hs.map λ(i:Nat)=>.int (i:Int))),.own P0,.no]) (zkD (go 4))->outO o=Ga P:=by
  rintro _ rfl;refine(congrArg outO (zj7 (R:=Ga (.ro P)) (λ(i:Nat)=>jc (i:Int)) (λp ψ=>∃ x5,ψ=[.val R,.val (.int a),.val (.int k),.val (.list (hs.map λ(i:Nat)=>.int (i:Int))),.own p,x5]) ?_ hr ⟨_,rfl⟩ ?_)).trans rfl
  .rintro p h p' T _ ⟨x5,rfl⟩;exact zAX _ _ _ _ p h p' x5 T
  .rintro _ ⟨x5,rfl⟩;simp_arith[]
 rw[zkQ];refine fin _ ?_;clear fin hr;unfold zeN;generalize zcQ=A1 at *;generalize zbK=A2 at *;generalize zbT=A3 at *;have q1:([R]:List D).length<1000000:=by rw[jV];decide
 rcases h0 with ⟨c,X,c1,rfl⟩|⟨c,rfl⟩
 .simp_arith[hf,zbN,Ge hl,hc,hn,Gc c,c1,Ge q1]
 .simp_arith[hf,zbN,Ge hl,hc,hn,Gd c]
theorem zkY:∀ d,d<=4->hLen d<=5000
 | 0,_=>by decide
 | 1,_=>by decide
 | 2,_=>by decide
 | 3,_=>by decide
 | 4,_=>by decide
theorem zC4 (n k a t:Nat)(v:Nat->Int)(E:Fs)(h2:2<=n)(h5:n<=5)(k4:k<=4)(h1:1<=a)(hat:a<=k)(o:Ok n E a)(c:cntE n E<=t)(ht:t+2<=n)(hc:(∃ i,heardB n E a i=true)->cntE n E+(k-a)<=t+1):zaW [rdR n (v,E),.int (a:Int),.int (k:Int)]=Ga ((hhP n k a v E).map (rdR n)):=by
 obtain⟨⟨_,hl⟩,HR⟩:=zxH h2 h5 k4 h1 hat (v:=v) o c ht hc;have hb:=zkY (k-a) (by omega);have ln:=za1 n v;have HF:=zrV (nmD n v) E a a (by rw[ln];exact h5) (by rw[ln];exact o);have HN:=zAW (nmD n v) E a a k (by rw[ln];exact h5) (by rw[ln];exact o);rw[ln] at HF HN;refine zEe (rdR n (v,E)) (a:Int) (k:Int) ((heardL n E a).length:Int) _ (heardL n E a) _ _ HF ?_ ?_ (by rw[jb]) ?_ (zj6 (T:=hhT (a:Int) (k:Int)) (vO (rdR n)) 1000000 vX ?_ ?_ HR (by omega))
 .rw[jb];exact jn (j6 _ _) (by rw[zf1];have:=zrS n E;omega)
 .rw[<- zrW,jL];exact zeS fd _ λf _=>rfl
 .by_cases z:(heardL n E a).length>0
  .rw[Ge z];exact .inl ⟨by omega,_,HN,rfl⟩
  .rw[Gf z];exact .inr ⟨by omega,rfl⟩
 .rintro p h p' ⟨F,_,_,_,_,_,rfl⟩;rw[jh];omega
 .rintro p h p' ⟨F,f1,f2,f3,f4,f5,rfl⟩ hb;refine⟨rdR n (v,F),_,by rw[kf,f1];rfl,zxW n k a v F h h2 h5 hat (by omega) f2 f4 (by omega),by rw[jO,ue],by rw[jb];exact hb⟩
def mhT (hd a k:Int)(p:List D)(x:Nat)(p':List D):Prop:=∃ l f mk b,p.getLast?=Ga l/\zaZ [l,.int hd]=Ga f/\dIx f (.int 2)=Ga mk/\zaU [mk,.int (x:Int)]=Ga (.bool b)/\((b=true/\p'=p)\/(b=false/\∃ r q,zaI [l,.int hd,.int (x:Int)]=Ga r/\zaD 12 [l,r,.int (x:Int),.int (a+1),.int k]=Ga (.list q)/\p'=p++q.tail/\p'.length<=1000000))
theorem zEf (R l f mk:D)(hd a k x:Int)(p:List D)(x5 x6 x7:Sl)(h1:L2.atI p (-1)=Ga l)(h2:zaZ [l,.int hd]=Ga f)(h3:dIx f (.int 2)=Ga mk)(h4:zaU [mk,.int x]=Ga (.bool true)):Goes (λψ=>∃ x5 x6 x7,ψ=[.val R,.val (.int hd),.val (.int a),.val (.int k),.own p,x5,x6,x7]) ((tgNN 5 (.int x) [.val R,.val (.int hd),.val (.int a),.val (.int k),.own p,x5,x6,x7]).bind (zaH (zaK 6 (ixSN (gl 4) (unN dNeg (cstN (.int 1))))) (ifSN (zc8 (tstN (zaG zaU (zaA (binN dIx (zaG zaZ (zaA (gv 6) (zaA (gv 1) (zaE)))) (cstN (.int 2))) (zaA (gv 5) (zaE)))))) (zaH (zaK 7 (zaG zaI (zaA (gv 6) (zaA (gv 1) (zaA (gv 5) (zaE)))))) (zeZ 4 (slVN (zaG (zaD 12) (zaA (gv 6) (zaA (gv 7) (zaA (gv 5) (zaA (binN dAdd (gv 2) (cstN (.int 1))) (zaA (gv 3) (zaE))))))) (zcJ (cstN (.int 1))) (noPN)))) (nxSN)))):=by
 generalize zaZ=A1 at *;generalize zaU=A2 at *;generalize zaI=A3 at *;generalize zaD 12=A4 at *;simp_arith[h1,h2,h3,h4];exact zbV ⟨_,_,_,rfl⟩
theorem zEg (R l f mk r:D)(hd a k x:Int)(p q p':List D)(x5 x6 x7:Sl)(h1:L2.atI p (-1)=Ga l)(h2:zaZ [l,.int hd]=Ga f)(h3:dIx f (.int 2)=Ga mk)(h4:zaU [mk,.int x]=Ga (.bool false))(h5:zaI [l,.int hd,.int x]=Ga r)(h6:zaD 12 [l,r,.int x,.int (a+1),.int k]=Ga (.list q))(q':List D)(h8:dSl (.list q) (Ga 1) Gb=Ga (.list q'))(h7:extL p q'=Ga p'):Goes (λψ=>∃ x5 x6 x7,ψ=[.val R,.val (.int hd),.val (.int a),.val (.int k),.own p',x5,x6,x7]) ((tgNN 5 (.int x) [.val R,.val (.int hd),.val (.int a),.val (.int k),.own p,x5,x6,x7]).bind (zaH (zaK 6 (ixSN (gl 4) (unN dNeg (cstN (.int 1))))) (ifSN (zc8 (tstN (zaG zaU (zaA (binN dIx (zaG zaZ (zaA (gv 6) (zaA (gv 1) (zaE)))) (cstN (.int 2))) (zaA (gv 5) (zaE)))))) (zaH (zaK 7 (zaG zaI (zaA (gv 6) (zaA (gv 1) (zaA (gv 5) (zaE)))))) (zeZ 4 (slVN (zaG (zaD 12) (zaA (gv 6) (zaA (gv 7) (zaA (gv 5) (zaA (binN dAdd (gv 2) (cstN (.int 1))) (zaA (gv 3) (zaE))))))) (zcJ (cstN (.int 1))) (noPN)))) (nxSN)))):=by
 generalize zaZ=A1 at *;generalize zaU=A2 at *;generalize zaI=A3 at *;generalize zaD 12=A4 at *;simp_arith[h1,h2,h3,h4,h5,h6,h8,h7];exact zbV ⟨_,_,_,rfl⟩
theorem zAY (R:D)(hd a k:Int)(p:List D)(x:Nat)(p':List D)(x5 x6 x7:Sl)(T:mhT hd a k p x p'):Goes (λψ=>∃ x5 x6 x7,ψ=[.val R,.val (.int hd),.val (.int a),.val (.int k),.own p',x5,x6,x7]) ((tgNN 5 (.int (x:Int)) [.val R,.val (.int hd),.val (.int a),.val (.int k),.own p,x5,x6,x7]).bind (zaH (zaK 6 (ixSN (gl 4) (unN dNeg (cstN (.int 1))))) (ifSN (zc8 (tstN (zaG zaU (zaA (binN dIx (zaG zaZ (zaA (gv 6) (zaA (gv 1) (zaE)))) (cstN (.int 2))) (zaA (gv 5) (zaE)))))) (zaH (zaK 7 (zaG zaI (zaA (gv 6) (zaA (gv 1) (zaA (gv 5) (zaE)))))) (zeZ 4 (slVN (zaG (zaD 12) (zaA (gv 6) (zaA (gv 7) (zaA (gv 5) (zaA (binN dAdd (gv 2) (cstN (.int 1))) (zaA (gv 3) (zaE))))))) (zcJ (cstN (.int 1))) (noPN)))) (nxSN)))):=by
 obtain⟨l,f,mk,b,h1,h2,h3,h4,⟨rfl,rfl⟩|⟨rfl,r,q,h5,h6,rfl,h7⟩⟩:=T
 .exact zEf R l f mk hd a k x p' x5 x6 x7 (zfF h1) h2 h3 h4
 .exact zEg R l f mk r hd a k x p q _ x5 x6 x7 (zfF h1) h2 h3 h4 h5 h6 _ (zhF q) (zqA h7)
theorem zEh (R:D)(hd a k:Int)(U:List Nat)(P:List D)(hU:zaR [R,.int a]=Ga (U.map λ(i:Nat)=>.int (i:Int)))(hr:Runs (mhT hd a k) U [R] P):zbP [R,.int hd,.int a,.int k]=Ga (.list P):=by
 have fin:∀ o,o=thenD (forD (tgNN 5) (zaH (zaK 6 (ixSN (gl 4) (unN dNeg (cstN (.int 1))))) (ifSN (zc8 (tstN (zaG zaU (zaA (binN dIx (zaG zaZ (zaA (gv 6) (zaA (gv 1) (zaE)))) (cstN (.int 2))) (zaA (gv 5) (zaE)))))) (zaH (zaK 7 (zaG zaI (zaA (gv 6) (zaA (gv 1) (zaA (gv 5) (zaE)))))) (zeZ 4 (slVN (zaG (zaD 12) (zaA (gv 6) (zaA (gv 7) (zaA (gv 5) (zaA (binN dAdd (gv 2) (cstN (.int 1))) (zaA (gv 3) (zaE))))))) (zcJ (cstN (.int 1))) (noPN)))) (nxSN))) (U.map λ(i:Nat)=>.int (i:Int)) [.val R,.val (.int hd),.val (.int a),.val (.int k),.own [R],.no,.no,.no]) (zkD (go 4))->outV o=Ga (.list P):=by
  rintro _ rfl;refine(congrArg outV (zj7 (R:=Ga (.ro P)) (λ(i:Nat)=>jc (i:Int)) (λp ψ=>∃ x5 x6 x7,ψ=[.val R,.val (.int hd),.val (.int a),.val (.int k),.own p,x5,x6,x7]) ?_ hr ⟨_,_,_,rfl⟩ ?_)).trans rfl
  .rintro p h p' T _ ⟨x5,x6,x7,rfl⟩;exact zAY _ _ _ _ p h p' x5 x6 x7 T
  .rintro _ ⟨x5,x6,x7,rfl⟩;simp_arith[]
 rw[zmG];refine fin _ ?_;clear fin hr;unfold zfY;generalize zaZ=A1 at *;generalize zaU=A2 at *;generalize zaI=A3 at *;generalize zaD 12=A4 at *;simp_arith[hU]
theorem zEi (n k a t:Nat)(v:Nat->Int)(E:Fs)(h m0:Nat)(h2:2<=n)(h5:n<=5)(k4:k<=4)(h1:1<=a)(hat:a<=k)(o:Ok n E a)(ht:t+2<=n)(hc:cntE n E+(k-a)<=t)(e0:E h=Ga ((a:Int),m0)):zbP [rdR n (v,E),.int (h:Int),.int (a:Int),.int (k:Int)]=Ga (.list ((mhP n k a v E h).map (rdR n))):=by
 obtain⟨_,_,_,_,_,hl,HR⟩:=zCU h2 h5 k4 h1 hat (v:=v) o ht hc e0;have hb:=zkY (k-a) (by omega);have hh:=o.hnd _ _ _ e0;have p32:=zlS h5;have ln:=za1 n v;have HU:=zxT (nmD n v) E a (by rw[ln];exact h5);rw[ln] at HU;refine zEh (rdR n (v,E)) (h:Int) (a:Int) (k:Int) _ _ HU (zj6 (T:=mhT (h:Int) (a:Int) (k:Int)) (vO (rdR n)) 1000000 vX ?_ ?_ HR (by omega))
 .rintro p x p' ⟨m,_,_,_,_,_,_,⟨_,rfl⟩|⟨_,_,_,rfl⟩⟩
  .exact jk _
  .rw[jh];omega
 .rintro p x p' ⟨m,f1,f2,f3,f4,f5,f6,fc⟩ hb;have FO:zaZ [rdR n (v,updE E h (Ga ((a:Int),m))),.int (h:Int)]=Ga (fd ⟨h,(a:Int),m⟩):=by
   unfold rdR rdE;rw[ln,ziJ];unfold fofD;rw[zkV hh];show Ga (match Option.map _ (updE E h (Ga ((a:Int),m)) h) with|some f=>fd f|none=>vY)=_;rw[zaM];rfl
  have HH:=zuU m x (by omega) (by omega);refine⟨rdR n (v,updE E h (Ga ((a:Int),m))),_,_,_,by rw[kf,f1];rfl,FO,zyQ _,HH,?_⟩;rcases fc with ⟨c1,rfl⟩|⟨c1,c2,c3,rfl⟩
  .exact .inl ⟨c1,rfl⟩
  .refine .inr ⟨c1,rdR n (v,updE E h (Ga ((a:Int),togN m x))),_,?_,?_,by rw[jO,ue],by rw[jb];exact hb⟩
   .have T:=zp7 (nmD n v) (updE E h (Ga ((a:Int),m))) h x (a:Int) m (by rw[ln];exact h5) (by rw[ln];exact hh) (by omega) (by omega) zaM;have eT:turnE (updE E h (Ga ((a:Int),m))) h x=updE E h (Ga ((a:Int),togN m x)):=by
     unfold turnE;rw[zaM];dsimp only;rw[zj3]
    rw[eT] at T;exact T
   .have cU:∀ m,cntE n (updE E h (Ga ((a:Int),m)))=cntE n E:=λm=>ziC e0;have okU:∀ m,m<2^n->bt m h=false->Ok n (updE E h (Ga ((a:Int),m))) a:=λm a b=>o.upd hh (by omega) (kQ _) a b;have C:=zmQ n k (k-a) 12 v v (updE E h (Ga ((a:Int),m))) (updE E h (Ga ((a:Int),togN m x))) x h2 h5 (by omega) (by omega) f4 (by rw[zaP f5];exact f6) (by rw[zaP f5];exact f6) ((okU m f2 f3).mono (by omega)) ((okU _ c2 c3).mono (by omega)) (by rw[cU];omega) (by rw[cU];omega);rw[show((k+1-(k-a):Nat):Int)=(a:Int)+1 by omega] at C;exact C
def rhT (a k:Int)(p:List D)(h:Nat)(p':List D):Prop:=∃ l q l2 q2,p.getLast?=Ga l/\zbP [l,.int (h:Int),.int a,.int k]=Ga (.list q)/\(p++q.tail).length<=1000000/\(p++q.tail).getLast?=Ga l2/\zaW [l2,.int a,.int k]=Ga q2/\p'=(p++q.tail)++q2.tail/\p'.length<=1000000
theorem zAZ (R HS:D)(a k:Int)(p:List D)(h:Nat)(p':List D)(x5:Sl)(T:rhT a k p h p'):Goes (λψ=>∃ x5,ψ=[.val R,.val (.int a),.val (.int k),.own p',.val HS,x5]) ((tgNN 5 (.int (h:Int)) [.val R,.val (.int a),.val (.int k),.own p,.val HS,x5]).bind (zaH (zeZ 3 (slVN (zaG zbP (zaA (ixSN (gl 3) (unN dNeg (cstN (.int 1)))) (zaA (gv 5) (zaA (gv 1) (zaA (gv 2) (zaE)))))) (zcJ (cstN (.int 1))) (noPN))) (zeZ 3 (slVN (zbJ (zfI zaW (zaA (ixSN (gl 3) (unN dNeg (cstN (.int 1)))) (zaA (gv 1) (zaA (gv 2) (zaE)))))) (zcJ (cstN (.int 1))) (noPN))))):=by
 obtain⟨l,q,l2,q2,h1,h2,h3,h4,h5,rfl,h6⟩:=T;have h1:=zfF h1;have h3:=zqA h3;have h4:=zfF h4;have h6:=zqA h6;generalize zbP=A1 at *;generalize zaW=A2 at *;generalize p++q.tail=p1 at *;simp_arith[h1,h2,zhF,h3,h4,h5,h6];exact zbV ⟨_,rfl⟩
theorem zEj (R l F:D)(a k:Int)(fl:List D)(hs:List Nat)(P0 P:List D)(hh:zaW [R,.int a,.int k]=Ga P0)(h1:L2.atI P0 (-1)=Ga l)(h2:dIx l (.int 1)=Ga F)(h3:toS F=Ga fl)(hl:fl.length<=1000000)(hc:compD (zaQ dEq (binN dIx (gv 0) (cstN (.int 1))) (gv 1)) (binN dIx (gv 0) (cstN (.int 0))) [.val (.int a)] fl=Ga (hs.map λ(i:Nat)=>.int (i:Int)))(hr:Runs (rhT a k) hs P0 P):zbC [R,.int a,.int k]=Ga (.list P):=by
 have fin:∀ o,o=thenD (forD (tgNN 5) (zaH (zeZ 3 (slVN (zaG zbP (zaA (ixSN (gl 3) (unN dNeg (cstN (.int 1)))) (zaA (gv 5) (zaA (gv 1) (zaA (gv 2) (zaE)))))) (zcJ (cstN (.int 1))) (noPN))) (zeZ 3 (slVN (zbJ (zfI zaW (zaA (ixSN (gl 3) (unN dNeg (cstN (.int 1)))) (zaA (gv 1) (zaA (gv 2) (zaE)))))) (zcJ (cstN (.int 1))) (noPN)))) (hs.map λ(i:Nat)=>.int (i:Int)) [.val R,.val (.int a),.val (.int k),.own P0,.val (.list (hs.map λ(i:Nat)=>.int (i:Int))),.no]) (zkD (go 3))->outV o=Ga (.list P):=by
  rintro _ rfl;refine(congrArg outV (zj7 (R:=Ga (.ro P)) (λ(i:Nat)=>jc (i:Int)) (λp ψ=>∃ x5,ψ=[.val R,.val (.int a),.val (.int k),.own p,.val (.list (hs.map λ(i:Nat)=>.int (i:Int))),x5]) ?_ hr ⟨_,rfl⟩ ?_)).trans rfl
  .rintro p h p' T _ ⟨x5,rfl⟩;exact zAZ _ _ _ _ p h p' x5 T
  .rintro _ ⟨x5,rfl⟩;simp_arith[]
 rw[zkR];refine fin _ ?_;clear fin hr;unfold zeO;generalize zbP=A1 at *;generalize zaW=A2 at *;simp_arith[hh,h1,h2,h3,zbN,Ge hl,hc]
theorem zEk (f:Fl)(a:Int):(zaQ dEq (binN dIx (gv 0) (cstN (.int 1))) (gv 1)) [.val (fd f),.val (.int a)]=Ga (decide (f.a=a)):=by
 simp_arith[zj4]
theorem zEl (n k a t:Nat)(v:Nat->Int)(E:Fs)(h2:2<=n)(h5:n<=5)(k4:k<=4)(h1:1<=a)(hat:a<=k)(o:Ok n E a)(c:cntE n E<=t)(ht:t+2<=n)(hc:(∃ i,heardB n E a i=true)->cntE n E+(k-a)<=t+1)(hu:cntE n (healE n E a)+(k-a)<=t):zbC [rdR n (v,E),.int (a:Int),.int (k:Int)]=Ga (.list ((rhP n k a v E).map (rdR n))):=by
 obtain⟨⟨_,hl⟩,HR⟩:=zCV h2 h5 k4 h1 hat (v:=v) o c ht hc (.inl hu);obtain⟨⟨HP,_⟩,_⟩:=zxH h2 h5 k4 h1 hat (v:=v) o c ht hc;have HE:=zC4 n k a t v E h2 h5 k4 h1 hat o c ht hc;have hb:=zkY (k-a) (by omega);have ln:=za1 n v;refine zEj (rdR n (v,E)) (rdR n (v,healE n E a)) _ (a:Int) (k:Int) _ (atL n (healE n E a) a) _ _ HE (zfF (by rw[kf,HP.lst];rfl)) (zvC _ _) rfl (zp6 _ (by rw[ln];exact h5)) ?_ (zj6 (T:=rhT (a:Int) (k:Int)) (vO (rdR n)) 1000000 vX ?_ ?_ HR (by omega))
 .rw[ln,zeR fd (λf=>decide (f.a=(a:Int))) (λf=>.int (f.h:Int)) (λf _=>zEk f _) (λf _ _=>rfl)];refine congrArg Ga ?_;have:((flE n (healE n E a)).filter λf=>decide (f.a=(a:Int))).map Fl.h=atL n (healE n E a) a:=by
   rw[zf7,zp3];unfold atL;refine kw λi _=>?_;cases healE n E a i with
   | none=>rfl
   | some w =>
    dsimp only;rw[jr];by_cases z:w.1=(a:Int)
    .rw[Ge (Gc z),Gc z];rfl
    .rw[Gf (λy=>z (of_decide_eq_true y)),Gd z];rfl
  rw[<- this,jL];rfl
 .rintro p h p' ⟨F,m0,m,_,_,_,_,_,_,_,rfl⟩;rw[jh,jh];omega
 .rintro p h p' ⟨F,m0,m,f1,f2,f3,f4,f5,f6,f7,rfl⟩ hb;have ME:=zEi n k a t v F h m0 h2 h5 k4 h1 hat f2 ht f3 f4;have H2:=zC4 n k a t v (updE F h (Ga ((a:Int),m))) h2 h5 k4 h1 hat f6 (by omega) ht (λ_=>by omega);have hb2:(p++(mhP n k a v F h).tail).length<=1000000:=by
   rw[jh] at hb;omega
  refine⟨rdR n (v,F),_,_,_,by rw[kf,f1];rfl,ME,by rw[<- ue,<- jO,jb];exact hb2,by rw[<- ue,<- jO,kf,f5];rfl,H2,by rw[jO,ue,jO,ue],by rw[jb];exact hb⟩
def hlT (k:Int)(p:List D)(s:Nat)(p':List D):Prop:=∃ l q,p.getLast?=Ga l/\zbC [l,.int (k-(s:Int)),.int k]=Ga (.list q)/\p'=p++q.tail/\p'.length<=1000000
theorem zA0 (R b S:D)(k:Int)(p:List D)(h:Nat)(p':List D)(x5:Sl)(T:hlT k p h p'):Goes (λψ=>∃ x5,ψ=[.val R,.val b,.val (.int k),.own p',.val S,x5]) ((tgNN 5 (.int (h:Int)) [.val R,.val b,.val (.int k),.own p,.val S,x5]).bind (zeZ 3 (slVN (zaG zbC (zaA (ixSN (gl 3) (unN dNeg (cstN (.int 1)))) (zaA (binN dSub (gv 2) (gv 5)) (zaA (gv 2) (zaE))))) (zcJ (cstN (.int 1))) (noPN)))):=by
 obtain⟨l,q,h1,h2,rfl,h3⟩:=T;have h1:=zfF h1;have h3:=zqA h3;generalize zbC=A1 at *;simp_arith[h1,h2,zhF,h3];exact zbV ⟨_,rfl⟩
theorem zEm (R b S:D)(k:Int)(K:Nat)(P0 P:List D)(hS:za6 [R,.int k]=Ga S)(h0:(dNe S R=Ga (.bool true)/\P0=[R]++[S])\/(dNe S R=Ga (.bool false)/\P0=[R]))(hk:rng1 (.int k)=Ga ((jf K).map λ(i:Nat)=>.int (i:Int)))(hr:Runs (hlT k) (jf K) P0 P):zdI [R,b,.int k]=Ga (.list P):=by
 have fin:∀ o,o=thenD (forD (tgNN 5) (zeZ 3 (slVN (zaG zbC (zaA (ixSN (gl 3) (unN dNeg (cstN (.int 1)))) (zaA (binN dSub (gv 2) (gv 5)) (zaA (gv 2) (zaE))))) (zcJ (cstN (.int 1))) (noPN))) ((jf K).map λ(i:Nat)=>.int (i:Int)) [.val R,.val b,.val (.int k),.own P0,.val S,.no]) (zkD (go 3))->outV o=Ga (.list P):=by
  rintro _ rfl;refine(congrArg outV (zj7 (R:=Ga (.ro P)) (λ(i:Nat)=>jc (i:Int)) (λp ψ=>∃ x5,ψ=[.val R,.val b,.val (.int k),.own p,.val S,x5]) ?_ hr ⟨_,rfl⟩ ?_)).trans rfl
  .rintro p h p' T _ ⟨x5,rfl⟩;exact zA0 _ _ _ _ p h p' x5 T
  .rintro _ ⟨x5,rfl⟩;simp_arith[]
 rw[zq0];refine fin _ ?_;clear fin hr;unfold zkN;generalize zbC=A1 at *;generalize za6=A2 at *;have q1:([R]:List D).length<1000000:=by rw[jV];decide
 rcases h0 with ⟨c,rfl⟩|⟨c,rfl⟩
 .simp_arith[hS,c,hk,Ge q1]
 .simp_arith[hS,c,hk]
theorem zo2 {n:Nat}:∀ {xs:List D},(∀ x∈xs,keyD x n=true)->keyAll xs n=true
 | [],_=>rfl
 | x::xs,h=>by rw[keyAll,h x jg,zo2 λy hy=>h y (je _ hy)];rfl
theorem zyU (is:List Int)(E:Fs):keyD (rdE (is.map jc) E) 3=true:=by
 unfold rdE rd;rw[keyD];refine zo2 λx hx=>?_;rcases jt.mp hx with rfl|hx
 .rw[keyD];refine zo2 λy hy=>?_;obtain⟨i,_,rfl⟩:=jx.mp hy;rfl
 .rw[jv.mp hx,keyD];refine zo2 λy hy=>?_;obtain⟨f,_,rfl⟩:=jx.mp hy;rfl
theorem zA1 {a b:D}(ha:keyD a 3=true)(hb:keyD b 3=true)(h:a≠b):dNe a b=Ga (.bool true):=by
 have la:=znZ a 3 ha;have lb:=znZ b 3 hb;unfold dNe okEq;rw[la.1,lb.1,Gc (jn (Nat.min_le_left _ _) (by omega))];cases e:kF a b with
 | true=>exact absurd (zs6 a b 3 3 ha hb e) h
 | false=>rfl
theorem zC5 {f g:Fl}(h:fd f=fd g):f=g:=by
 unfold fd at h
 injection h with h
 injection h with h1 h
 injection h with h2 h
 injection h with h3 h
 injection h1 with h1
 injection h2 with h2
 injection h3 with h3
 cases f;cases g;simp only at h1 h2 h3;cases h2;have e1:=JE h1;have e3:=JE h3;subst e1;subst e3;rfl
theorem zC6 {ns:List D}{E F:Fs}(h:rdE ns E=rdE ns F):∀ i,i<ns.length->E i=F i:=by
 unfold rdE rd at h
 injection h with h
 injection h with _ h
 injection h with h _
 injection h with h
 have e:flE ns.length E=flE ns.length F:=(List.map_inj_right λ_ _=>zC5).mp h;intro i hi;have a:=zkV (E:=E) hi;rw[e,zkV (E:=F) hi] at a;cases x:E i with
 | none =>
  rw[x] at a;cases y:F i with
  | none=>rfl
  | some w=>rw[y] at a;cases a
 | some w =>
  rw[x] at a;cases y:F i with
  | none=>rw[y] at a;cases a
  | some u =>
   rw[y] at a;obtain⟨p,q⟩:=w;obtain⟨p',q'⟩:=u;have:=jE a;simp only[Fl.mk.injEq] at this;rw[this.2.1,this.2.2]
theorem zvF (n k t:Nat)(v:Nat->Int)(E:Fs)(b:D)(h2:2<=n)(h5:n<=5)(hk3:k<=3)(o:Ok n E 5)(c:cntE n E<=t)(ht:t+2<=n)(H1:∀ a,1<=a->a<=k->cntE n (befE E (a+1))+(k-a)<=t+1)(H2:∀ a,1<=a->a<=k->cntE n (healE n (befE E (a+1)) a)+(k-a)<=t):zdI [rdR n (v,E),b,.int (k:Int)]=Ga (.list ((healP n k v E).map (rdR n))):=by
 have k4:k<=4:=by omega
 obtain⟨⟨_,hl⟩,HR⟩:=zu2 h2 h5 k4 (v:=v) o c ht H1 H2;have ln:=za1 n v;have hb3:=zoZ (k-1) (by omega);have hb4:k*(100*hLen (k-1))<=3*(100*456):=vS hk3 (by omega);refine zEm (rdR n (v,E)) b (rdR n (v,befE E (k+1))) (k:Int) k _ _ (zAU (nmD n v) E k (by rw[ln];exact h5)) ?_ (zdY (by omega)) (zj6 (T:=hlT (k:Int)) (vO (rdR n)) 1000000 vX ?_ ?_ HR (by omega))
 .by_cases z:sameE n (befE E (k+1)) E=true
  .rw[Ge z];refine .inr ⟨?_,rfl⟩;have:befE E (k+1)=E:=by
    funext i
    by_cases y:i<n
    .unfold sameE at z;rw[jF] at z;exact eq_of_beq (z i (jp.mpr y))
    .have:E i=Gb:=by
      cases w:E i with
      | none=>rfl
      | some u=>obtain⟨a,m⟩:=u;exact absurd (o.hnd i a m w) y
     unfold befE;rw[this]
   rw[this];unfold rdR;rw[zo0];have L:=znZ _ 3 (zyU ((jf n).map (v,E).1) (v,E).2);exact zrB L.1 (by omega)
  .rw[Gf z];refine .inl ⟨?_,rfl⟩;have kk:∀ F,keyD (rdR n (v,F)) 3=true:=λF=>by unfold rdR;rw[zo0];exact zyU _ _
   refine zA1 (kk _) (kk _) λe=>z ?_;unfold sameE;rw[jF];intro i hi;have:=zC6 e i (by show i<(nmD n v).length;rw[ln];exact jp.mp hi);exact beq_iff_eq.mpr this
 .rintro p h p' ⟨F,_,_,_,_,_,_,_,rfl⟩;rw[jh];omega
 .rintro p h p' ⟨F,f1,f2,f3,f4,f5,f6,f7,rfl⟩ hb;have RE:=zEl n k (k-h) t v F h2 h5 k4 f2 f3 f4 f5 ht (λ_=>f6) f7;rw[show((k-h:Nat):Int)=(k:Int)-(h:Int) by omega] at RE;exact⟨rdR n (v,F),_,by rw[kf,f1];rfl,RE,by rw[jO,ue],by rw[jb];exact hb⟩
def missB (n:Nat)(E:Fs)(k:Nat)(f:Fl):Bool:=decide (f.a<(k:Int))||(decide (f.a=(k:Int))&&!(upLE n E k).all λh=>bt f.m h)
def cE (n:Nat)(E:Fs)(k:Nat):Fs:=λi=>(E i).bind λw=>if missB n E k ⟨i,w.1,w.2⟩=true then Ga w else Gb
theorem zC7 (f:Fl)(h P:Int)(hP:L2.atI [jc 1,.int 2,.int 4,.int 8,.int 16] h=Ga (.int P))(hd:dDiv (.int (f.m:Int)) (.int P)=Ga (.int ((f.m:Int)/P)))(hm:∀ x:Int,dMod (.int x) (.int 2)=Ga (.int (x%2))):(zaQ dEq (binN dMod (binN dDiv (binN dIx (gv 1) (cstN (.int 2))) (binN dIx (zbJ (zaA (cstN (.int 1)) (zaA (cstN (.int 2)) (zaA (cstN (.int 4)) (zaA (cstN (.int 8)) (zaA (cstN (.int 16)) (zaE))))))) (gv 0))) (cstN (.int 2))) (cstN (.int 0))) [.val (.int h),.val (fd f)]=Ga (decide ((f.m:Int)/P%2=0)):=by
 simp_arith[zyQ,hP,hd,hm]
theorem zC8 (f:Fl)(h:Nat)(hh:h<5):(zaQ dEq (binN dMod (binN dDiv (binN dIx (gv 1) (cstN (.int 2))) (binN dIx (zbJ (zaA (cstN (.int 1)) (zaA (cstN (.int 2)) (zaA (cstN (.int 4)) (zaA (cstN (.int 8)) (zaA (cstN (.int 16)) (zaE))))))) (gv 0))) (cstN (.int 2))) (cstN (.int 0))) [.val (.int (h:Int)),.val (fd f)]=Ga (!bt f.m h):=by
 have p:=zCX ⟨h,hh⟩;rw[zC7 f (h:Int) (2^h) (pw5 ⟨h,hh⟩) (zkB p.1 p.2) (λx=>zgC (by decide))];refine congrArg Ga ?_;unfold bt;generalize (f.m:Int)/2^h=y;by_cases c:y%2=1
 .rw[Gc c,Gd (by omega)];rfl
 .rw[Gd c,Gc (by omega)];rfl
theorem zC9 (l:List Int):dNe (.list (l.map jc)) (.list [])=Ga (.bool (!l.isEmpty)):=by
 cases l with
 | nil=>exact zrB rfl (by decide)
 | cons i l =>
  have L:(vj ((i::l).map jc)).canLay0=true:=zqH λx hx=>by obtain⟨i,_,rfl⟩:=jx.mp hx;rfl
  unfold dNe okEq;rw[L,Gc (jn (Jn _ _) (by decide))];rfl
theorem zEn (R U W:D)(b w k c c':Int)(f:Fl)(us ms:List D)(bm:Bool)(x4 x7:Sl)(hU:toS U=Ga us)(hl:us.length<=1000000)(hc:compD (zaQ dEq (binN dMod (binN dDiv (binN dIx (gv 1) (cstN (.int 2))) (binN dIx (zbJ (zaA (cstN (.int 1)) (zaA (cstN (.int 2)) (zaA (cstN (.int 4)) (zaA (cstN (.int 8)) (zaA (cstN (.int 16)) (zaE))))))) (gv 0))) (cstN (.int 2))) (cstN (.int 0))) (gv 0) [.val (fd f)] us=Ga ms)(hn:dNe (.list ms) (.list [])=Ga (.bool bm))(h:c'=if (decide (f.a<k)||(decide (f.a=k)&&bm))=true then c+1 else c) :
  Goes (λψ=>∃ x4 x7,ψ=[.val R,.val (.int b),.val (.int w),.val (.int k),x4,.val U,.val (.int c'),x7]) ((tgNN 4 (fd f) [.val R,.val (.int b),.val (.int w),.val (.int k),x4,.val U,.val (.int c),x7]).bind (zaH (ziN 7 (zfG 7 (compF (zc3 (gv 5)) (zaQ dEq (binN dMod (binN dDiv (binN dIx (gv 1) (cstN (.int 2))) (binN dIx (zbJ (zaA (cstN (.int 1)) (zaA (cstN (.int 2)) (zaA (cstN (.int 4)) (zaA (cstN (.int 8)) (zaA (cstN (.int 16)) (zaE))))))) (gv 0))) (cstN (.int 2))) (cstN (.int 0))) (gv 0) [4]))) (ifSN (orBN (zaQ dLt (binN dIx (gv 4) (cstN (.int 1))) (gv 3)) (zeY (zaQ dEq (binN dIx (gv 4) (cstN (.int 1))) (gv 3)) (zaQ dNe (gv 7) (zbJ (zaE))))) (zaK 6 (binN dAdd (gv 6) (cstN (.int 1)))) (nxSN)))):=by
 subst h;by_cases h1:f.a<k
 .have e:(if (decide (f.a<k)||(decide (f.a=k)&&bm))=true then c+1 else c)=c+1:=by rw[Gc h1,k6,Ge rfl]
  rw[e];simp_arith[hU,zbN,Ge hl,hc,zj4,Gc h1];exact zbV ⟨_,_,rfl⟩
 .by_cases h2:f.a=k
  .cases bm with
   | true =>
    have e:(if (decide (f.a<k)||(decide (f.a=k)&&true))=true then c+1 else c)=c+1:=by rw[Gc h2,v9,Jl,Ge rfl]
    rw[e];simp_arith[hU,zbN,Ge hl,hc,zj4,Gd h1,Gc h2,hn];exact zbV ⟨_,_,rfl⟩
   | false =>
    have e:(if (decide (f.a<k)||(decide (f.a=k)&&false))=true then c+1 else c)=c:=by rw[Gd h1,uv,uG,Gf jy]
    rw[e];simp_arith[hU,zbN,Ge hl,hc,zj4,Gd h1,Gc h2,hn];exact zbV ⟨_,_,rfl⟩
  .have e:(if (decide (f.a<k)||(decide (f.a=k)&&bm))=true then c+1 else c)=c:=by rw[Gd h1,Gd h2,uV,uG,Gf jy]
   rw[e];simp_arith[hU,zbN,Ge hl,hc,zj4,Gd h1,Gd h2];exact zbV ⟨_,_,rfl⟩
theorem zDa (R F:D)(i k:Int)(fs hs:List D)(bb:Bool)(h1:dIx R (.int 1)=Ga F)(h2:toS F=Ga fs)(hl:fs.length<=1000000)(hc:compD (zaQ dLe (binN dIx (gv 0) (cstN (.int 1))) (gv 1)) (binN dIx (gv 0) (cstN (.int 0))) [.val (.int k)] fs=Ga hs)(hn:dNin (.int i) (.list hs)=Ga (.bool bb)):(zaQ dNin (gv 0) (zbJ (compF (zc3 (binN dIx (gv 2) (cstN (.int 1)))) (zaQ dLe (binN dIx (gv 0) (cstN (.int 1))) (gv 1)) (binN dIx (gv 0) (cstN (.int 0))) [1]))) [.val (.int i),.val (.int k),.val R]=Ga bb:=by
 simp_arith[h1,h2,zbN,Ge hl,hc,hn]
theorem zDb (f:Fl)(k:Int):(zaQ dLe (binN dIx (gv 0) (cstN (.int 1))) (gv 1)) [.val (fd f),.val (.int k)]=Ga (decide (f.a<=k)):=by
 simp_arith[zj4]
theorem zvG (a:Int)(ns:List Int):dNin (.int a) (.list (ns.map jc))=Ga (.bool (!ns.contains a)):=by
 have h:=zrC a ns;unfold dIn at h;unfold dNin
 rw[zqU,jr] at h ⊢;by_cases c:okIn (.int a) (ns.map jc)=true
 .rw[Ge c] at h ⊢
  injection h with h
  injection h with h
  rw[h]
 .rw[Gf c] at h;cases h
theorem zDc (ns:List D)(E:Fs)(k i:Nat)(h5:ns.length<=5)(hi:i<ns.length):(zaQ dNin (gv 0) (zbJ (compF (zc3 (binN dIx (gv 2) (cstN (.int 1)))) (zaQ dLe (binN dIx (gv 0) (cstN (.int 1))) (gv 1)) (binN dIx (gv 0) (cstN (.int 0))) [1]))) [.val (.int (i:Int)),.val (.int (k:Int)),.val (rdE ns E)]=Ga (upE E i (k:Int)):=by
 refine zDa (rdE ns E) _ (i:Int) (k:Int) _ ((((flE ns.length E).filter λf=>decide (f.a<=(k:Int))).map λf=>(f.h:Int)).map jc) _ (zvC ns E) rfl (zp6 E h5) ?_ ?_
 .rw[jL];exact zeR fd (λf=>decide (f.a<=(k:Int))) _ (λf _=>zDb f _) (λf _ _=>rfl)
 .rw[zvG];refine congrArg (λb=>Ga (jW b)) ?_;cases e:E i with
  | none =>
   rw[zdC e,uh,<- jZ,ju];intro z;obtain⟨f,hf,ef⟩:=jx.mp z;have:=(zc2.mp (jD.mp hf).1).2;rw[show f.h=i by omega,e] at this;cases this
  | some w =>
   obtain⟨a,m⟩:=w;rw[zdX e];by_cases c:(k:Int)<a
   .rw[Gc c,uh,<- jZ,ju];intro z;obtain⟨f,hf,ef⟩:=jx.mp z;obtain⟨y1,y2⟩:=jD.mp hf;have:=(zc2.mp y1).2;rw[show f.h=i by omega,e] at this;cases this;have:=of_decide_eq_true y2;omega
   .rw[Gd c,vT,ju];exact jx.mpr ⟨⟨i,a,m⟩,jD.mpr ⟨zc2.mpr ⟨hi,e⟩,Gc (by show a<=_;omega)⟩,rfl⟩
theorem zEo (R N F:D)(b w k c w' n:Int)(l us:List D)(fs:List D)(x3 x4 x5 x6 x7:Sl)(h0:dIx R (.int 0)=Ga N)(hn:dLen N=Ga (.int n))(hr:rng1 (.int n)=Ga l)(hl:l.length<=1000000)(hu:compD (zaQ dNin (gv 0) (zbJ (compF (zc3 (binN dIx (gv 2) (cstN (.int 1)))) (zaQ dLe (binN dIx (gv 0) (cstN (.int 1))) (gv 1)) (binN dIx (gv 0) (cstN (.int 0))) [1]))) (gv 0) [.val (.int k),.val R] l=Ga us)(h1:dIx R (.int 1)=Ga F)(h2:toS F=Ga fs)
  (hc:∀ x4 x7,∃ y4 y7,forD (tgNN 4) (zaH (ziN 7 (zfG 7 (compF (zc3 (gv 5)) (zaQ dEq (binN dMod (binN dDiv (binN dIx (gv 1) (cstN (.int 2))) (binN dIx (zbJ (zaA (cstN (.int 1)) (zaA (cstN (.int 2)) (zaA (cstN (.int 4)) (zaA (cstN (.int 8)) (zaA (cstN (.int 16)) (zaE))))))) (gv 0))) (cstN (.int 2))) (cstN (.int 0))) (gv 0) [4]))) (ifSN (orBN (zaQ dLt (binN dIx (gv 4) (cstN (.int 1))) (gv 3)) (zeY (zaQ dEq (binN dIx (gv 4) (cstN (.int 1))) (gv 3)) (zaQ dNe (gv 7) (zbJ (zaE))))) (zaK 6 (binN dAdd (gv 6) (cstN (.int 1)))) (nxSN))) fs [.val R,.val (.int b),.val (.int w),.val (.int k),x4,.val (.list us),.val (.int 0),x7]=Ga (.nx [.val R,.val (.int b),.val (.int w),.val (.int k),y4,.val (.list us),.val (.int c),y7])) (hw:w'=if c-k>w then c-k else w) :
  Goes (λψ=>∃ x3 x4 x5 x6 x7,ψ=[.val R,.val (.int b),.val (.int w'),x3,x4,x5,x6,x7]) ((tgNN 3 (.int k) [.val R,.val (.int b),.val (.int w),x3,x4,x5,x6,x7]).bind (zaH (ziN 5 (zfG 5 (compF (zhJ rng1 (unN dLen (binN dIx (gv 0) (cstN (.int 0))))) (zaQ dNin (gv 0) (zbJ (compF (zc3 (binN dIx (gv 2) (cstN (.int 1)))) (zaQ dLe (binN dIx (gv 0) (cstN (.int 1))) (gv 1)) (binN dIx (gv 0) (cstN (.int 0))) [1]))) (gv 0) [3,0]))) (zaH (zaK 6 (cstN (.int 0))) (zaH (zhP (zc3 (binN dIx (gv 0) (cstN (.int 1)))) (tgNN 4) (zaH (ziN 7 (zfG 7 (compF (zc3 (gv 5)) (zaQ dEq (binN dMod (binN dDiv (binN dIx (gv 1) (cstN (.int 2))) (binN dIx (zbJ (zaA (cstN (.int 1)) (zaA (cstN (.int 2)) (zaA (cstN (.int 4)) (zaA (cstN (.int 8)) (zaA (cstN (.int 16)) (zaE))))))) (gv 0))) (cstN (.int 2))) (cstN (.int 0))) (gv 0) [4]))) (ifSN (orBN (zaQ dLt (binN dIx (gv 4) (cstN (.int 1))) (gv 3)) (zeY (zaQ dEq (binN dIx (gv 4) (cstN (.int 1))) (gv 3)) (zaQ dNe (gv 7) (zbJ (zaE))))) (zaK 6 (binN dAdd (gv 6) (cstN (.int 1)))) (nxSN)))) (zaK 2 (binN dMax2 (gv 2) (binN dSub (gv 6) (gv 3)))))))):=by
 obtain⟨y4,y7,hc⟩:=hc x4 x7;subst hw;simp_arith[h0,hn,hr,zbN,Ge hl,hu,h1,h2,hc];exact zbV ⟨_,_,_,_,_,rfl⟩
theorem zDd (R:D)(b:Int)(N:Nat)(W:Nat->Int)(hr:rng2 (.int 1) (.int 4)=Ga ((jf N).map λ(k:Nat)=>.int ((k:Int)+1)))(h0:W 0=0)(st:∀ k,k<N->∀ x3 x4 x5 x6 x7,Goes (λψ=>∃ x3 x4 x5 x6 x7,ψ=[.val R,.val (.int b),.val (.int (W (k+1))),x3,x4,x5,x6,x7]) ((tgNN 3 (.int ((k:Int)+1)) [.val R,.val (.int b),.val (.int (W k)),x3,x4,x5,x6,x7]).bind (zaH (ziN 5 (zfG 5 (compF (zhJ rng1 (unN dLen (binN dIx (gv 0) (cstN (.int 0))))) (zaQ dNin (gv 0) (zbJ (compF (zc3 (binN dIx (gv 2) (cstN (.int 1)))) (zaQ dLe (binN dIx (gv 0) (cstN (.int 1))) (gv 1)) (binN dIx (gv 0) (cstN (.int 0))) [1]))) (gv 0) [3,0]))) (zaH (zaK 6 (cstN (.int 0))) (zaH (zhP (zc3 (binN dIx (gv 0) (cstN (.int 1)))) (tgNN 4) (zaH (ziN 7 (zfG 7 (compF (zc3 (gv 5)) (zaQ dEq (binN dMod (binN dDiv (binN dIx (gv 1) (cstN (.int 2))) (binN dIx (zbJ (zaA (cstN (.int 1)) (zaA (cstN (.int 2)) (zaA (cstN (.int 4)) (zaA (cstN (.int 8)) (zaA (cstN (.int 16)) (zaE))))))) (gv 0))) (cstN (.int 2))) (cstN (.int 0))) (gv 0) [4]))) (ifSN (orBN (zaQ dLt (binN dIx (gv 4) (cstN (.int 1))) (gv 3)) (zeY (zaQ dEq (binN dIx (gv 4) (cstN (.int 1))) (gv 3)) (zaQ dNe (gv 7) (zbJ (zaE))))) (zaK 6 (binN dAdd (gv 6) (cstN (.int 1)))) (nxSN)))) (zaK 2 (binN dMax2 (gv 2) (binN dSub (gv 6) (gv 3))))))))):za3 [R,.int b]=Ga (.int (b+1-W N)):=by
 rw[zlO];unfold zfE;simp_arith[hr];refine(congrArg outV (zoD (R:=Ga (.rt (.int (b+1-W N)))) N (λk ψ=>∃ x3 x4 x5 x6 x7,ψ=[.val R,.val (.int b),.val (.int (W k)),x3,x4,x5,x6,x7]) ⟨_,_,_,_,_,by rw[h0]⟩ ?_ ?_)).trans rfl
 .rintro k hk _ ⟨x3,x4,x5,x6,x7,rfl⟩;exact st k hk x3 x4 x5 x6 x7
 .rintro _ ⟨x3,x4,x5,x6,x7,rfl⟩;simp_arith[]
def wsL (n:Nat)(E:Fs):Nat->Int
 | 0=>0
 | k+1=>if (cntE n (cE n E (k+1)):Int)-((k:Int)+1)>wsL n E k then(cntE n (cE n E (k+1)):Int)-((k:Int)+1) else wsL n E k
theorem zDe (ns:List D)(E:Fs)(b:Int)(h5:ns.length<=5)(o:Ok ns.length E 5):za3 [rdE ns E,.int b]=Ga (.int (b+1-wsL ns.length E 3)):=by
 refine zDd (rdE ns E) b 3 (wsL ns.length E) (zrT (m:=3) (by decide)) rfl ?_;intro k hk x3 x4 x5 x6 x7;have ek:(k:Int)+1=((k+1:Nat):Int):=by omega
 refine zEo (rdE ns E) _ _ b _ ((k:Int)+1) ((cntE ns.length (cE ns.length E (k+1)):Nat):Int) _ (ns.length:Int) _ (il (upLE ns.length E (k+1))) _ x3 x4 x5 x6 x7 (zC3 ns E) rfl (zdY (by omega)) (by rw[jb,jG];omega) ?_ (zvC ns E) rfl ?_ (by rw[wsL])
 .rw[ek];exact zeR (λ(i:Nat)=>jc (i:Int)) (λi=>upE E i ((k+1:Nat):Int)) (λ(i:Nat)=>jc (i:Int)) (λi hi=>zDc ns E (k+1) i h5 (jp.mp hi)) (λi _ _=>rfl)
 .intro y4 y7;have L:=zuR (t:=tgNN 4) (g:=(zaH (ziN 7 (zfG 7 (compF (zc3 (gv 5)) (zaQ dEq (binN dMod (binN dDiv (binN dIx (gv 1) (cstN (.int 2))) (binN dIx (zbJ (zaA (cstN (.int 1)) (zaA (cstN (.int 2)) (zaA (cstN (.int 4)) (zaA (cstN (.int 8)) (zaA (cstN (.int 16)) (zaE))))))) (gv 0))) (cstN (.int 2))) (cstN (.int 0))) (gv 0) [4]))) (ifSN (orBN (zaQ dLt (binN dIx (gv 4) (cstN (.int 1))) (gv 3)) (zeY (zaQ dEq (binN dIx (gv 4) (cstN (.int 1))) (gv 3)) (zaQ dNe (gv 7) (zbJ (zaE))))) (zaK 6 (binN dAdd (gv 6) (cstN (.int 1)))) (nxSN)))) (ψ:=[.val (rdE ns E),.val (.int b),.val (.int (wsL ns.length E k)),.val (.int ((k:Int)+1)),y4,.val (.list (il (upLE ns.length E (k+1)))),.val (.int 0),y7]) fd (λpre ψ=>∃ x4 x7,ψ=[.val (rdE ns E),.val (.int b),.val (.int (wsL ns.length E k)),.val (.int ((k:Int)+1)),x4,.val (.list (il (upLE ns.length E (k+1)))),.val (.int ((pre.filter (missB ns.length E (k+1))).length:Nat)),x7]) (flE ns.length E) ⟨_,_,rfl⟩ (by
   rintro pre f suf e _ ⟨z4,z7,rfl⟩;refine zpN (zEn (rdE ns E) (.list (il (upLE ns.length E (k+1)))) (.int 0) b _ ((k:Int)+1) _ _ f _ ((((upLE ns.length E (k+1)).filter λh=>!bt f.m h).map λ(i:Nat)=>(i:Int)).map jc) _ z4 z7 rfl ?_ ?_ (zC9 _) rfl) ?_
   .unfold il;rw[jb];have:=zlT ns.length E (k+1);omega
   .unfold il;rw[jL];exact zeR (λ(i:Nat)=>jc (i:Int)) (λh=>!bt f.m h) _ (λi hi=>zC8 f i (by have:=zmR hi;omega)) (λi _ _=>rfl)
   .rintro _ ⟨u4,u7,rfl⟩;refine⟨u4,u7,?_⟩;have:(decide (f.a<(k:Int)+1)||(decide (f.a=(k:Int)+1)&&!(((upLE ns.length E (k+1)).filter λh=>!bt f.m h).map λ(i:Nat)=>(i:Int)).isEmpty))=missB ns.length E (k+1) f:=by
     unfold missB;rw[<- ek,List.isEmpty_map];refine congrArg (λq=>_||(_&&!q)) ?_;rw[kA,List.isEmpty_iff,ur,jF];constructor
     .intro z x hx;have:=z x hx;rw[jZ,vT] at this;exact this
     .intro z x hx y;rw[z x hx] at y;cases y
    rw[this,kH];by_cases z:missB ns.length E (k+1) f=true
    .rw[Ge z,jU z,jh];rfl
    .rw[Gf z,kj z,List.filter_nil,j7])
  obtain⟨_,q,u4,u7,rfl⟩:=L;refine⟨u4,u7,?_⟩;rw[q,zf7,zf1];rfl
theorem zlU (n:Nat)(E:Fs):0<=wsL n E 3/\(∀ k,1<=k->k<=3->(cntE n (cE n E k):Int)-(k:Int)<=wsL n E 3)/\∀ t:Nat,cntE n E<=t->wsL n E 3<=(t:Int):=by
 have c:∀ k,cntE n (cE n E k)<=cntE n E:=λk=>zhB λi hi=>by
  unfold cE at hi;cases e:E i with
  | none=>rw[e] at hi;cases hi
  | some w=>rfl
 have c1:=c 1;have c2:=c 2;have c3:=c 3;have e1:wsL n E 1=if (cntE n (cE n E 1):Int)-1>0 then(cntE n (cE n E 1):Int)-1 else 0:=rfl;have e2:wsL n E 2=if (cntE n (cE n E 2):Int)-2>wsL n E 1 then(cntE n (cE n E 2):Int)-2 else wsL n E 1:=rfl;have e3:wsL n E 3=if (cntE n (cE n E 3):Int)-3>wsL n E 2 then(cntE n (cE n E 3):Int)-3 else wsL n E 2:=rfl;generalize wsL n E 1=w1 at *;generalize wsL n E 2=w2 at *;generalize wsL n E 3=w3 at *;split at e1<;>split at e2<;>split at e3<;>(refine⟨by omega,λk h1 h3=>?_,λt ht=>by omega⟩)<;>(have:k=1\/k=2\/k=3:=by omega)<;>(rcases this with rfl|rfl|rfl)<;>omega
theorem zEp (n:Nat)(E:Fs)(k t:Nat)(hk:k<=2)(h:(k:Int)<(t:Int)+1-wsL n E 3):(∀ a,1<=a->a<=k->cntE n (befE E (a+1))+(k-a)<=t+1)/\∀ a,1<=a->a<=k->cntE n (healE n (befE E (a+1)) a)+(k-a)<=t:=by
 obtain⟨_,W,_⟩:=zlU n E;refine⟨λa a1 a2=>?_,λa a1 a2=>?_⟩
 .have w:=W (a+1) (by omega) (by omega);have:cntE n (befE E (a+1))<=cntE n (cE n E (a+1)):=zhB λi hi=>by
   unfold befE at hi;unfold cE;cases e:E i with
   | none=>rw[e] at hi;cases hi
   | some u =>
    obtain⟨x,m⟩:=u;rw[e] at hi;dsimp only at hi;by_cases z:x<((a+1:Nat):Int)
    .rw[jr,Ge];rfl;unfold missB;rw[Gc z];rfl
    .rw[Gf z] at hi;cases hi
  omega
 .have w:=W a a1 (by omega);have:cntE n (healE n (befE E (a+1)) a)<=cntE n (cE n E a):=zhB λi hi=>by
   unfold healE at hi;by_cases z:heardB n (befE E (a+1)) a i=true
   .rw[Ge z] at hi;cases hi
   .rw[Gf z] at hi;unfold befE at hi;unfold cE;cases e:E i with
    | none=>rw[e] at hi;cases hi
    | some u =>
     obtain⟨x,m⟩:=u;rw[e] at hi;dsimp only at hi;by_cases y:x<((a+1:Nat):Int)
     .rw[jr,Ge];rfl;unfold missB;by_cases q:x<(a:Int)
      .rw[Gc q];rfl
      .have xa:x=(a:Int):=by omega
       rw[Gc xa,vG];refine .inr ?_;rw[v9,uh];cases r:(upLE n E a).all λh=>bt m h with
       | false=>rfl
       | true =>
        refine absurd ?_ z;unfold heardB;have eb:befE E (a+1) i=Ga (x,m):=by unfold befE;rw[e];dsimp only;rw[Ge y]
        rw[eb];dsimp only;rw[Gc xa,v9];have ups:∀ j,upE (befE E (a+1)) j (a:Int)=upE E j (a:Int):=λj=>by
         cases ej:E j with
         | none=>rw[zdC ej,zdC (by unfold befE;rw[ej])]
         | some u =>
          obtain⟨b,l⟩:=u;by_cases yy:b<((a+1:Nat):Int)
          .exact zk7 (by unfold befE;rw[ej];dsimp only;rw[Ge yy]) _
          .rw[zdX ej,zdC (by unfold befE;rw[ej];dsimp only;rw[Gf yy])];exact(Gc (by omega)).symm
        rw[kw λj _=>ups j];exact r
     .rw[Gf y] at hi;cases hi
  omega
theorem zDf (pw:D->D->Option D)(x T:Int)(hw:zbH [.int x]=Ga (.bool true))(hq:pw (.int 10) (.int 60)=Ga (.int T))(h1:-T<x)(h2:x<T):outV ((zbS (zsE (zaG zbH (zaA (gv 0) (zaE))) (zoA dLt dLt (unN dNeg (binN pw (cstN (.int 10)) (cstN (.int 60)))) (gv 0) (binN pw (cstN (.int 10)) (cstN (.int 60)))))) [.val (.int x)])=Ga (.bool true):=by
 generalize zbH=A1 at *;simp_arith[hw,hq,Gc h1,Gc h2]
theorem zDg (x:Int)(h:¬(10:Int)^60<=(if x<0 then -x else x)):zcN [.int x]=Ga (.bool true):=by
 have hw:zbH [.int x]=Ga (.bool true):=by
  rw[zoP];unfold zhZ;simp_arith[]
 obtain⟨T,hT,_,hT2,_⟩:=ten59;rw[hT2] at h;rw[zm7];unfold zgT;exact zDf dPow x (10*T) hw (by rw[pow60,hT2]) (by split at h<;>omega) (by split at h<;>omega)
theorem zA2 (xs bs:List D)(n:Int)(hn:dLen (.tuple xs)=Ga (.int n))(h1:2<=n)(h2:n<=5)(hl:xs.length<=1000000)(hc:compD (λ_=>Ga true) (zaG zcN (zaA (gv 0) (zaE))) [] xs=Ga bs)(hb:dAll bs=Ga (.bool true)):zb7 [.tuple xs]=Ga (.bool true):=by
 rw[zlH];unfold ze8;generalize zcN=A1 at *;simp_arith[hn,Gc h1,Gc h2,zuL,zbN,Ge hl,hc,hb]
theorem zDh (R Nw:D)(n:Int)(h1:zb7 [Nw]=Ga (.bool true))(h2:dLen Nw=Ga (.int n))(h3:zaL [R]=Ga (.int n)):zbL [R,Nw]=Ga (.bool true):=by
 rw[ziS];unfold zdJ;generalize zb7=A1 at *;generalize zaL=A2 at *;simp_arith[h1,h2,h3]
theorem zxX (l:List Int):dAll (l.map λ_=>jW true)=Ga (.bool true):=by
 unfold dAll;have:(l.map λ_=>jW true)=(l.map λ_=>true).map jW:=by rw[jL];rfl
 rw[this,ziG,jr,qr];refine congrArg (λb=>Ga (jW b)) ?_;exact jF.mpr λ_ _=>rfl
theorem zA3 (n:Nat)(v w:Nat->Int)(E:Fs)(h2:2<=n)(h5:n<=5)(hv:∀ i,i<n->¬(10:Int)^60<=(if v i<0 then -(v i) else v i)):zbL [rdR n (w,E),.tuple (nmD n v)]=Ga (.bool true):=by
 have ln:dLen (.tuple (nmD n v))=Ga (.int (n:Int)):=by show Ga (jc (((nmD n v).length:Nat):Int))=_;rw[za1]
 refine zDh _ _ (n:Int) ?_ ln ?_
 .refine zA2 (nmD n v) (((jf n).map v).map λ_=>jW true) (n:Int) ln (by omega) (by omega) (by rw[za1];omega) ?_ (zxX _);rw[zo0];refine zeS jc _ λx hx=>?_;obtain⟨i,hi,rfl⟩:=jx.mp hx;have:=zDg (v i) (hv i (jp.mp hi));simp_arith[this]
 .have:=zmN (nmD n w) (flE n E);unfold rdR rdE;rw[za1] at this ⊢;exact this
theorem zxY (R Nw l:D)(b k:Int)(P Q P2:List D)(h1:zbD [R,.int b,.int k]=Ga (.bool true))(h2:zbL [R,Nw]=Ga (.bool true))(h3:zdI [R,.int b,.int k]=Ga (.list P))(h4:L2.atI P (-1)=Ga l)(h5:zb6 [l,Nw,.int k]=Ga (.list Q))(h6:dAdd (.list P) (.list Q.tail)=Ga (.list P2)):zb9 [R,.int b,.int k,Nw]=Ga (.list P2):=by
 rw[zoQ];unfold zh3;generalize zbD=A1 at *;generalize zbL=A2 at *;generalize zdI=A3 at *;generalize zb6=A4 at *;simp_arith[h1,h2,h3,h4,h5,zhF,h6]
theorem Pth.mono {n k t t':Nat}{a b:Rn}{P:List Rn}(H:Pth n k t a b P)(h:t<=t'):Pth n k t' a b P:=⟨H.hd,H.lst,H.ok,λr hr=>jn (H.cnt r hr) h,H.chn,H.num⟩
theorem zq7 {n:Nat}{E:Fs}{a:Nat}(h2:2<=n)(h5:n<=5)(ha:a<=5)(o:Ok n E a):Good n (flE n E):=by
 have p32:=zlS h5;exact⟨h2,h5,λf hf=>(zc2.mp hf).1,λf hf=>jq (o.msk _ _ _ (zc2.mp hf).2).1 p32,zuY n E,λf hf=>(o.rnd _ _ _ (zc2.mp hf).2).1,λf hf=>by have:=(o.rnd _ _ _ (zc2.mp hf).2).2;omega⟩
theorem zyV (n:Nat)(E:Fs)(h:cntE n E<=3):wst (cnt n (flE n E))<=wsL n E 3:=by
 obtain⟨w0,w1,_⟩:=zlU n E;have c:∀ k,(cnt n (flE n E) k:Int)<=(cntE n (cE n E k):Int):=λk=>by
  unfold cnt foL;have eU:upL n (flE n E) k=upLE n E k:=kw λi hi=>zrO (jp.mp hi) _;rw[eU];split
  .exact Int.natCast_nonneg _
  .have:(flE n E).filter (foB (upLE n E k) k)=(flE n E).filter (missB n E k):=rfl;rw[this,zf7,zf1];exact kQ _
 have c0:∀ k,(cnt n (flE n E) k:Int)<=3:=λk=>by
  refine uq (c k) ?_;have:cntE n (cE n E k)<=cntE n E:=zhB λi hi=>by
   unfold cE at hi;cases e:E i with
   | none=>rw[e] at hi;cases hi
   | some w=>rfl
  omega
 have a1:=uq (vD (c 1) 1) (w1 1 (by omega) (by omega));have a2:=uq (vD (c 2) 2) (w1 2 (by omega) (by omega));have a3:=uq (vD (c 3) 3) (w1 3 (by omega) (by omega));have a4:=c0 4;have a5:=c0 5;have m:∀ x y z:Int,x<=z->y<=z->mx x y<=z:=λx y z h1 h2=>by unfold mx;split<;>assumption
 unfold wst;exact m _ _ _ (m _ _ _ (m _ _ _ (m _ _ _ (m _ _ _ w0 a1) a2) a3) (by omega)) (by omega)
theorem pow59 (T:Int)(hT:(10:Int)^59=T):dPow (.int 10) (.int 59)=Ga (.int T):=by
 subst hT;show(if (decide ((0:Int)<=59)&&decide ((59:Int)<=1000000)&&decide ((10:Int).natAbs<2^64))=true then Ga (jc ((10:Int)^(59:Int).toNat)) else Gb)=_;rw[Ge (by decide)];rfl
theorem zDi (x:Int)(n:Nat)(hn:n<=5):compD (λ_=>Ga true) (binN dSub (binN dMod (binN dDiv (gv 1) (binN dAdd (gv 0) (cstN (.int 1)))) (cstN (.int 4))) (cstN (.int 1))) [.val (.int x)] ((jf n).map λ(k:Nat)=>jc (k:Int))=Ga ((jf n).map λ(j:Nat)=>.int (x/((j:Int)+1)%4-1)) :=
 zeS _ _ (λj hj=>by
   have:j<5:=by have:=jp.mp hj;omega
   have a1:dDiv (.int x) (.int ((j:Int)+1))=Ga (.int (x/((j:Int)+1))):=zkB (by omega) (by omega);have a2:dMod (.int (x/((j:Int)+1))) (.int 4)=Ga (.int (x/((j:Int)+1)%4)):=zgC (by decide);simp_arith[a1,a2])
theorem zEq (pw:D->D->Option D)(x z w T:Int)(hq:pw (.int 10) (.int 59)=Ga (.int T))(a1:dMul (.int z) (.int z)=Ga (.int w))(a2:dMul (.int x) (.int (w+1))=Ga (.int (x*(w+1))))(h2:dMul (.int 2) (.int T)=Ga (.int (2*T)))(hm2:∀ x:Int,dMod (.int x) (.int (2*T))=Ga (.int (x%(2*T)))):(binN dSub (binN dMod (binN dAdd (binN dMul (gv 1) (binN dAdd (binN dMul (gv 0) (gv 0)) (cstN (.int 1)))) (gv 0)) (binN dMul (cstN (.int 2)) (binN pw (cstN (.int 10)) (cstN (.int 59))))) (binN pw (cstN (.int 10)) (cstN (.int 59)))) [.val (.int z),.val (.int x)]=Ga (.int ((x*(w+1)+z)%(2*T)-T)):=by
 simp_arith[a1,a2,hq,h2,hm2]
theorem zxZ {j:Nat}(h:j<5):0<=(j:Int)*j/\(j:Int)*j<20:=by
 match j,h with
 | 0,_=>decide
 | 1,_=>decide
 | 2,_=>decide
 | 3,_=>decide
 | 4,_=>decide
theorem zyW (i:Int){j:Int}(h1:-100<j)(h2:j<100):dMul (.int i) (.int j)=Ga (.int (i*j)):=zs0 i (Int.lt_trans (by decide) h1) (Int.lt_trans h2 (by decide))
theorem zDj (pw:D->D->Option D)(x:Int)(n:Nat)(hn:n<=5)(T:Int)(hq:pw (.int 10) (.int 59)=Ga (.int T))(hp:0<2*T):compD (λ_=>Ga true) (binN dSub (binN dMod (binN dAdd (binN dMul (gv 1) (binN dAdd (binN dMul (gv 0) (gv 0)) (cstN (.int 1)))) (gv 0)) (binN dMul (cstN (.int 2)) (binN pw (cstN (.int 10)) (cstN (.int 59))))) (binN pw (cstN (.int 10)) (cstN (.int 59)))) [.val (.int x)] ((jf n).map λ(k:Nat)=>jc (k:Int))=Ga ((jf n).map λ(j:Nat)=>.int ((x*((j:Int)*j+1)+j)%(2*T)-T)) :=
 zeS _ _ (λj hj=>by
   have h5:j<5:=by have:=jp.mp hj;omega
   obtain⟨s1,s2⟩:=zxZ h5;exact zEq pw x _ _ T hq (zyW _ (by omega) (by omega)) (zyW _ (by omega) (by omega)) (zyS T (by decide) (by decide)) (λx=>zgC hp))
theorem zvH (a x y n:Int)(l r1 r2:List D)(hr:rng1 (.int n)=Ga l)(hl:l.length<=1000000)(hd:dDiv (.int a) (.int 3)=Ga (.int x))(hm:dMod (.int a) (.int 3)=Ga (.int y))(e1:compD (λ_=>Ga true) (binN dSub (binN dMod (binN dDiv (gv 1) (binN dAdd (gv 0) (cstN (.int 1)))) (cstN (.int 4))) (cstN (.int 1))) [.val (.int x)] l=Ga r1)(e2:compD (λ_=>Ga true) (binN dSub (binN dMod (binN dAdd (binN dMul (gv 1) (binN dAdd (binN dMul (gv 0) (gv 0)) (cstN (.int 1)))) (gv 0)) (binN dMul (cstN (.int 2)) (binN dPow (cstN (.int 10)) (cstN (.int 59))))) (binN dPow (cstN (.int 10)) (cstN (.int 59)))) [.val (.int x)] l=Ga r2):zaX [.int a,.int n]=Ga (.tuple (if y=0 then r1 else r2)):=by
 rw[zlN];unfold zfD;generalize dPow=pw at *;by_cases c:y=0
 .rw[Ge c];simp_arith[hd,hm,Gc c,hr,zbN,Ge hl,e1]
 .rw[Gf c];simp_arith[hd,hm,Gd c,hr,zbN,Ge hl,e2]
theorem zs2 (a:Int)(n:Nat)(hn:n<=5)(T:Int)(hT:(10:Int)^59=T)(hp:0<2*T):zaX [.int a,.int (n:Int)]=Ga (.tuple (if a%3=0 then((jf n).map λ(j:Nat)=>.int (a/3/((j:Int)+1)%4-1)) else((jf n).map λ(j:Nat)=>.int ((a/3*((j:Int)*j+1)+j)%(2*T)-T)))) :=
 zvH a (a/3) (a%3) n _ _ _ (zdY (by omega)) (by rw[jb,jG];omega) (zkB (by decide) (by decide)) (zgC (by decide)) (zDi _ n hn) (zDj dPow _ n hn T (pow59 T hT) hp)
theorem zs3 (a:Int)(n:Nat)(hn:n<=5):∃ is:List Int,is.length=n/\(∀ x∈is,¬(10:Int)^60<=(if x<0 then -x else x))/\zaX [.int a,.int (n:Int)]=Ga (.tuple (is.map jc)):=by
 obtain⟨T,t1,t2,t3,t4⟩:=ten59;refine⟨(jf n).map λ(j:Nat)=>if a%3=0 then(a/3/((j:Int)+1)%4-1) else((a/3*((j:Int)*j+1)+j)%(2*T)-T),by rw[jb,jG],?_,?_⟩
 .intro x hx;obtain⟨j,hj,rfl⟩:=jx.mp hx;rw[t3];by_cases c:a%3=0
  .rw[Ge c];have:=kT (a/3/((j:Int)+1)) (show(4:Int)≠0 by decide);have:=kJ (a/3/((j:Int)+1)) (show(0:Int)<4 by decide);split<;>omega
  .rw[Gf c];have:=kT (a/3*((j:Int)*j+1)+j) (show 2*T≠0 by omega);have:=kJ (a/3*((j:Int)*j+1)+j) t2;split<;>omega
 .rw[zs2 a n hn T t1 t2,jL];refine congrArg (λl=>Ga (jT l)) ?_;by_cases c:a%3=0
  .rw[Ge c];exact km λj _=>by show _=jc (if a%3=0 then _ else _);rw[Ge c]
  .rw[Gf c];exact km λj _=>by show _=jc (if a%3=0 then _ else _);rw[Gf c]
def cm (fs:List Fl)(b t:Nat)(at_:Int):Bool :=
 if b=t then false else if up fs t at_=false then false else match fof fs b with
  | none=>true
  | some f=>if at_<f.a then true else decide (f.a=at_)&&decide ((f.m:Int)/(2^t)%2=1)
theorem zA4 {fs:List Fl}{h:Nat}{f:Fl}(e:fof fs h=Ga f):f∈fs/\f.h=h:=⟨vV e,by have:=Jw e;exact beq_iff_eq.mp this⟩
theorem zx0 (ns:List D)(fs:List Fl)(b t:Nat)(at_:Int)(G:Good ns.length fs)(ht:t<ns.length):zc4 [rd ns fs,.int b,.int t,.int at_]=Ga (.bool (cm fs b t at_)):=by
 have h5:=G.n5;show outV (zl8 [.val (rd ns fs),.val (.int b),.val (.int t),.val (.int at_),.no])=_;unfold zl8;have c1:cmpB dEq (gv 1) (gv 2) (frz [.val (rd ns fs),.val (.int b),.val (.int t),.val (.int at_),.no])=Ga (decide (b=t)):=by
  refine zr5 (x:=.int b) (y:=.int t) rfl rfl ((zi4 _ _).trans ?_)
  congr 2;rw[kA,beq_iff_eq,decide_eq_true_eq];omega
 have c2:notB (tst (callV zeX (consL (gv 0) (consL (gv 2) (consL (gv 3) (nilL)))))) (frz [.val (rd ns fs),.val (.int b),.val (.int t),.val (.int at_),.no])=Ga (!(up fs t at_)) :=
  ztM (zpC ((zdL (ds:=[rd ns fs,.int t,.int at_]) rfl).trans (zrI _ _ _ _)) rfl)
 unfold cm;by_cases hbt:b=t
 .rw[Ge hbt,znM ((if_t (or_t (c1.trans (congrArg Ga (Gc hbt))))).trans (zkA rfl))];rfl
 rw[Gf hbt];by_cases hu:up fs t at_=false
 .rw[Ge hu,znM ((if_t ((or_f (c1.trans (congrArg Ga (Gd hbt)))).trans (c2.trans (by rw[hu];rfl)))).trans (zkA rfl))];rfl
 rw[Gf hu];have hu':up fs t at_=true:=by cases h:up fs t at_ with|true=>rfl|false=>exact absurd h hu
 rw[zd2 (if_f ((or_f (c1.trans (congrArg Ga (Gd hbt)))).trans (c2.trans (by rw[hu'];rfl))))];rw[zd2 (e:=[.val (rd ns fs),.val (.int b),.val (.int t),.val (.int at_),.val (fofD fs b)]) (zqF ((zdL (ds:=[rd ns fs,.int b]) rfl).trans (ziJ ns fs b)))];unfold fofD;cases e:fof fs b with
 | none=>rw[znM ((if_t (or_t (zr5 (x:=.none) (y:=.none) rfl rfl rfl))).trans (zkA rfl))];rfl
 | some f =>
  have hm:=G.mb f (zA4 e).1;dsimp only;have d1:cmpB dIs (gv 4) (cst .none) (frz [.val (rd ns fs),.val (.int b),.val (.int t),.val (.int at_),.val (fd f)])=Ga false:=zr5 (x:=fd f) (y:=.none) rfl rfl rfl;have d2:cmpB dGt (bin dIx (gv 4) (cst (.int 1))) (gv 3) (frz [.val (rd ns fs),.val (.int b),.val (.int t),.val (.int at_),.val (fd f)])=Ga (decide (at_<f.a)):=zr5 (x:=.int f.a) (y:=.int at_) rfl rfl rfl;by_cases hl:at_<f.a
  .rw[Ge hl,znM ((if_t ((or_f d1).trans (d2.trans (congrArg Ga (Gc hl))))).trans (zkA rfl))];rfl
  rw[Gf hl,zd2 (if_f ((or_f d1).trans (d2.trans (congrArg Ga (Gd hl)))))];have d3:bin dEq (bin dIx (gv 4) (cst (.int 1))) (gv 3) [.val (rd ns fs),.val (.int b),.val (.int t),.val (.int at_),.val (fd f)]=Ga (.bool (decide (f.a=at_))):=by
   refine(zn2 (a:=.int f.a) (b:=.int at_) rfl rfl).trans ((zi4 _ _).trans ?_)
   congr 2
  have d4:callV zaU (consL (bin dIx (gv 4) (cst (.int 2))) (consL (gv 2) (nilL))) [.val (rd ns fs),.val (.int b),.val (.int t),.val (.int at_),.val (fd f)]=Ga (.bool (decide ((f.m:Int)/(2^t)%2=1))) :=
   (zdL (ds:=[.int f.m,.int t]) rfl).trans (zuU _ _ hm (by omega))
  rw[zkA (d:=.bool (decide (f.a=at_)&&decide ((f.m:Int)/(2^t)%2=1))) ?_]
  .rfl
  .show((bin dEq (bin dIx (gv 4) (cst (.int 1))) (gv 3) [.val (rd ns fs),.val (.int b),.val (.int t),.val (.int at_),.val (fd f)]).bind toB).bind _=_;rw[d3,jr,show toB (.bool (decide (f.a=at_)))=Ga (decide (f.a=at_)) from rfl,jr];cases decide (f.a=at_) with
   | false=>rfl
   | true=>exact d4
theorem zyX {g:FS}{k:FX}{l:List (Str×FS)}{i:Nat}{mk:Str->FnC}{ψ e:En}{c:Str}{gc:FS}(hk:k ψ=Ga c)(hm:c∈l.map Prod.fst)(hl:l.lookup c=Ga gc)(hg:gc (ψ.set i (.fn (mk c)))=Ga (.nx e)):tryS g k (l.map Prod.fst) i mk (gsL l) ψ=Ga (.nx (e.set i .no)):=by
 unfold tryS;rw[hk];dsimp only;rw[Ge hm];unfold gsL;rw[hl];show Option.bind (gc _) _=_;rw[hg];rfl
theorem zDk {g:FS}{k:FX}{cs:List Str}{i:Nat}{mk:Str->FnC}{gs:Str->FS}{ψ:En}(hk:k ψ=Gb):tryS g k cs i mk gs ψ=g ψ:=by
 unfold tryS;rw[hk]
def isWh:D->Bool
 | .int _=>true
 | _=>false
theorem zvI (d:D):zbH [d]=Ga (.bool (isWh d)):=by cases d<;>rfl
def kpZ (n m i:Int):Bool:=decide (0<=i)&&(decide (i<=n-2)&&decide (m<=i))
theorem zvJ (R N0 F0:D)(n m i:Int)(h0:zaL [R]=Ga (.int n))(h2:dIx R (.int 1)=Ga F0)(h3:dLen F0=Ga (.int m)):zb5 [R,.int i]=Ga (.bool (kpZ n m i)):=by
 have hw:=zvI (.int i);have hw':zbH [.int i]=Ga (.bool true):=hw;rw[znT];unfold zmE;unfold kpZ;generalize zaL=A1 at *;generalize zbH=A2 at *;by_cases c1:0<=i
 .by_cases c2:i<=n-2
  .by_cases c3:m<=i
   .simp_arith[hw',h0,h2,h3,Gc c1,Gc c2,Gc c3];rfl
   .simp_arith[hw',h0,h2,h3,Gc c1,Gc c2,Gd c3];rfl
  .simp_arith[hw',h0,h2,h3,Gc c1,Gd c2];rfl
 .simp_arith[hw',h0,h2,h3,Gd c1];rfl
theorem zq8 (R b:D)(hb:isWh b=false):zb5 [R,b]=Ga (.bool false):=by
 have hw:=zvI b;rw[hb] at hw;rw[znT];unfold zmE;generalize zbH=A2 at *;simp_arith[hw]
theorem zEr (R b:D)(t:Bool)(h:zb5 [R,b]=Ga (.bool t)):zdT [R,b]=if t then Gb else Ga (jl "NoBound"):=by
 show zdS [.val R,.val b]=_;have e:notB (tst (callV zb5 (consL (gv 0) (consL (gv 1) (nilL))))) (frz [.val R,.val b])=Ga (!t):=ztM (b:=t) (zpC ((zdL (ds:=[R,b]) rfl).trans h) rfl);unfold zdS ifX;rw[e];cases t<;>rfl
theorem zEs (R b:D)(r:D)(t:Bool)(h:zb5 [R,b]=Ga (.bool t)):zdM [R,b,r]=if t then Gb else Ga (jl "NoBound"):=zEr R b t h
theorem zDl (n:Nat)(E:Fs)(h:cntE n E+2<=n):wsL n E 3<=wst (cnt n (flE n E)):=by
 have c:∀ k,(cntE n (cE n E k):Int)<=(cnt n (flE n E) k:Int):=λk=>by
  unfold cnt foL;have eU:upL n (flE n E) k=upLE n E k:=kw λi hi=>zrO (jp.mp hi) _;rw[eU];have ne:(upLE n E k).isEmpty=false:=by
   obtain⟨i,hi,_,e⟩:=zfO h 0;have:i∈upLE n E k:=jD.mpr ⟨jp.mpr hi,by unfold upE;rw[e]⟩;cases hq:upLE n E k with
   | nil=>rw[hq] at this;cases this
   | cons x r=>rfl
  rw[ne,Gf (by decide)];have:(flE n E).filter (foB (upLE n E k) k)=(flE n E).filter (missB n E k):=rfl;rw[this,zf7,zf1];exact kQ _
 have m1:∀ x y:Int,x<=mx x y:=λx y=>by unfold mx;split<;>omega
 have m2:∀ x y:Int,y<=mx x y:=λx y=>by unfold mx;split<;>omega
 have a1:=c 1;have a2:=c 2;have a3:=c 3;unfold wst;generalize hx0:mx 0 (cnt n (flE n E) 1-1)=x1;generalize hx1:mx x1 (cnt n (flE n E) 2-2)=x2;generalize hx2:mx x2 (cnt n (flE n E) 3-3)=x3;have b0:=m1 0 (cnt n (flE n E) 1-1);have b1:=m2 0 (cnt n (flE n E) 1-1);have b2:=m1 x1 (cnt n (flE n E) 2-2);have b3:=m2 x1 (cnt n (flE n E) 2-2);have b4:=m1 x2 (cnt n (flE n E) 3-3);have b5:=m2 x2 (cnt n (flE n E) 3-3);rw[hx0] at b0 b1;rw[hx1] at b2 b3;rw[hx2] at b4 b5;have e1:=m1 x3 (cnt n (flE n E) 4-4);have e2:=m1 (mx x3 (cnt n (flE n E) 4-4)) (cnt n (flE n E) 5-5);refine uq ?_ (uq e1 e2);show(if _ then _ else _)<=x3;split
 .show(cntE n (cE n E 3):Int)-(2+1)<=x3;omega
 .show(if _ then _ else _)<=x3;split
  .show(cntE n (cE n E 2):Int)-(1+1)<=x3;omega
  .show(if _ then _ else _)<=x3;split
   .show(cntE n (cE n E 1):Int)-(0+1)<=x3;omega
   .show(0:Int)<=x3;omega
theorem chain45 (n k b:Nat)(v new:Nat->Int)(E:Fs)(h2:2<=n)(h5:n<=5)(k1:k<=1)(o:Ok n E 3)(c:cntE n E<=b)(ht:b+2<=n)(hk:(k:Int)<(b:Int)+1-wsL n E 3)(hv:∀ i,i<n->¬(10:Int)^60<=(if new i<0 then -(new i) else new i)) :
  ∃ Ps:List Rn,∃ w:Nat->Int,(∀ i,i<n->w i=new i)/\zb9 [rdR n (v,E),.int (b:Int),.int (k:Int),.tuple (nmD n new)]=Ga (.list (Ps.map (rdR n)))/\Pth n k b (v,E) (w,noE) Ps/\Ps.length<=6000:=by
 obtain⟨w0,_,_⟩:=zlU n E;obtain⟨H1,H2⟩:=zEp n E k b (by omega) hk;obtain⟨⟨HP,hl⟩,_⟩:=zu2 (n:=n) (k:=k) (t:=b) h2 h5 (by omega) (v:=v) (E:=E) (o.mono (by omega)) c ht H1 H2;have HE:=zvF n k b v E (.int (b:Int)) h2 h5 (by omega) (o.mono (by omega)) c ht H1 H2;obtain⟨w,hw,HR,rl⟩:=zuZ (n:=n) (k:=k) h2 h5 (by omega) v new n (jk _);have RE:=zo1 n k h2 h5 (by omega) v new;generalize (jf n).foldl (renS n k new) [(v,noE)]=Q at HR rl RE;generalize healP n k v E=P at HP hl HE;have J:=HP.join (HR.mono (show k<=b by omega)) (.inl rfl);have kc:k=0\/k=1:=by omega
 have l1:P.length<=1300:=by
  rcases kc with rfl|rfl
  .omega
  .have:hLen (1-1)=1:=rfl;rw[this] at hl;omega
 have l2:Q.length<=500:=by
  have:n*(2*hLen k)<=5*(2*6):=vS h5 (vS (jk _) (by rcases kc with rfl|rfl<;>decide));omega
 have lp:(P++Q.tail).length<=6000:=by rw[jh,ko];omega
 refine⟨P++Q.tail,w,λi hi=>by rw[hw i,Ge hi],?_,J,lp⟩;have G:=zq7 h2 h5 (by omega) o;have ln:=za1 n v;have OP:=zuV (nmD n v) (flE n E) (by rw[ln];exact G) b (by rw[ln];exact ht) (by rw[zf1];exact c) (k:Int);have wl:=zyV n E (by omega);rw[ln,Gc (by omega)] at OP;have er:rdR n (v,E)=rd (nmD n v) (flE n E):=by unfold rdR rdE;rw[ln]
 refine zxY (rdR n (v,E)) _ (rdR n (v,noE)) (b:Int) (k:Int) _ _ _ (by rw[er];exact OP) (zA3 n new v E h2 h5 hv) HE (zfF (by rw[kf,HP.lst];rfl)) RE ?_;rw[jO,ue];show(if _+_<=sizeLine then _ else _)=_;rw[Ge (jn (by rw[jb,ko,jb];omega:_<=6000) (by rw[sizeLine_eq];decide))]
def v0 (v:Nat->Int)(h:Nat):D:=.tuple [.int (h:Int),.int (v h)]
def V0 (n:Nat)(v:Nat->Int):List D:=(jf n).map (v0 v)
theorem zDm (R N0:D)(n k:Int)(Ks Vs Rs:List D)(hm:zaL [R]=Ga (.int n))(hr:rng1 (.int n)=Ga Ks)(hl:Ks.length<=1000000)(hc:compD (λ_=>Ga true) (zcU (zaA (gv 0) (zaA (binN dIx (binN dIx (gv 1) (cstN (.int 0))) (gv 0)) (zaE)))) [.val R] Ks=Ga Vs)
  (h2:rng2 (.int 1) (.int (k+1))=Ga Rs) (W:D) (x3:Sl) (lp:forD (tgNN 3) (zaK 2 (zaG zbI (zaA (gv 0) (zaA (gv 2) (zaA (gv 3) (zaE)))))) Rs [.val R,.val (.int k),.val (.list Vs),.no]=Ga (.nx [.val R,.val (.int k),.val W,x3])):zbZ [R,.int k]=Ga W:=by
 rw[zoR];unfold zh4;generalize zaL=A1 at *;generalize zbI=A2 at *;simp_arith[hm,hr,zbN,Ge hl,hc,h2,lp]
theorem v0_f (R N0 x:D)(h:Int)(i0:dIx R (.int 0)=Ga N0)(i1:dIx N0 (.int h)=Ga x):(zcU (zaA (gv 0) (zaA (binN dIx (binN dIx (gv 1) (cstN (.int 0))) (gv 0)) (zaE)))) [.val (.int h),.val R]=Ga (.tuple [.int h,x]):=by
 simp_arith[i0,i1]
theorem zEt (n:Nat)(v:Nat->Int)(E:Fs):dIx (rdR n (v,E)) (.int 0)=Ga (.tuple (nmD n v)):=rfl
theorem v0_c (n:Nat)(v:Nat->Int)(E:Fs):compD (λ_=>Ga true) (zcU (zaA (gv 0) (zaA (binN dIx (binN dIx (gv 1) (cstN (.int 0))) (gv 0)) (zaE)))) [.val (rdR n (v,E))] ((jf n).map λ(k:Nat)=>.int (k:Int))=Ga (V0 n v):=by
 refine zeS (λ(k:Nat)=>jc (k:Int)) (v0 v) λk hk=>?_;exact v0_f _ _ _ _ (zEt n v E) (L2.atI_nat (znY (jp.mp hk)))
theorem manyR (n:Nat)(v:Nat->Int)(E:Fs):zaL [rdR n (v,E)]=Ga (.int (n:Int)):=by
 have:=zmN (nmD n v) (flE (nmD n v).length E);rw[za1] at this;unfold rdR rdE;rw[za1];exact this
theorem zA5 (n:Nat)(h5:n<=5)(v:Nat->Int)(E:Fs):zbZ [rdR n (v,E),.int 0]=Ga (.list (V0 n v)) :=
 zDm _ (.tuple []) (n:Int) 0 _ _ [] (manyR n v E) (zdY (by omega)) (by rw[jb,jG];omega) (v0_c n v E) rfl _ .no rfl
theorem zEu (R:D)(Vs ps:List D)(h a n:Int)(Ks:List D)(hn:dLen (.list Vs)=Ga (.int n))(hr:rng1 (.int n)=Ga Ks)(hl:Ks.length<=1000000)
  (hc:compD (λ_=>Ga true) (ifVN (orBN (zaQ dEq (gv 0) (gv 2)) (tstN (zaG zc4 (zaA (gv 3) (zaA (gv 0) (zaA (gv 2) (zaA (gv 1) (zaE)))))))) (binN dIx (gv 4) (gv 0)) (cstN .none)) [.val (.int a),.val (.int h),.val R,.val (.list Vs)] Ks=Ga ps):za9 [R,.list Vs,.int h,.int a]=Ga (.tuple [.int h,.tuple ps]):=by
 rw[zlL];unfold zfC;generalize zc4=A1 at *;simp_arith[hn,hr,zbN,Ge hl,hc]
theorem vb_f (R W x:D)(b h a:Int)(t:Bool)(hc:¬b=h->zc4 [R,.int b,.int h,.int a]=Ga (.bool t))(hi:dIx W (.int b)=Ga x):(ifVN (orBN (zaQ dEq (gv 0) (gv 2)) (tstN (zaG zc4 (zaA (gv 3) (zaA (gv 0) (zaA (gv 2) (zaA (gv 1) (zaE)))))))) (binN dIx (gv 4) (gv 0)) (cstN .none)) [.val (.int b),.val (.int a),.val (.int h),.val R,.val W]=Ga (if b=h then x else if t=true then x else .none):=by
 generalize zc4=A1 at *;by_cases c:b=h
 .rw[Ge c];simp_arith[Gc c,hi]
 .rw[Gf c];have hc:=hc c;cases t with
  | true=>simp_arith[Gd c,hc,hi]
  | false=>simp_arith[Gd c,hc]
def Sees (v:Nat->Int)(h:Nat)(d:D):Prop:=∃ ps:List D,d=.tuple [.int (h:Int),.tuple ps]/\ps[h]?=Ga (v0 v h)
theorem zDn (n:Nat)(h2:2<=n)(h5:n<=5)(v:Nat->Int)(E:Fs)(o:Ok n E 5)(h:Nat)(hh:h<n):∃ d,Sees v h d/\za9 [rdR n (v,E),.list (V0 n v),.int (h:Int),.int 1]=Ga d:=by
 have G:=zq7 h2 h5 (by decide) o;have lv:(V0 n v).length=n:=by unfold V0;rw[jb,jG]
 have er:rdR n (v,E)=rd (nmD n v) (flE n E):=by unfold rdR rdE;rw[za1]
 have hc:∀ b:Nat,zc4 [rdR n (v,E),.int (b:Int),.int (h:Int),.int 1]=Ga (.bool (cm (flE n E) b h 1)):=λb=>by
  rw[er];exact zx0 (nmD n v) (flE n E) b h 1 (by rw[za1];exact G) (by rw[za1];exact hh)
 refine⟨_,⟨(jf n).map λb=>if ((b:Nat):Int)=(h:Int) then v0 v b else if cm (flE n E) b h 1=true then v0 v b else .none,rfl,?_⟩,zEu _ _ _ _ 1 (n:Int) _ (by show Ga (jc (((V0 n v).length:Nat):Int))=_;rw[lv]) (zdY (by omega)) (by rw[jb,jG];omega) ?_⟩
 .rw[jz,um hh];show Ga (if ((h:Nat):Int)=(h:Int) then v0 v h else _)=_;rw[Ge rfl]
 .refine zeS (λ(k:Nat)=>jc (k:Int)) _ λb hb=>?_;refine vb_f _ _ (v0 v b) _ _ _ _ (λ_=>hc b) (L2.atI_nat ?_);unfold V0;rw[jz,um (jp.mp hb)];rfl
theorem zDo (R:D)(U Vs Ws:List D)(a n:Int)(Ks:List D)(hU:zaR [R,.int a]=Ga U)(hn:dLen (.list Vs)=Ga (.int n))(hr:rng1 (.int n)=Ga Ks)(hl:Ks.length<=1000000)
  (hc:compD (λ_=>Ga true) (ifVN (zaQ dIn (gv 0) (gv 3)) (zaG za9 (zaA (gv 2) (zaA (gv 4) (zaA (gv 0) (zaA (gv 1) (zaE)))))) (cstN .none)) [.val (.int a),.val R,.val (.list U),.val (.list Vs)] Ks=Ga Ws):zbI [R,.list Vs,.int a]=Ga (.list Ws):=by
 rw[zkS];unfold zeQ;generalize zaR=A1 at *;generalize za9=A2 at *;simp_arith[hU,hn,hr,zbN,Ge hl,hc]
theorem zEv (R U W d:D)(h a:Int)(t:Bool)(hi:dIn (.int h) U=Ga (.bool t))(hv:za9 [R,W,.int h,.int a]=Ga d):(ifVN (zaQ dIn (gv 0) (gv 3)) (zaG za9 (zaA (gv 2) (zaA (gv 4) (zaA (gv 0) (zaA (gv 1) (zaE)))))) (cstN .none)) [.val (.int h),.val (.int a),.val R,.val U,.val W]=Ga (if t=true then d else .none):=by
 generalize za9=A2 at *;cases t with
 | true=>simp_arith[hi,hv]
 | false=>simp_arith[hi]
theorem r2_1:rng2 (.int 1) (.int ((1:Int)+1))=Ga [.int 1]:=by
 have h:=zrT (m:=1) (by decide);exact h
theorem vl_1 (R V W:D)(k:Int)(h:zbI [R,V,.int 1]=Ga W):forD (tgNN 3) (zaK 2 (zaG zbI (zaA (gv 0) (zaA (gv 2) (zaA (gv 3) (zaE)))))) [.int 1] [.val R,.val (.int k),.val V,.no]=Ga (.nx [.val R,.val (.int k),.val W,.val (.int 1)]):=by
 generalize zbI=A1 at *;unfold forD;simp_arith[h];rfl
theorem zA6 (n:Nat)(h2:2<=n)(h5:n<=5)(v:Nat->Int)(E:Fs)(o:Ok n E 5):∃ W:List D,zbZ [rdR n (v,E),.int 1]=Ga (.list W)/\∀ h,h∈upLE n E 1->∃ d,Sees v h d/\W[h]?=Ga d:=by
 have lv:(V0 n v).length=n:=by unfold V0;rw[jb,jG]
 have hU:zaR [rdR n (v,E),.int 1]=Ga (il (upLE n E 1)):=by
  have:=zxT (nmD n v) E 1 (by rw[za1];exact h5);rw[za1] at this;exact this
 have hd:∀ h:Nat,∃ d,h<n->Sees v h d/\za9 [rdR n (v,E),.list (V0 n v),.int (h:Int),.int 1]=Ga d:=λh=>by
  by_cases hh:h<n
  .obtain⟨d,a,b⟩:=zDn n h2 h5 v E o h hh;exact⟨d,λ_=>⟨a,b⟩⟩
  .exact⟨.none,λz=>absurd z hh⟩
 obtain⟨Dv,hDv⟩:=Classical.skolem.mp hd;have ind:∀ h:Nat,dIn (.int (h:Int)) (.list (il (upLE n E 1)))=Ga (.bool ((upLE n E 1).contains h)):=λh=>by
  have e:il (upLE n E 1)=((upLE n E 1).map λ(k:Nat)=>(k:Int)).map jc:=by unfold il;rw[jL];rfl
  rw[e,zrC];refine congrArg (λb=>Ga (jW b)) ?_;rw[kA,ju,ju,jx];exact⟨λ⟨k,hk,e⟩=>by rw[<- (show k=h by omega)];exact hk,λhk=>⟨h,hk,rfl⟩⟩
 have B:=zDo (rdR n (v,E)) _ (V0 n v) ((jf n).map λh=>if (upLE n E 1).contains h=true then Dv h else .none) 1 (n:Int) _ hU (by show Ga (jc (((V0 n v).length:Nat):Int))=_;rw[lv]) (zdY (by omega)) (by rw[jb,jG];omega)
  (zeS (λ(k:Nat)=>jc (k:Int)) _ λh hh=>zEv _ _ _ _ _ _ _ (ind h) (hDv h (jp.mp hh)).2)
 refine⟨_,zDm _ (.tuple []) (n:Int) 1 _ _ [.int 1] (manyR n v E) (zdY (by omega)) (by rw[jb,jG];omega) (v0_c n v E) r2_1 _ (.val (.int 1)) (vl_1 _ _ _ _ B),λh hh=>?_⟩
 .have hl:=zmR hh;refine⟨Dv h,(hDv h hl).1,?_⟩;rw[jz,um hl];show Ga (if (upLE n E 1).contains h=true then Dv h else .none)=_;rw[Ge (ju.mpr hh)]
theorem zx1 {c:FB}{g:FS}{n:Nat}{ψ e:En}(hc:c (frz ψ)=Ga true)(hg:g ψ=Ga (.nx e)):whileD c g (n+1) ψ=whileD c g n e:=by
 show(c (frz ψ)).bind _=_;rw[hc];show(g ψ).bind _=_;rw[hg];rfl
theorem zvK {c:FB}{g:FS}{n:Nat}{ψ:En}(hc:c (frz ψ)=Ga false):whileD c g (n+1) ψ=Ga (.nx ψ):=by
 show(c (frz ψ)).bind _=_;rw[hc];rfl
theorem zs4 (d x:D)(b:Bool)(e:En)(i1:dIx d (.int 1)=Ga x)(ht:dIsT "tuple" x=Ga (.bool b)):tstN (unN (dIsT "tuple") (binN dIx (gv 0) (cstN (.int 1)))) (.val d::e)=Ga b:=by
 simp_arith[i1,ht]
theorem zyY (d:D)(e:D)(k:Int)(hw:whileD (tstN (unN (dIsT "tuple") (binN dIx (gv 0) (cstN (.int 1))))) (zaH (zaK 0 (zaG zcA (zaA (gv 0) (zaE)))) (zaK 1 (binN dAdd (gv 1) (cstN (.int 1))))) 100 [.val d,.val (.int 0)]=Ga (.nx [.val e,.val (.int k)])):za4 [d]=Ga (.int k):=by
 rw[zm9];unfold zg2;generalize zcA=A1 at *;simp_arith[hw]
theorem zDp (v:Nat->Int)(h:Nat):za4 [v0 v h]=Ga (.int 0):=zyY _ _ _ (zvK (zs4 (v0 v h) (.int (v h)) false _ rfl rfl))
theorem zDq {v:Nat->Int}{h:Nat}{d:D}(s:Sees v h d):zcA [d]=Ga (v0 v h):=by
 obtain⟨ps,rfl,e⟩:=s;have i2:dIx (.tuple ps) (.int (h:Int))=Ga (v0 v h):=L2.atI_nat e;have i0:dIx (.tuple [.int (h:Int),.tuple ps]) (.int 0)=Ga (.int (h:Int)):=rfl;have i1:dIx (.tuple [.int (h:Int),.tuple ps]) (.int 1)=Ga (.tuple ps):=rfl;rw[zoS];unfold zh5;generalize jT [.int (h:Int),.tuple ps]=W at *;generalize v0 v h=X at *;simp_arith[i0,i1,i2]
theorem zEw (A:List D->Option D)(d e:D)(k:Int)(o:A [d]=Ga e):(zaH (zaK 0 (zaG A (zaA (gv 0) (zaE)))) (zaK 1 (binN dAdd (gv 1) (cstN (.int 1))))) [.val d,.val (.int k)]=Ga (.nx [.val e,.val (.int (k+1))]):=by
 simp_arith[o]
theorem zA7 {v:Nat->Int}{h:Nat}{d:D}(s:Sees v h d):za4 [d]=Ga (.int 1):=by
 have o:=zDq s;obtain⟨ps,rfl,e⟩:=s;exact zyY _ _ _ ((zx1 (zs4 _ (.tuple ps) true _ rfl rfl) (zEw _ _ _ 0 o)).trans (zvK (zs4 (v0 v h) (.int (v h)) false _ rfl rfl)))
theorem zA8 (v:Nat->Int)(h:Nat):za2 [v0 v h,.int 0]=Ga (v0 v h):=by
 have r:=zDp v h;have hr:rng1 (.int (0-0))=Ga []:=rfl;rw[zhA];unfold zeE;generalize v0 v h=d at *;generalize za4=A1 at *;simp_arith[r,hr];rfl
theorem zA9 {v:Nat->Int}{h:Nat}{d:D}(s:Sees v h d):za2 [d,.int 0]=Ga (v0 v h):=by
 have r:=zA7 s;have o:=zDq s;have hr:rng1 (.int (1-0))=Ga [.int 0]:=rfl;rw[zhA];unfold zeE;generalize v0 v h=X at *;generalize za4=A1 at *;generalize zcA=A2 at *;simp_arith[r,hr];unfold forD;simp_arith[o];rfl
theorem zBa {v:Nat->Int}{h:Nat}{d:D}(s:Sees v h d):za2 [d,.int 1]=Ga d:=by
 have r:=zA7 s;have hr:rng1 (.int (1-1))=Ga []:=rfl;rw[zhA];unfold zeE;generalize za4=A1 at *;simp_arith[r,hr];rfl
def Vw (v:Nat->Int)(h:Nat)(k:Nat)(d:D):Prop:=(k=0/\d=v0 v h)\/(k=1/\Sees v h d)
theorem zDr (c:FnC)(φ:D->Option D)(d:D)(k:Int)(Ks:List D)(Z:D)(hr:za4 [d]=Ga (.int k))(hk:rng1 (.int (k+1))=Ga Ks)(lp:outV (thenD (forD (tgNN 2) (zaH (zaK 3 (callF 0 c φ (zaG za2 (zaA (gv 1) (zaA (gv 2) (zaE)))))) (ifSN (zaQ dIsnt (gv 3) (cstN .none)) (zbS (zcU (zaA (gv 2) (zaA (gv 3) (zaE))))) (nxSN))) Ks [.fn c,.val d,.no,.no]) (zbS (cstN .none)))=Ga Z):zb1 c φ [d]=Ga Z:=by
 rw[znA];unfold zj1;generalize (zaH (zaK 3 (callF 0 c φ (zaG za2 (zaA (gv 1) (zaA (gv 2) (zaE)))))) (ifSN (zaQ dIsnt (gv 3) (cstN .none)) (zbS (zcU (zaA (gv 2) (zaA (gv 3) (zaE))))) (nxSN)))=B at *;generalize za4=A1 at *;simp_arith[hr,hk,lp]
theorem zrX (c:FnC)(φ:D->Option D)(f:FV)(e:En):callF 0 c φ f (.fn c::e)=(f (.fn c::e)).bind φ:=Ge rfl
theorem zEx (c:FnC)(φ:D->Option D)(d p:D)(x:Int)(r:List D)(hp:za2 [d,.int 0]=Ga p)(hφ:φ p=Ga (.int x)):outV (thenD (forD (tgNN 2) (zaH (zaK 3 (callF 0 c φ (zaG za2 (zaA (gv 1) (zaA (gv 2) (zaE)))))) (ifSN (zaQ dIsnt (gv 3) (cstN .none)) (zbS (zcU (zaA (gv 2) (zaA (gv 3) (zaE))))) (nxSN))) (.int 0::r) [.fn c,.val d,.no,.no]) (zbS (cstN .none)))=Ga (.tuple [.int 0,.int x]):=by
 have n:dIsnt (.int x) .none=Ga (.bool true):=rfl;generalize za2=A1 at *;unfold forD;simp_arith[zrX,hp,hφ,n]
theorem zDs (c:FnC)(φ:D->Option D)(d p:D)(k:Int)(x2 x3:Sl)(hp:za2 [d,.int k]=Ga p)(hφ:φ p=Ga .none):(tgNN 2 (.int k) [.fn c,.val d,x2,x3]).bind (zaH (zaK 3 (callF 0 c φ (zaG za2 (zaA (gv 1) (zaA (gv 2) (zaE)))))) (ifSN (zaQ dIsnt (gv 3) (cstN .none)) (zbS (zcU (zaA (gv 2) (zaA (gv 3) (zaE))))) (nxSN)))=Ga (.nx [.fn c,.val d,.val (.int k),.val .none]):=by
 have n:dIsnt .none .none=Ga (.bool false):=rfl;generalize za2=A1 at *;simp_arith[zrX,hp,hφ,n]
def Own (φ:D->Option D)(sil:Bool):Prop:=∀ v h,(sil=false->φ (v0 v h)=Ga (.int (v h)))/\(sil=true->φ (v0 v h)=Ga .none/\∀ d,Sees v h d->φ d=Ga .none)
def Xt (sil:Bool)(v:Nat->Int)(h:Nat):D:=if sil=true then .none else .int (v h)
theorem zDt (c:FnC)(φ:D->Option D)(sil:Bool)(O:Own φ sil)(v:Nat->Int)(h k:Nat)(d:D)(w:Vw v h k d):zb1 c φ [d]=Ga (if sil=true then .none else .tuple [.int 0,.int (v h)]):=by
 have hr:za4 [d]=Ga (.int (k:Int)):=by
  rcases w with ⟨rfl,rfl⟩|⟨rfl,s⟩
  .exact zDp v h
  .exact zA7 s
 have p0:za2 [d,.int 0]=Ga (v0 v h):=by
  rcases w with ⟨rfl,rfl⟩|⟨rfl,s⟩
  .exact zA8 v h
  .exact zA9 s
 have hk:rng1 (.int ((k:Int)+1))=Ga (.int 0::(if k=0 then[] else[.int 1])):=by
  rcases w with ⟨rfl,_⟩|⟨rfl,_⟩<;>rfl
 refine zDr c φ d (k:Int) _ _ hr hk ?_;cases sil with
 | false=>exact zEx c φ d _ _ _ p0 ((O v h).1 rfl)
 | true =>
  obtain⟨q0,q1⟩:=(O v h).2 rfl;have s0:=zDs c φ d _ 0 .no .no p0 q0;rcases w with ⟨rfl,rfl⟩|⟨rfl,s⟩
  .unfold forD;obtain⟨e1,z1,z2⟩:=kW.mp s0;rw[z1,jr,z2];rfl
  .have s1:=zDs c φ d _ 1 (.val (.int 0)) (.val .none) (zBa s) (q1 d s);obtain⟨e1,z1,z2⟩:=kW.mp s0;obtain⟨e2,y1,y2⟩:=kW.mp s1;unfold forD;rw[z1,jr,z2,Gf (by decide),jr];dsimp only;unfold forD;rw[y1,jr,y2];rfl
theorem zdZ (c:FnC)(f:List D->Option D)(g:FL)(e:En):callP 0 c f g (.fn c::e)=(g (.fn c::e)).bind f:=Ge rfl
theorem zBb (c:FnC)(f:List D->Option D)(g:FL)(a:Sl)(e:En):callP 1 c f g (a::.fn c::e)=(g (a::.fn c::e)).bind f:=Ge rfl
theorem zDu (c:FnC)(φ:D->Option D)(d f X:D)(h1:zb1 c φ [d]=Ga f)(hX:(f=.none/\X=.none)\/∃ y,f=.tuple [y,X]):zb2 c φ [d]=Ga X:=by
 rw[znB];unfold zj2;generalize zb1 c φ=A1 at *;rcases hX with ⟨rfl,rfl⟩|⟨y,rfl⟩
 .have i:dIs .none .none=Ga (.bool true):=rfl;simp_arith[zdZ,h1,i]
 .have i:dIs (.tuple [y,X]) .none=Ga (.bool false):=rfl;have j:dIx (.tuple [y,X]) (.int 1)=Ga X:=rfl;generalize jT [y,X]=T at *;simp_arith[zdZ,h1,i,j]
theorem zBc (c:FnC)(φ:D->Option D)(sil:Bool)(O:Own φ sil)(v:Nat->Int)(h k:Nat)(d:D)(w:Vw v h k d):zb2 c φ [d]=Ga (Xt sil v h):=by
 refine zDu c φ d _ _ (zDt c φ sil O v h k d w) ?_;cases sil with
 | true=>exact .inl ⟨rfl,rfl⟩
 | false=>exact .inr ⟨_,rfl⟩
theorem zDv (c:FnC)(φ:D->Option D)(R W:D)(k:Int)(us Y:List D)(h1:zbZ [R,.int k]=Ga W)(h2:zaR [R,.int k]=Ga us)(hl:us.length<=1000000)
  (hc:compD (λ_=>Ga true) (zcU (zaA (gv 0) (zaA (callP 1 c (zb2 c φ) (zaA (binN dIx (gv 2) (gv 0)) (zaE))) (zaE)))) [.fn c,.val W] us=Ga Y):zaO c φ [R,.int k]=Ga (.list Y):=by
 rw[zpV];unfold zmI;generalize zbZ=A1 at *;generalize zaR=A2 at *;generalize zb2 c φ=A3 at *;simp_arith[h1,h2,zbN,Ge hl,hc]
theorem zDw (c:FnC)(N:List D->Option D)(W d X:D)(h:Int)(h1:dIx W (.int h)=Ga d)(h2:N [d]=Ga X):(zcU (zaA (gv 0) (zaA (callP 1 c N (zaA (binN dIx (gv 2) (gv 0)) (zaE))) (zaE)))) [.val (.int h),.fn c,.val W]=Ga (.tuple [.int h,X]):=by
 simp_arith[zBb,h1,h2]
def told (n:Nat)(E:Fs)(k:Nat)(sil:Bool)(v:Nat->Int):List D:=(upLE n E k).map λ(h:Nat)=>jT [.int (h:Int),Xt sil v h]
theorem zvL (n:Nat)(h2:2<=n)(h5:n<=5)(v:Nat->Int)(E:Fs)(o:Ok n E 5)(k:Nat)(k1:k<=1)(c:FnC)(φ:D->Option D)(sil:Bool)(O:Own φ sil):zaO c φ [rdR n (v,E),.int (k:Int)]=Ga (.list (told n E k sil v)):=by
 have hU:zaR [rdR n (v,E),.int (k:Int)]=Ga (il (upLE n E k)):=by
  have:=zxT (nmD n v) E k (by rw[za1];exact h5);rw[za1] at this;exact this
 have hl:(il (upLE n E k)).length<=1000000:=by unfold il;rw[jb];have:=zlT n E k;omega
 obtain⟨W,hW,hw⟩:∃ W:List D,zbZ [rdR n (v,E),.int (k:Int)]=Ga (.list W)/\∀ h,h∈upLE n E k->∃ d,Vw v h k d/\W[h]?=Ga d:=by
  have kc:k=0\/k=1:=by omega
  rcases kc with rfl|rfl
  .refine⟨_,zA5 n h5 v E,λh hh=>⟨v0 v h,.inl ⟨rfl,rfl⟩,?_⟩⟩;unfold V0;rw[jz,um (zmR hh)];rfl
  .obtain⟨W,a,b⟩:=zA6 n h2 h5 v E o;refine⟨W,a,λh hh=>?_⟩;obtain⟨d,s,e⟩:=b h hh;exact⟨d,.inr ⟨rfl,s⟩,e⟩
 refine zDv c φ _ _ _ _ _ hW hU hl ?_;refine zeS (λ(k:Nat)=>jc (k:Int)) _ λh hh=>?_;obtain⟨d,w,e⟩:=hw h hh;exact zDw c _ _ d _ _ (L2.atI_nat e) (zBc c φ sil O v h k d w)
theorem zDx (T:List D)(X:D)(bs:List Bool)(hl:T.length<=1000000)(hc:compD (λ_=>Ga true) (binN dEq (binN dIx (gv 0) (cstN (.int 1))) (gv 1)) [.val X] T=Ga (bs.map jW)):zaT [.list T,X]=Ga (.bool (bs.all id)):=by
 have ha:dAll (bs.map jW)=Ga (.bool (bs.all id)):=by
  unfold dAll;rw[ziG,jr]
 rw[zoT];unfold zh7;simp_arith[zqU,zbN,Ge hl,hc,ha]
theorem zDy (h X Y:D)(b:Bool)(he:dEq X Y=Ga (.bool b)):(binN dEq (binN dIx (gv 0) (cstN (.int 1))) (gv 1)) [.val (.tuple [h,X]),.val Y]=Ga (.bool b):=by
 have i:dIx (.tuple [h,X]) (.int 1)=Ga X:=rfl;generalize jT [h,X]=p at *;simp_arith[i,he]
theorem zlV (n:Nat)(h5:n<=5)(E:Fs)(k:Nat)(sil:Bool)(v:Nat->Int):(told n E k sil v).length<=1000000:=by
 unfold told;rw[jb];have:=zlT n E k;omega
theorem zvM (n:Nat)(h5:n<=5)(E:Fs)(k:Nat)(v:Nat->Int)(m:Int):zaT [.list (told n E k false v),.int m]=Ga (.bool ((upLE n E k).all λh=>decide (v h=m))):=by
 have:=zDx (told n E k false v) (.int m) ((upLE n E k).map λh=>decide (v h=m)) (zlV n h5 E k false v) (by
  unfold told;rw[jL];refine zeS (λ(h:Nat)=>jT [.int (h:Int),Xt false v h]) _ λh hh=>zDy _ _ _ _ (zi4 _ _ |>.trans ?_);refine congrArg (λb=>Ga (jW b)) ?_;rw[kA,beq_iff_eq,decide_eq_true_eq])
 rw[this,qr];rfl
theorem zBd (n:Nat)(h5:n<=5)(E:Fs)(k:Nat)(v:Nat->Int):zaT [.list (told n E k true v),.none]=Ga (.bool true):=by
 have:=zDx (told n E k true v) .none ((upLE n E k).map λ_=>true) (zlV n h5 E k true v) (by
  unfold told;rw[jL];exact zeS (λ(h:Nat)=>jT [.int (h:Int),Xt true v h]) _ λh hh=>zDy _ _ _ _ rfl)
 rw[this,qr];refine congrArg (λb=>Ga (jW b)) ?_;exact jF.mpr λ_ _=>rfl
theorem zDz (R p0 h0 X0 u:D)(T us:List D)(hl:T.length<=1000000)(i0:dIx (.list T) (.int 0)=Ga p0)(i1:dIx p0 (.int 1)=Ga X0)(i2:dIx p0 (.int 0)=Ga h0)
  (hc:compD (zaQ dNe (binN dIx (gv 0) (cstN (.int 1))) (binN dIx (binN dIx (gv 1) (cstN (.int 0))) (cstN (.int 1)))) (binN dIx (gv 0) (cstN (.int 0))) [.val (.list T)] T=Ga us) (hu:dIx (.list us) (.int 0)=Ga u):zbW [R,.list T]=Ga (.tuple [.str (jl "torn"),R,h0,u]):=by
 have t:toS (.list T)=Ga T:=rfl;rw[zpW];unfold zjI;generalize qx (jl "torn")=q at *;generalize vj T=TT at *;simp_arith[t,zbN,Ge hl,hc,i0,i1,i2,hu]
theorem zDA (T p0 X0 h X:D)(b:Bool)(i0:dIx T (.int 0)=Ga p0)(i1:dIx p0 (.int 1)=Ga X0)(hn:dNe X X0=Ga (.bool b)):(zaQ dNe (binN dIx (gv 0) (cstN (.int 1))) (binN dIx (binN dIx (gv 1) (cstN (.int 0))) (cstN (.int 1)))) [.val (.tuple [h,X]),.val T]=Ga b:=by
 have i:dIx (.tuple [h,X]) (.int 1)=Ga X:=rfl;generalize jT [h,X]=p at *;simp_arith[i,i0,i1,hn]
theorem zDB (T h X:D):(binN dIx (gv 0) (cstN (.int 0))) [.val (.tuple [h,X]),.val T]=Ga h:=by
 have i:dIx (.tuple [h,X]) (.int 0)=Ga h:=rfl;generalize jT [h,X]=p at *;simp_arith[i]
theorem ix_0 (d:D)(r:List D):dIx (.list (d::r)) (.int 0)=Ga d:=by
 show L2.atI (d::r) ((0:Nat):Int)=_;exact L2.atI_nat rfl
theorem zrY (n:Nat)(h5:n<=5)(E:Fs)(k:Nat)(v:Nat->Int)(R:D)(a b:Nat)(ha:a∈upLE n E k)(hb:b∈upLE n E k)(ne:v a≠v b):∃ xs,zbW [R,.list (told n E k false v)]=Ga (.tuple xs):=by
 have tl:=zlV n h5 E k false v;unfold told at tl ⊢;generalize upLE n E k=us at *
 match us,ha with
 | h0::r,ha =>
  have i0:dIx (.list ((h0::r).map λ(h:Nat)=>jT [.int (h:Int),Xt false v h])) (.int 0)=Ga (.tuple [.int (h0:Int),.int (v h0)]):=ix_0 _ _;have hc:=zeR (fc:=zaQ dNe (binN dIx (gv 0) (cstN (.int 1))) (binN dIx (binN dIx (gv 1) (cstN (.int 0))) (cstN (.int 1)))) (fe:=binN dIx (gv 0) (cstN (.int 0))) (base:=[.val (.list ((h0::r).map λ(h:Nat)=>jT [.int (h:Int),Xt false v h]))]) (λ(h:Nat)=>jT [.int (h:Int),Xt false v h]) (λh=>!(v h==v h0)) (λ(h:Nat)=>jc (h:Int)) (l:=h0::r)
   (λh hh=>zDA _ _ _ _ _ _ i0 rfl (zn4 _ _)) (λh hh _=>zDB _ _ _)
  have nf:∃ u w,((h0::r).filter λh=>!(v h==v h0))=u::w:=by
   cases q:(h0::r).filter λh=>!(v h==v h0) with
   | cons u w=>exact⟨u,w,rfl⟩
   | nil =>
    have al:=ur.mp q;have e:∀ x∈h0::r,v x=v h0:=λx hx=>by
     have:=al x hx;rw[jZ,vT,beq_iff_eq] at this;exact this
    exact absurd ((e a ha).trans (e b hb).symm) ne
  obtain⟨u,w,eu⟩:=nf;rw[eu] at hc;exact⟨_,zDz R _ _ _ _ _ _ tl i0 rfl rfl hc (ix_0 _ _)⟩
theorem zEy (T us:List D)(X:D)(hl:T.length<=1000000)(hc:compD (zeY (zaQ dIsnt (binN dIx (gv 0) (cstN (.int 1))) (cstN .none)) (zaQ dNe (binN dIx (gv 0) (cstN (.int 1))) (gv 1))) (binN dIx (gv 0) (cstN (.int 0))) [.val X] T=Ga us):zb3 [.list T,X]=Ga (.list us):=by
 have t:toS (.list T)=Ga T:=rfl;rw[znC];unfold zg4;generalize vj T=TT at *;simp_arith[t,zbN,Ge hl,hc]
theorem zEz (h X Y:D)(hi:dIsnt X .none=Ga (.bool true))(hn:dNe X Y=Ga (.bool false)):(zeY (zaQ dIsnt (binN dIx (gv 0) (cstN (.int 1))) (cstN .none)) (zaQ dNe (binN dIx (gv 0) (cstN (.int 1))) (gv 1))) [.val (.tuple [h,X]),.val Y]=Ga false:=by
 have i:dIx (.tuple [h,X]) (.int 1)=Ga X:=rfl;generalize jT [h,X]=p at *;simp_arith[i,hi,hn]
theorem zx2 (n:Nat)(h5:n<=5)(E:Fs)(k:Nat)(v:Nat->Int)(m:Int)(al:∀ h∈upLE n E k,v h=m):zb3 [.list (told n E k false v),.int m]=Ga (.list []):=by
 refine zEy _ _ _ (zlV n h5 E k false v) ?_;unfold told;have:=zeR (fc:=zeY (zaQ dIsnt (binN dIx (gv 0) (cstN (.int 1))) (cstN .none)) (zaQ dNe (binN dIx (gv 0) (cstN (.int 1))) (gv 1))) (fe:=binN dIx (gv 0) (cstN (.int 0))) (base:=[.val (.int m)]) (λ(h:Nat)=>jT [.int (h:Int),Xt false v h]) (λ_=>false) (λ(h:Nat)=>jc (h:Int)) (l:=upLE n E k)
  (λh hh=>zEz _ _ _ rfl ((zn4 _ _).trans (by rw[al h hh];simp))) (λh hh z=>by cases z)
 rw[this,ur.mpr λ_ _ z=>by cases z];rfl
theorem bs_c (c:FnC)(C m k:D)(lo hi:Int)(x6:Sl):zaQ dGt (binN dSub (gv 5) (gv 4)) (cstN (.int 1)) (frz [.fn c,.val C,.val m,.val k,.val (.int lo),.val (.int hi),x6])=Ga (decide (1<hi-lo)):=by
 have f:frz [.fn c,.val C,.val m,.val k,.val (.int lo),.val (.int hi),x6]=[frz1 (.fn c),.val C,.val m,.val k,.val (.int lo),.val (.int hi),frz1 x6]:=rfl;rw[f];generalize frz1 (.fn c)=y;generalize frz1 x6=z;simp_arith[vH]
theorem bs_s (c:FnC)(φ:D->Option D)(C m k Rm T:D)(lo hi mid:Int)(b:Bool)(x6:Sl)(d2:dDiv (.int (lo+hi)) (.int 2)=Ga (.int mid))(ix:dIx C (.int mid)=Ga Rm)(ht:zaO c φ [Rm,k]=Ga T)(ha:zaT [T,m]=Ga (.bool b)) :
  (zaH (zaK 6 (binN dDiv (binN dAdd (gv 4) (gv 5)) (cstN (.int 2)))) (ifSN (tstN (zaG zaT (zaA (callP 0 c (zaO c φ) (zaA (binN dIx (gv 1) (gv 6)) (zaA (gv 3) (zaE)))) (zaA (gv 2) (zaE))))) (zaK 4 (gv 6)) (zaK 5 (gv 6)))) [.fn c,.val C,.val m,.val k,.val (.int lo),.val (.int hi),x6]=Ga (.nx [.fn c,.val C,.val m,.val k,.val (.int (if b=true then mid else lo)),.val (.int (if b=true then hi else mid)),.val (.int mid)]):=by
 have f:∀ e:En,frz (.fn c::e)=.fn c::frz e:=λ_=>rfl;generalize zaO c φ=A1 at *;generalize zaT=A2 at *;cases b with
 | true =>
  simp_arith[d2,f,zdZ,ix,ht,ha]
 | false =>
  simp_arith[d2,f,zdZ,ix,ht,ha]
theorem zvN (c:FnC)(φ:D->Option D)(C m k:D)(L:Nat)(P:Nat->Bool)(hP:∀ i,i<L->∃ R T,dIx C (.int (i:Int))=Ga R/\zaO c φ [R,k]=Ga T/\zaT [T,m]=Ga (.bool (P i))):∀ (f lo hi:Nat) (x6:Sl),hi-lo<=2^f->lo<hi->hi<L->P lo=true->P hi=false ->
  ∃ lo' x',lo'+1<L/\P lo'=true/\P (lo'+1)=false/\whileD (zaQ dGt (binN dSub (gv 5) (gv 4)) (cstN (.int 1))) (zaH (zaK 6 (binN dDiv (binN dAdd (gv 4) (gv 5)) (cstN (.int 2)))) (ifSN (tstN (zaG zaT (zaA (callP 0 c (zaO c φ) (zaA (binN dIx (gv 1) (gv 6)) (zaA (gv 3) (zaE)))) (zaA (gv 2) (zaE))))) (zaK 4 (gv 6)) (zaK 5 (gv 6)))) (f+1) [.fn c,.val C,.val m,.val k,.val (.int (lo:Int)),.val (.int (hi:Int)),x6]=Ga (.nx [.fn c,.val C,.val m,.val k,.val (.int (lo':Int)),.val (.int ((lo'+1:Nat):Int)),x'])
 | f,lo,hi,x6,hf,h1,h2,p1,p2=>by
  by_cases c1:hi=lo+1
  .subst c1;exact⟨lo,x6,h2,p1,p2,zvK ((bs_c c C m k _ _ x6).trans (congrArg Ga (Gd (by omega))))⟩
  .match f,hf with
   | 0,hf=>exact absurd hf (by rw[Nat.pow_zero];omega)
   | f+1,hf =>
    rw[Nat.pow_succ] at hf;obtain⟨R,T,e1,e2,e3⟩:=hP ((lo+hi)/2) (by omega);have st:=bs_s c φ C m k R T lo hi (((lo+hi)/2:Nat):Int) _ x6 ((zkB (by decide) (by decide)).trans (congrArg (λz=>Ga (jc z)) (by omega))) e1 e2 e3;have cc:=(bs_c c C m k (lo:Int) (hi:Int) x6).trans (congrArg Ga (Gc (by omega)));cases q:P ((lo+hi)/2) with
    | true =>
     rw[q,Ge rfl,Ge rfl] at st;obtain⟨lo',x',a1,a2,a3,a4⟩:=zvN c φ C m k L P hP f ((lo+hi)/2) hi (.val (.int (((lo+hi)/2:Nat):Int))) (by omega) (by omega) h2 q p2;exact⟨lo',x',a1,a2,a3,(zx1 cc st).trans a4⟩
    | false =>
     rw[q,Gf jy,Gf jy] at st;obtain⟨lo',x',a1,a2,a3,a4⟩:=zvN c φ C m k L P hP f lo ((lo+hi)/2) (.val (.int (((lo+hi)/2:Nat):Int))) (by omega) (by omega) (by omega) p1 q;exact⟨lo',x',a1,a2,a3,(zx1 cc st).trans a4⟩
theorem zEA (c:FnC)(φ:D->Option D)(C m k R T Z:D)(l lo hi:Int)(x6:Sl)(hl:dLen C=Ga (.int l))(hw:whileD (zaQ dGt (binN dSub (gv 5) (gv 4)) (cstN (.int 1))) (zaH (zaK 6 (binN dDiv (binN dAdd (gv 4) (gv 5)) (cstN (.int 2)))) (ifSN (tstN (zaG zaT (zaA (callP 0 c (zaO c φ) (zaA (binN dIx (gv 1) (gv 6)) (zaA (gv 3) (zaE)))) (zaA (gv 2) (zaE))))) (zaK 4 (gv 6)) (zaK 5 (gv 6)))) 100 [.fn c,.val C,.val m,.val k,.val (.int 0),.val (.int (l-1)),.no]=Ga (.nx [.fn c,.val C,.val m,.val k,.val (.int lo),.val (.int hi),x6]))(ix:dIx C (.int hi)=Ga R)(ht:zaO c φ [R,k]=Ga T)(hz:zbW [R,T]=Ga Z):zc1 c φ [C,m,k]=Ga Z:=by
 rw[zpX];unfold zmJ;generalize (zaH (zaK 6 (binN dDiv (binN dAdd (gv 4) (gv 5)) (cstN (.int 2)))) (ifSN (tstN (zaG zaT (zaA (callP 0 c (zaO c φ) (zaA (binN dIx (gv 1) (gv 6)) (zaA (gv 3) (zaE)))) (zaA (gv 2) (zaE))))) (zaK 4 (gv 6)) (zaK 5 (gv 6))))=B at *;generalize zaO c φ=A1 at *;generalize zbW=A2 at *;simp_arith[hl,hw,zdZ,ix,ht,hz]
theorem zyZ {α:Type}{R:α->α->Prop}:∀ {l:List α} {i:Nat} {a b:α},Chn R l->l[i]?=Ga a->l[i+1]?=Ga b->R a b
 | [],i,a,b,_,h,_=>by cases h
 | [x],0,a,b,_,_,h=>by cases h
 | [x],i+1,a,b,_,h,_=>by cases h
 | x::y::r,0,a,b,c,h1,h2=>by
  cases h1;cases h2;exact c.1
 | x::y::r,i+1,a,b,c,h1,h2=>zyZ (l:=y::r) (i:=i) c.2 h1 h2
theorem zDC {n k i:Nat}{r1 r2:Rn}(k1:k<=1)(hi:i<n)(e1:r1.2 i=Gb)(e2:r2.2 i=Gb)(e:VwR n r1 k i=VwR n r2 k i):r1.1 i=r2.1 i:=by
 have z:∀ {x y:Int},VwE n (λj=>.int (r1.1 j)) r1.2 0 i=VwE n (λj=>.int (r2.1 j)) r2.2 0 i->r1.1 i=r2.1 i:=λh=>by
  have h2:jT [.int (i:Int),.int (r1.1 i)]=jT [.int (i:Int),.int (r2.1 i)]:=h
  injection h2 with h3
  injection h3 with _ h4
  injection h4 with h5 _
  injection h5
 have kc:k=0\/k=1:=by omega
 rcases kc with rfl|rfl
 .exact z (x:=0) (y:=0) e
 .unfold VwR VwE at e;rw[Ge (zdC e1 _),Ge (zdC e2 _)] at e
  injection e with e
  injection e with _ e
  injection e with e _
  injection e with e
  have q:=congrArg (λl:List D=>l[i]?) e;dsimp only at q;rw[jz,jz,um hi,Jx,Jx,beq_self_eq_true,k6,k6,Ge rfl,Ge rfl] at q;exact z (x:=0) (y:=0) (jE q)
theorem zrZ {n k i:Nat}{E:Fs}(hi:i<n)(e:E i=Gb):i∈upLE n E k:=jD.mpr ⟨jp.mpr hi,zdC e _⟩
theorem zEB (c:FnC)(φ:D->Option D)(R b k C Rl T Z:D)(m o n:Int)(Ks os:List D)(ho:(m=0/\o=1)\/(¬m=0/\o=0))(hm:zaL [R]=Ga (.int n))(hr:rng1 (.int n)=Ga Ks)(hl:Ks.length<=1000000)(hc:compD (λ_=>Ga true) (gv 1) [.val (.int o)] Ks=Ga os)(hch:zb9 [R,b,k,.tuple os]=Ga C)
  (ix:dIx C (.int (-1))=Ga Rl) (ht:zaO c φ [Rl,k]=Ga T) (hs:zb3 [T,.int o]=Ga (.list [])) (hz:zc1 c φ [C,.int m,k]=Ga Z):zbX c φ [R,b,k,.int m]=Ga Z:=by
 have l0:dLen (.list [])=Ga (.int 0):=rfl;have z0:decide ((0:Int)<0)=false:=rfl;rw[zlM];unfold ziB;generalize zaL=A1 at *;generalize zb9=A2 at *;generalize zaO c φ=A3 at *;generalize zb3=A4 at *;generalize zc1 c φ=A5 at *;generalize qx (jl "strange")=q at *;have f:∀ e:En,frz (.fn c::e)=.fn c::frz e:=λ_=>rfl;rcases ho with ⟨h,rfl⟩|⟨h,rfl⟩
 .simp_arith[Gc h,hm,hr,zbN,Ge hl,hc,hch,ix,zdZ,ht,hs,l0,z0,f,hz]
 .simp_arith[Gd h,hm,hr,zbN,Ge hl,hc,hch,ix,zdZ,ht,hs,l0,z0,f,hz]
theorem zBe (n k b:Nat)(v:Nat->Int)(E:Fs)(h2:2<=n)(h5:n<=5)(k1:k<=1)(o:Ok n E 3)(ct:cntE n E<=b)(ht:b+2<=n)(hk:(k:Int)<(b:Int)+1-wsL n E 3)(c:FnC)(φ:D->Option D)(O:Own φ false)(m:Int)(al:∀ h∈upLE n E k,v h=m):∃ xs,zbX c φ [rdR n (v,E),.int (b:Int),.int (k:Int),.int m]=Ga (.tuple xs):=by
 obtain⟨x,hx,x01⟩:∃ x:Int,((m=0/\x=1)\/(¬m=0/\x=0))/\¬(10:Int)^60<=(if x<0 then -x else x):=by
  by_cases c0:m=0
  .exact⟨1,.inl ⟨c0,rfl⟩,by decide⟩
  .exact⟨0,.inr ⟨c0,rfl⟩,by decide⟩
 have xm:x≠m:=by rcases hx with ⟨a,b⟩|⟨a,b⟩<;>omega
 obtain⟨Ps,w,hw,hc,PT,pl⟩:=chain45 n k b v (λ_=>x) E h2 h5 k1 o ct ht hk (λ_ _=>x01);have hd:=PT.hd;have lst:=PT.lst;have L0:0<Ps.length:=by
  cases Ps with
  | nil=>cases hd
  | cons a r=>exact Nat.succ_pos _
 have g0:Ps[0]?=Ga (v,E):=by rw[<- List.head?_eq_getElem?];exact hd
 have gl:Ps[Ps.length-1]?=Ga (w,noE):=by rw[<- List.getLast?_eq_getElem?];exact lst
 have at_:∀ i,i<Ps.length->∃ r,Ps[i]?=Ga r/\r∈Ps:=λi hi=>⟨Ps[i],jw hi,qd hi⟩;have iC:∀ (i:Nat) (r:Rn),Ps[i]?=Ga r->dIx (.list (Ps.map (rdR n))) (.int (i:Int))=Ga (rdR n r):=λi r e=>L2.atI_nat (by rw[jz,e];rfl);have tO:∀ r∈Ps,zaO c φ [rdR n r,.int (k:Int)]=Ga (.list (told n r.2 k false r.1)):=λr hr=>zvL n h2 h5 r.1 r.2 (PT.ok r hr) k k1 c φ false O;have hP:∀ i,i<Ps.length->∃ R T,dIx (.list (Ps.map (rdR n))) (.int (i:Int))=Ga R/\zaO c φ [R,.int (k:Int)]=Ga T/\zaT [T,.int m]=Ga (.bool (match Ps[i]? with|some r=>(upLE n r.2 k).all λh=>decide (r.1 h=m)|none=>true)):=λi hi=>by
  obtain⟨r,e,hr⟩:=at_ i hi;rw[e];exact⟨_,_,iC i r e,tO r hr,zvM n h5 r.2 k r.1 m⟩
 generalize hPd:(λi:Nat=>match Ps[i]? with|some r=>(upLE n r.2 k).all λh=>decide (r.1 h=m)|none=>true)=P;have hP':∀ i,i<Ps.length->∃ R T,dIx (.list (Ps.map (rdR n))) (.int (i:Int))=Ga R/\zaO c φ [R,.int (k:Int)]=Ga T/\zaT [T,.int m]=Ga (.bool (P i)):=λi hi=>by rw[<- hPd];exact hP i hi
 have pE:∀ (i:Nat) (r:Rn),Ps[i]?=Ga r->P i=(upLE n r.2 k).all λh=>decide (r.1 h=m):=λi r e=>by rw[<- hPd];dsimp only;rw[e]
 have p0:P 0=true:=by
  rw[pE 0 _ g0];exact jF.mpr λh hh=>Gc (al h hh)
 have pl0:P (Ps.length-1)=false:=by
  rw[pE _ _ gl];refine vx.mpr λz=>?_;have:=of_decide_eq_true (jF.mp z 0 (zrZ (by omega) rfl));exact xm ((hw 0 (by omega)).symm.trans this)
 have l1:0<Ps.length-1:=by
  rcases Nat.eq_zero_or_pos (Ps.length-1) with z|z
  .rw[z,p0] at pl0;cases pl0
  .exact z
 obtain⟨lo,x6,a1,a2,a3,a4⟩:=zvN c φ (.list (Ps.map (rdR n))) (.int m) (.int (k:Int)) Ps.length P hP' 99 0 (Ps.length-1) .no (jn (show Ps.length-1-0<=6000 by omega) (by decide)) l1 (by omega) p0 pl0;obtain⟨r1,g1,m1⟩:=at_ lo (by omega);obtain⟨r2,g2,m2⟩:=at_ (lo+1) a1;obtain⟨i,hi,e1,e2,ev⟩:=zyZ PT.chn g1 g2;have en:=zDC k1 hi e1 e2 ev;rw[pE _ _ g1] at a2;rw[pE _ _ g2] at a3;have vi:r1.1 i=m:=of_decide_eq_true (jF.mp a2 i (zrZ hi e1));obtain⟨h,hh,nh⟩:∃ h∈upLE n r2.2 k,r2.1 h≠m:=by
  rw[vx,ne_eq,jF] at a3;refine kn λno=>a3 λh hh=>Gc (kn λz=>no ⟨h,hh,z⟩)
 obtain⟨xs,hz⟩:=zrY n h5 r2.2 k r2.1 (rdR n r2) i h (zrZ hi e2) hh (by rw[<- en,vi];exact λz=>nh z.symm);have dl:dLen (.list (Ps.map (rdR n)))=Ga (.int (Ps.length:Int)):=by
  show Ga (jc (((Ps.map (rdR n)).length:Nat):Int))=_;rw[jb]
 have ec:((Ps.length-1:Nat):Int)=(Ps.length:Int)-1:=by omega
 rw[ec] at a4;have to:=zEA c φ _ (.int m) (.int (k:Int)) _ _ _ _ _ _ x6 dl a4 (iC _ _ g2) (tO r2 m2) hz;have lm:(w,noE)∈Ps:=ky gl;refine⟨xs,zEB c φ _ _ _ _ (rdR n (w,noE)) _ _ m x (n:Int) _ _ hx (manyR n v E) (zdY (by omega)) (by rw[jb,jG];omega) (zeS (λ(k:Nat)=>jc (k:Int)) (λ_=>.int x) λ_ _=>rfl) hc (zfF (by rw[kf,lst];rfl)) (tO _ lm) (zx2 n h5 noE k w x λh hh=>hw h (zmR hh)) to⟩
theorem br_t (c:FnC)(φ:D->Option D)(R b k T p X Z:D)(ho:zbD [R,b,k]=Ga (.bool true))(ht:zaO c φ [R,k]=Ga T)(i0:dIx T (.int 0)=Ga p)(i1:dIx p (.int 1)=Ga X)(ha:zaT [T,X]=Ga (.bool false))(hz:zbW [R,T]=Ga Z):zdK c φ [R,b,k]=Ga Z:=by
 have f:∀ e:En,frz (.fn c::e)=.fn c::frz e:=λ_=>rfl;rw[zmK];unfold zkT;generalize zbD=A1 at *;generalize zaO c φ=A2 at *;generalize zaT=A3 at *;generalize zbW=A4 at *;simp_arith[f,ho,zdZ,ht,i0,i1,ha,hz]
theorem br_n (c:FnC)(φ:D->Option D)(R b k T p X Z:D)(ho:zbD [R,b,k]=Ga (.bool true))(ht:zaO c φ [R,k]=Ga T)(i0:dIx T (.int 0)=Ga p)(i1:dIx p (.int 1)=Ga X)(ha:zaT [T,X]=Ga (.bool true))(hX:(X=.none/\Z=.none)\/(dIs X .none=Ga (.bool false)/\zbX c φ [R,b,k,X]=Ga Z)):zdK c φ [R,b,k]=Ga Z:=by
 have f:∀ e:En,frz (.fn c::e)=.fn c::frz e:=λ_=>rfl;rw[zmK];unfold zkT;generalize zbD=A1 at *;generalize zaO c φ=A2 at *;generalize zaT=A3 at *;generalize zbX c φ=A4 at *;rcases hX with ⟨rfl,rfl⟩|⟨hi,hz⟩
 .have i:dIs .none .none=Ga (.bool true):=rfl;simp_arith[f,ho,zdZ,ht,i0,i1,ha,i]
 .simp_arith[f,ho,zdZ,ht,i0,i1,ha,hi,hz]
theorem zvO (n k b:Nat)(v:Nat->Int)(E:Fs)(h2:2<=n)(h5:n<=5)(k1:k<=1)(o:Ok n E 3)(ct:cntE n E<=b)(ht:b+2<=n)(hk:(k:Int)<(b:Int)+1-wsL n E 3)(ho:zbD [rdR n (v,E),.int (b:Int),.int (k:Int)]=Ga (.bool true))(c:FnC)(φ:D->Option D)(sil:Bool)(O:Own φ sil):∃ Z,zdK c φ [rdR n (v,E),.int (b:Int),.int (k:Int)]=Ga Z/\((sil=true/\Z=.none)\/(sil=false/\∃ xs,Z=.tuple xs)):=by
 obtain⟨i,hi,_,e⟩:=zfO (n:=n) (E:=E) (by omega) n;have im:=zrZ (k:=k) hi e;have tk:=zvL n h2 h5 v E (o.mono (by decide)) k k1 c φ sil O;obtain⟨h0,r,eu⟩:∃ h0 r,upLE n E k=h0::r:=by
  cases q:upLE n E k with
  | nil=>rw[q] at im;cases im
  | cons a r=>exact⟨a,r,rfl⟩
 have i0:dIx (.list (told n E k sil v)) (.int 0)=Ga (.tuple [.int (h0:Int),Xt sil v h0]):=by
  unfold told;rw[eu];exact ix_0 _ _
 cases sil with
 | true=>exact⟨_,br_n c φ _ _ _ _ _ _ _ ho tk i0 rfl (zBd n h5 E k v) (.inl ⟨rfl,rfl⟩),.inl ⟨rfl,rfl⟩⟩
 | false =>
  have aw:=zvM n h5 E k v (v h0);cases q:(upLE n E k).all λh=>decide (v h=v h0) with
  | true =>
   rw[q] at aw;obtain⟨xs,hz⟩:=zBe n k b v E h2 h5 k1 o ct ht hk c φ O (v h0) λh hh=>of_decide_eq_true (jF.mp q h hh);exact⟨_,br_n c φ _ _ _ _ _ _ _ ho tk i0 rfl aw (.inr ⟨rfl,hz⟩),.inr ⟨rfl,xs,rfl⟩⟩
  | false =>
   rw[q] at aw;obtain⟨h,hh,nh⟩:∃ h∈upLE n E k,v h≠v h0:=by
    rw[vx,ne_eq,jF] at q;exact kn λno=>q λh hh=>Gc (kn λz=>no ⟨h,hh,z⟩)
   obtain⟨xs,hz⟩:=zrY n h5 E k v (rdR n (v,E)) h h0 hh (by rw[eu];exact jg) nh;exact⟨_,br_t c φ _ _ _ _ _ _ _ ho tk i0 rfl aw hz,.inr ⟨rfl,xs,rfl⟩⟩
theorem fxb (c:FnC)(φ:D->Option D)(R b k:D)(kp op:Bool)(h:zb5 [R,b]=Ga (.bool kp))(ho:kp=true->zbD [R,b,k]=Ga (.bool op)):zd9 c φ [R,b,k]=if kp=true then(if op=true then Gb else Ga (jl "Closed")) else Ga (jl "NoBound"):=by
 have x:=zEs R b k kp h;show orX (clX (consL (gv 1) (consL (gv 2) (consL (gv 3) (nilL)))) zdM) (ifX (notB (tst (callV zbD (consL (gv 1) (consL (gv 2) (consL (gv 3) (nilL))))))) (raX "Closed") noX) [.fn c,.val R,.val b,.val k,.no,.no]=_;have a:clX (consL (gv 1) (consL (gv 2) (consL (gv 3) (nilL)))) zdM [.fn c,.val R,.val b,.val k,.no,.no]=zdM [R,b,k]:=rfl;unfold orX;rw[a,x];cases kp with
 | false=>rfl
 | true =>
  have e:notB (tst (callV zbD (consL (gv 1) (consL (gv 2) (consL (gv 3) (nilL)))))) (frz [.fn c,.val R,.val b,.val k,.no,.no])=Ga (!op):=ztM (b:=op) (zpC ((zdL (ds:=[R,b,k]) rfl).trans (ho rfl)) rfl);rw[Ge rfl,Ge rfl];dsimp only;unfold ifX;rw[e];cases op<;>rfl
theorem zBf (mkx:Str->FnC)(c:FnC)(φ:D->Option D)(R b k Z:D)(hx:zd9 c φ [R,b,k]=Gb)(hz:zdK c φ [R,b,k]=Ga Z):zb0 mkx c φ [R,b,k]=Ga (.list [.str (jl "fine"),Z]):=by
 show outV (zdW mkx c φ [.fn c,.val R,.val b,.val k,.no,.no,.no])=_;unfold zdW;rw[zd2 (e:=[.fn c,.val R,.val b,.val k,.val (.int 0),.no,.no]) rfl,zd2 (e:=[.fn c,.val R,.val b,.val k,.val (.int 0),.val (.str (jl "fine")),.no]) rfl];rw[zd2 (e:=[.fn c,.val R,.val b,.val k,.val Z,.val (.str (jl "fine")),.no])]
 .rfl
 .refine(zDk ?_).trans ?_
  .exact(Ge rfl).trans hx
  .exact zqF (d:=Z) ((zdZ c _ _ _).trans hz)
theorem zvP (mkx:Str->FnC)(c:FnC)(φ:D->Option D)(R b k:D)(t:Bool)(hx:zd9 c φ [R,b,k]=Ga (if t=true then jl "NoBound" else jl "Closed")):zb0 mkx c φ [R,b,k]=Ga (.list [.tuple [.bool t,.bool false,.bool (!t)],.int 0]):=by
 show outV (zdW mkx c φ [.fn c,.val R,.val b,.val k,.no,.no,.no])=_;unfold zdW;rw[zd2 (e:=[.fn c,.val R,.val b,.val k,.val (.int 0),.no,.no]) rfl,zd2 (e:=[.fn c,.val R,.val b,.val k,.val (.int 0),.val (.str (jl "fine")),.no]) rfl];have hk:clP 0 c (consL (gv 1) (consL (gv 2) (consL (gv 3) (nilL)))) (zd9 c φ) [.fn c,.val R,.val b,.val k,.val (.int 0),.val (.str (jl "fine")),.no]=Ga (if t=true then jl "NoBound" else jl "Closed"):=(Ge rfl).trans hx;have i1:∀ (s:Str) (v:Bool),isiX 6 (mkx s) v [.fn c,.val R,.val b,.val k,.val (.int 0),.val (.str (jl "fine")),.fn (mkx s)]=Ga (.bool v):=λs v=>Ge rfl;rw[zd2 (e:=[.fn c,.val R,.val b,.val k,.val (.int 0),.val (.tuple [.bool t,.bool false,.bool (!t)]),.no])]
 .rfl
 .cases t with
  | true=>exact zyX (e:=[.fn c,.val R,.val b,.val k,.val (.int 0),.val (.tuple [.bool true,.bool false,.bool false]),.fn (mkx "NoBound")]) hk (je _ jg) rfl (zqF (zBu (zk0 (i1 _ true) (zk0 (i1 _ false) (zk0 (i1 _ false) rfl)))))
  | false=>exact zyX (e:=[.fn c,.val R,.val b,.val k,.val (.int 0),.val (.tuple [.bool false,.bool false,.bool true]),.fn (mkx "Closed")]) hk jg rfl (zqF (zBu (zk0 (i1 _ false) (zk0 (i1 _ false) (zk0 (i1 _ true) rfl)))))
theorem zy0 (d e X:D)(hw:whileD (tstN (unN (dIsT "tuple") (binN dIx (gv 0) (cstN (.int 1))))) (zaK 0 (binN dIx (binN dIx (gv 0) (cstN (.int 1))) (binN dIx (gv 0) (cstN (.int 0))))) 100 [.val d]=Ga (.nx [.val e]))(i1:dIx e (.int 1)=Ga X):za0 [d]=Ga X:=by
 rw[znF];unfold zg8;simp_arith[hw,i1]
theorem zEC (d p j X:D)(i0:dIx d (.int 0)=Ga j)(i1:dIx d (.int 1)=Ga p)(i2:dIx p j=Ga X):(zaK 0 (binN dIx (binN dIx (gv 0) (cstN (.int 1))) (binN dIx (gv 0) (cstN (.int 0))))) [.val d]=Ga (.nx [.val X]):=by
 simp_arith[i0,i1,i2]
theorem zDD (v:Nat->Int)(h:Nat):za0 [v0 v h]=Ga (.int (v h)):=zy0 _ _ _ (zvK (zs4 (v0 v h) (.int (v h)) false _ rfl rfl)) rfl
theorem zED {v:Nat->Int}{h:Nat}{d:D}(s:Sees v h d):za0 [d]=Ga (.int (v h)):=by
 obtain⟨ps,rfl,e⟩:=s;exact zy0 _ _ _ ((zx1 (zs4 _ (.tuple ps) true _ rfl rfl) (zEC _ (.tuple ps) (.int (h:Int)) (v0 v h) rfl rfl (L2.atI_nat e))).trans (zvK (zs4 (v0 v h) (.int (v h)) false _ rfl rfl))) rfl
theorem zBg (d X:D)(sil:Bool)(h:za0 [d]=Ga X):(binN dIx (zbJ (zaA (zaG za0 (zaA (gv 0) (zaE))) (zaA (cstN .none) (zaE)))) (unN dInt (gv 1))) [.val d,.val (.bool sil)]=Ga (if sil=true then .none else X):=by
 have i0:dIx (.list [X,.none]) (.int 0)=Ga X:=rfl;have i1:dIx (.list [X,.none]) (.int 1)=Ga .none:=rfl;have b0:dInt (.bool false)=Ga (.int 0):=rfl;have b1:dInt (.bool true)=Ga (.int 1):=rfl;generalize za0=A1 at *;cases sil with
 | true =>
  rw[Ge rfl];simp_arith[h,b1]
 | false =>
  rw[Gf (by decide)];simp_arith[h,b0]
theorem zBh (sil:Bool):Own (λd=>(binN dIx (zbJ (zaA (zaG za0 (zaA (gv 0) (zaE))) (zaA (cstN .none) (zaE)))) (unN dInt (gv 1))) (.val d::[jW sil].map .val)) sil:=λv h=>⟨λs=>by
  cases s;exact zBg _ _ false (zDD v h),λs=>by
  cases s;exact⟨zBg _ _ true (zDD v h),λd sd=>zBg _ _ true (zED sd)⟩⟩
theorem zEE (La:FV)(Pt:Gj)(S N Fd b Z:D)(k c M m3 n q3 le x9 xb x5 x6 x4 q540 x2 cl rr:Int)(sil:Bool)(y1 y2 y3 y4 y5 y6 y7 y8 y9 y10 y11:Sl)
  (hc:dIx S (.int k)=Ga (.int c)) (hM:zbG [.int c,.int k]=Ga (.int M)) (hm3:dMod (.int M) (.int 3)=Ga (.int m3)) (en:2+m3=n) (hN:zaX [.int c,.int n]=Ga N) (hd3:dDiv (.int M) (.int 3)=Ga (.int q3)) (hF:za5 [.int q3,.int n,.int (n-2),.int 3]=Ga Fd) (hL:dLen Fd=Ga (.int le)) (hm9:dMod (.int (M/9)) (.int 3)=Ga (.int x9)) (hmb:dMod (.int (M/27)) (.int (n-1-le))=Ga (.int xb)) (hm5:dMod (.int (M/27)) (.int 5)=Ga (.int x5)) (hm6:dMod (.int M) (.int 1000000)=Ga (.int x6)) (hm4:dMod (.int (M/135)) (.int 4)=Ga (.int x4)) (hr:L2.atI [jc 0,.int (if cl-1<1 then cl-1 else 1),.int cl,.int (if cl+1<4 then cl+1 else 4)] x4=Ga (.int rr)) (hd540:dDiv (.int M) (.int 540)=Ga (.int q540)) (hm2:dMod (.int q540) (.int 2)=Ga (.int x2)) (hs:decide (x2=0)=sil)
  (h:(¬0<x9/\cl=1/\L2.atI [jc (le-1),.int (n-1+x6),.bool true,.none,.str (jl "0")] x5=Ga b/\∀ y,La [.val S,.val (.int k),.val (.int M),.val (.int n),.val (.tuple [N,Fd]),.val (.int le),.val (.bool false),.val b,.val (.int cl),.val (.int rr),y,.val (.bool sil),.tab Pt]=Ga (.list [.tuple [.bool true,.bool false,.bool false],.int 0])) \/
   (0<x9/\b=.int (le+xb)/\za3 [.tuple [N,Fd],b]=Ga (.int cl)/\((cl<=rr/\∀ y,La [.val S,.val (.int k),.val (.int M),.val (.int n),.val (.tuple [N,Fd]),.val (.int le),.val (.bool true),.val b,.val (.int cl),.val (.int rr),y,.val (.bool sil),.tab Pt]=Ga (.list [.tuple [.bool false,.bool false,.bool true],.int 0])) \/
    (¬cl<=rr/\(∀ y,La [.val S,.val (.int k),.val (.int M),.val (.int n),.val (.tuple [N,Fd]),.val (.int le),.val (.bool true),.val b,.val (.int cl),.val (.int rr),y,.val (.bool sil),.tab Pt]=Ga (.list [.str (jl "fine"),Z]))/\((sil=true/\Z=.none)\/(sil=false/\∃ xs,Z=.tuple xs)))))) :
  Goes (λψ=>∃ y1 y2 y3 y4 y5 y6 y7 y8 y9 y10 y11,ψ=[.val S,y1,y2,y3,y4,y5,y6,y7,y8,y9,y10,y11,.tab Pt]) ((tgNN 1 (.int k) [.val S,y1,y2,y3,y4,y5,y6,y7,y8,y9,y10,y11,.tab Pt]).bind (zaH (zaK 2 (zaG zbG (zaA (binN dIx (gv 0) (gv 1)) (zaA (gv 1) (zaE))))) (zaH (zaK 3 (binN dAdd (cstN (.int 2)) (binN dMod (gv 2) (cstN (.int 3))))) (zaH (zaK 4 (zcU (zaA (zaG zaX (zaA (binN dIx (gv 0) (gv 1)) (zaA (gv 3) (zaE)))) (zaA (zaG za5 (zaA (binN dDiv (gv 2) (cstN (.int 3))) (zaA (gv 3) (zaA (binN dSub (gv 3) (cstN (.int 2))) (zaA (cstN (.int 3)) (zaE)))))) (zaE))))) (zaH (zaK 5 (unN dLen (binN dIx (gv 4) (cstN (.int 1))))) (zaH (zaK 6 (binN dGt (binN dMod (binN dDiv (gv 2) (cstN (.int 9))) (cstN (.int 3))) (cstN (.int 0)))) (zaH (zaK 7 (binN dAdd (gv 5) (binN dMod (binN dDiv (gv 2) (cstN (.int 27))) (binN dSub (binN dSub (gv 3) (cstN (.int 1))) (gv 5))))) (zaH (ifSN (zc8 (tstN (gv 6))) (zaK 7 (binN dIx (zbJ (zaA (binN dSub (gv 5) (cstN (.int 1))) (zaA (binN dAdd (binN dSub (gv 3) (cstN (.int 1))) (binN dMod (gv 2) (binN dPow (cstN (.int 10)) (cstN (.int 6))))) (zaA (cstN (.bool true)) (zaA (cstN .none) (zaA (cstN (.str (jl "0"))) (zaE))))))) (binN dMod (binN dDiv (gv 2) (cstN (.int 27))) (cstN (.int 5))))) (nxSN)) (zaH (zaK 8 (cstN (.int 1))) (zaH (ifSN (tstN (gv 6)) (zaK 8 (zaG za3 (zaA (gv 4) (zaA (gv 7) (zaE))))) (nxSN)) (zaH (zaK 9 (binN dIx (zbJ (zaA (cstN (.int 0)) (zaA (binN dMin2 (cstN (.int 1)) (binN dSub (gv 8) (cstN (.int 1)))) (zaA (gv 8) (zaA (binN dMin2 (cstN (.int 4)) (binN dAdd (gv 8) (cstN (.int 1)))) (zaE)))))) (binN dMod (binN dDiv (gv 2) (cstN (.int 135))) (cstN (.int 4))))) (zaH (zaK 11 (binN dEq (binN dMod (binN dDiv (gv 2) (cstN (.int 540))) (cstN (.int 2))) (cstN (.int 0)))) (zaH (zaK 10 La) (ifSN (orBN (zc8 (tstN (gv 6))) (zaQ dGe (gv 9) (gv 8))) (ifSN (zaQ dNe (gv 10) (zbJ (zaA (zcU (zaA (zqR (gv 6)) (zaA (cstN (.bool false)) (zaA (gv 6) (zaE))))) (zaA (cstN (.int 0)) (zaE))))) (zbS (cstN (.bool false))) (nxSN)) (ifSN (orBN (zaQ dNe (binN dIx (gv 10) (cstN (.int 0))) (cstN (.str (jl "fine")))) (orBN (zaQ dNe (gv 11) (binN dIs (binN dIx (gv 10) (cstN (.int 1))) (cstN .none))) (zeY (zc8 (tstN (gv 11))) (zc8 (tstN (unN (dIsT "tuple") (binN dIx (gv 10) (cstN (.int 1))))))))) (zbS (cstN (.bool false))) (nxSN)))))))))))))))):=by
 have hfn:dNe (.str (jl "fine")) (.str (jl "fine"))=Ga (.bool false):=by
  unfold dNe;rw[Ge (by first|rfl|decide +kernel)];simp only[kF,beq_self_eq_true,qV]
 have n1:dNe (.list [.tuple [.bool true,.bool false,.bool false],.int 0]) (.list [.tuple [.bool true,.bool false,.bool false],.int 0])=Ga (.bool false):=rfl;have n2:dNe (.list [.tuple [.bool false,.bool false,.bool true],.int 0]) (.list [.tuple [.bool false,.bool false,.bool true],.int 0])=Ga (.bool false):=rfl;have d9:dDiv (.int M) (.int 9)=Ga (.int (M/9)):=zkB (by decide) (by decide);have d27:dDiv (.int M) (.int 27)=Ga (.int (M/27)):=zkB (by decide) (by decide);have d135:dDiv (.int M) (.int 135)=Ga (.int (M/135)):=zkB (by decide) (by decide);have pw:dPow (.int 10) (.int 6)=Ga (.int 1000000):=rfl;have hF0:L2.atI [N,Fd] 1=Ga Fd:=rfl;have fz:∀ e:En,frz (.tab Pt::e)=.tab Pt::frz e:=λ_=>rfl;generalize zbG=A1 at *;generalize zaX=A2 at *;generalize za5=A3 at *;generalize za3=A6 at *;rcases h with ⟨g9,rfl,hb,hA⟩|⟨g9,rfl,hC,h⟩
 .simp_arith[hc,hM,hm3,en,hN,hd3,hF,hF0,hL,d9,hm9,Gd g9,d27,hmb,hm5,pw,hm6,hb,d135,hm4,hr,hd540,hm2,hs,fz,hA,n1];exact zbV ⟨_,_,_,_,_,_,_,_,_,_,_,rfl⟩
 .rcases h with ⟨c4,hA⟩|⟨c4,hA,hZ⟩
  .simp_arith[hc,hM,hm3,en,hN,hd3,hF,hF0,hL,d9,hm9,Gc g9,d27,hmb,hC,d135,hm4,hr,hd540,hm2,hs,fz,hA,Gc c4,n2];exact zbV ⟨_,_,_,_,_,_,_,_,_,_,_,rfl⟩
  .have i0:L2.atI [qx (jl "fine"),Z] 0=Ga (.str (jl "fine")):=rfl;have i1:L2.atI [qx (jl "fine"),Z] 1=Ga Z:=rfl;have e1:∀ s:Bool,dNe (.bool s) (.bool s)=Ga (.bool false):=λs=>by cases s<;>rfl
   have zs:dIs Z .none=Ga (.bool sil):=by
    rcases hZ with ⟨rfl,rfl⟩|⟨rfl,xs,rfl⟩<;>rfl
   have zt:sil=false->dIsT "tuple" Z=Ga (.bool true):=by
    rcases hZ with ⟨rfl,rfl⟩|⟨rfl,xs,rfl⟩
    .exact λz=>by cases z
    .exact λ_=>rfl
   clear hZ;generalize qx (jl "fine")=q at *;cases sil with
   | true =>
    simp_arith[hc,hM,hm3,en,hN,hd3,hF,hF0,hL,d9,hm9,Gc g9,d27,hmb,hC,d135,hm4,hr,hd540,hm2,hs,fz,hA,Gd c4,hfn,i0,i1,zs,e1];exact zbV ⟨_,_,_,_,_,_,_,_,_,_,_,rfl⟩
   | false =>
    have zt:=zt rfl;simp_arith[hc,hM,hm3,en,hN,hd3,hF,hF0,hL,d9,hm9,Gc g9,d27,hmb,hC,d135,hm4,hr,hd540,hm2,hs,fz,hA,Gd c4,hfn,i0,i1,zs,zt,e1];exact zbV ⟨_,_,_,_,_,_,_,_,_,_,_,rfl⟩
theorem zBi {it:Nat}{P:Gj}{mk:(D->Option D)->FnC}{fb:FV}{fm:FnC->(D->Option D)->List D->Option D}{ix:List Nat}{g:FL}{ψ:En}{cs as:List D}{X:D}(φ:D->Option D)(e:φ=λd=>fb (.val d::cs.map .val))(h1:ψ[it]?=Ga (.tab P))(h2:capt ψ ix=Ga cs)(h3:g ψ=Ga as)(h4:fm (mk φ) φ as=Ga X):callL it P mk fb fm ix g ψ=Ga X:=by
 unfold callL;rw[Ge h1,h2,jr,h3,jr,<- e];exact h4
theorem zEF (N Fd:D)(n l:Nat)(hl:dLen Fd=Ga (.int l))(hM:zaL [.tuple [N,Fd]]=Ga (.int n))(x6:Int)(m6:0<=x6)(x:Int)(x0:0<=x)(x1:x<5):∃ b,L2.atI [jc ((l:Int)-1),.int ((n:Int)-1+x6),.bool true,.none,.str (jl "0")] x=Ga b/\zb5 [.tuple [N,Fd],b]=Ga (.bool false):=by
 have ki:=λi=>zvJ (.tuple [N,Fd]) N Fd (n:Int) (l:Int) i hM rfl hl;have kb:∀ i:Int,¬(0<=i/\i<=(n:Int)-2/\(l:Int)<=i)->zb5 [.tuple [N,Fd],.int i]=Ga (.bool false):=λi h=>by
  rw[ki i];have:kpZ (n:Int) (l:Int) i=false:=by
   unfold kpZ;by_cases a1:0<=i
   .by_cases a2:i<=(n:Int)-2
    .rw[Gd (show ¬(l:Int)<=i from λz=>h ⟨a1,a2,z⟩),uv,uv]
    .rw[Gd a2,uV,uv]
   .rw[Gd a1,uV]
  rw[this]
 obtain⟨k,rfl⟩:∃ k:Nat,x=k:=⟨x.toNat,by omega⟩;have:k<5:=by omega
 match k,this with
 | 0,_=>exact⟨_,L2.atI_nat (j:=0) rfl,kb _ (by omega)⟩
 | 1,_=>exact⟨_,L2.atI_nat (j:=1) rfl,kb _ (by omega)⟩
 | 2,_=>exact⟨_,L2.atI_nat (j:=2) rfl,zq8 _ _ rfl⟩
 | 3,_=>exact⟨_,L2.atI_nat (j:=3) rfl,zq8 _ _ rfl⟩
 | 4,_=>exact⟨_,L2.atI_nat (j:=4) rfl,zq8 _ _ rfl⟩
theorem step54 (mkx:Str->FnC)(mk:(D->Option D)->FnC)(Pt:Gj)(ns:List Int)(k:Nat)(hk:k<ns.length)(hk2:k<=63)(La:FV)(eLa:La=(callL 12 Pt mk (binN dIx (zbJ (zaA (zaG za0 (zaA (gv 0) (zaE))) (zaA (cstN .none) (zaE)))) (unN dInt (gv 1))) (zb0 mkx) [11] (zaA (gv 4) (zaA (gv 7) (zaA (gv 9) (zaE))))))(y1 y2 y3 y4 y5 y6 y7 y8 y9 y10 y11:Sl):let S:D:=.list (ns.map jc);Goes (λψ=>∃ y1 y2 y3 y4 y5 y6 y7 y8 y9 y10 y11,ψ=[.val S,y1,y2,y3,y4,y5,y6,y7,y8,y9,y10,y11,.tab Pt]) ((tgNN 1 (.int (k:Int)) [.val S,y1,y2,y3,y4,y5,y6,y7,y8,y9,y10,y11,.tab Pt]).bind (zaH (zaK 2 (zaG zbG (zaA (binN dIx (gv 0) (gv 1)) (zaA (gv 1) (zaE))))) (zaH (zaK 3 (binN dAdd (cstN (.int 2)) (binN dMod (gv 2) (cstN (.int 3))))) (zaH (zaK 4 (zcU (zaA (zaG zaX (zaA (binN dIx (gv 0) (gv 1)) (zaA (gv 3) (zaE)))) (zaA (zaG za5 (zaA (binN dDiv (gv 2) (cstN (.int 3))) (zaA (gv 3) (zaA (binN dSub (gv 3) (cstN (.int 2))) (zaA (cstN (.int 3)) (zaE)))))) (zaE))))) (zaH (zaK 5 (unN dLen (binN dIx (gv 4) (cstN (.int 1))))) (zaH (zaK 6 (binN dGt (binN dMod (binN dDiv (gv 2) (cstN (.int 9))) (cstN (.int 3))) (cstN (.int 0)))) (zaH (zaK 7 (binN dAdd (gv 5) (binN dMod (binN dDiv (gv 2) (cstN (.int 27))) (binN dSub (binN dSub (gv 3) (cstN (.int 1))) (gv 5))))) (zaH (ifSN (zc8 (tstN (gv 6))) (zaK 7 (binN dIx (zbJ (zaA (binN dSub (gv 5) (cstN (.int 1))) (zaA (binN dAdd (binN dSub (gv 3) (cstN (.int 1))) (binN dMod (gv 2) (binN dPow (cstN (.int 10)) (cstN (.int 6))))) (zaA (cstN (.bool true)) (zaA (cstN .none) (zaA (cstN (.str (jl "0"))) (zaE))))))) (binN dMod (binN dDiv (gv 2) (cstN (.int 27))) (cstN (.int 5))))) (nxSN)) (zaH (zaK 8 (cstN (.int 1))) (zaH (ifSN (tstN (gv 6)) (zaK 8 (zaG za3 (zaA (gv 4) (zaA (gv 7) (zaE))))) (nxSN)) (zaH (zaK 9 (binN dIx (zbJ (zaA (cstN (.int 0)) (zaA (binN dMin2 (cstN (.int 1)) (binN dSub (gv 8) (cstN (.int 1)))) (zaA (gv 8) (zaA (binN dMin2 (cstN (.int 4)) (binN dAdd (gv 8) (cstN (.int 1)))) (zaE)))))) (binN dMod (binN dDiv (gv 2) (cstN (.int 135))) (cstN (.int 4))))) (zaH (zaK 11 (binN dEq (binN dMod (binN dDiv (gv 2) (cstN (.int 540))) (cstN (.int 2))) (cstN (.int 0)))) (zaH (zaK 10 La) (ifSN (orBN (zc8 (tstN (gv 6))) (zaQ dGe (gv 9) (gv 8))) (ifSN (zaQ dNe (gv 10) (zbJ (zaA (zcU (zaA (zqR (gv 6)) (zaA (cstN (.bool false)) (zaA (gv 6) (zaE))))) (zaA (cstN (.int 0)) (zaE))))) (zbS (cstN (.bool false))) (nxSN)) (ifSN (orBN (zaQ dNe (binN dIx (gv 10) (cstN (.int 0))) (cstN (.str (jl "fine")))) (orBN (zaQ dNe (gv 11) (binN dIs (binN dIx (gv 10) (cstN (.int 1))) (cstN .none))) (zeY (zc8 (tstN (gv 11))) (zc8 (tstN (unN (dIsT "tuple") (binN dIx (gv 10) (cstN (.int 1))))))))) (zbS (cstN (.bool false))) (nxSN)))))))))))))))):=by
 intro S;have hc:dIx S (.int (k:Int))=Ga (.int ns[k]):=L2.atI_nat (by rw[jz,jw hk];rfl);obtain⟨M,M1,hM⟩:=zxO ns[k] k (by omega);obtain⟨n,en⟩:∃ n:Nat,n=2+M%3:=⟨_,rfl⟩;have en2:2+(M:Int)%3=(n:Int):=by omega
 obtain⟨is,il,ib,ie⟩:=zs3 ns[k] n (by omega);obtain⟨q,eq_⟩:∃ q:Nat,q=M/3:=⟨_,rfl⟩;obtain⟨X,FX,fe⟩:=zxP q n (n-2) 3 (by omega) (by omega) (by omega) (by omega) (by omega);obtain⟨o1,o2⟩:=zCZ FX;have xl:=FX.ln;generalize tab X=E at fe o1 o2;have hF:za5 [.int ((M:Int)/3),.int (n:Int),.int ((n:Int)-2),.int 3]=Ga (.tuple ((flE n E).map fd)):=by
  rw[show(n:Int)-2=((n-2:Nat):Int) by omega,show(M:Int)/3=(q:Int) by omega];exact fe
 obtain⟨v,ev⟩:∃ v:Nat->Int,v=λi=>is.getD i 0:=⟨_,rfl⟩;have eN:is.map jc=nmD n v:=by rw[ev,<- il];exact(zxQ is).symm
 rw[eN] at ie;have ln:=za1 n v;have er:rdR n (v,E)=.tuple [.tuple (nmD n v),.tuple ((flE n E).map fd)]:=by unfold rdR rdE rd;rw[za1]
 have er2:rd (nmD n v) (flE n E)=.tuple [.tuple (nmD n v),.tuple ((flE n E).map fd)]:=rfl;have hMh:zaL [.tuple [.tuple (nmD n v),.tuple ((flE n E).map fd)]]=Ga (.int (n:Int)):=by
  have:=zmN (nmD n v) (flE n E);rw[ln] at this;exact this
 have hLf:dLen (.tuple ((flE n E).map fd))=Ga (.int ((cntE n E:Nat):Int)):=by show Ga (jc ((((flE n E).map fd).length:Nat):Int))=_;rw[jb,zf1]
 have cn:cntE n E+2<=n:=by omega
 have z9:¬(n:Int)-1-(cntE n E:Nat)=0:=by omega
 have xb0:=kT ((M:Int)/27) z9;have xb1:=kJ ((M:Int)/27) (show 0<(n:Int)-1-(cntE n E:Nat) by omega);have x40:0<=(M:Int)/135%4:=kT _ (by decide);have x41:(M:Int)/135%4<4:=kJ _ (by decide);have hat:∀ cl x:Int,0<=x->x<4->1<=cl->cl<=4->∃ rr:Int,L2.atI [jc 0,.int (if cl-1<1 then cl-1 else 1),.int cl,.int (if cl+1<4 then cl+1 else 4)] x=Ga (.int rr)/\0<=rr/\(rr<cl->rr<=1):=λcl x h0 h1 hcl hc4=>by
  obtain⟨j,rfl⟩:∃ j:Nat,x=j:=⟨x.toNat,by omega⟩;have:j<4:=by omega
  match j,this with
  | 0,_=>exact⟨0,L2.atI_nat (j:=0) rfl,by omega,by omega⟩
  | 1,_=>exact⟨_,L2.atI_nat (j:=1) rfl,by split<;>omega,by split<;>omega⟩
  | 2,_=>exact⟨cl,L2.atI_nat (j:=2) rfl,by omega,by omega⟩
  | 3,_=>exact⟨_,L2.atI_nat (j:=3) rfl,by split<;>omega,by split<;>omega⟩
 generalize hsl:decide ((M:Int)/540%2=0)=sil;have LS:=λb Z x5 x6 cl rr h5 h6 hr h=>zEE La Pt S (.tuple (nmD n v)) (.tuple ((flE n E).map fd)) b Z (k:Int) _ (M:Int) _ (n:Int) _ ((cntE n E:Nat):Int) _ _ x5 x6 _ _ _ cl rr sil y1 y2 y3 y4 y5 y6 y7 y8 y9 y10 y11 hc hM (zgC (by decide)) en2 ie (zkB (by decide) (by decide)) hF hLf (zgC (by decide)) (zgC (by omega)) h5 h6 (zgC (by decide)) hr (zkB (by decide) (by decide)) (zgC (by decide)) hsl h;have m5:dMod (.int ((M:Int)/27)) (.int 5)=Ga (.int ((M:Int)/27%5)):=zgC (by decide);have m6:dMod (.int (M:Int)) (.int 1000000)=Ga (.int ((M:Int)%1000000)):=zgC (by decide);obtain⟨φ,eφ⟩:∃ φ:D->Option D,φ=λd=>(binN dIx (zbJ (zaA (zaG za0 (zaA (gv 0) (zaE))) (zaA (cstN .none) (zaE)))) (unN dInt (gv 1))) (.val d::[jW sil].map .val):=⟨_,rfl⟩;have O:Own φ sil:=by rw[eφ];exact zBh sil
 have AS:=λ(g:Bool) (b:D) (cl rr:Int) (F:D) (h:zb0 mkx (mk φ) φ [.tuple [.tuple (nmD n v),.tuple ((flE n E).map fd)],b,.int rr]=Ga F) (y:Sl)=>show La [.val S,.val (.int (k:Int)),.val (.int (M:Int)),.val (.int (n:Int)),.val (.tuple [.tuple (nmD n v),.tuple ((flE n E).map fd)]),.val (.int ((cntE n E:Nat):Int)),.val (.bool g),.val b,.val (.int cl),.val (.int rr),y,.val (.bool sil),.tab Pt]=Ga F from by
  rw[eLa];exact zBi φ eφ (cs:=[.bool sil]) (as:=[.tuple [.tuple (nmD n v),.tuple ((flE n E).map fd)],b,.int rr]) rfl rfl rfl h
 by_cases x9:0<(M:Int)/9%3
 .obtain⟨bd,ebd⟩:∃ bd:Nat,((cntE n E:Nat):Int)+(M:Int)/27%((n:Int)-1-(cntE n E:Nat))=bd:=⟨(((cntE n E:Nat):Int)+(M:Int)/27%((n:Int)-1-(cntE n E:Nat))).toNat,by omega⟩;have b1:cntE n E<=bd:=by omega
  have b2:bd+2<=n:=by omega
  have CL:=zDe (nmD n v) E (bd:Int) (by rw[ln];omega) (by rw[ln];exact o1.mono (by omega));rw[ln] at CL;have erE:rdE (nmD n v) E=.tuple [.tuple (nmD n v),.tuple ((flE n E).map fd)]:=er;rw[erE] at CL;obtain⟨w0,w1,w2⟩:=zlU n E;have w2:=w2 (cntE n E) (jk _);have wl:=zyV n E (by omega);have wg:=zDl n E cn;obtain⟨rr,hr,r0,r1⟩:=hat ((bd:Int)+1-wsL n E 3) ((M:Int)/135%4) x40 x41 (by omega) (by omega);have G:=zq7 (by omega) (by omega) (by omega) o1;have OP:=zuV (nmD n v) (flE n E) (by rw[ln];exact G) bd (by rw[ln];exact b2) (by rw[zf1];exact b1) rr;have KP:=zvJ (.tuple [.tuple (nmD n v),.tuple ((flE n E).map fd)]) (.tuple (nmD n v)) (.tuple ((flE n E).map fd)) (n:Int) ((cntE n E:Nat):Int) (bd:Int) hMh rfl hLf;have kt:kpZ (n:Int) ((cntE n E:Nat):Int) (bd:Int)=true:=by
   unfold kpZ;rw[Gc (show(0:Int)<=bd by omega),Gc (show(bd:Int)<=(n:Int)-2 by omega),Gc (show((cntE n E:Nat):Int)<=bd by omega)];rfl
  rw[kt] at KP;rw[ln,er2] at OP;by_cases c4:(bd:Int)+1-wsL n E 3<=rr
  .rw[Gd (by omega)] at OP;exact LS (.int (bd:Int)) .none _ _ _ rr m5 m6 hr (.inr ⟨x9,congrArg jc ebd.symm,CL,.inl ⟨c4,AS true _ _ _ _ (zvP mkx _ _ _ _ _ false ((fxb _ _ _ _ _ true false KP λ_=>OP).trans rfl))⟩⟩)
  .rw[Gc (by omega)] at OP;obtain⟨rn,rfl⟩:∃ rn:Nat,rr=rn:=⟨rr.toNat,by omega⟩;obtain⟨Z,hz,zc⟩:=zvO n rn bd v E (by omega) (by omega) (by omega) o1 b1 b2 (by omega) (by rw[er];exact OP) (mk φ) φ sil O;rw[er] at hz;exact LS (.int (bd:Int)) Z _ _ _ (rn:Int) m5 m6 hr (.inr ⟨x9,congrArg jc ebd.symm,CL,.inr ⟨c4,AS true _ _ _ _ (zBf mkx _ _ _ _ _ _ ((fxb _ _ _ _ _ true true KP λ_=>OP).trans rfl) hz),zc⟩⟩)
 .have x50:0<=(M:Int)/27%5:=kT _ (by decide);have x51:(M:Int)/27%5<5:=kJ _ (by decide);obtain⟨b,hb,hkp⟩:=zEF (.tuple (nmD n v)) (.tuple ((flE n E).map fd)) n (cntE n E) hLf hMh ((M:Int)%1000000) (kT _ (by decide)) _ x50 x51;obtain⟨rr,hr,_,_⟩:=hat 1 ((M:Int)/135%4) x40 x41 (by decide) (by decide);exact LS b .none _ _ _ rr m5 m6 hr (.inl ⟨x9,rfl,hb,AS false _ _ _ _ (zvP mkx _ _ _ _ _ true ((fxb _ _ _ _ _ false false hkp λz=>by cases z).trans rfl))⟩)
theorem zEG (mkx:Str->FnC)(mk:(D->Option D)->FnC)(Pt:Gj)(S:D)(K:Nat)(len:Int)(hlen:dLen S=Ga (.int len))(hr:rng1 (.int (if len<63 then len else 63))=Ga ((jf K).map λ(k:Nat)=>.int (k:Int)))
  (st:∀ k,k<K->∀ La,La=(callL 12 Pt mk (binN dIx (zbJ (zaA (zaG za0 (zaA (gv 0) (zaE))) (zaA (cstN .none) (zaE)))) (unN dInt (gv 1))) (zb0 mkx) [11] (zaA (gv 4) (zaA (gv 7) (zaA (gv 9) (zaE)))))->∀ y1 y2 y3 y4 y5 y6 y7 y8 y9 y10 y11,Goes (λψ=>∃ y1 y2 y3 y4 y5 y6 y7 y8 y9 y10 y11,ψ=[.val S,y1,y2,y3,y4,y5,y6,y7,y8,y9,y10,y11,.tab Pt]) ((tgNN 1 (.int (k:Int)) [.val S,y1,y2,y3,y4,y5,y6,y7,y8,y9,y10,y11,.tab Pt]).bind (zaH (zaK 2 (zaG zbG (zaA (binN dIx (gv 0) (gv 1)) (zaA (gv 1) (zaE))))) (zaH (zaK 3 (binN dAdd (cstN (.int 2)) (binN dMod (gv 2) (cstN (.int 3))))) (zaH (zaK 4 (zcU (zaA (zaG zaX (zaA (binN dIx (gv 0) (gv 1)) (zaA (gv 3) (zaE)))) (zaA (zaG za5 (zaA (binN dDiv (gv 2) (cstN (.int 3))) (zaA (gv 3) (zaA (binN dSub (gv 3) (cstN (.int 2))) (zaA (cstN (.int 3)) (zaE)))))) (zaE))))) (zaH (zaK 5 (unN dLen (binN dIx (gv 4) (cstN (.int 1))))) (zaH (zaK 6 (binN dGt (binN dMod (binN dDiv (gv 2) (cstN (.int 9))) (cstN (.int 3))) (cstN (.int 0)))) (zaH (zaK 7 (binN dAdd (gv 5) (binN dMod (binN dDiv (gv 2) (cstN (.int 27))) (binN dSub (binN dSub (gv 3) (cstN (.int 1))) (gv 5))))) (zaH (ifSN (zc8 (tstN (gv 6))) (zaK 7 (binN dIx (zbJ (zaA (binN dSub (gv 5) (cstN (.int 1))) (zaA (binN dAdd (binN dSub (gv 3) (cstN (.int 1))) (binN dMod (gv 2) (binN dPow (cstN (.int 10)) (cstN (.int 6))))) (zaA (cstN (.bool true)) (zaA (cstN .none) (zaA (cstN (.str (jl "0"))) (zaE))))))) (binN dMod (binN dDiv (gv 2) (cstN (.int 27))) (cstN (.int 5))))) (nxSN)) (zaH (zaK 8 (cstN (.int 1))) (zaH (ifSN (tstN (gv 6)) (zaK 8 (zaG za3 (zaA (gv 4) (zaA (gv 7) (zaE))))) (nxSN)) (zaH (zaK 9 (binN dIx (zbJ (zaA (cstN (.int 0)) (zaA (binN dMin2 (cstN (.int 1)) (binN dSub (gv 8) (cstN (.int 1)))) (zaA (gv 8) (zaA (binN dMin2 (cstN (.int 4)) (binN dAdd (gv 8) (cstN (.int 1)))) (zaE)))))) (binN dMod (binN dDiv (gv 2) (cstN (.int 135))) (cstN (.int 4))))) (zaH (zaK 11 (binN dEq (binN dMod (binN dDiv (gv 2) (cstN (.int 540))) (cstN (.int 2))) (cstN (.int 0)))) (zaH (zaK 10 La) (ifSN (orBN (zc8 (tstN (gv 6))) (zaQ dGe (gv 9) (gv 8))) (ifSN (zaQ dNe (gv 10) (zbJ (zaA (zcU (zaA (zqR (gv 6)) (zaA (cstN (.bool false)) (zaA (gv 6) (zaE))))) (zaA (cstN (.int 0)) (zaE))))) (zbS (cstN (.bool false))) (nxSN)) (ifSN (orBN (zaQ dNe (binN dIx (gv 10) (cstN (.int 0))) (cstN (.str (jl "fine")))) (orBN (zaQ dNe (gv 11) (binN dIs (binN dIx (gv 10) (cstN (.int 1))) (cstN .none))) (zeY (zc8 (tstN (gv 11))) (zc8 (tstN (unN (dIsT "tuple") (binN dIx (gv 10) (cstN (.int 1))))))))) (zbS (cstN (.bool false))) (nxSN))))))))))))))))):ziI mkx mk Pt [S]=Ga (.bool true):=by
 rw[zw6];unfold zuS;generalize eLa:(callL 12 Pt mk (binN dIx (zbJ (zaA (zaG za0 (zaA (gv 0) (zaE))) (zaA (cstN .none) (zaE)))) (unN dInt (gv 1))) (zb0 mkx) [11] (zaA (gv 4) (zaA (gv 7) (zaA (gv 9) (zaE)))))=La;have st:=λk hk=>st k hk La eLa.symm;generalize (zaH (zaK 2 (zaG zbG (zaA (binN dIx (gv 0) (gv 1)) (zaA (gv 1) (zaE))))) (zaH (zaK 3 (binN dAdd (cstN (.int 2)) (binN dMod (gv 2) (cstN (.int 3))))) (zaH (zaK 4 (zcU (zaA (zaG zaX (zaA (binN dIx (gv 0) (gv 1)) (zaA (gv 3) (zaE)))) (zaA (zaG za5 (zaA (binN dDiv (gv 2) (cstN (.int 3))) (zaA (gv 3) (zaA (binN dSub (gv 3) (cstN (.int 2))) (zaA (cstN (.int 3)) (zaE)))))) (zaE))))) (zaH (zaK 5 (unN dLen (binN dIx (gv 4) (cstN (.int 1))))) (zaH (zaK 6 (binN dGt (binN dMod (binN dDiv (gv 2) (cstN (.int 9))) (cstN (.int 3))) (cstN (.int 0)))) (zaH (zaK 7 (binN dAdd (gv 5) (binN dMod (binN dDiv (gv 2) (cstN (.int 27))) (binN dSub (binN dSub (gv 3) (cstN (.int 1))) (gv 5))))) (zaH (ifSN (zc8 (tstN (gv 6))) (zaK 7 (binN dIx (zbJ (zaA (binN dSub (gv 5) (cstN (.int 1))) (zaA (binN dAdd (binN dSub (gv 3) (cstN (.int 1))) (binN dMod (gv 2) (binN dPow (cstN (.int 10)) (cstN (.int 6))))) (zaA (cstN (.bool true)) (zaA (cstN .none) (zaA (cstN (.str (jl "0"))) (zaE))))))) (binN dMod (binN dDiv (gv 2) (cstN (.int 27))) (cstN (.int 5))))) (nxSN)) (zaH (zaK 8 (cstN (.int 1))) (zaH (ifSN (tstN (gv 6)) (zaK 8 (zaG za3 (zaA (gv 4) (zaA (gv 7) (zaE))))) (nxSN)) (zaH (zaK 9 (binN dIx (zbJ (zaA (cstN (.int 0)) (zaA (binN dMin2 (cstN (.int 1)) (binN dSub (gv 8) (cstN (.int 1)))) (zaA (gv 8) (zaA (binN dMin2 (cstN (.int 4)) (binN dAdd (gv 8) (cstN (.int 1)))) (zaE)))))) (binN dMod (binN dDiv (gv 2) (cstN (.int 135))) (cstN (.int 4))))) (zaH (zaK 11 (binN dEq (binN dMod (binN dDiv (gv 2) (cstN (.int 540))) (cstN (.int 2))) (cstN (.int 0)))) (zaH (zaK 10 La) (ifSN (orBN (zc8 (tstN (gv 6))) (zaQ dGe (gv 9) (gv 8))) (ifSN (zaQ dNe (gv 10) (zbJ (zaA (zcU (zaA (zqR (gv 6)) (zaA (cstN (.bool false)) (zaA (gv 6) (zaE))))) (zaA (cstN (.int 0)) (zaE))))) (zbS (cstN (.bool false))) (nxSN)) (ifSN (orBN (zaQ dNe (binN dIx (gv 10) (cstN (.int 0))) (cstN (.str (jl "fine")))) (orBN (zaQ dNe (gv 11) (binN dIs (binN dIx (gv 10) (cstN (.int 1))) (cstN .none))) (zeY (zc8 (tstN (gv 11))) (zc8 (tstN (unN (dIsT "tuple") (binN dIx (gv 10) (cstN (.int 1))))))))) (zbS (cstN (.bool false))) (nxSN)))))))))))))))=Bd at *;simp_arith[hlen,hr];refine(congrArg outV (zoD (R:=Ga (.rt (.bool true))) K (λk ψ=>∃ y1 y2 y3 y4 y5 y6 y7 y8 y9 y10 y11,ψ=[.val S,y1,y2,y3,y4,y5,y6,y7,y8,y9,y10,y11,.tab Pt]) ⟨_,_,_,_,_,_,_,_,_,_,_,rfl⟩ ?_ ?_)).trans rfl
 .rintro k hk _ ⟨y1,y2,y3,y4,y5,y6,y7,y8,y9,y10,y11,rfl⟩;exact st k hk y1 y2 y3 y4 y5 y6 y7 y8 y9 y10 y11
 .rintro _ ⟨y1,y2,y3,y4,y5,y6,y7,y8,y9,y10,y11,rfl⟩;simp_arith[]
theorem zvQ (mkx:Str->FnC)(mk:(D->Option D)->FnC)(Pt:Gj)(ns:List Int)(hn:ns.length<=63):ziI mkx mk Pt [.list (ns.map jc)]=Ga (.bool true):=by
 refine zEG mkx mk Pt _ ns.length (ns.length:Int) (by show Ga (jc (((ns.map jc).length:Nat):Int))=_;rw[jb]) ?_ ?_
 .have:(if (ns.length:Int)<63 then(ns.length:Int) else 63)=(ns.length:Int):=by split<;>omega
  rw[this];exact zdY (by omega)
 .intro k hk La e y1 y2 y3 y4 y5 y6 y7 y8 y9 y10 y11;exact step54 mkx mk Pt ns k hk (by omega) La e y1 y2 y3 y4 y5 y6 y7 y8 y9 y10 y11
end Law
namespace Law
noncomputable section
open PySem PySem.W PySem.Spec PyProof.Rows L2
def fO (i:Nat)(x:Str)(d:Gg)(m:Str)(t:Nat)(c:Gj):Obj:=⟨.type "function",Gb,.func (fnOf x x (defArgs (top i)) (defBody (top i)) (defScope (top i)) .none .none d (.str m t) Gb (.ref c) .none),#[]⟩
def rV:Nat->Gg
 | 0=>.none
 | n+1=>.ref (n+1)
def cO (x:Str)(t1 t2 t3:Nat)(i1 i2 i3 i4 i5:Int)(r1:Gj)(i6:Int)(r2 r3 r4 r5:Gj)(i7 i8:Int)(t4:Nat):Obj:=⟨.type "code",Gb,.fields #[.str x t1,.str x t2,.str "/claim/cut.py" t3,.int i1 0,.int i2 0,.int i3 0,.int i4 0,.int i5 0,rV r1,.bool true,.int i6 0,rV r2,.none,rV r3,rV r4,rV r5,.int i7 0,.int i8 0,.str "/claim/cut.py" t4],#[]⟩
def eV (P:Params)(x:Str)(t:Nat)(v:Gg):DictEntry:=⟨JD P x,.str x t,v⟩
def eR (P:Params)(x:Str)(t:Nat)(a:Gj):DictEntry:=⟨JD P x,.str x t,.ref a⟩
def bO:Obj:=⟨.type "module",Ga 0,.plain,#[]⟩
def eL0 (P:Params):List DictEntry:=[eV P "__name__" 165 (.str ("law_roundfall_k54_broken_refused") 710),eV P "__doc__" 166 (.none),eV P "__package__" 167 (.none),eV P "__loader__" 168 (.builtin "__main__.__loader__#opaque"),eV P "__spec__" 169 (.none),eR P "__annotations__" 170 6,eR P "__builtins__" 171 4,eV P "__file__" 173 (.str ("/claim/cut.py") 172),eV P "__cached__" 174 (.none),eR P "RoundError" 206 24,eR P "NoBound" 222 37,eR P "NoNumbers" 238 49]
def eL1 (P:Params):List DictEntry:=[eR P "Closed" 254 61,eR P "is_whole" 263 70,eR P "bit_of" 272 77,eR P "has_hand" 280 84,eR P "mask_of" 289 91,eR P "hands_in" 295 96,eV P "LEAST_HANDS" 299 (.int 2 298),eV P "MOST_HANDS" 301 (.int 5 300),eV P "LAST_ROUND" 303 (.int 5 302),eR P "is_number" 310 103,eR P "are_numbers" 316 108,eR P "many_hands" 323 115]
def eL2 (P:Params):List DictEntry:=[eR P "fall_of" 332 122,eR P "without_fall" 338 127,eR P "with_fall" 349 134,eR P "with_number" 359 141,eR P "is_up" 369 148,eR P "who_is_up" 375 153,eR P "comes" 386 160,eR P "keeps" 394 167,eR P "with_reach_turned" 406 174,eR P "changed_while_hushed" 417 181,eR P "hushed" 423 186,eR P "all_heard" 431 191]
def eL3 (P:Params):List DictEntry:=[eR P "is_found_out" 440 198,eR P "found_out" 446 203,eR P "waste_of" 452 208,eR P "closing_round" 460 215,eR P "is_open" 469 222,eR P "without_late_falls" 477 227,eR P "heard_falls" 483 232,eR P "fallen_next" 493 239,eR P "with_heard_next" 504 246,eR P "risen" 514 253,eR P "heard_healed" 520 258,eR P "made_heard" 534 265]
def eL4 (P:Params):List DictEntry:=[eR P "round_healed" 540 270,eR P "healed" 552 277,eR P "renumbered" 567 284,eR P "are_numbers_for" 575 291,eR P "chain_of" 587 298,eR P "view_behind" 595 303,eR P "views_behind" 601 308,eR P "views_of" 607 313,eR P "own_part" 614 320,eR P "rounds_of" 622 327,eR P "own_past" 631 334,eR P "choice_by" 643 341]
def eL5 (P:Params):List DictEntry:=[eR P "number_by" 654 348,eR P "told_by" 660 353,eR P "all_told" 666 358,eR P "torn_in" 672 363,eR P "strangers" 678 368,eR P "torn_on" 691 375,eR P "broken_from" 697 380,eR P "broken" 709 387,eR P "_law_cell_at" 719 394,eR P "_law_whole" 726 401,eR P "_law_mixed" 735 408,eR P "_law_numbers" 741 413]
def eL6 (P:Params):List DictEntry:=[eR P "_law_falls" 747 418,eR P "_law_closing" 753 423,eR P "_law_asked" 766 430,eR P "_law_first" 773 437,eR P "law" 791 444]
def mO (P:Params):Obj:=⟨.type "dict",Gb,.dict (uo (eL0 P++eL1 P++eL2 P++eL3 P++eL4 P++eL5 P++eL6 P)) 77,#[]⟩
def oL0:List Obj:=[bO,cO "is_whole" 257 258 259 11 1 0 0 3 64 181 65 66 67 68 261 11 262,fO 6 "is_whole" (.none) "roundfall.masks" 255 69,cO "bit_of" 264 265 266 13 1 0 0 3 71 181 72 73 74 75 270 13 271,fO 7 "bit_of" (.none) "roundfall.masks" 255 76,cO "has_hand" 273 274 275 18 2 0 0 3 78 181 79 80 81 82 278 18 279,fO 8 "has_hand" (.none) "roundfall.masks" 255 83,cO "mask_of" 281 282 283 20 1 0 0 3 85 181 86 87 88 89 287 20 288,fO 9 "mask_of" (.none) "roundfall.masks" 255 90,cO "hands_in" 290 291 292 25 1 0 0 3 92 181 93 0 0 94 293 25 294,fO 10 "hands_in" (.none) "roundfall.masks" 255 95,cO "is_number" 304 305 306 31 1 0 0 3 97 181 98 99 100 101 308 31 309]
def oL1:List Obj:=[fO 15 "is_number" (.none) "roundfall.runs" 296 102,cO "are_numbers" 311 312 313 33 1 0 0 3 104 181 105 0 0 106 314 33 315,fO 16 "are_numbers" (.none) "roundfall.runs" 296 107,cO "many_hands" 317 318 319 37 1 0 0 3 109 181 110 111 112 113 321 37 322,fO 17 "many_hands" (.none) "roundfall.runs" 296 114,cO "fall_of" 324 325 326 39 2 0 0 3 116 181 117 118 119 120 330 39 331,fO 18 "fall_of" (.none) "roundfall.runs" 296 121,cO "without_fall" 333 334 335 44 2 0 0 3 123 181 124 0 0 125 336 44 337,fO 19 "without_fall" (.none) "roundfall.runs" 296 126,cO "with_fall" 339 340 341 46 4 0 0 3 128 181 129 130 131 132 347 46 348,fO 20 "with_fall" (.none) "roundfall.runs" 296 133,cO "with_number" 350 351 352 49 3 0 0 3 135 181 136 137 138 139 357 49 358]
def oL2:List Obj:=[fO 21 "with_number" (.none) "roundfall.runs" 296 140,cO "is_up" 360 361 362 52 3 0 0 3 142 181 143 144 145 146 367 52 368,fO 22 "is_up" (.none) "roundfall.runs" 296 147,cO "who_is_up" 370 371 372 55 2 0 0 3 149 181 150 0 0 151 373 55 374,fO 23 "who_is_up" (.none) "roundfall.runs" 296 152,cO "comes" 376 377 378 57 4 0 0 3 154 181 155 156 157 158 384 57 385,fO 24 "comes" (.none) "roundfall.runs" 296 159,cO "keeps" 387 388 389 64 2 0 0 3 161 181 162 163 164 165 392 64 393,fO 25 "keeps" (.none) "roundfall.runs" 296 166,cO "with_reach_turned" 397 398 399 69 3 0 0 3 168 181 169 170 171 172 404 69 405,fO 27 "with_reach_turned" (.none) "roundfall.hushing" 395 173,cO "changed_while_hushed" 407 408 409 72 5 0 0 3 175 181 176 177 178 179 415 72 416]
def oL3:List Obj:=[fO 28 "changed_while_hushed" (.none) "roundfall.hushing" 395 180,cO "hushed" 418 419 420 74 4 0 0 3 182 181 183 0 0 184 421 74 422,fO 29 "hushed" (.none) "roundfall.hushing" 395 185,cO "all_heard" 426 427 428 86 2 0 0 3 187 181 188 0 0 189 429 86 430,fO 31 "all_heard" (.none) "roundfall.waste" 424 190,cO "is_found_out" 432 433 434 88 3 0 0 3 192 181 193 194 195 196 438 88 439,fO 32 "is_found_out" (.none) "roundfall.waste" 424 197,cO "found_out" 441 442 443 90 2 0 0 3 199 181 200 0 0 201 444 90 445,fO 33 "found_out" (.none) "roundfall.waste" 424 202,cO "waste_of" 447 448 449 95 1 0 0 3 204 181 205 0 0 206 450 95 451,fO 34 "waste_of" (.none) "roundfall.waste" 424 207,cO "closing_round" 453 454 455 97 2 0 0 3 209 181 210 211 212 213 458 97 459]
def oL4:List Obj:=[fO 35 "closing_round" (.none) "roundfall.waste" 424 214,cO "is_open" 461 462 463 101 3 0 0 3 216 181 217 218 219 220 467 101 468,fO 36 "is_open" (.none) "roundfall.waste" 424 221,cO "without_late_falls" 472 473 474 104 2 0 0 3 223 181 224 0 0 225 475 104 476,fO 38 "without_late_falls" (.none) "roundfall.healing" 470 226,cO "heard_falls" 478 479 480 106 2 0 0 3 228 181 229 0 0 230 481 106 482,fO 39 "heard_falls" (.none) "roundfall.healing" 470 231,cO "fallen_next" 484 485 486 109 4 0 0 3 233 181 234 235 236 237 491 109 492,fO 40 "fallen_next" (.none) "roundfall.healing" 470 238,cO "with_heard_next" 494 495 496 111 3 0 0 3 240 181 241 242 243 244 502 111 503,fO 41 "with_heard_next" (.none) "roundfall.healing" 470 245,cO "risen" 505 506 507 116 4 0 0 3 247 181 248 249 250 251 512 116 513]
def oL5:List Obj:=[fO 42 "risen" (.none) "roundfall.healing" 470 252,cO "heard_healed" 515 516 517 118 3 0 0 3 254 181 255 0 0 256 518 118 519,fO 43 "heard_healed" (.none) "roundfall.healing" 470 257,cO "made_heard" 521 522 523 126 4 0 0 3 259 181 260 261 262 263 532 126 533,fO 44 "made_heard" (.none) "roundfall.healing" 470 264,cO "round_healed" 535 536 537 134 3 0 0 3 266 181 267 0 0 268 538 134 539,fO 45 "round_healed" (.none) "roundfall.healing" 470 269,cO "healed" 541 542 543 141 3 0 0 3 271 181 272 273 274 275 550 141 551,fO 46 "healed" (.none) "roundfall.healing" 470 276,cO "renumbered" 555 556 557 150 3 0 0 3 278 181 279 280 281 282 565 150 566,fO 48 "renumbered" (.none) "roundfall.chains" 553 283,cO "are_numbers_for" 568 569 570 158 2 0 0 3 285 181 286 287 288 289 573 158 574]
def oL6:List Obj:=[fO 49 "are_numbers_for" (.none) "roundfall.chains" 553 290,cO "chain_of" 576 577 578 160 4 0 0 3 292 181 293 294 295 296 585 160 586,fO 50 "chain_of" (.none) "roundfall.chains" 553 297,cO "view_behind" 590 591 592 169 4 0 0 3 299 181 300 0 0 301 593 169 594,fO 52 "view_behind" (.none) "roundfall.views" 588 302,cO "views_behind" 596 597 598 172 3 0 0 3 304 181 305 0 0 306 599 172 600,fO 53 "views_behind" (.none) "roundfall.views" 588 307,cO "views_of" 602 603 604 175 2 0 0 3 309 181 310 0 0 311 605 175 606,fO 54 "views_of" (.none) "roundfall.views" 588 312,cO "own_part" 608 609 610 180 1 0 0 3 314 181 315 316 317 318 612 180 613,fO 55 "own_part" (.none) "roundfall.views" 588 319,cO "rounds_of" 615 616 617 182 1 0 0 3 321 181 322 323 324 325 620 182 621]
def oL7:List Obj:=[fO 56 "rounds_of" (.none) "roundfall.views" 588 326,cO "own_past" 623 624 625 188 2 0 0 3 328 181 329 330 331 332 629 188 630,fO 57 "own_past" (.none) "roundfall.views" 588 333,cO "choice_by" 634 635 636 193 2 0 0 3 335 181 336 337 338 339 641 193 642,fO 59 "choice_by" (.none) "roundfall.plays" 632 340,cO "number_by" 646 647 648 200 2 0 0 3 342 181 343 344 345 346 652 200 653,fO 61 "number_by" (.none) "roundfall.breaking" 644 347,cO "told_by" 655 656 657 203 3 0 0 3 349 181 350 0 0 351 658 203 659,fO 62 "told_by" (.none) "roundfall.breaking" 644 352,cO "all_told" 661 662 663 206 2 0 0 3 354 181 355 0 0 356 664 206 665,fO 63 "all_told" (.none) "roundfall.breaking" 644 357,cO "torn_in" 667 668 669 208 2 0 0 3 359 181 360 0 0 361 670 208 671]
def oL8:List Obj:=[fO 64 "torn_in" (.none) "roundfall.breaking" 644 362,cO "strangers" 673 674 675 211 2 0 0 3 364 181 365 0 0 366 676 211 677,fO 65 "strangers" (.none) "roundfall.breaking" 644 367,cO "torn_on" 679 680 681 213 4 0 0 3 369 181 370 371 372 373 689 213 690,fO 66 "torn_on" (.none) "roundfall.breaking" 644 374,cO "broken_from" 692 693 694 223 5 0 0 3 376 181 377 0 0 378 695 223 696,fO 67 "broken_from" (.none) "roundfall.breaking" 644 379,cO "broken" 698 699 700 230 4 0 0 3 381 181 382 383 384 385 707 230 708,fO 68 "broken" (.none) "roundfall.breaking" 644 386,cO "_law_mixed" 727 728 729 247 2 0 0 3 402 181 403 404 405 406 733 247 734,fO 72 "_law_mixed" (.none) "law_roundfall_k54_broken_refused" 710 407,cO "_law_numbers" 736 737 738 250 2 0 0 3 409 181 410 0 0 411 739 250 740]
def oL9:List Obj:=[fO 73 "_law_numbers" (.none) "law_roundfall_k54_broken_refused" 710 412,cO "_law_falls" 742 743 744 255 4 0 0 3 414 181 415 0 0 416 745 255 746,fO 74 "_law_falls" (.none) "law_roundfall_k54_broken_refused" 710 417,cO "_law_closing" 748 749 750 270 2 0 0 3 419 181 420 0 0 421 751 270 752,fO 75 "_law_closing" (.none) "law_roundfall_k54_broken_refused" 710 422,cO "_law_asked" 754 755 756 281 4 0 0 3 424 181 425 426 427 428 764 281 765,fO 76 "_law_asked" (.none) "law_roundfall_k54_broken_refused" 710 429,cO "_law_first" 767 768 769 289 1 0 0 3 431 181 432 433 434 435 771 289 772,fO 77 "_law_first" (.none) "law_roundfall_k54_broken_refused" 710 436,cO "law" 774 775 776 293 1 0 0 3 438 181 439 440 441 442 789 293 790,fO 78 "law" (.none) "law_roundfall_k54_broken_refused" 710 443]
def oA:List (List Obj):=[oL0,oL1,oL2,oL3,oL4,oL5,oL6,oL7,oL8,oL9]
def kO (i j:Nat):Obj:=(oA.getD i []).getD j ⟨.none,Gb,.plain,#[]⟩
def zDE (P:Params):Obj:=excClassObj "RoundError" "RoundError" 24 23 [.type "ValueError"] T3.VE true [] [.ref 37,.ref 49,.ref 61] false Gb Gb (Ga (.ref 15)) (Gb) (Ga (.str ("RoundError") 189)) (Ga (.str ("RoundError") 197)) (Ga (.bool true)) "ValueError.__new__"
def zDF (P:Params):Obj:=⟨.type "dict",Gb,.dict (uo [eV P "__module__" 196 (.str ("roundfall.errors") 187),eV P "__firstlineno__" 200 (.int 2 199),eV P "__static_attributes__" 201 (.ref 22),eV P "__weakref__" 203 (.ref 25),eV P "__doc__" 204 (.none)]) 3,#[]⟩
def zDG (P:Params):Obj:=excClassObj "NoBound" "NoBound" 37 36 [.ref 24] (.ref 24::T3.VE) true [] [] false Gb Gb (Ga (.ref 28)) (Gb) (Ga (.str ("NoBound") 207)) (Ga (.str ("NoBound") 215)) (Ga (.bool true)) "ValueError.__new__"
def zDH (P:Params):Obj:=⟨.type "dict",Gb,.dict (uo [eV P "__module__" 214 (.str ("roundfall.errors") 187),eV P "__firstlineno__" 218 (.int 4 217),eV P "__static_attributes__" 219 (.ref 35),eV P "__doc__" 220 (.none)]) 2,#[]⟩
def zDI (P:Params):Obj:=excClassObj "NoNumbers" "NoNumbers" 49 48 [.ref 24] (.ref 24::T3.VE) true [] [] false Gb Gb (Ga (.ref 40)) (Gb) (Ga (.str ("NoNumbers") 223)) (Ga (.str ("NoNumbers") 231)) (Ga (.bool true)) "ValueError.__new__"
def zDJ (P:Params):Obj:=⟨.type "dict",Gb,.dict (uo [eV P "__module__" 230 (.str ("roundfall.errors") 187),eV P "__firstlineno__" 234 (.int 6 233),eV P "__static_attributes__" 235 (.ref 47),eV P "__doc__" 236 (.none)]) 2,#[]⟩
def zDK (P:Params):Obj:=excClassObj "Closed" "Closed" 61 60 [.ref 24] (.ref 24::T3.VE) true [] [] false Gb Gb (Ga (.ref 52)) (Gb) (Ga (.str ("Closed") 239)) (Ga (.str ("Closed") 247)) (Ga (.bool true)) "ValueError.__new__"
def zDL (P:Params):Obj:=⟨.type "dict",Gb,.dict (uo [eV P "__module__" 246 (.str ("roundfall.errors") 187),eV P "__firstlineno__" 250 (.int 8 249),eV P "__static_attributes__" 251 (.ref 59),eV P "__doc__" 252 (.none)]) 2,#[]⟩
def KK:Params->Frag:=λP=>(nat_lit 3,mO P)::(nat_lit 4,kO 0 0)::(nat_lit 23,zDF P)::(nat_lit 24,zDE P)::(nat_lit 36,zDH P)::(nat_lit 37,zDG P)::(nat_lit 48,zDJ P)::(nat_lit 49,zDI P)::(nat_lit 60,zDL P)::(nat_lit 61,zDK P)::(nat_lit 69,kO 0 1)::(nat_lit 70,kO 0 2)::(nat_lit 76,kO 0 3)::(nat_lit 77,kO 0 4)::(nat_lit 83,kO 0 5)::(nat_lit 84,kO 0 6)::(nat_lit 90,kO 0 7)::(nat_lit 91,kO 0 8)::(nat_lit 95,kO 0 9)::(nat_lit 96,kO 0 10)::(nat_lit 102,kO 0 11)::(nat_lit 103,kO 1 0)::(nat_lit 107,kO 1 1)::(nat_lit 108,kO 1 2)::(nat_lit 114,kO 1 3)::(nat_lit 115,kO 1 4)::(nat_lit 121,kO 1 5)::(nat_lit 122,kO 1 6)::(nat_lit 126,kO 1 7)::(nat_lit 127,kO 1 8)::(nat_lit 133,kO 1 9)::(nat_lit 134,kO 1 10)::(nat_lit 140,kO 1 11)::(nat_lit 141,kO 2 0)::(nat_lit 147,kO 2 1)::(nat_lit 148,kO 2 2)::(nat_lit 152,kO 2 3)::(nat_lit 153,kO 2 4)::(nat_lit 159,kO 2 5)::(nat_lit 160,kO 2 6)::(nat_lit 166,kO 2 7)::(nat_lit 167,kO 2 8)::(nat_lit 173,kO 2 9)::(nat_lit 174,kO 2 10)::(nat_lit 180,kO 2 11)::(nat_lit 181,kO 3 0)::(nat_lit 185,kO 3 1)::(nat_lit 186,kO 3 2)::(nat_lit 190,kO 3 3)::(nat_lit 191,kO 3 4)::(nat_lit 197,kO 3 5)::(nat_lit 198,kO 3 6)::(nat_lit 202,kO 3 7)::(nat_lit 203,kO 3 8)::(nat_lit 207,kO 3 9)::(nat_lit 208,kO 3 10)::(nat_lit 214,kO 3 11)::(nat_lit 215,kO 4 0)::(nat_lit 221,kO 4 1)::(nat_lit 222,kO 4 2)::(nat_lit 226,kO 4 3)::(nat_lit 227,kO 4 4)::(nat_lit 231,kO 4 5)::(nat_lit 232,kO 4 6)::(nat_lit 238,kO 4 7)::(nat_lit 239,kO 4 8)::(nat_lit 245,kO 4 9)::(nat_lit 246,kO 4 10)::(nat_lit 252,kO 4 11)::(nat_lit 253,kO 5 0)::(nat_lit 257,kO 5 1)::(nat_lit 258,kO 5 2)::(nat_lit 264,kO 5 3)::(nat_lit 265,kO 5 4)::(nat_lit 269,kO 5 5)::(nat_lit 270,kO 5 6)::(nat_lit 276,kO 5 7)::(nat_lit 277,kO 5 8)::(nat_lit 283,kO 5 9)::(nat_lit 284,kO 5 10)::(nat_lit 290,kO 5 11)::(nat_lit 291,kO 6 0)::(nat_lit 297,kO 6 1)::(nat_lit 298,kO 6 2)::(nat_lit 302,kO 6 3)::(nat_lit 303,kO 6 4)::(nat_lit 307,kO 6 5)::(nat_lit 308,kO 6 6)::(nat_lit 312,kO 6 7)::(nat_lit 313,kO 6 8)::(nat_lit 319,kO 6 9)::(nat_lit 320,kO 6 10)::(nat_lit 326,kO 6 11)::(nat_lit 327,kO 7 0)::(nat_lit 333,kO 7 1)::(nat_lit 334,kO 7 2)::(nat_lit 340,kO 7 3)::(nat_lit 341,kO 7 4)::(nat_lit 347,kO 7 5)::(nat_lit 348,kO 7 6)::(nat_lit 352,kO 7 7)::(nat_lit 353,kO 7 8)::(nat_lit 357,kO 7 9)::(nat_lit 358,kO 7 10)::(nat_lit 362,kO 7 11)::(nat_lit 363,kO 8 0)::(nat_lit 367,kO 8 1)::(nat_lit 368,kO 8 2)::(nat_lit 374,kO 8 3)::(nat_lit 375,kO 8 4)::(nat_lit 379,kO 8 5)::(nat_lit 380,kO 8 6)::(nat_lit 386,kO 8 7)::(nat_lit 387,kO 8 8)::(nat_lit 407,kO 8 9)::(nat_lit 408,kO 8 10)::(nat_lit 412,kO 8 11)::(nat_lit 413,kO 9 0)::(nat_lit 417,kO 9 1)::(nat_lit 418,kO 9 2)::(nat_lit 422,kO 9 3)::(nat_lit 423,kO 9 4)::(nat_lit 429,kO 9 5)::(nat_lit 430,kO 9 6)::(nat_lit 436,kO 9 7)::(nat_lit 437,kO 9 8)::(nat_lit 443,kO 9 9)::(nat_lit 444,kO 9 10)::[]
def KA:List Gj:=nat_lit 3::nat_lit 4::nat_lit 23::nat_lit 24::nat_lit 36::nat_lit 37::nat_lit 48::nat_lit 49::nat_lit 60::nat_lit 61::nat_lit 69::nat_lit 70::nat_lit 76::nat_lit 77::nat_lit 83::nat_lit 84::nat_lit 90::nat_lit 91::nat_lit 95::nat_lit 96::nat_lit 102::nat_lit 103::nat_lit 107::nat_lit 108::nat_lit 114::nat_lit 115::nat_lit 121::nat_lit 122::nat_lit 126::nat_lit 127::nat_lit 133::nat_lit 134::nat_lit 140::nat_lit 141::nat_lit 147::nat_lit 148::nat_lit 152::nat_lit 153::nat_lit 159::nat_lit 160::nat_lit 166::nat_lit 167::nat_lit 173::nat_lit 174::nat_lit 180::nat_lit 181::nat_lit 185::nat_lit 186::nat_lit 190::nat_lit 191::nat_lit 197::nat_lit 198::nat_lit 202::nat_lit 203::nat_lit 207::nat_lit 208::nat_lit 214::nat_lit 215::nat_lit 221::nat_lit 222::nat_lit 226::nat_lit 227::nat_lit 231::nat_lit 232::nat_lit 238::nat_lit 239::nat_lit 245::nat_lit 246::nat_lit 252::nat_lit 253::nat_lit 257::nat_lit 258::nat_lit 264::nat_lit 265::nat_lit 269::nat_lit 270::nat_lit 276::nat_lit 277::nat_lit 283::nat_lit 284::nat_lit 290::nat_lit 291::nat_lit 297::nat_lit 298::nat_lit 302::nat_lit 303::nat_lit 307::nat_lit 308::nat_lit 312::nat_lit 313::nat_lit 319::nat_lit 320::nat_lit 326::nat_lit 327::nat_lit 333::nat_lit 334::nat_lit 340::nat_lit 341::nat_lit 347::nat_lit 348::nat_lit 352::nat_lit 353::nat_lit 357::nat_lit 358::nat_lit 362::nat_lit 363::nat_lit 367::nat_lit 368::nat_lit 374::nat_lit 375::nat_lit 379::nat_lit 380::nat_lit 386::nat_lit 387::nat_lit 407::nat_lit 408::nat_lit 412::nat_lit 413::nat_lit 417::nat_lit 418::nat_lit 422::nat_lit 423::nat_lit 429::nat_lit 430::nat_lit 436::nat_lit 437::nat_lit 443::nat_lit 444::[]
theorem zEH (P:Params):(KK P).lookup 439=Gb:=by kernel_rfl
theorem zDM (P:Params):codeHdIn (KK P) 443 439=true:=by kernel_rfl
theorem zBj (P:Params):(KK P).lookup 24=Ga (zDE P):=by kernel_rfl
theorem zBk (P:Params):(KK P).lookup 23=Ga (zDF P):=by kernel_rfl
theorem zEI (P:Params):(KK P).lookup 37=Ga (zDG P):=by kernel_rfl
theorem zEJ (P:Params):(KK P).lookup 36=Ga (zDH P):=by kernel_rfl
theorem zEK (P:Params):(KK P).lookup 49=Ga (zDI P):=by kernel_rfl
theorem zEL (P:Params):(KK P).lookup 48=Ga (zDJ P):=by kernel_rfl
theorem zEM (P:Params):(KK P).lookup 61=Ga (zDK P):=by kernel_rfl
theorem zEN (P:Params):(KK P).lookup 60=Ga (zDL P):=by kernel_rfl
theorem zs5 (P:Params):T3.ClsF (KK P) "NoBound" 37:=T3.zzV (zEI P) (zEJ P) (T3.strK (by kernel_rfl)) (by kernel_rfl) (zBj P) (zBk P) (T3.strK (by kernel_rfl)) (by kernel_rfl) ⟨by kernel_rfl,by kernel_rfl,by kernel_rfl,by kernel_rfl,by kernel_rfl,by kernel_rfl⟩
theorem zqB (P:Params):T3.ClsF (KK P) "NoNumbers" 49:=T3.zzV (zEK P) (zEL P) (T3.strK (by kernel_rfl)) (by kernel_rfl) (zBj P) (zBk P) (T3.strK (by kernel_rfl)) (by kernel_rfl) ⟨by kernel_rfl,by kernel_rfl,by kernel_rfl,by kernel_rfl,by kernel_rfl,by kernel_rfl⟩
theorem zvR (P:Params):T3.ClsF (KK P) "Closed" 61:=T3.zzV (zEM P) (zEN P) (T3.strK (by kernel_rfl)) (by kernel_rfl) (zBj P) (zBk P) (T3.strK (by kernel_rfl)) (by kernel_rfl) ⟨by kernel_rfl,by kernel_rfl,by kernel_rfl,by kernel_rfl,by kernel_rfl,by kernel_rfl⟩
theorem kj_0 (P:Params):subIn (KK P) (.ref 24) (.type "BaseException")=Ga true:=by kernel_rfl
theorem kj_1 (P:Params):kitOne (KK P) (.ref 49) (.ref 37)=Ga false:=by kernel_rfl
theorem kj_2 (P:Params):kitOne (KK P) (.ref 49) (.ref 49)=Ga true:=by kernel_rfl
theorem kj_3 (P:Params):kitOne (KK P) (.ref 49) (.ref 61)=Ga false:=by kernel_rfl
theorem kj_4 (P:Params):kitCls (KK P) (.ref 49) (.ref 24)=Ga true:=by kernel_rfl
theorem kj_5 (P:Params):kitOne (KK P) (.ref 37) (.ref 37)=Ga true:=by kernel_rfl
theorem kj_6 (P:Params):kitOne (KK P) (.ref 37) (.ref 49)=Ga false:=by kernel_rfl
theorem kj_7 (P:Params):kitOne (KK P) (.ref 37) (.ref 61)=Ga false:=by kernel_rfl
theorem kj_8 (P:Params):kitCls (KK P) (.ref 37) (.ref 24)=Ga true:=by kernel_rfl
theorem kj_9 (P:Params):kitOne (KK P) (.ref 61) (.ref 37)=Ga false:=by kernel_rfl
theorem zEO (P:Params):kitOne (KK P) (.ref 61) (.ref 49)=Ga false:=by kernel_rfl
theorem zEP (P:Params):kitOne (KK P) (.ref 61) (.ref 61)=Ga true:=by kernel_rfl
theorem zEQ (P:Params):kitCls (KK P) (.ref 61) (.ref 24)=Ga true:=by kernel_rfl
end
end Law
namespace Law
open PySem PySem.W PySem.Spec PyProof.Rows L2 T3
abbrev pr0:Program:=PySem.Challenge.pw_roundfall_k54_broken_refused
def qv0:Program:=view pr0 (jf 199)
theorem zo3 (P:Params):KA=(KK P).map (·.1):=by kernel_rfl
abbrev xt0 (s:Gh):Bool:=xlAt qv0 [] s&&recOk [] s
abbrev oS (p q:Program)(Xt:Gh->Bool)(s:Gh):=openSeen q [] (importedModules p.main.body) Xt true s
abbrev oE (p:Program)(w:World):=openEnds treeTable p w 9000
theorem zER {p q:Program}{Xt:Gh->Bool}{α:Type}{Yf:Gh->α}{Ya:World->α}
  (h1:∀ w,(oE p w).map (λs=>(oS p q Xt s).1)=Ga (expectedOf q)) (h2:∀ w,(oE p w).map (λs=>((oS p q Xt s).2.1,(oS p q Xt s).2.2.2.2.2.2.2.1))=Ga (bltViewBooted,wideGood q))
  (h3:∀ w,(oE p w).map (λs=>(oS p q Xt s).2.2.1)=Ga true) (h4:∀ w,(oE p w).map (λs=>(oS p q Xt s).2.2.2.2.2.1)=Ga (plainGoodE q (looseW q []))) (h6:∀ w,(oE p w).map (λs=>((oS p q Xt s).2.2.2.1,(oS p q Xt s).2.2.2.2.1,(oS p q Xt s).2.2.2.2.2.2.1,(oS p q Xt s).2.2.2.2.2.2.2.2))=Ga (true,pinGoodD (drecsOf q),plainGoodD q [],clsGoodW q [])) (h5:∀ w,(oE p w).map Yf=Ga (Ya w)):LeftO p q [] Xt Yf Ya 9000:=λw=>by
 have a1:=h1 w;have a2:=h2 w;have a3:=h3 w;have a4:=h4 w;have a5:=h5 w;have a6:=h6 w;clear h1 h2 h3 h4 h5 h6;unfold oE at *;generalize openEnds treeTable p w 9000=E at *;cases E with
 | none=>cases a1
 | some s =>
  obtain⟨b1,b2⟩:=Prod.mk.inj (jE a2);obtain⟨c1,c2⟩:=Prod.mk.inj (jE a6);obtain⟨c2,c3⟩:=Prod.mk.inj c2;obtain⟨c3,c4⟩:=Prod.mk.inj c3;have e:oS p q Xt s=openGood q []:=Prod.ext (jE a1) (Prod.ext b1 (Prod.ext (jE a3) (Prod.ext c1 (Prod.ext c2 (Prod.ext (jE a4) (Prod.ext c3 (Prod.ext b2 c4)))))));show Ga (oS p q Xt s,Yf s)=Ga (openGood q [],Ya w);rw[e,show Yf s=Ya w from jE a5]
set_option maxHeartbeats 0 in
theorem lf_1:∀ w:World,(oE pr0 w).map (λs=>(oS pr0 qv0 xt0 s).1)=Ga (expectedOf qv0):=by
 intro w;unfold oE oS openEnds fencedOpening topFrom;rw[Fast.te14364793385576792824,Fast.te14082659384304107361,Fast.te10274390034422433532,Fast.te4187177175401517315]
 kernel_rfl
set_option maxHeartbeats 0 in
theorem lf_2:∀ w:World,(oE pr0 w).map (λs=>((oS pr0 qv0 xt0 s).2.1,(oS pr0 qv0 xt0 s).2.2.2.2.2.2.2.1))=Ga (bltViewBooted,wideGood qv0):=by
 intro w;unfold oE oS openEnds fencedOpening topFrom;rw[Fast.te14364793385576792824,Fast.te14082659384304107361,Fast.te10274390034422433532,Fast.te4187177175401517315]
 kernel_rfl
set_option maxHeartbeats 0 in
theorem lf_3:∀ w:World,(oE pr0 w).map (λs=>(oS pr0 qv0 xt0 s).2.2.1)=Ga true:=by
 intro w;unfold oE oS openEnds fencedOpening topFrom;rw[Fast.te14364793385576792824,Fast.te14082659384304107361,Fast.te10274390034422433532,Fast.te4187177175401517315]
 kernel_rfl
set_option maxHeartbeats 0 in
theorem lf_4:∀ w:World,(oE pr0 w).map (λs=>(oS pr0 qv0 xt0 s).2.2.2.2.2.1)=Ga (plainGoodE qv0 (looseW qv0 [])):=by
 intro w;unfold oE oS openEnds fencedOpening topFrom;rw[Fast.te14364793385576792824,Fast.te14082659384304107361,Fast.te10274390034422433532,Fast.te4187177175401517315]
 kernel_rfl
set_option maxHeartbeats 0 in
theorem lf_6:∀ w:World,(oE pr0 w).map (λs=>((oS pr0 qv0 xt0 s).2.2.2.1,(oS pr0 qv0 xt0 s).2.2.2.2.1,(oS pr0 qv0 xt0 s).2.2.2.2.2.2.1,(oS pr0 qv0 xt0 s).2.2.2.2.2.2.2.2))=Ga (true,pinGoodD (drecsOf qv0),plainGoodD qv0 [],clsGoodW qv0 []):=by
 intro w;unfold oE oS openEnds fencedOpening topFrom;rw[Fast.te14364793385576792824,Fast.te14082659384304107361,Fast.te10274390034422433532,Fast.te4187177175401517315]
 kernel_rfl
set_option maxHeartbeats 0 in
theorem lf_5:∀ w:World,(oE pr0 w).map (Hook.obs (ug Law.KK Law.KA Law.zo3 [439]))=Ga (Hook.val (ug Law.KK Law.KA Law.zo3 [439]) w):=by
 intro w;unfold oE openEnds fencedOpening topFrom;rw[Fast.te14364793385576792824,Fast.te14082659384304107361,Fast.te10274390034422433532]
 kernel_rfl
theorem lf0:LeftO pr0 qv0 [] xt0 (Hook.obs (ug Law.KK Law.KA Law.zo3 [439])) (Hook.val (ug Law.KK Law.KA Law.zo3 [439])) 9000:=zER lf_1 lf_2 lf_3 lf_4 lf_6 lf_5
set_option maxHeartbeats 0 in
theorem ws0:PySem.Challenge.rw_roundfall_k54_broken_refused.wellSaid=true:=by
 rw[Fast.te9446332074065402090]
 kernel_rfl
end Law
open PySem PySem.W PyProof.Rows
set_option maxRecDepth 100000 in
set_option maxHeartbeats 0 in
theorem PySem.Challenge.cw_roundfall_k54_broken_refused_holds : PySem.Challenge.rw_roundfall_k54_broken_refused.Holds := by
 w_on
 refine PySem.W.holds_law Law.ws0 λsaid=>?_;refine PySem.W.holds_open (q:=Law.qv0) (loose:=[]) (Xt:=Law.xt0) (XP:=PySem.W.XL Law.qv0 []) (Yf:=PySem.W.Hook.obs (ug Law.KK Law.KA Law.zo3 [439])) (Ya:=PySem.W.Hook.val (ug Law.KK Law.KA Law.zo3 [439])) (YP:=PySem.W.Hook.says (ug Law.KK Law.KA Law.zo3 [439])) (N:=9000) Law.lf0 (PySem.W.Hook.of (ug Law.KK Law.KA Law.zo3 [439])) (PySem.W.Hook.keeps (ug Law.KK Law.KA Law.zo3 [439])) (λs e=>PySem.W.xl_of s (qR.mp e).1) PySem.W.XL.keeps (by rfl) (by rfl) (by rfl) (λs e=>PySem.W.recFacts_of (qR.mp e).2) (by rfl) said (by decide +kernel) ⟨rfl,rfl,rfl,rfl,rfl,by decide +kernel⟩ ?hw ?hc
 case hw=>w_witness2
 k_fill
 refine T3.zwF (l:=PySem.Challenge.rw_roundfall_k54_broken_refused) (n:=63) (k:=37) (x:="script") (Pt:=439) (K:=Law.KK) (sp:=λK vs H Q E=>∀ mkx mk,T3.spT K 439 (Law.ziI mkx mk 439) vs H Q E) rfl (by decide) rfl ⟨rfl,by decide,by decide⟩ (λw h Y=>⟨PySem.W.km_in_of Y,PySem.W.km_tabs_of Y _ jg⟩) (λP=>Law.zEH P) (λw h X=>T3.zpK X (Law.zDM w.params)) ?F ?S
 case F =>
  intro w mg fa h KX G hmg;refine'(λz=>(Law.zCK KX G hmg z:_)) (Law.zCJ KX G ?w_q39 ?w_q52 ?w_q36 ?w_q44 ?w_q40 ?w_q32 ?w_q16 ?w_q21 ?w_q49 ?w_q10 ?w_q26 ?w_q18 ?w_q54 ?w_q30 ?w_q57 ?w_q55 ?w_q2 ?w_q0 ?w_q53 ?w_q25 ?w_q8 ?w_q34 ?w_q37 ?w_q5 ?w_q45 ?w_q1 ?w_q14 ?w_q17 ?w_q3 ?w_q56 ?w_q7 ?w_q19 ?w_q6 ?w_q50 ?w_q20 ?w_q4 ?w_q41 ?w_q12 ?w_q9 ?w_q43 ?w_q38 ?w_q22 ?w_q42 ?w_q27 ?w_q28 ?w_q48 ?w_q35 ?w_q46 ?w_q33 ?w_q47 ?w_q11 ?w_q51 ?w_q24 ?w_q13 ?w_q23 ?w_q15 ?w_q31 ?w_q29 ?w_q58 ?z_all ?z_bool ?z_int ?z_isinstance ?z_len ?z_list ?z_max ?z_min ?z_range ?z_reversed ?z_sorted ?z_tuple ?c_LAST_ROUND ?c_LEAST_HANDS ?c_MOST_HANDS ?n_NoBound (Law.zs5 w.params) ?n_Closed (Law.zvR w.params) ?n_RoundError ?n_NoNumbers (Law.zqB w.params) (Law.kj_0 w.params) (Law.kj_1 w.params) (Law.kj_2 w.params) (Law.kj_3 w.params) (Law.kj_4 w.params) (Law.kj_5 w.params) (Law.kj_6 w.params) (Law.kj_7 w.params) (Law.kj_8 w.params) (Law.kj_9 w.params) (Law.zEO w.params) (Law.zEP w.params) (Law.zEQ w.params) (c0:=443) (Pt:=439) (bm:=4) ?l_1 (Law.zDM w.params) ?l_3 ?l_4 (by decide) (by decide) (x_NoBound:=37) (x_Closed:=61) (x_RoundError:=24) (x_NoNumbers:=49))
  all_goals first|k_is|exact rfl|(refine'⟨_,_,_,_,_,_,_,_,?x1,?x2,?x3,?x4,?x5⟩;(case x1=>k_is);(case x2=>exact rfl);(case x3=>exact rfl);(case x4=>k_is);(case x5=>k_is))|skip
 case S=>exact λK H a ns hl hT hS mkx mk=>T3.zzN hT hS (Law.zvQ mkx mk 439 ns hl)
