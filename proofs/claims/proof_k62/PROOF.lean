import PyProof.Rows.All
import Wide.All
import OpenK.AllK
import Wide.FinOn
import Lean
import PyProof.EqAt
import PyProof.EqKinds
import PyProof.TupleCall
import PyProof.NeData
import PyProof.P3In
import PyProof.ZipIter
import PyProof.EnumIter
import PyProof.EnumFor
import PyProof.EnumMake
import PyProof.TupleIter
import KE.KRevIter
import PyProof.ListRange
import PyProof.ConsumeWalk
import PyProof.WalkInts
import PyProof.SeqI3
import PyProof.P3Eq
import PyProof.TupleKey
import PyProof.DictRoadsH
import PyProof.FactsAll.NoneType_1
import PyProof.Rows.RowHeap
import PyProof.DictIter
import PyProof.DictWalks
import PyProof.Rows.TupDisplay
import PyProof.DictKinds
import PyProof.TupleOfSeq
import PyProof.Rows.RuleN_abs
import KE.KLam
import KE.KNestM
import PyProof.StationsW
import PyProof.ExcClass2
import PyProof.Rows.Own
import PyProof.Rows.OwnQ
import PyProof.RulesAs
import KE.KIsAll
import PyProof.ExcArgsOwn
import PyProof.ExcAttrAll.ValueError
import KE.KRevSl
import PyProof.Rows.SetFrom
import PyProof.FactsAll.set_1
import PyProof.SetRoads
import PyProof.RaisesDict
import PyProof.MeetsDictList
import KE.KDictList
import PyProof.Rows.SortShell
import PySem.Challenge.RW_roundfall_k62_classes_told
set_option Elab.async false
set_option linter.all false
set_option maxRecDepth 100000
open Option renaming some->Ga,none->Gb
theorem Gc{p:Prop}[Decidable p](h:p):decide p=true:=decide_eq_true h
theorem Gd{p:Prop}[Decidable p](h:¬p):decide p=false:=decide_eq_false h
theorem Ge{c:Prop}{h:Decidable c}(k:c){α}{t e:α}:ite c t e=t:=if_pos k
theorem Gf{c:Prop}{h:Decidable c}(k:¬c){α}{t e:α}:ite c t e=e:=if_neg k
open PySem renaming Value->Gg,Shared->Gh,FuncData->Gi,Addr->Gj
open PySem.W renaming Frag->ja,mg_none_of->kq,nsIn->kT,fnOf->uc,keepIn->uq,kHook->uA,codeIn->vD,kas_ask->v4,methodObj->qj,kas_sort->qw,cellsFrom_some->qz,KasT->qC,instObj->qD,lookIn->qK,kitx_dict->Jc,plainGet->Ji,OpenLaw->Jx,notCls->JE,WalkO->JJ
open PySem.PyData renaming int->jb,depthAll->jU,eqv->jV,canLayAll0->jZ,list->kE,tuple->kH,bool->uJ,eqvAll->uL,none->uR,depth->qB,canLay0->qN,keyHash->JH
open List renaming getElem?_eq_getElem->jc,length_map->jd,getElem?_eq_some_iff->je,mem_singleton->jh,getD_eq_getElem?_getD->ji,range->jk,mem_cons_of_mem->jm,mem_cons_self->jn,getElem?_map->jq,mem_map->jr,mem_cons->ju,size_toArray->jy,length_range->jz,length_append->jB,replicate->jF,nodup_cons->jH,getElem?_set_ne->jI,mem_append_right->jJ,mem_range->jK,mem_of_getElem?->jL,getElem?_set_self->jM,mem_append->jN,map_append->jO,map_congr_left->jQ,map_cons->jR,getElem?_append_left->jW,append_nil->jX,nodup_nil->j6,lookup_cons->j7,map_map->ka,range_eq_range'->kh,not_mem_nil->ki,mem_filter->kn,getElem?_append_right->ko,getElem?_eq_none->kr,nodup_append->ky,find?_cons_of_pos->kA,all_eq_true->kB,append_assoc->kD,find?_cons_of_neg->kI,length_singleton->kL,length_filter_le->kN,getElem_mem->kU,replicate_succ->kX,find?_eq_none->k9,filter_cons_of_pos->ua,filter_cons_of_neg->ub,pairwise_lt_range->ug,perm_ext_iff_of_nodup->uh,getElem?_range->uj,length_cons->ul,mem_append_left->uo,mem_iff_getElem->ur,getElem?_replicate->uu,flatten_cons->uv,pairwise_map->uw,filter_sublist->uy,filter_append->uD,contains_iff_mem->uE,drop_eq_getElem_cons->uF,range'->uK,any_eq_true->uP,getElem?_cons_zero->uQ,mem_filterMap->uS,drop_eq_nil_of_le->uW,length_set->uY,find?_cons->uZ,filter_nil->u5,getElem?_eq_none_iff->va,mem_of_find?_eq_some->vb,pairwise_iff_getElem->vd,any_cons->vi,range_succ->vn,toArray->vG,getElem?_inj->vJ,length_replicate->vK,filter_cons->vM,range'_succ->vO,mem_flatMap->vR,map_flatMap->vS,find?_some->v8,filterMap_cons->v9,getElem_range->qc,pairwise_cons->qe,findIdx?_eq_none_iff->qi,ext_getElem?->ql,nodup_range->qy,of_mem_zip->qE,getElem_of_mem->qS,take_sublist->qZ,map_nil->Ja,getElem_inj->Jh,length_take->Jj,length_drop->Jk,cons_append->Jm,ext_getElem->Jo,getElem_map->Jp,length->Jt,map_id->Ju,foldl_cons->Jw,forIn_cons->Jy,isPerm_iff->Jz,foldl->JB
open Option renaming bind_some->jf,map_eq_some_iff->kf,map_eq_none_iff->uX,map_some->v6,isSome_iff_exists->qm,bind_eq_some_iff->qx,none->qL,getD_none->Jl
open PySem.Heap renaming get?_push_of_some->jg,lt_size->jp,get?_push_size->jv,get?_update_self->j4,SameBut->kw,get?_update_other->kF,size_push->u9,ExtBut->qM,get?_update_ne->qR,get?_push_ne->Je
open PySem renaming Spec->jj,mem_of_lookup->ui,call->JC,boot_len->JD,Fin->JM
open Nat renaming le_refl->jo,lt_of_lt_of_le->jA,ne_of_lt->jC,zero_le->jY,le_trans->j9,lt_irrefl->kK,ne_of_gt->kZ,zero_add->ud,succ->uC,strongRecOn->vt,le_of_lt->vC,lt_succ_of_lt->vH,lt_succ_self->vN,le_succ->vV,mod_lt->qd,add_assoc->qo,lt_trans->qA,add_zero->Jb,le_succ_of_le->Jd,sub_self->Jf,lt_trichotomy->Jg,le_add_right->Jq,mod_eq_of_lt->Jr
open Array renaming length_toList->jt,getElem?_eq_getElem->jG,getElem?_toList->j5,getD_eq_getD_getElem?->kg,getElem?_eq_none->kG,mem_toList_iff->uH,toList_push->uI,toArray_toList->vY,append_assoc->qV,forIn_toList->qW,toList_map->Jn
open Option.some renaming inj->jw
open Bool renaming false_ne_true->jx,and_eq_true->jE,false_eq_true->kQ,eq_iff_iff->kS,or_eq_true->u4,true_and->u7,not_eq_true'->vI,not_eq_true->vQ,false_and->qJ,not_false->qP,and_eq_true_iff->qQ,or_false->qT,not_true->qU
open Int renaming toNat_natCast->jD,emod_lt_of_pos->j8,emod_nonneg->ku,eq_ofNat_of_zero_le->kC,fdiv_eq_ediv_of_nonneg->qb,one_mul->Jv
open PySem.Heap.SameBut renaming update->jP
open PySem.NameKind renaming free->jS,cell->uM
open PySem.Value renaming none->jT,ref->uk,type->uB,int->uO,isInt->vT,isInt_shape->qY
open PySem.Obj renaming mapSeq->j3,data_mapFields->k0,mapFields->u6,isFreed_of_fields->u8,cls_mapFields->vF,data_mapDictKeys->qO,putSet->JF
open Or renaming inr->kc,inl->kR
open PySem.Builtin renaming bitAnd->kJ
open PySem.Builtin.List renaming listExtendWith->kP,listLengthHint->uz,listSameRef->uN,listTooLong->vh
open PySem.Builtin.Tuple renaming tupleHashOf->kW
open Ne renaming symm->kY
open PySem.F renaming slot_tuple_iterator_next->ue,slot_dict_setdefault->ux,args_tuple_add_2->vg,args_tuple_iterator_next_1->vy,entry_tuple_add->vz,plainAttrs_dict->vA,entry_tuple_iterator_next->vB,slot_tuple_add->vE,args_dict_setdefault_3->vP,entry_dict_setdefault->vX,type_dict_setdefault->v7,slot_list_append->qp,type_list_append->qq,slot_dict_values->qr,plainAttrs_list->qu,slot_set_iter->qH
open List.Nodup renaming length_le_of_subset->um,sublist->qX
open PySem.Builtin.SmallTypes renaming nextOf->uG,ownedTupleHandOut->vf,ownedTupleIsFree->vm
open PySem.Calls renaming spliced_cons->uT,callWith_builtin->uU,evalArgs_plain->vU,Name_function_global->qa,call_function_entry->qg,spliced_nil->qk
open PySem.Str renaming ofString->uV
open PySem.Around renaming under_plainId->vW
open PySem.Builtin.Dict_items renaming ownsTuple->vZ
open PySem.PyData.int renaming inj->qf
open Classical renaming byContradiction->qh,choose_spec->qI
open PySem.Builtin.Range renaming rangeSize->qt
open PySem.Builtin.Dict renaming showsAll->qF
open PySem.W.Looks renaming of_pure->qG
open PySem.PyData.tuple renaming inj->Js
open PySem.Builtin.Frozenset renaming updateFrom->JA,newClass->JG,sizeOf->JK
open List.cons renaming inj->JL
namespace L2
open PySem PySem.Spec PyProof.Rows
abbrev Key:=Sum Int Str
def keyIs:Key->Gg->Bool
 | .inl k,v=>vT k v
 | .inr x,v=>Value.isStrOf x v
def keyH (w:World):Key->Int
 | .inl k=>hashInt k
 | .inr x=>hashStr w x
theorem keyIs_shape:∀ {k:Key} {v:Gg},keyIs k v=true->(∃ i t,k=Sum.inl i/\v=uO i t)\/(∃ x t,k=Sum.inr x/\v=Value.str x t)
 | .inl i,v,h=>by
  obtain⟨t,e⟩:=qY (k:=i) (v:=v) h;exact .inl ⟨i,t,rfl,e⟩
 | .inr x,v,h=>by
  obtain⟨t,e⟩:=Value.isStrOf_shape (x:=x) (v:=v) h;exact .inr ⟨x,t,rfl,e⟩
theorem key_ll (a b:Int):decide ((Sum.inl a:Key)=Sum.inl b)=(a==b):=by
 by_cases e:a=b
 .subst e;simp
 .have h:¬(Sum.inl a:Key)=Sum.inl b:=λq=>e (Sum.inl.inj q);rw[Gd h];exact(beq_eq_false_iff_ne.mpr e).symm
theorem key_rr (a b:Str):decide ((Sum.inr a:Key)=Sum.inr b)=decide (a=b):=by
 by_cases e:a=b
 .subst e;simp
 .have h:¬(Sum.inr a:Key)=Sum.inr b:=λq=>e (Sum.inr.inj q);rw[Gd h,Gd e]
theorem key_lr (a:Int)(b:Str):decide ((Sum.inl a:Key)=Sum.inr b)=false:=Gd (λq=>nomatch q)
theorem key_rl (a:Str)(b:Int):decide ((Sum.inr a:Key)=Sum.inl b)=false:=Gd (λq=>nomatch q)
def mixKind (prog:Program)(w:World):PySem.KeyKind prog w Key where
 is:=keyIs
 hash:=keyH w
 inj:=λv a b ha hb=>by
  rcases keyIs_shape ha with ⟨i,t,rfl,rfl⟩|⟨x,t,rfl,rfl⟩
  .rcases keyIs_shape hb with ⟨j,u,rfl,e⟩|⟨y,u,rfl,e⟩
   .injection e with e1 _;rw[e1]
   .exact nomatch e
  .rcases keyIs_shape hb with ⟨j,u,rfl,e⟩|⟨y,u,rfl,e⟩
   .exact nomatch e
   .injection e with e1 _;rw[e1]
 byValue:=λk v h=>by
  rcases keyIs_shape h with ⟨i,t,rfl,rfl⟩|⟨x,t,rfl,rfl⟩<;>rfl
 pyHash:=λhv h=>by
  rcases keyIs_shape hv with ⟨i,t,rfl,rfl⟩|⟨x,t,rfl,rfl⟩
  .exact wpAny_pyHash_int h
  .exact wpAny_pyHash_str h
 eqBool:=λhu hv h=>by
  rcases keyIs_shape hu with ⟨i,t,rfl,rfl⟩|⟨x,t,rfl,rfl⟩
  .rcases keyIs_shape hv with ⟨j,u,rfl,rfl⟩|⟨y,u,rfl,rfl⟩
   .rw[key_ll] at h;exact wpAny_eqBool_int h
   .rw[key_lr] at h;exact SeqAt.EqAt.int_str i t y u _ _ _ _ h
  .rcases keyIs_shape hv with ⟨j,u,rfl,rfl⟩|⟨y,u,rfl,rfl⟩
   .rw[key_rl] at h;exact SeqAt.EqAt.str_int x t j u _ _ _ _ h
   .rw[key_rr] at h;exact wpAny_eqBool_str h
 «strs»:=λk x t v h=>by
  rcases keyIs_shape h with ⟨i,u,rfl,e⟩|⟨y,u,rfl,e⟩
  .exact nomatch e
  .injection e with e1 _
   subst e1;cases v<;>rfl
end L2
namespace L2
open PySem PySem.Spec PyProof.Rows
inductive V where
 | non|bl (b:Bool)|int (i:Int)|str (x:Str)|byt (b:Array UInt8)|flt (b:UInt64)|ref (a:Gj)|ty (n:String)
 deriving DecidableEq
def RelV:V->Gg->Prop
 | .non,u=>u=jT
 | .bl b,u=>u=Value.bool b
 | .int i,u=>∃ t,u=uO i t
 | .str x,u=>∃ t,u=Value.str x t
 | .byt b,u=>∃ t,u=Value.bytes b t
 | .flt b,u=>∃ t,u=Value.float b t
 | .ref a,u=>u=uk a
 | .ty n,u=>u=uB n
abbrev Vals:List V->List Gg->Prop:=Paired RelV
theorem Vals.length {xs:List V}{us:List Gg}(r:Vals xs us):xs.length=us.length:=Paired.length r
theorem Vals.get:∀ {xs:List V} {us:List Gg} {i:Nat} {x:V},Vals xs us->xs[i]?=Ga x->∃ u,us[i]?=Ga u/\RelV x u
 | _,_,_,_,.nil,e=>by simp at e
 | _,_,0,_,.cons r _,e=>by simp at e;subst e;exact⟨_,rfl,r⟩
 | _,_,i+1,x,.cons _ t,e=>by
  obtain⟨u,h1,h2⟩:=Vals.get (i:=i) (x:=x) t (by simpa using e);exact⟨u,by simpa using h1,h2⟩
theorem Vals.set {x:V}{u:Gg}(r:RelV x u):∀ {xs:List V} {us:List Gg} (i:Nat),Vals xs us->Vals (xs.set i x) (us.set i u)
 | _,_,_,.nil=>.nil
 | _,_,0,.cons _ t=>.cons r t
 | _,_,i+1,.cons q t=>.cons q (Vals.set r i t)
theorem Vals.append:∀ {xs ys:List V} {us ws:List Gg},Vals xs us->Vals ys ws->Vals (xs++ys) (us++ws)
 | _,_,_,_,.nil,s=>s
 | _,_,_,_,.cons r t,s=>.cons r (Vals.append t s)
theorem Vals.take:∀ {xs:List V} {us:List Gg} (n:Nat),Vals xs us->Vals (xs.take n) (us.take n)
 | _,_,0,_=>.nil
 | _,_,_+1,.nil=>.nil
 | _,_,n+1,.cons r t=>.cons r (Vals.take n t)
theorem Vals.drop:∀ {xs:List V} {us:List Gg} (n:Nat),Vals xs us->Vals (xs.drop n) (us.drop n)
 | _,_,0,r=>r
 | _,_,_+1,.nil=>.nil
 | _,_,n+1,.cons _ t=>Vals.drop n t
theorem Vals.none_of:∀ {xs:List V} {us:List Gg} {i:Nat},Vals xs us->xs[i]?=Gb->us[i]?=Gb:=λ{xs us i} r e=>by
 have h1:=r.length;have h2:xs.length<=i:=va.mp e;exact va.mpr (by omega)
def RelO:Option V->Option Gg->Prop
 | some v,Ga u=>RelV v u
 | none,Gb=>True
 | _,_=>False
def KV {κ:Type}:List (κ×V)->List (κ×Gg)->Prop:=Paired λ(p:κ×V) (q:κ×Gg)=>p.1=q.1/\RelV p.2 q.2
def kV:Key->V
 | .inl i=>.int i
 | .inr x=>.str x
inductive HO where
 | lst (xs:List V)
 | tup (xs:List V)
 | dK (kvs:List (Key×V))|dT (kvs:List (List Key×V))
 | set (S:Int->Bool) (n:Nat)
 | ins (C dx:Gj) (fs:List (Str×V))
 | own (x:Gj)
 | xd (fs:List (Str×V))
 | met (f x:Gj)
 | rng (lo hi:Int)
 | frz (o:Obj) (u:HO)
 | tbl (ps:Array Gg)
 | ext (φ:Heap->Prop)
abbrev Hp:=Gj->Option HO
def upd (H:Hp)(a:Gj)(o:HO):Hp:=λb=>if b=a then Ga o else H b
theorem upd_same {H:Hp}{a:Gj}{o:HO}:upd H a o a=Ga o:=by unfold upd;rw[Ge rfl]
theorem upd_ne {H:Hp}{a b:Gj}{o:HO}(h:b≠a):upd H a o b=H b:=by unfold upd;rw[Gf h]
theorem ne_of_none {H:Hp}{a b:Gj}{o:HO}(h:H a=Ga o)(h':H b=Gb):a≠b:=by
 intro e;subst e;rw[h] at h';cases h'
section
variable (P:Program)(w:World)
def ObjOk (H:Hp)(h:Heap)(a:Gj):HO->Prop
 | .lst xs=>xs.length<=sizeLine/\∃ (its:List Gg) (n:Nat),Vals xs its/\h.get? a=Ga { cls:=.type "list",data:=.seq its.toArray n }
 | .tup xs=>xs.length<=sizeLine/\∃ its:List Gg,Vals xs its/\IsTup h a its.toArray
 | .dK kvs=>kvs.length<=sizeLine/\(a==sysModules)=false/\∃ vs,KV kvs vs/\h.DictOf (mixKind P w) a vs
 | .dT kvs=>kvs.length<=sizeLine/\(a==sysModules)=false/\∃ xs:List (List Key×Gj×Gg),
   Paired (λ(p:List Key×V) (q:List Key×Gj×Gg)=>p.1=q.1/\H q.2.1=Ga (.tup (p.1.map kV))/\RelV p.2 q.2.2) kvs xs /\
   ∃ o es ep,h.get? a=Ga o/\o.ExactDict/\o.data=.dict es ep/\es.toList=xs.map (entryOfKey (tupleKind (mixKind P w)))/\(xs.map (·.1)).Nodup
 | .set S n=>h.SetOf (intKind P w) a S n
 | .ins C dx fs=>H dx=Ga (.own a)/\fs.length<=1000/\dx≠a/\h.get? a=Ga (qD C dx) /\
   ∃ mA,h.Ns1 dx mA/\(∀ f,RelO (fs.lookup f) (mA f))/\PySem.Within mA (fs.map (·.1))
 | .own _=>∃ o,h.get? a=Ga o
 | .xd fs=>∃ mA,h.Ns1 a mA/\∀ f,RelO (fs.lookup f) (mA f)
 | .rng lo hi=>∃ t u v,h.get? a=Ga { cls:=.type "range",data:=.fields #[.int lo t,.int hi u,.int 1 v] }
 | .frz o u=>h.get? a=Ga o/\ObjOk H h a u
 | .tbl ps=>h.get? a=Ga { cls:=.none,data:=.fields ps }
 | .met f x=>h.get? a=Ga (qj (.ref f) (.ref x))
 | .ext φ=>φ h/\(∃ o,h.get? a=Ga o)/\∀ h1 h2:Heap,φ h1->(∀ o,h1.get? a=Ga o->h2.get? a=Ga o)->φ h2
def HOk (H:Hp)(h:Heap):Prop:=∀ a o,H a=Ga o->ObjOk P w H h a o
end
section
variable {P:Program}{w:World}{H H':Hp}{h h':Heap}{a:Gj}{o:HO}
theorem ObjOk.lt (x:ObjOk P w H h a o):a<h.objs.size:=by
 cases o with
 | lst xs=>obtain⟨_,_,_,_,e⟩:=x;exact jp e
 | tup xs=>obtain⟨_,_,_,p⟩:=x;exact p.lt
 | dK kvs=>obtain⟨_,_,_,_,o,_,_,e,_⟩:=x;exact jp e
 | dT kvs=>obtain⟨_,_,_,_,o,_,_,e,_⟩:=x;exact jp e
 | set S n=>obtain⟨o,_,_,_,e,_⟩:=x;exact jp e
 | ins C dx fs=>obtain⟨_,_,_,e,_⟩:=x;exact jp e
 | own y=>obtain⟨_,e⟩:=x;exact jp e
 | xd fs=>obtain⟨_,⟨_,_,_,e,_⟩,_⟩:=x;exact jp e
 | rng lo hi=>obtain⟨_,_,_,e⟩:=x;exact jp e
 | frz ob u=>obtain⟨e,_⟩:=x;exact jp e
 | tbl ps=>exact jp (show h.get? a=Ga _ from x)
 | met f y=>exact jp (show h.get? a=Ga _ from x)
 | ext φ=>obtain⟨_,⟨_,e⟩,_⟩:=x;exact jp e
theorem Paired.mapP {α β:Type}{F G:α->β->Prop}:∀ {l₁:List α} {l₂:List β},Paired F l₁ l₂->(∀ a b,F a b->G a b)->Paired G l₁ l₂
 | _,_,.nil,_=>.nil
 | _,_,.cons r t,f=>.cons (f _ _ r) (Paired.mapP t f)
theorem ObjOk.stay (x:ObjOk P w H h a o)(k:∀ b u,(b=a\/H b=Ga (.own a))->h.get? b=Ga u->h'.get? b=Ga u)
  (ho:∀ b,H b=Ga (.own a)->H' b=Ga (.own a)) (ht:∀ b xs,H b=Ga (.tup xs)->H' b=Ga (.tup xs)):ObjOk P w H' h' a o:=by
 induction o with
 | lst xs=>obtain⟨z,its,n,r,e⟩:=x;exact⟨z,its,n,r,k _ _ (.inl rfl) e⟩
 | tup xs=>obtain⟨z,its,r,ob,e,c⟩:=x;exact⟨z,its,r,ob,k _ _ (.inl rfl) e,c⟩
 | dK kvs=>obtain⟨z,y,vs,r,ob,es,ep,e,c⟩:=x;exact⟨z,y,vs,r,ob,es,ep,k _ _ (.inl rfl) e,c⟩
 | dT kvs =>
  obtain⟨z,y,xs,r,ob,es,ep,e,c⟩:=x;exact⟨z,y,xs,Paired.mapP r λp q z=>⟨z.1,ht _ _ z.2.1,z.2.2⟩,ob,es,ep,k _ _ (.inl rfl) e,c⟩
 | set S n=>obtain⟨ob,es,ep,t,e,c⟩:=x;exact⟨ob,es,ep,t,k _ _ (.inl rfl) e,c⟩
 | ins C dx fs =>
  obtain⟨d,z,ne,e,mA,⟨od,es,ep,e2,c⟩,r⟩:=x;exact⟨ho _ d,z,ne,k _ _ (.inl rfl) e,mA,⟨od,es,ep,k _ _ (.inr d) e2,c⟩,r⟩
 | own y=>obtain⟨ob,e⟩:=x;exact⟨ob,k _ _ (.inl rfl) e⟩
 | xd fs=>obtain⟨mA,⟨od,es,ep,e,c⟩,r⟩:=x;exact⟨mA,⟨od,es,ep,k _ _ (.inl rfl) e,c⟩,r⟩
 | rng lo hi=>obtain⟨t,u,v,e⟩:=x;exact⟨t,u,v,k _ _ (.inl rfl) e⟩
 | frz ob u ih=>obtain⟨e,q⟩:=x;exact⟨k _ _ (.inl rfl) e,ih q⟩
 | tbl ps =>
  have e:h.get? a=Ga { cls:=.none,data:=.fields ps }:=x;show h'.get? a=Ga { cls:=.none,data:=.fields ps };exact k a _ (.inl rfl) e
 | met f y =>
  have e:h.get? a=Ga (qj (.ref f) (.ref y)):=x;show h'.get? a=Ga (qj (.ref f) (.ref y));exact k a _ (.inl rfl) e
 | ext φ=>obtain⟨p,⟨o,e⟩,st⟩:=x;exact⟨st _ _ p λo q=>k _ _ (.inl rfl) q,⟨o,k _ _ (.inl rfl) e⟩,st⟩
theorem HOk.lt (x:HOk P w H h)(e:H a=Ga o):a<h.objs.size:=(x a o e).lt
theorem HOk.fresh (x:HOk P w H h)(e:h.objs.size<=a):H a=Gb:=by
 cases q:H a with
 | none=>rfl
 | some u=>exact absurd (jA (x.lt q) e) (kK _)
theorem HOk.kept (x:HOk P w H h)(k:∀ b u,h.get? b=Ga u->h'.get? b=Ga u):HOk P w H h':=λa o e =>
 (x a o e).stay (λb u _ q=>k b u q) (λ_ q=>q) λ_ _ q=>q
theorem HOk.laid (x:HOk P w H h)(k:∀ b u,h.get? b=Ga u->h'.get? b=Ga u)(hp:h.objs.size<=a)(new:ObjOk P w (upd H a o) h' a o):HOk P w (upd H a o) h':=λb u e=>by
 have hn:=x.fresh hp;by_cases hb:b=a
 .subst hb;rw[upd_same] at e;cases e;exact new
 .rw[upd_ne hb] at e;exact(x b u e).stay (λc v _ q=>k c v q) (λc q=>by rw[upd_ne (ne_of_none q hn)];exact q) λc xs q=>by rw[upd_ne (ne_of_none q hn)];exact q
end
def Rd (H:Hp)(a:Gj)(u:HO):Prop:=H a=Ga u\/∃ o,H a=Ga (.frz o u)
theorem Rd.of {H:Hp}{a:Gj}{u:HO}(h:H a=Ga u):Rd H a u:=.inl h
theorem Rd.ok {P:Program}{w:World}{H:Hp}{h:Heap}{a:Gj}{u:HO}(r:Rd H a u)(x:HOk P w H h):ObjOk P w H h a u:=by
 rcases r with r|⟨o,r⟩
 .exact x a u r
 .obtain⟨_,q⟩:=x a _ r;exact q
def Mut:Option HO->Prop
 | some (.lst _)=>True
 | some (.dK _)=>True
 | some (.dT _)=>True
 | some (.set _ _)=>True
 | some (.ins _ _ _)=>True
 | some (.ext _)=>True
 | _=>False
section
variable {P:Program}{w:World}{H:Hp}{h h':Heap}{x e:Gj}{o':HO}
theorem HOk.write (ok:HOk P w H h)(mu:Mut (H x))(he:e=x\/H e=Ga (.own x))(k:∀ b u,b≠e->h.get? b=Ga u->h'.get? b=Ga u)(heo:∃ u,h'.get? e=Ga u)
  (new:ObjOk P w (upd H x o') h' x o'):HOk P w (upd H x o') h':=λb u q=>by
 have nown:∀ c y,H c=Ga (.own y)->c≠x:=λc y r z=>by subst z;rw[r] at mu;exact mu
 have ntup:∀ c xs,H c=Ga (.tup xs)->c≠x:=λc xs r z=>by subst z;rw[r] at mu;exact mu
 by_cases hb:b=x
 .subst hb;rw[upd_same] at q;cases q;exact new
 .rw[upd_ne hb] at q;by_cases hbe:b=e
  .have q':H b=Ga (.own x):=by
    rcases he with z|z
    .exact absurd (hbe.trans z) hb
    .rw[hbe];exact z
   rw[q] at q';cases q';obtain⟨v,hv⟩:=heo;exact⟨v,by rw[hbe];exact hv⟩
  .refine(ok b u q).stay (λc v hc r=>k c v ?_ r) (λc r=>by rw[upd_ne (nown c b r)];exact r) λc xs r=>by rw[upd_ne (ntup c xs r)];exact r
   rcases hc with rfl|hc
   .exact hbe
   .rintro rfl;rcases he with z|z
    .exact nown c b hc z
    .rw[hc] at z;cases z;exact hb rfl
end
structure Un (fs ex:List Gj)(H H':Hp)(h h':Heap):Prop where
 keep:∀ b o,h.get? b=Ga o->H b=Gb->b∉fs->b∉ex->h'.get? b=Ga o
 slot:∀ b o,h.get? b=Ga o->H b=Gb->b∈fs->b∉ex->∃ sl,h'.get? b=Ga { o with slots:=sl }
 free:∀ b o,h.get? b=Ga o->H b=Gb->b∉ex->H' b=Gb
 there:∀ b o,h.get? b=Ga o->b∉ex->∃ o',h'.get? b=Ga o'
 tups:∀ b xs,H b=Ga (.tup xs)->H' b=Ga (.tup xs)
 frzs:∀ b o u,H b=Ga (.frz o u)->H' b=Ga (.frz o u)
 tbls:∀ b ps,H b=Ga (.tbl ps)->∃ more,H' b=Ga (.tbl (ps++more))
section
variable {fs fs' ex ex':List Gj}{H H1 H2:Hp}{h h1 h2 h':Heap}{a x e:Gj}{o:HO}
theorem Un.any (u:Un fs ex H H1 h h1){b:Gj}{ob:Obj}(q:h.get? b=Ga ob)(n:H b=Gb)(hx:b∉ex):∃ sl,h1.get? b=Ga { ob with slots:=sl }:=by
 by_cases hb:b∈fs
 .exact u.slot b ob q n hb hx
 .exact⟨ob.slots,u.keep b ob q n hb hx⟩
theorem Un.trans (a:Un fs ex H H1 h h1)(b:Un fs ex H1 H2 h1 h2):Un fs ex H H2 h h2 where
 keep:=λc ob q n hc hx=>b.keep c ob (a.keep c ob q n hc hx) (a.free c ob q n hx) hc hx
 slot:=λc ob q n hc hx=>by
  obtain⟨sl,e1⟩:=a.slot c ob q n hc hx;obtain⟨sl',e2⟩:=b.slot c _ e1 (a.free c ob q n hx) hc hx;exact⟨sl',e2⟩
 free:=λc ob q n hx=>by
  obtain⟨o',e1⟩:=a.there c ob q hx;exact b.free c o' e1 (a.free c ob q n hx) hx
 there:=λc ob q hx=>by
  obtain⟨o',e1⟩:=a.there c ob q hx;exact b.there c o' e1 hx
 tups:=λc xs q=>b.tups c xs (a.tups c xs q)
 frzs:=λc ob xs q=>b.frzs c ob xs (a.frzs c ob xs q)
 tbls:=λc ps q=>by
  obtain⟨m1,e1⟩:=a.tbls c ps q;obtain⟨m2,e2⟩:=b.tbls c _ e1;exact⟨m1++m2,by rw[e2,qV]⟩
theorem Un.kept (k:∀ b u,h.get? b=Ga u->h'.get? b=Ga u):Un fs ex H H h h' :=
 ⟨λb ob q _ _ _=>k b ob q,λb ob q _ _ _=>⟨ob.slots,k b ob q⟩,λ_ _ _ n _=>n,λb ob q _=>⟨ob,k b ob q⟩,λ_ _ q=>q,λ_ _ _ q=>q,λ_ ps q=>⟨#[],by rw[q];simp⟩⟩
theorem Un.refl:Un fs ex H H h h:=Un.kept λ_ _ q=>q
theorem Un.laid (k:∀ b u,h.get? b=Ga u->h'.get? b=Ga u)(hp:h.objs.size<=a)(hn:H a=Gb):Un fs ex H (upd H a o) h h' where
 keep:=λb u q _ _ _=>k b u q
 slot:=λb u q _ _ _=>⟨u.slots,k b u q⟩
 free:=λb u q n _=>by rw[upd_ne (jC (jA (jp q) hp))];exact n
 there:=λb u q _=>⟨u,k b u q⟩
 tups:=λb xs q=>by rw[upd_ne (ne_of_none q hn)];exact q
 frzs:=λb u xs q=>by rw[upd_ne (ne_of_none q hn)];exact q
 tbls:=λb ps q=>⟨#[],by rw[upd_ne (ne_of_none q hn),q];simp⟩
theorem Un.write (mu:Mut (H x))(he:e=x\/H e=Ga (.own x))(k:∀ b u,b≠e->h.get? b=Ga u->h'.get? b=Ga u)(heo:∃ u,h'.get? e=Ga u):Un fs ex H (upd H x o) h h':=by
 have hx:∀ b,H b=Gb->b≠x:=λb n z=>by subst z;rw[n] at mu;exact mu
 have hb:∀ b,H b=Gb->b≠e:=λb n z=>by
  subst z;rcases he with r|r
  .exact hx b n r
  .rw[n] at r;cases r
 have hm:∀ b u,H b=Ga u->¬Mut (Ga u)->b≠x:=λb u q nm z=>by subst z;rw[q] at mu;exact nm mu
 refine⟨λb u q n _ _=>k b u (hb b n) q,λb u q n _ _=>⟨u.slots,k b u (hb b n) q⟩,λb u q n _=>by rw[upd_ne (hx b n)];exact n,λb u q _=>?_,
  λb xs q=>by rw[upd_ne (hm b _ q λz=>z)];exact q,λb u xs q=>by rw[upd_ne (hm b _ q λz=>z)];exact q,λb ps q=>⟨#[],by rw[upd_ne (hm b _ q λz=>z),q];simp⟩⟩
 by_cases hbe:b=e
 .subst hbe;exact heo
 .exact⟨u,k b u hbe q⟩
theorem Un.mono (u:Un fs ex H H1 h h1)(hs:∀ b∈fs,b∈fs')(hx:∀ b∈ex,b∈ex'):Un fs' ex' H H1 h h1 :=
 ⟨λb ob q n hb he=>u.keep b ob q n (λz=>hb (hs b z)) λz=>he (hx b z),λ_ _ q n _ he=>u.any q n λz=>he (hx _ z),λb ob q n he=>u.free b ob q n λz=>he (hx b z),λb ob q he=>u.there b ob q λz=>he (hx b z),u.tups,u.frzs,u.tbls⟩
end
def trk (h:Heap)(H:Hp):List Gj:=(jk h.objs.size).filter λa=>(H a).isSome
def hidT (h:Heap)(H:Hp):Heap:=PySem.W.hideAll h (trk h H)
theorem hidT_size (h:Heap)(H:Hp):(hidT h H).objs.size=h.objs.size:=PySem.W.hideAll_size _ _
theorem hidT_get {h:Heap}{H:Hp}{b:Gj}{o:Obj}(e:h.get? b=Ga o)(n:H b=Gb):(hidT h H).get? b=Ga o :=
 PySem.W.hideAll_get _ e λhm=>by
  have q:(H b).isSome=true:=(kn.mp hm).2;rw[n] at q;simp at q
theorem of_hidT {h:Heap}{H:Hp}{b:Gj}{o:Obj}(e:(hidT h H).get? b=Ga o):h.get? b=Ga o/\H b=Gb:=by
 have e':h.get? b=Ga o:=PySem.W.of_hideAll (trk h H) e;refine⟨e',?_⟩;cases q:H b with
 | none=>rfl
 | some x =>
  have hm:b∈trk h H:=kn.mpr ⟨jK.mpr (jp e'),by simp[q]⟩;have z:(hidT h H).get? b=Gb:=PySem.W.hideAll_none (trk h H) hm;rw[z] at e;cases e
def allNews (g h:Heap)(L:Gj):List (Gj×Obj):=(jk h.objs.size).filterMap λa=>if a=L\/(g.get? a).isSome=true then Gb else(h.get? a).map λo=>(a,o)
def rest (g h:Heap)(L d:Gj):List (Gj×Obj):=(allNews g h L).filter λp=>decide (p.1≠d)
end L2
namespace L2
open PySem PySem.Spec PyProof.Rows
structure Mod (K:ja)(mg:Str->Option Gg)(base:Heap):Prop where
 kin:K.In base
 glob:base.Ns mainGlobals mg
 blt:∃ mb,base.Ns builtinsNs mb/\∀ x:Str,x≠"__name__"->mb x=bootBuiltins x
 nolimit:base.NoLimit
structure Cx where
 prog:Program
 w:World
 K:ja
 mg:Str->Option Gg
 base:Heap
 A:Around
 N:List Str
 s₀:Gh
 H₀:Hp
 env:Env
 outer:List Env
 stack:List Env
 ex:List Gj
 fn:Str->Bool
 calm:Bool
 pn:List (Gj×Obj)
 xe:Gg->Gh->Prop
def frs (l:List Env):List Gj:=l.filterMap (·.frame)
abbrev Cx.fs (X:Cx):List Gj:=frs X.outer
def Vis (sc:Scope)(x:Str):Prop:=sc.names.lookup x=Ga .local\/sc.names.lookup x=Ga .cell\/sc.names.lookup x=Ga .free
def Loc (sc:Scope)(x:Str):Prop:=sc.names.lookup x=Ga .local\/sc.names.lookup x=Ga .cell
def Look (ψ:Env)(h:Heap)(m:Str->Option Gg)(x:Str)(u:Gg):Prop :=
 (ψ.kindOf x=Ga .local/\m x=Ga u)\/((ψ.kindOf x=Ga .cell\/ψ.kindOf x=Ga .free)/\∃ c,ψ.cells.lookup x=Ga c/\h.IsCell c (Ga u))
structure Cx.Ok (X:Cx):Prop where
 mod:Mod X.K X.mg X.base
 kind:X.env.scope.kind=.function
 glob:X.env.globals=mainGlobals
 blt:X.env.builtins=builtinsNs
 above:X.s₀.heap.objs.size<=X.env.locals
 inj:∀ x y c,X.env.cells.lookup x=Ga c->X.env.cells.lookup y=Ga c->x=y
 has:∀ x,(X.env.kindOf x=Ga .cell\/X.env.kindOf x=Ga .free)->∃ c,X.env.cells.lookup x=Ga c
 cab:∀ x c,X.fn x=true->X.env.cells.lookup x=Ga c->X.s₀.heap.objs.size<=c
 hd:X.calm=true->X.A.handled=Gb
 frames:X.A.frames=Ga X.stack
 stk:X.stack=X.outer\/(X.stack=X.env::X.outer/\X.env.frame=Ga X.env.locals)
 exf:∀ b∈X.ex,b≠X.env.locals/\∀ x c,X.env.cells.lookup x=Ga c->c≠b
 bs:∀ b o,X.base.get? b=Ga o->X.s₀.heap.get? b=Ga o/\X.H₀ b=Gb
 bsz:X.base.objs.size<=X.s₀.heap.objs.size
 noex:∀ b o,X.base.get? b=Ga o->b∉X.ex
 exfs:∀ b∈X.ex,b∉X.fs
 funs:X.s₀.heap.FunFrames X.base X.outer
 frf:∀ b∈X.fs,X.H₀ b=Gb
structure Inv (X:Cx)(ω:List (Gj×Obj))(σ:List (Option V))(H:Hp)(s:Gh):Prop where
 ok:X.Ok
 os:s.os=X.s₀.os
 bare:AllBare s.gens
 base:Un X.fs X.ex X.H₀ H X.s₀.heap s.heap
 loc:∃ m,s.heap.Ns X.env.locals m/\∀ (i:Nat) (x:Str) (v:V),X.N[i]?=Ga x->σ[i]?=Ga (Ga v)->Vis X.env.scope x->∃ u,RelV v u/\Look X.env s.heap m x u
 cell:∀ x c,X.env.cells.lookup x=Ga c->∃ v,s.heap.IsCell c v
 free:H X.env.locals=Gb
 freeC:∀ x c,X.env.cells.lookup x=Ga c->H c=Gb
 pin:∀ p∈X.pn++ω,s.heap.get? p.1=Ga p.2/\H p.1=Gb/\p.1≠X.env.locals/\p.1∉X.fs/\∀ v,p.2.data≠.cell v
 hok:HOk X.prog X.w H s.heap
 len:σ.length=X.N.length
section
variable {X:Cx}{ω:List (Gj×Obj)}{σ:List (Option V)}{H H':Hp}{s:Gh}{h':Heap}
theorem Cx.Ok.nofr (ok:X.Ok){b:Gj}{o:Obj}(e:X.base.get? b=Ga o):b∉X.fs:=λhb=>by
 have:=(ok.funs.mem hb).1;rw[e] at this;cases this
theorem Inv.bs (I:Inv X ω σ H s):∀ b o,X.base.get? b=Ga o->s.heap.get? b=Ga o/\H b=Gb:=λb o e =>
 ⟨I.base.keep b o (I.ok.bs b o e).1 (I.ok.bs b o e).2 (I.ok.nofr e) (I.ok.noex b o e),I.base.free b o (I.ok.bs b o e).1 (I.ok.bs b o e).2 (I.ok.noex b o e)⟩
theorem Inv.bk (I:Inv X ω σ H s):∀ b o,X.base.get? b=Ga o->s.heap.get? b=Ga o:=λb o e=>(I.bs b o e).1
theorem Inv.mod (I:Inv X ω σ H s):Mod X.K X.mg X.base:=I.ok.mod
theorem Inv.kIn (I:Inv X ω σ H s):X.K.In s.heap:=I.ok.mod.kin.keeps I.bk
theorem Inv.nolimit (I:Inv X ω σ H s):s.heap.NoLimit:=I.ok.mod.nolimit.keeps I.bk
theorem Inv.fr (I:Inv X ω σ H s):∃ m,Fr X.base X.env.locals s.heap m :=
 let ⟨m,hn,_⟩:=I.loc
 ⟨m,hn,I.bk,j9 I.ok.bsz I.ok.above⟩
theorem Inv.lt (I:Inv X ω σ H s):X.env.locals<s.heap.objs.size:=let ⟨_,hn,_⟩:=I.loc;hn.lt
theorem Inv.sz (I:Inv X ω σ H s):X.s₀.heap.objs.size<=s.heap.objs.size:=j9 I.ok.above (vC I.lt)
theorem Inv.nofs (I:Inv X ω σ H s){a:Gj}(h:s.heap.objs.size<=a):a∉X.fs:=λhb=>by
 obtain⟨_,o,ho,_⟩:=I.ok.funs.mem hb;exact absurd (jA (jp ho) (j9 I.sz h)) (kK _)
theorem Inv.cne (I:Inv X ω σ H s):∀ x c,X.env.cells.lookup x=Ga c->c≠X.env.locals:=λx c e z=>by
 obtain⟨v,o,ho,hd⟩:=I.cell x c e;obtain⟨m,⟨o',es,ep,ho',hd',_⟩,_⟩:=I.loc;rw[z,ho'] at ho;cases ho;rw[hd'] at hd;cases hd
theorem Inv.funs (I:Inv X ω σ H s):s.heap.FunFrames X.base X.outer:=by
 have all:∀ (l:List Env),(∀ b∈frs l,b∈X.fs)->X.s₀.heap.FunFrames X.base l->s.heap.FunFrames X.base l:=by
  intro l;induction l with
  | nil=>intro _ _;trivial
  | cons ψ r ih =>
   intro hs hl;obtain⟨hk,⟨L,o,hf,hn,ho,hd⟩,hr⟩:=hl;have hL:L∈X.fs:=hs L (by unfold frs;rw[v9,hf];exact jn);obtain⟨sl,e⟩:=I.base.slot L o ho (I.ok.frf L hL) hL λz=>I.ok.exfs L z hL;exact⟨hk,⟨L,_,hf,hn,e,hd⟩,ih (λb hb=>hs b (by unfold frs;rw[v9,hf];exact jm _ hb)) hr⟩
 exact all X.outer (λ_ hb=>hb) I.ok.funs
theorem Inv.stack (I:Inv X ω σ H s):s.heap.FunFrames X.base X.stack:=by
 rcases I.ok.stk with e|⟨e,hf⟩
 .rw[e];exact I.funs
 .rw[e];obtain⟨m,hn,_⟩:=I.loc;refine .cons (by rw[I.ok.kind];decide) hf hn ?_ I.funs;exact Heap.get?_none_of_le (j9 I.ok.bsz I.ok.above)
theorem Inv.stkSub (I:Inv X ω σ H s):∀ b∈frs X.stack,b∈X.env.locals::X.fs:=λb hb=>by
 rcases I.ok.stk with e|⟨e,hf⟩
 .rw[e] at hb;exact jm _ hb
 .rw[e] at hb;unfold frs at hb;rw[v9,hf] at hb;exact hb
theorem Inv.stkFree (I:Inv X ω σ H s):∀ b∈frs X.stack,H b=Gb:=λb hb=>by
 rcases ju.mp (I.stkSub b hb) with e|hb
 .rw[e];exact I.free
 .obtain⟨_,o,ho,_⟩:=I.ok.funs.mem hb;exact I.base.free b o ho (I.ok.frf b hb) λz=>I.ok.exfs b z hb
theorem Inv.step {g':Array GenState}{t':Nat}{d':Drawn}{ch:List Gj}(I:Inv X ω σ H s)
  (hch:∀ b∈ch,(b∈X.ex\/X.s₀.heap.objs.size<=b)/\b≠X.env.locals/\(∀ x c,X.env.cells.lookup x=Ga c->c≠b)/\∀ p∈X.pn++ω,p.1≠b)
  (keep:∀ b o,b≠X.env.locals->b∉X.fs->b∉ch->s.heap.get? b=Ga o->H b=Gb->h'.get? b=Ga o)
  (slot:∀ b o,b≠X.env.locals->b∈X.fs->b∉ch->s.heap.get? b=Ga o->H b=Gb->∃ sl,h'.get? b=Ga { o with slots:=sl }) (free:∀ b o,b∉ch->s.heap.get? b=Ga o->H b=Gb->H' b=Gb)
  (there:∀ b o,b∉ch->s.heap.get? b=Ga o->∃ o',h'.get? b=Ga o')
  (tups:∀ b xs,H b=Ga (.tup xs)->H' b=Ga (.tup xs)) (frzs:∀ b o u,H b=Ga (.frz o u)->H' b=Ga (.frz o u)) (tbls:∀ b ps,H b=Ga (.tbl ps)->∃ more,H' b=Ga (.tbl (ps++more)))
  (ns:∀ m,s.heap.Ns X.env.locals m->h'.Ns X.env.locals m) (hok:HOk X.prog X.w H' h') (hg:AllBare g') :
  Inv X ω σ H' { s with heap:=h',gens:=g',drawn:=d',toks:=t' }:=by
 have neL:∀ b o,X.s₀.heap.get? b=Ga o->b≠X.env.locals:=λb o e=>jC (jA (jp e) I.ok.above);have neC:∀ b o,X.s₀.heap.get? b=Ga o->b∉X.ex->b∉ch:=λb o e hx hb=>by
  rcases(hch b hb).1 with z|z
  .exact hx z
  .exact absurd (jA (jp e) z) (kK _)
 have cellK:∀ x c,X.env.cells.lookup x=Ga c->∀ v,s.heap.IsCell c v->h'.IsCell c v:=λx c e v ⟨o,ho,hd⟩=>by
  have nch:c∉ch:=λz=>(hch c z).2.2.1 x c e rfl;by_cases hc:c∈X.fs
  .obtain⟨sl,q⟩:=slot c o (I.cne x c e) hc nch ho (I.freeC x c e);exact⟨_,q,hd⟩
  .exact⟨o,keep c o (I.cne x c e) hc nch ho (I.freeC x c e),hd⟩
 refine⟨I.ok,I.os,hg,⟨λb o e n hb hx=>?_,λb o e n hb hx=>?_,λb o e n hx=>?_,λb o e hx=>?_,λb xs e=>tups b xs (I.base.tups b xs e),λb o xs e=>frzs b o xs (I.base.frzs b o xs e),λb ps e=>?_⟩,?_,λx c e=>?_,?_,λx c e=>?_,λp hp=>?_,hok,I.len⟩
 .exact keep b o (neL b o e) hb (neC b o e hx) (I.base.keep b o e n hb hx) (I.base.free b o e n hx)
 .obtain⟨sl,e1⟩:=I.base.slot b o e n hb hx;obtain⟨sl',e2⟩:=slot b _ (neL b o e) hb (neC b o e hx) e1 (I.base.free b o e n hx);exact⟨sl',e2⟩
 .obtain⟨o',e1⟩:=I.base.there b o e hx;exact free b o' (neC b o e hx) e1 (I.base.free b o e n hx)
 .obtain⟨o',e1⟩:=I.base.there b o e hx;exact there b o' (neC b o e hx) e1
 .obtain⟨m1,e1⟩:=I.base.tbls b ps e;obtain⟨m2,e2⟩:=tbls b _ e1;exact⟨m1++m2,by rw[e2,qV]⟩
 .obtain⟨m,hn,hl⟩:=I.loc;refine⟨m,ns m hn,λi x v e1 e2 e3=>?_⟩;obtain⟨u,r,l⟩:=hl i x v e1 e2 e3;refine⟨u,r,?_⟩;rcases l with l|⟨k,c,e,z⟩
  .exact .inl l
  .exact .inr ⟨k,c,e,cellK x c e _ z⟩
 .obtain⟨v,z⟩:=I.cell x c e;exact⟨v,cellK x c e v z⟩
 .obtain⟨m,⟨o,_,_,ho,_⟩,_⟩:=I.loc;exact free _ o (λz=>(hch _ z).2.1 rfl) ho I.free
 .obtain⟨v,o,ho,hd⟩:=I.cell x c e;exact free c o (λz=>(hch c z).2.2.1 x c e rfl) ho (I.freeC x c e)
 .obtain⟨e,n,ne,nf,d⟩:=I.pin p hp;have nch:p.1∉ch:=λz=>(hch p.1 z).2.2.2 p hp rfl;exact⟨keep p.1 p.2 ne nf nch e n,free p.1 p.2 nch e n,ne,nf,d⟩
theorem Inv.un {t':Nat}(I:Inv X ω σ H s)(u:Un X.fs [] H H' s.heap h')(hok:HOk X.prog X.w H' h'):Inv X ω σ H' { s with heap:=h',toks:=t' }:=by
 obtain⟨m,⟨o,es,ep,ho,r⟩,_⟩:=id I.loc;obtain⟨sl,hL⟩:=u.any ho I.free (by simp);exact I.step (g':=s.gens) (d':=s.drawn) (ch:=[]) (λ_ z=>nomatch z) (λb o _ hb _ e n=>u.keep b o e n hb (by simp)) (λb o _ hb _ e n=>u.slot b o e n hb (by simp)) (λb o _ e n=>u.free b o e n (by simp)) (λb o _ e=>u.there b o e (by simp)) u.tups u.frzs u.tbls (λm' hm=>by
  obtain⟨o',es',ep',ho',r'⟩:=hm;rw[ho] at ho';cases ho';exact⟨_,es',ep',hL,r'⟩) hok I.bare
theorem Inv.call {g':Array GenState}{t':Nat}{d':Drawn}{ch:List Gj}(I:Inv X ω σ H s)(u:Un (frs X.stack) ch H H' s.heap h')(hok:HOk X.prog X.w H' h')(hg:AllBare g')
  (hch:∀ b∈ch,(b∈X.ex\/X.s₀.heap.objs.size<=b)/\b≠X.env.locals/\(∀ x c,X.env.cells.lookup x=Ga c->c≠b)/\∀ p∈X.pn++ω,p.1≠b) :
  Inv X ω σ H' { s with heap:=h',gens:=g',drawn:=d',toks:=t' }:=by
 obtain⟨m,⟨o,es,ep,ho,r⟩,_⟩:=id I.loc;obtain⟨sl,hL⟩:=u.any ho I.free λz=>(hch _ z).2.1 rfl;exact I.step (ch:=ch) hch (λb o hL hb hc e n=>u.keep b o e n (λz=>(ju.mp (I.stkSub b z)).elim hL hb) hc) (λb o _ _ hc e n=>u.any e n hc) (λb o hc e n=>u.free b o e n hc) (λb o hc e=>u.there b o e hc) u.tups u.frzs u.tbls (λm' hm=>by
  obtain⟨o',es',ep',ho',r'⟩:=hm;rw[ho] at ho';cases ho';exact⟨_,es',ep',hL,r'⟩) hok hg
theorem Inv.turned {t':Nat}{it:Gj}(I:Inv X ω σ H s)(k:∀ b o,b≠it->s.heap.get? b=Ga o->h'.get? b=Ga o)(hn:H it=Gb)(hL:it≠X.env.locals)
  (h1:it∈X.ex\/X.s₀.heap.objs.size<=it) (h2:∀ x c,X.env.cells.lookup x=Ga c->c≠it) (h3:∀ p∈X.pn++ω,p.1≠it):Inv X ω σ H { s with heap:=h',toks:=t' }:=by
 have nit:∀ b u,H b=Ga u->b≠it:=λb u e z=>by rw[z,hn] at e;cases e
 refine I.step (g':=s.gens) (d':=s.drawn) (ch:=[it]) (λb hb=>?_) (λb o _ _ hc e _=>k b o (λz=>hc (by simp[z])) e) (λb o _ _ hc e _=>⟨o.slots,k b o (λz=>hc (by simp[z])) e⟩) (λ_ _ _ _ n=>n)
  (λb o hc e=>⟨o,k b o (λz=>hc (by simp[z])) e⟩) (λ_ _ e=>e) (λ_ _ _ e=>e) (λb ps e=>⟨#[],by rw[e];simp⟩) (λm hm=>?_) (λb u e=>?_) I.bare
 .have e:b=it:=by simpa using hb
  subst e;exact⟨h1,hL,h2,h3⟩
 .obtain⟨o,es,ep,ho,r⟩:=hm;exact⟨o,es,ep,k _ o (kY hL) ho,r⟩
 .refine(I.hok b u e).stay (λc v hc q=>k c v ?_ q) (λ_ q=>q) λ_ _ q=>q;rcases hc with z|z
  .rw[z];exact nit b u e
  .exact nit c _ z
theorem Inv.tok (I:Inv X ω σ H s)(t:Nat):Inv X ω σ H { s with toks:=t }:=I.un (h':=s.heap) (t':=t) Un.refl I.hok
theorem Inv.kept {t':Nat}(I:Inv X ω σ H s)(k:∀ b u,s.heap.get? b=Ga u->h'.get? b=Ga u):Inv X ω σ H { s with heap:=h',toks:=t' }:=I.un (Un.kept k) (I.hok.kept k)
theorem Inv.laid {a:Gj}{o:HO}{t':Nat}(I:Inv X ω σ H s)(k:∀ b u,s.heap.get? b=Ga u->h'.get? b=Ga u)(hp:s.heap.objs.size<=a)(new:ObjOk X.prog X.w (upd H a o) h' a o) :
  Inv X ω σ (upd H a o) { s with heap:=h',toks:=t' }:=I.un (Un.laid k hp (I.hok.fresh hp)) (I.hok.laid k hp new)
theorem Inv.write {x e:Gj}{o:HO}{t':Nat}(I:Inv X ω σ H s)(mu:Mut (H x))(he:e=x\/H e=Ga (.own x))(k:∀ b u,b≠e->s.heap.get? b=Ga u->h'.get? b=Ga u)(heo:∃ u,h'.get? e=Ga u)
  (new:ObjOk X.prog X.w (upd H x o) h' x o):Inv X ω σ (upd H x o) { s with heap:=h',toks:=t' }:=I.un (Un.write mu he k heo) (I.hok.write mu he k heo new)
theorem Inv.pins_of {pins':List (Gj×Obj)}(I:Inv X ω σ H s)(h:∀ p∈pins',s.heap.get? p.1=Ga p.2/\H p.1=Gb/\p.1≠X.env.locals/\p.1∉X.fs/\∀ v,p.2.data≠.cell v):Inv X pins' σ H s :=
 ⟨I.ok,I.os,I.bare,I.base,I.loc,I.cell,I.free,I.freeC,λp hp=>(jN.mp hp).elim (λz=>I.pin p (uo _ z)) (h p),I.hok,I.len⟩
theorem nodup_ix {N:List Str}(hN:N.Nodup){i j:Nat}{x:Str}(a:N[i]?=Ga x)(b:N[j]?=Ga x):i=j:=by
 obtain⟨h1,e1⟩:=je.mp a;obtain⟨h2,e2⟩:=je.mp b;exact(Jh hN).mp (e1.trans e2.symm)
theorem store_ok2 {M:Model}{A:Around}{E:Gg->Gh->Prop}{i:Nat}{x:Str}{v:V}{u:Gg}{Q:Unit->Gh->Prop}(I:Inv X ω σ H s)(hN:X.N.Nodup)(hi:X.N[i]?=Ga x)(hx:Loc X.env.scope x)(r:RelV v u)
  (h:∀ s',Inv X ω (σ.set i (Ga v)) H s'->(∃ a,kw a s.heap s'.heap/\(a=X.env.locals\/X.env.cells.lookup x=Ga a))->Q () s') (hf:X.fn x=true\/X.env.scope.names.lookup x=Ga .local:=by first|exact .inl rfl|exact .inr rfl|assumption):wpAny M A (storeName X.env x u) Q E s:=by
 obtain⟨m,hn,hl⟩:=id I.loc;have hcls:(X.env.scope.kind==.class||(X.env.scope.kind==.module&&X.env.locals !=X.env.globals))=false:=by rw[I.ok.kind];rfl
 have hiσ:i<σ.length:=by rw[I.len];exact(je.mp hi).1
 have cne:=I.cne;have tracked:∀ {a:Gj} {h':Heap},(∃ o,s.heap.get? a=Ga o/\H a=Gb)->kw a s.heap h'->HOk X.prog X.w H h':=λ{a h'} ha hs b ob e=>by
  obtain⟨_,_,hfree⟩:=ha;refine(I.hok b ob e).stay (λc w' hc q=>(hs.2 c ?_).trans q) (λ_ q=>q) λ_ _ q=>q;rintro rfl;rcases hc with rfl|hc
  .rw[hfree] at e;cases e
  .rw[hfree] at hc;cases hc
 rcases hx with hk|hk
 .refine wpAny_storeName_local hk hn (λh' hn' hs=>?_) hcls;obtain⟨oL,_,_,hoL,_⟩:=id hn;refine h _ ⟨I.ok,I.os,I.bare,⟨λb o e n hb hx=>?_,λb o e n hb hx=>?_,I.base.free,λb o e hx=>?_,I.base.tups,I.base.frzs,I.base.tbls⟩,⟨_,hn',λj y v' e1 e2 e3=>?_⟩,λy c e=>?_,I.free,I.freeC,λp hp=>?_,tracked ⟨oL,hoL,I.free⟩ hs,by simpa using I.len⟩ ⟨_,hs,.inl rfl⟩
  .exact(hs.2 b (jC (jA (jp e) I.ok.above))).trans (I.base.keep b o e n hb hx)
  .obtain⟨sl,e1⟩:=I.base.slot b o e n hb hx;exact⟨sl,(hs.2 b (jC (jA (jp e) I.ok.above))).trans e1⟩
  .obtain⟨o',e1⟩:=I.base.there b o e hx;exact⟨o',(hs.2 b (jC (jA (jp e) I.ok.above))).trans e1⟩
  .by_cases hj:j=i
   .subst hj;rw[hi] at e1;cases e1;rw[jM hiσ] at e2;cases e2;exact⟨u,r,.inl ⟨hk,by simp⟩⟩
   .rw[jI (kY hj)] at e2;obtain⟨u',r',q⟩:=hl j y v' e1 e2 e3;refine⟨u',r',?_⟩;rcases q with ⟨k,e⟩|⟨k,c,e,z⟩
    .refine .inl ⟨k,?_⟩;have:y≠x:=λe=>hj (nodup_ix hN e1 (e▸hi));simp[this,e]
    .exact .inr ⟨k,c,e,z.sameBut hs (cne y c e)⟩
  .obtain⟨w',z⟩:=I.cell y c e;exact⟨w',z.sameBut hs (cne y c e)⟩
  .obtain⟨e,n,ne,nf,d⟩:=I.pin p hp;exact⟨(hs.2 p.1 ne).trans e,n,ne,nf,d⟩
 .have hfn:X.fn x=true:=by
   rcases hf with z|z
   .exact z
   .rw[z] at hk;cases hk
  obtain⟨c,hc⟩:=I.ok.has x (.inl hk);obtain⟨w',z⟩:=I.cell x c hc;refine wpAny_storeName_cell I.ok.kind hk hc z (λh' hc' hs=>?_);obtain⟨oc,hoc,hocd⟩:=id z;refine h { s with heap:=h' } ⟨I.ok,I.os,I.bare,⟨λb o e n hb hx=>?_,λb o e n hb hx=>?_,I.base.free,λb o e hx=>?_,I.base.tups,I.base.frzs,I.base.tbls⟩,⟨m,hn.sameBut hs (kY (cne x c hc)),λj y v' e1 e2 e3=>?_⟩,λy c' e=>?_,I.free,I.freeC,λp hp=>?_,tracked ⟨oc,hoc,I.freeC x c hc⟩ hs,by simpa using I.len⟩ ⟨c,hs,.inr hc⟩
  .exact(hs.2 b (jC (jA (jp e) (I.ok.cab x c hfn hc)))).trans (I.base.keep b o e n hb hx)
  .obtain⟨sl,e1⟩:=I.base.slot b o e n hb hx;exact⟨sl,(hs.2 b (jC (jA (jp e) (I.ok.cab x c hfn hc)))).trans e1⟩
  .obtain⟨o',e1⟩:=I.base.there b o e hx;exact⟨o',(hs.2 b (jC (jA (jp e) (I.ok.cab x c hfn hc)))).trans e1⟩
  .by_cases hj:j=i
   .subst hj;rw[hi] at e1;cases e1;rw[jM hiσ] at e2;cases e2;exact⟨u,r,.inr ⟨.inl hk,c,hc,hc'⟩⟩
   .rw[jI (kY hj)] at e2;obtain⟨u',r',q⟩:=hl j y v' e1 e2 e3;refine⟨u',r',?_⟩;rcases q with q|⟨k,c',e,z'⟩
    .exact .inl q
    .refine .inr ⟨k,c',e,z'.sameBut hs ?_⟩;rintro rfl;exact hj (nodup_ix hN e1 (I.ok.inj _ _ _ e hc▸hi))
  .by_cases hcc:c'=c
   .subst hcc;exact⟨_,hc'⟩
   .obtain⟨w2,z2⟩:=I.cell y c' e;exact⟨w2,z2.sameBut hs hcc⟩
  .obtain⟨e,n,ne,nf,d⟩:=I.pin p hp;refine⟨(hs.2 p.1 ?_).trans e,n,ne,nf,d⟩;intro q;rw[q,hoc] at e;have q':oc=p.2:=jw e;exact d w' (by rw[<- q'];exact hocd)
theorem store_ok {M:Model}{A:Around}{E:Gg->Gh->Prop}{i:Nat}{x:Str}{v:V}{u:Gg}{Q:Unit->Gh->Prop}(I:Inv X ω σ H s)(hN:X.N.Nodup)(hi:X.N[i]?=Ga x)(hx:Loc X.env.scope x)(r:RelV v u)
  (h:∀ s',Inv X ω (σ.set i (Ga v)) H s'->Q () s') (hf:X.fn x=true\/X.env.scope.names.lookup x=Ga .local:=by first|exact .inl rfl|exact .inr rfl|assumption):wpAny M A (storeName X.env x u) Q E s :=
 store_ok2 I hN hi hx r (λs' I' _=>h s' I') hf
theorem Inv.call' {s':Gh}{ch:List Gj}(I:Inv X ω σ H s)(ho:s'.os=s.os)(u:Un (frs X.stack) ch H H' s.heap s'.heap)(hok:HOk X.prog X.w H' s'.heap)(hg:AllBare s'.gens)
  (hch:∀ b∈ch,(b∈X.ex\/X.s₀.heap.objs.size<=b)/\b≠X.env.locals/\(∀ x c,X.env.cells.lookup x=Ga c->c≠b)/\∀ p∈X.pn++ω,p.1≠b):Inv X ω σ H' s':=by
 obtain⟨h',g',d',t',o'⟩:=s';have e:o'=s.os:=ho;subst e;exact I.call (g':=g') (t':=t') (d':=d') u hok hg hch
end
abbrev XK:=Gg->Option Gj->Hp->Prop
abbrev St:=List (Option V)
abbrev VK:=V->Hp->Prop
abbrev TE:=St->Hp->VK->Prop
abbrev TT:=St->Hp->(Bool->Hp->Prop)->Prop
abbrev TA:=St->Hp->(List V->Hp->Prop)->Prop
structure Ends where
 nx:St->Hp->Prop
 rt:VK
 bk:St->Hp->Prop:=λ_ _=>False
 ct:St->Hp->Prop:=λ_ _=>False
abbrev TS:=Ends->St->Hp->Prop
def EP (X:Cx)(ω:List (Gj×Obj))(σ:St)(Q:VK)(u:Gg)(s':Gh):Prop:=∃ v H',Inv X ω σ H' s'/\RelV v u/\Q v H'
def TP (X:Cx)(ω:List (Gj×Obj))(σ:St)(Q:Bool->Hp->Prop)(b:Bool)(s':Gh):Prop:=∃ H',Inv X ω σ H' s'/\Q b H'
def AP (X:Cx)(ω:List (Gj×Obj))(σ:St)(Q:List V->Hp->Prop)(us:List Gg)(s':Gh):Prop:=∃ vs H',Inv X ω σ H' s'/\Vals vs us/\Q vs H'
def SP (X:Cx)(ω:List (Gj×Obj))(D:Ends)(f:Flow)(s':Gh):Prop :=
 match f with
 | .next=>∃ σ' H',Inv X ω σ' H' s'/\D.nx σ' H'
 | .brk=>∃ σ' H',Inv X ω σ' H' s'/\D.bk σ' H'
 | .cont=>∃ σ' H',Inv X ω σ' H' s'/\D.ct σ' H'
 | .ret u=>∃ v σ' H',Inv X ω σ' H' s'/\RelV v u/\D.rt v H'
def PE (X:Cx)(e:Expr)(t:TE):Prop :=
 ∀ (ω:List (Gj×Obj)) (s:Gh) (σ:St) (H:Hp) (Q:VK),Inv X ω σ H s->t σ H Q->wpAny (model X.prog X.w) X.A (eval e X.env) (EP X ω σ Q) X.xe s
def PT (X:Cx)(e:Expr)(t:TT):Prop :=
 ∀ (ω:List (Gj×Obj)) (s:Gh) (σ:St) (H:Hp) (Q:Bool->Hp->Prop),Inv X ω σ H s->t σ H Q->wpAny (model X.prog X.w) X.A (isTrue e X.env (eval e X.env)) (TP X ω σ Q) X.xe s
def PW (X:Cx)(e:Expr)(t:TT):Prop :=
 ∀ (whole:Sem Gg) (ω:List (Gj×Obj)) (s:Gh) (σ:St) (H:Hp) (Q:Bool->Hp->Prop),Inv X ω σ H s->t σ H Q->wpAny (model X.prog X.w) X.A (isTrue e X.env whole) (TP X ω σ Q) X.xe s
theorem PW.pt {X:Cx}{e:Expr}{t:TT}(h:PW X e t):PT X e t:=h _
def PA (X:Cx)(es:List Expr)(t:TA):Prop :=
 ∀ (pos:Pos) (ω:List (Gj×Obj)) (s:Gh) (σ:St) (H:Hp) (Q:List V->Hp->Prop),Inv X ω σ H s->t σ H Q->wpAny (model X.prog X.w) X.A (spliced (backTo pos (starEach es X.env))) (AP X ω σ Q) X.xe s
def PS (X:Cx)(st:Stmt)(t:TS):Prop :=
 ∀ (ω:List (Gj×Obj)) (s:Gh) (σ:St) (H:Hp) (D:Ends),Inv X ω σ H s->t D σ H->wpAny (model X.prog X.w) X.A (exec st X.env) (SP X ω D) X.xe s
def PSs (X:Cx)(st:List Stmt)(t:TS):Prop :=
 ∀ (ω:List (Gj×Obj)) (s:Gh) (σ:St) (H:Hp) (D:Ends),Inv X ω σ H s->t D σ H->wpAny (model X.prog X.w) X.A (execs st X.env) (SP X ω D) X.xe s
theorem thn {α:Type}{t:Sem α}{Q Q':α->Gh->Prop}{M:Model}{A:Around}{E:Gg->Gh->Prop}{s:Gh}(h:wpAny M A t Q E s)(hQ:∀ a s,Q a s->Q' a s):wpAny M A t Q' E s:=wpAny_mono h hQ λ_ _ x=>x
end L2
namespace L2
open PySem PySem.Spec PyProof.Rows
section
variable {X:Cx}
theorem bin {a b:Expr}{ta tb:TE}(ha:PE X a ta)(hb:PE X b tb){ω:List (Gj×Obj)}{s:Gh}{σ:St}{H:Hp}{R:V->V->Hp->Prop}(I:Inv X ω σ H s)(h:ta σ H λx H1=>tb σ H1 λy H2=>R x y H2)
  {α:Type} {Q:α->Gh->Prop} {f:Gg->Gg->Sem α}
  (hf:∀ v u s2 x y H2,Inv X ω σ H2 s2->RelV x v->RelV y u->R x y H2->wpAny (model X.prog X.w) X.A (f v u) Q X.xe s2) :
  wpAny (model X.prog X.w) X.A (eval a X.env) (λv s₁=>wpAny (model X.prog X.w) X.A (eval b X.env) (λu s₂=>wpAny (model X.prog X.w) X.A (f v u) Q X.xe s₂) X.xe s₁) X.xe s:=by
 refine thn (ha ω s σ H _ I h) λv s1 ⟨x,H1,I1,r1,q1⟩=>?_;refine thn (hb ω s1 σ H1 _ I1 q1) λu s2 ⟨y,H2,I2,r2,q2⟩=>?_;exact hf v u s2 x y H2 I2 r1 r2 q2
def tVar (i:Nat):TE:=λσ H Q=>∃ v,σ[i]?=Ga (Ga v)/\Q v H
def tC (v:V):TE:=λ_ H Q=>Q v H
theorem pe_var {i:Nat}{x:Str}{pos:Pos}(hN:X.N[i]?=Ga x)(hv:Vis X.env.scope x)(hd:(x==("__debug__":Str))=false:=by decide)(hcd:(x==("__classdict__":Str))=false:=by decide):PE X (.Name x pos) (tVar i):=by
 intro ω s σ H Q I h;obtain⟨v,e,h⟩:=h;obtain⟨m,hn,hl⟩:=I.loc;obtain⟨u,r,l⟩:=hl i x v hN e hv;have fin:EP X ω σ Q u s:=⟨v,H,I,r,h⟩;rcases l with ⟨hk,hm⟩|⟨hk,c,hc,hcell⟩
 .exact wpAny_Name (wpAny_loadName_local I.ok.kind hk hn hm fin) hd
 .rcases hk with hk|hk
  .exact wpAny_Name (wpAny_loadName_cell I.ok.kind hk hc hcell fin) hd
  .exact wpAny_Name (wpAny_loadName_free I.ok.kind hk hc hcell fin hcd) hd
theorem pe_int {i j pos}:PE X (.Constant (.int i) j pos) (tC (.int i)):=λ_ _ _ H _ I h=>wpAny_Constant_int ⟨.int i,H,I.tok _,⟨_,rfl⟩,h⟩
theorem pe_bl {b j pos}:PE X (.Constant (.bool b) j pos) (tC (.bl b)):=λ_ _ _ H _ I h=>Constant_bool ⟨.bl b,H,I,rfl,h⟩
theorem pe_non {j pos}:PE X (.Constant .none j pos) (tC .non):=λ_ _ _ H _ I h=>Constant_none ⟨.non,H,I,rfl,h⟩
def Gl (X:Cx)(x:Str):Prop:=X.env.kindOf x=Ga .globalImplicit
theorem ld_glob {E:Gg->Gh->Prop}{ω:List (Gj×Obj)}{s:Gh}{σ:St}{H:Hp}{x:Str}{u:Gg}{pos:Pos}{Q:Gg->Gh->Prop}(I:Inv X ω σ H s)(hg:Gl X x)(hm:X.mg x=Ga u)(h:Q u s)
  (hd:(x==("__debug__":Str))=false:=by decide):wpAny (model X.prog X.w) X.A (eval (.Name x pos) X.env) Q E s :=
 qa I.ok.kind hg (Calls.loadGlobal_global (by rw[I.ok.glob];exact I.mod.glob.keeps I.bk) hm h) hd
theorem ld_blt {E:Gg->Gh->Prop}{ω:List (Gj×Obj)}{s:Gh}{σ:St}{H:Hp}{x:Str}{u:Gg}{pos:Pos}{Q:Gg->Gh->Prop}(I:Inv X ω σ H s)(hg:Gl X x)(hm:X.mg x=Gb)(hv:bootBuiltins x=Ga u)(h:Q u s)
  (hn:x≠"__name__":=by decide) (hd:(x==("__debug__":Str))=false:=by decide):wpAny (model X.prog X.w) X.A (eval (.Name x pos) X.env) Q E s:=by
 obtain⟨mb,h1,h2⟩:=I.mod.blt;exact qa I.ok.kind hg (Calls.loadGlobal_builtin (by rw[I.ok.glob];exact I.mod.glob.keeps I.bk) hm (by rw[I.ok.blt];exact h1.keeps I.bk) ((h2 x hn).trans hv) h) hd
variable {a b:Expr}{ta tb:TE}{pos:Pos}
variable {tA tB':TT}{rest:List Expr}
def tAnd (t u:TT):TT:=λσ H Q=>t σ H λc H1=>if c=true then u σ H1 Q else Q false H1
def tOr (t u:TT):TT:=λσ H Q=>t σ H λc H1=>if c=true then Q true H1 else u σ H1 Q
def tNot (t:TT):TT:=λσ H Q=>t σ H λc H1=>Q (!c) H1
theorem pw_and1 (ha:PT X a tA):PW X (.BoolOp .And [a] pos) tA:=by
 intro wh ω s σ H Q I h;refine isTrue_and (thn (ha ω s σ H Q I h) λc s1 e=>?_);cases c with
 | true=>exact isTrue_and_nil e
 | false=>exact e
theorem pw_or1 (ha:PT X a tA):PW X (.BoolOp .Or [a] pos) tA:=by
 intro wh ω s σ H Q I h;refine isTrue_or (thn (ha ω s σ H Q I h) λc s1 e=>?_);cases c with
 | false=>exact isTrue_or_nil e
 | true=>exact e
theorem pw_and (ha:PT X a tA)(hb:PW X (.BoolOp .And (b::rest) pos) tB'):PW X (.BoolOp .And (a::b::rest) pos) (tAnd tA tB'):=by
 intro wh ω s σ H Q I h;refine isTrue_and (thn (ha ω s σ H _ I h) λc s1 ⟨H1,I1,q1⟩=>?_);cases c with
 | true=>exact hb wh ω s1 σ H1 Q I1 q1
 | false=>exact⟨H1,I1,q1⟩
theorem pw_or (ha:PT X a tA)(hb:PW X (.BoolOp .Or (b::rest) pos) tB'):PW X (.BoolOp .Or (a::b::rest) pos) (tOr tA tB'):=by
 intro wh ω s σ H Q I h;refine isTrue_or (thn (ha ω s σ H _ I h) λc s1 ⟨H1,I1,q1⟩=>?_);cases c with
 | true=>exact⟨H1,I1,q1⟩
 | false=>exact hb wh ω s1 σ H1 Q I1 q1
theorem pt_not (ha:PT X a tA):PT X (.UnaryOp .Not a pos) (tNot tA):=by
 intro ω s σ H Q I h;exact isTrue_not (ha ω s σ H (λc H1=>Q (!c) H1) I h)
def tAndV (ta tb:TE):TE:=λσ H Q=>ta σ H λx H1=>∃ c,x=.bl c/\if c=true then tb σ H1 Q else Q (.bl false) H1
def tOrV (ta tb:TE):TE:=λσ H Q=>ta σ H λx H1=>∃ c,x=.bl c/\if c=true then Q (.bl true) H1 else tb σ H1 Q
def tNotV (ta:TE):TE:=λσ H Q=>ta σ H λx H1=>∃ c,x=.bl c/\Q (.bl (!c)) H1
theorem pe_one {op}{t:TE}(h:PE X a t):PE X (.BoolOp op [a] pos) t:=λω s σ H Q I hw=>BoolOp_one (h ω s σ H Q I hw)
theorem pe_and (ha:PE X a ta)(hb:PE X (.BoolOp .And (b::rest) pos) tb):PE X (.BoolOp .And (a::b::rest) pos) (tAndV ta tb):=by
 intro ω s σ H Q I h;refine BoolOp_and (thn (ha ω s σ H _ I h) λv s1 ⟨x,H1,I1,r1,q1⟩=>?_);obtain⟨c,rfl,q1⟩:=q1;cases r1;refine wpAny_truthy_bool ?_;cases c with
 | true=>exact hb ω s1 σ H1 Q I1 q1
 | false=>exact⟨.bl false,H1,I1,rfl,q1⟩
theorem pe_or (ha:PE X a ta)(hb:PE X (.BoolOp .Or (b::rest) pos) tb):PE X (.BoolOp .Or (a::b::rest) pos) (tOrV ta tb):=by
 intro ω s σ H Q I h;refine BoolOp_or (thn (ha ω s σ H _ I h) λv s1 ⟨x,H1,I1,r1,q1⟩=>?_);obtain⟨c,rfl,q1⟩:=q1;cases r1;refine wpAny_truthy_bool ?_;cases c with
 | false=>exact hb ω s1 σ H1 Q I1 q1
 | true=>exact⟨.bl true,H1,I1,rfl,q1⟩
theorem pe_not (ha:PE X a ta):PE X (.UnaryOp .Not a pos) (tNotV ta):=by
 intro ω s σ H Q I h;refine UnaryOp_ (thn (ha ω s σ H _ I h) λv s1 ⟨x,H1,I1,r1,q1⟩=>?_);obtain⟨c,rfl,q1⟩:=q1;cases r1;exact not_of (wpAny_truthy_bool ⟨.bl (!c),H1,I1,rfl,q1⟩)
def tIf (t:TT)(ta tb:TE):TE:=λσ H Q=>t σ H λc H1=>if c=true then ta σ H1 Q else tb σ H1 Q
theorem pe_ifExp {c:Expr}(hc:PT X c tA)(ha:PE X a ta)(hb:PE X b tb):PE X (.IfExp c a b pos) (tIf tA ta tb):=by
 intro ω s σ H Q I h;refine wpAny_IfExp (thn (hc ω s σ H _ I h) λd s1 ⟨H1,I1,q1⟩=>?_);cases d with
 | true=>exact ha ω s1 σ H1 Q I1 q1
 | false=>exact hb ω s1 σ H1 Q I1 q1
end
end L2
namespace L2
open PySem PySem.Spec PyProof.Rows
def SqL (K:ja)(H:Hp)(a:Gj)(xs:List V):Prop :=
 Rd H a (.lst xs) \/
  ∃ (o:Obj) (its:Array Gg) (n:Nat),K.lookup a=Ga o/\o.cls=.type "list"/\o.dict=Gb/\o.data=.seq its n/\its.size<=sizeLine/\Vals xs its.toList
def SqT (K:ja)(H:Hp)(a:Gj)(xs:List V):Prop :=
 Rd H a (.tup xs) \/
  ∃ (o:Obj) (its:Array Gg) (n:Nat),K.lookup a=Ga o/\o.cls=.type "tuple"/\o.data=.seq its n/\its.size<=sizeLine/\Vals xs its.toList
def absV:Gg->Option V
 | .none=>Ga .non
 | .bool b=>Ga (.bl b)
 | .int i _=>Ga (.int i)
 | .str x _=>Ga (.str x)
 | .bytes b _=>Ga (.byt b)
 | .float b _=>Ga (.flt b)
 | .ref a=>Ga (.ref a)
 | .type n=>Ga (.ty n)
 | _=>Gb
theorem RelV.abs {x:V}{u:Gg}(r:RelV x u):absV u=Ga x:=by
 cases x with
 | non=>cases r;rfl
 | bl _=>cases r;rfl
 | int _=>obtain⟨t,rfl⟩:=r;rfl
 | str _=>obtain⟨t,rfl⟩:=r;rfl
 | byt _=>obtain⟨t,rfl⟩:=r;rfl
 | flt _=>obtain⟨t,rfl⟩:=r;rfl
 | ref _=>cases r;rfl
 | ty _=>cases r;rfl
theorem RelV.inj {x y:V}{u:Gg}(r:RelV x u)(q:RelV y u):x=y:=jw (r.abs.symm.trans q.abs)
theorem Vals.inj:∀ {xs ys:List V} {us:List Gg},Vals xs us->Vals ys us->xs=ys
 | _,_,_,.nil,.nil=>rfl
 | _,_,_,.cons r t,.cons r' t'=>by rw[r.inj r',Vals.inj t t']
section
variable {X:Cx}{ω:List (Gj×Obj)}{σ:St}{H:Hp}{s:Gh}{a:Gj}{xs ys:List V}
theorem SqL.of {K:ja}(h:H a=Ga (.lst xs)):SqL K H a xs:=.inl (.inl h)
theorem SqT.of {K:ja}(h:H a=Ga (.tup xs)):SqT K H a xs:=.inl (.inl h)
theorem Inv.list (I:Inv X ω σ H s)(h:SqL X.K H a xs):∃ its:List Gg,Vals xs its/\PlainL s.heap a its.toArray/\xs.length<=sizeLine:=by
 rcases h with h|⟨o,its,n,hk,hc,hd,hs,hz,r⟩
 .obtain⟨z,its,n,r,e⟩:=h.ok I.hok;exact⟨its,r,⟨_,n,e,rfl,rfl,rfl⟩,z⟩
 .refine⟨its.toList,r,⟨o,n,I.kIn a o hk,hc,hd,by simpa using hs⟩,?_⟩;have e:=r.length;simp only[jt] at e;omega
theorem Inv.tuple (I:Inv X ω σ H s)(h:SqT X.K H a xs):∃ its:List Gg,Vals xs its/\IsTup s.heap a its.toArray/\xs.length<=sizeLine:=by
 rcases h with h|⟨o,its,n,hk,hc,hs,hz,r⟩
 .obtain⟨z,its,r,p⟩:=h.ok I.hok;exact⟨its,r,p,z⟩
 .refine⟨its.toList,r,⟨o,I.kIn a o hk,hc,n,by simpa using hs⟩,?_⟩;have e:=r.length;simp only[jt] at e;omega
theorem Inv.list_inj (I:Inv X ω σ H s)(h:SqL X.K H a xs)(h':SqL X.K H a ys):xs=ys:=by
 obtain⟨its,r,⟨o,n,e,_,_,d⟩,_⟩:=I.list h;obtain⟨its',r',⟨o',n',e',_,_,d'⟩,_⟩:=I.list h';rw[e] at e';cases e';rw[d] at d'
 injection d' with d1 _
 have:its=its':=by simpa using congrArg Array.toList d1
 subst this;exact r.inj r'
theorem Inv.tuple_inj (I:Inv X ω σ H s)(h:SqT X.K H a xs)(h':SqT X.K H a ys):xs=ys:=by
 obtain⟨its,r,⟨o,e,_,n,d⟩,_⟩:=I.tuple h;obtain⟨its',r',⟨o',e',_,n',d'⟩,_⟩:=I.tuple h';rw[e] at e';cases e';rw[d] at d'
 injection d' with d1 _
 have:its=its':=by simpa using congrArg Array.toList d1
 subst this;exact r.inj r'
end
abbrev Cx.wish (X:Cx)(E:Gg->Gh->Prop):Cx:={ X with xe:=E }
abbrev Cx.nox (X:Cx):Cx:=X.wish λ_ _=>False
theorem Cx.Ok.wish {X:Cx}(ok:X.Ok)(E:Gg->Gh->Prop):(X.wish E).Ok :=
 ⟨ok.mod,ok.kind,ok.glob,ok.blt,ok.above,ok.inj,ok.has,ok.cab,ok.hd,ok.frames,ok.stk,ok.exf,ok.bs,ok.bsz,ok.noex,ok.exfs,ok.funs,ok.frf⟩
theorem Cx.Ok.unwish {X:Cx}{E:Gg->Gh->Prop}(ok:(X.wish E).Ok):X.Ok :=
 ⟨ok.mod,ok.kind,ok.glob,ok.blt,ok.above,ok.inj,ok.has,ok.cab,ok.hd,ok.frames,ok.stk,ok.exf,ok.bs,ok.bsz,ok.noex,ok.exfs,ok.funs,ok.frf⟩
section
variable {X:Cx}{ω:List (Gj×Obj)}{σ:St}{H:Hp}{s:Gh}{E:Gg->Gh->Prop}
theorem Inv.wish (I:Inv X ω σ H s)(E:Gg->Gh->Prop):Inv (X.wish E) ω σ H s:=⟨I.ok.wish E,I.os,I.bare,I.base,I.loc,I.cell,I.free,I.freeC,I.pin,I.hok,I.len⟩
theorem Inv.unwish (I:Inv (X.wish E) ω σ H s):Inv X ω σ H s:=⟨I.ok.unwish,I.os,I.bare,I.base,I.loc,I.cell,I.free,I.freeC,I.pin,I.hok,I.len⟩
theorem SP.unwish {D:Ends}{f:Flow}{s':Gh}(h:SP (X.wish E) ω D f s'):SP X ω D f s':=by
 cases f with
 | next=>obtain⟨σ',H',I,q⟩:=h;exact⟨σ',H',I.unwish,q⟩
 | brk=>obtain⟨σ',H',I,q⟩:=h;exact⟨σ',H',I.unwish,q⟩
 | cont=>obtain⟨σ',H',I,q⟩:=h;exact⟨σ',H',I.unwish,q⟩
 | ret u=>obtain⟨v,σ',H',I,r,q⟩:=h;exact⟨v,σ',H',I.unwish,r,q⟩
theorem PE.nox {e:Expr}{t:TE}(h:PE X.nox e t):PE X e t:=λω s σ H Q I hw =>
 wpAny_mono (h ω s σ H Q (I.wish _) hw) (λ_ _ ⟨v,H',I',r,q⟩=>⟨v,H',I'.unwish,r,q⟩) λ_ _ z=>False.elim z
theorem PT.nox {e:Expr}{t:TT}(h:PT X.nox e t):PT X e t:=λω s σ H Q I hw =>
 wpAny_mono (h ω s σ H Q (I.wish _) hw) (λ_ _ ⟨H',I',q⟩=>⟨H',I'.unwish,q⟩) λ_ _ z=>False.elim z
theorem PSs.nox {st:List Stmt}{t:TS}(h:PSs X.nox st t):PSs X st t:=λω s σ H D I hw =>
 wpAny_mono (h ω s σ H D (I.wish _) hw) (λ_ _ q=>q.unwish) λ_ _ z=>False.elim z
end
section
variable {X:Cx}{st:Stmt}{rest:List Stmt}{t u:TS}{e:Expr}{te:TE}{pos:Pos}
def tNext:TS:=λD σ H=>D.nx σ H
def tSeq (t u:TS):TS:=λD σ H=>t { D with nx:=u D } σ H
theorem pss_nil:PSs X [] tNext:=λ_ _ σ H _ I h=>wpAny_execs_nil ⟨σ,H,I,h⟩
theorem pss_cons (h1:PS X st t)(h2:PSs X rest u):PSs X (st::rest) (tSeq t u):=by
 intro ω s σ H D I h;refine wpAny_execs_cons (thn (h1 ω s σ H { D with nx:=u D } I h) λf s1 q=>?_);cases f with
 | next =>
  obtain⟨σ',H',I',q⟩:=q;exact h2 ω s1 σ' H' D I' q
 | ret v=>exact q
 | brk=>exact q
 | cont=>exact q
theorem pss_one (h1:PS X st t):PSs X [st] t:=by
 intro ω s σ H D I h;refine wpAny_execs_cons (thn (h1 ω s σ H D I h) λf s1 q=>?_);cases f with
 | next=>exact wpAny_execs_nil q
 | ret v=>exact q
 | brk=>exact q
 | cont=>exact q
theorem Inv.quiet {ω:List (Gj×Obj)}{σ:St}{H:Hp}{s:Gh}(I:Inv X ω σ H s):interactive X.env=false:=by simp[interactive,I.ok.kind]
def tDrop (te:TE):TS:=λD σ H=>te σ H λ_ H1=>D.nx σ H1
theorem ps_expr (he:PE X e te)(hs:swapsWith e Gb pos.line X.env=pure false:=by rfl):PS X (.Expr e pos) (tDrop te):=by
 intro ω s σ H D I h;exact wpAny_Expr_any (thn (he ω s σ H _ I h) λv s1 ⟨x,H1,I1,r1,q1⟩=>⟨σ,H1,I1,q1⟩) I.quiet hs
def tRet (te:TE):TS:=λD σ H=>te σ H D.rt
theorem ps_ret (he:PE X e te):PS X (.Return (Ga e) pos) (tRet te):=by
 intro ω s σ H D I h;exact wpAny_Return_some (thn (he ω s σ H _ I h) λv s1 ⟨x,H1,I1,r1,q1⟩=>⟨x,σ,H1,I1,r1,q1⟩)
def tIfS (c:TT)(t u:TS):TS:=λD σ H=>c σ H λb H1=>if b=true then t D σ H1 else u D σ H1
theorem ps_if {c:Expr}{a b:List Stmt}{tc:TT}(hc:PT X c tc)(ha:PSs X a t)(hb:PSs X b u):PS X (.If c a b pos) (tIfS tc t u):=by
 intro ω s σ H D I h;refine wpAny_If (thn (hc ω s σ H _ I h) λd s1 ⟨H1,I1,q1⟩=>?_);cases d with
 | true=>exact ha ω s1 σ H1 D I1 q1
 | false=>exact hb ω s1 σ H1 D I1 q1
end
abbrev TG:=V->St->Hp->(St->Hp->Prop)->Prop
abbrev TGs:=List V->St->Hp->(St->Hp->Prop)->Prop
def PG (X:Cx)(target:Expr)(t:TG):Prop :=
 ∀ (ω:List (Gj×Obj)) (s:Gh) (σ:St) (H:Hp) (v:V) (u:Gg) (Q:St->Hp->Prop),Inv X ω σ H s->RelV v u->t v σ H Q ->
  wpAny (model X.prog X.w) X.A (assign target X.env u) (λ_ s'=>∃ σ' H',Inv X ω σ' H' s'/\Q σ' H') X.xe s
def PGs (X:Cx)(ts:List Expr)(t:TGs):Prop :=
 ∀ (ω:List (Gj×Obj)) (s:Gh) (σ:St) (H:Hp) (vs:List V) (us:List Gg) (Q:St->Hp->Prop),Inv X ω σ H s->Vals vs us->t vs σ H Q ->
  wpAny (model X.prog X.w) X.A (assignInOrder ((assignEach ts X.env).map (·.2)) us) (λ_ s'=>∃ σ' H',Inv X ω σ' H' s'/\Q σ' H') X.xe s
abbrev TSet:=V->V->V->Hp->(Hp->Prop)->Prop
def PSet (X:Cx)(t:TSet):Prop :=
 ∀ (ω:List (Gj×Obj)) (s:Gh) (σ:St) (H:Hp) (o i v:V) (ov iv u:Gg) (Q:Hp->Prop),Inv X ω σ H s->RelV o ov->RelV i iv->RelV v u->t o i v H Q ->
  wpAny (model X.prog X.w) X.A (setItem ov iv u) (λ_ s'=>∃ H',Inv X ω σ H' s'/\Q H') X.xe s
section
variable {X:Cx}{pos:Pos}
def gName (i:Nat):TG:=λv σ H Q=>Q (σ.set i (Ga v)) H
theorem pg_name {i:Nat}{x:Str}(hN:X.N.Nodup)(hi:X.N[i]?=Ga x)(hx:Loc X.env.scope x)(hf:X.fn x=true\/X.env.scope.names.lookup x=Ga .local:=by first|exact .inl rfl|exact .inr rfl|assumption):PG X (.Name x pos) (gName i):=by
 intro ω s σ H v u Q I r h;exact wpAny_assign_Name (store_ok I hN hi hx r (λs' I'=>⟨_,H,I',h⟩) hf)
def gNil:TGs:=λvs σ H Q=>vs=[]/\Q σ H
def gCons (t:TG)(u:TGs):TGs:=λvs σ H Q=>∃ v r,vs=v::r/\t v σ H λσ' H'=>u r σ' H' Q
theorem pgs_nil:PGs X [] gNil:=by
 intro ω s σ H vs us Q I r h;obtain⟨e,h⟩:=h;subst e;cases r;exact assignInOrder_nil ⟨σ,H,I,h⟩
theorem pgs_cons {e:Expr}{es:List Expr}{t:TG}{u:TGs}(h1:PG X e t)(h2:PGs X es u)
  (hs:(assignEach (e::es) X.env).map (·.2)=assign e X.env::(assignEach es X.env).map (·.2):=by rfl):PGs X (e::es) (gCons t u):=by
 intro ω s σ H vs us Q I r h;obtain⟨v,vr,e1,h⟩:=h;subst e1;cases r with
 | cons r rr =>
  rw[hs];refine assignInOrder_cons (thn (h1 ω s σ H _ _ _ I r h) λ_ s1 ⟨σ1,H1,I1,q1⟩=>?_);exact h2 ω s1 σ1 H1 _ _ Q I1 rr q1
def gTup (K:ja)(n:Nat)(t:TGs):TG:=λv σ H Q=>∃ a xs,v=.ref a/\SqT K H a xs/\xs.length=n/\t xs σ H Q
theorem pg_tup {es:List Expr}{k:Nat}{t:TGs}{n:Nat}(hc:X.calm=true)(h:PGs X es t)
  (hn:(assignEach es X.env).length=n:=by rfl) (hst:(assignEach es X.env).findIdx? (·.1)=Gb:=by rfl):PG X (.Tuple es k pos) (gTup X.K n t):=by
 intro ω s σ H v u Q I r hw;obtain⟨a,xs,e1,hq,hl,hw⟩:=hw;subst e1;cases r;obtain⟨its,rv,ht,hz⟩:=I.tuple hq;refine assign_Tuple_tuple (I.ok.hd hc) ht (by simp[hn,<- hl,rv.length]) hst λh' hx=>?_;have I1:Inv X ω σ H { s with heap:=h' }:=I.kept (t':=s.toks) λb o e=>hx b o (jC (jp e)) e;exact h ω _ σ H xs _ Q I1 (by simpa using rv) hw
def gSub (to ti:TE)(t:TSet):TG:=λv σ H Q=>to σ H λo H1=>ti σ H1 λi H2=>t o i v H2 λH3=>Q σ H3
theorem pg_sub {o i:Expr}{to ti:TE}{t:TSet}(ho:PE X o to)(hi:PE X i ti)(hs:PSet X t)
  (ha:∀ v,assign (.Subscript o i pos) X.env v=(do
   let ov <- holding [v] (eval o X.env)
   let iv <- holding [v,ov] (eval i X.env)
   standAt pos
   holding [v,ov,iv] (setItem ov iv v)
   release [v,ov,iv] []):=by intro _;rfl):PG X (.Subscript o i pos) (gSub to ti t):=by
 intro ω s σ H v u Q I r h;rw[ha];refine wpAny_bind (wpAny_holding (thn (ho ω s σ H _ I h) λov s1 ⟨x,H1,I1,r1,q1⟩=>?_));refine wpAny_bind (wpAny_holding (thn (hi ω s1 σ H1 _ I1 q1) λiv s2 ⟨y,H2,I2,r2,q2⟩=>?_));refine wpAny_bind (wpAny_standAt (wpAny_bind (wpAny_holding (thn (hs ω s2 σ H2 x y v ov iv u _ I2 r1 r2 r q2) λ_ s3 ⟨H3,I3,q3⟩=>?_))));exact wpAny_release ⟨σ,H3,I3,q3⟩
def tAsg (te:TE)(g:TG):TS:=λD σ H=>te σ H λx H1=>g x σ H1 D.nx
theorem ps_asg {tg e:Expr}{te:TE}{g:TG}(he:PE X e te)(hg:PG X tg g)(hs:swapsWithSole [tg] e pos.line X.env=pure false:=by rfl)(hw:swappedStores [tg] e X.env=pure Gb:=by rfl)
  (h1:(assignEach [tg] X.env).map (·.2)=[assign tg X.env]:=by rfl):PS X (.Assign [tg] e pos) (tAsg te g):=by
 intro ω s σ H D I h;refine wpAny_Assign_stores (thn (he ω s σ H _ I h) λv s1 ⟨x,H1,I1,r1,q1⟩=>?_) hs hw;rw[h1];exact thn (hg ω s1 σ H1 x v _ I1 r1 q1) λ_ s2 q=>q
theorem ps_set {i:Nat}{x:Str}{e:Expr}{te:TE}{pos':Pos}(hN:X.N.Nodup)(hi:X.N[i]?=Ga x)(hx:Loc X.env.scope x)(he:PE X e te)(hs:swapsWith e (Ga (.Name x pos')) pos.line X.env=pure false:=by rfl)(hf:X.fn x=true\/X.env.scope.names.lookup x=Ga .local:=by first|exact .inl rfl|exact .inr rfl|assumption) :
  PS X (.Assign [.Name x pos'] e pos) (tAsg te (gName i)):=by
 intro ω s σ H D I h;refine wpAny_Assign_Name (thn (he ω s σ H _ I h) λv s1 ⟨y,H1,I1,r1,q1⟩=>?_) hs;exact store_ok I1 hN hi hx r1 (λs2 I2=>⟨_,H1,I2,q1⟩) hf
end
section
variable {X:Cx}{pos:Pos}
def tWhile (c:TT)(tb:TS):TS:=λD σ H=>∃ W:Nat->St->Hp->Prop,(∃ m,W m σ H)/\∀ m σ H,W m σ H ->
 c σ H λb H1=>if b=true then ∃ N:St->Hp->Prop,(∀ σ' H',N σ' H'->∃ m',m'<m/\W m' σ' H')/\tb { D with nx:=N,ct:=N,bk:=D.nx } σ H1 else D.nx σ H1
theorem ps_while {c:Expr}{body:List Stmt}{tc:TT}{tb:TS}(hp:PassesOwn (model X.prog X.w) X.A X.env X.xe)(hc:PT X c tc)(hb:PSs X body tb):PS X (.While c body [] pos) (tWhile tc tb):=by
 intro ω s σ H D I h;obtain⟨W,⟨m0,w0⟩,turn⟩:=h;refine wpAny_While (codeAny_whileLoop (λn s'=>∃ σ' H',Inv X ω σ' H' s'/\W n σ' H') ?_ m0 ⟨σ,H,I,w0⟩);rintro n s1 ⟨σ1,H1,I1,w1⟩;refine wpAny_passesOwn hp (thn (hc ω s1 σ1 H1 _ I1 (turn n σ1 H1 w1)) λb s2 ⟨H2,I2,q2⟩=>?_);cases b with
 | true =>
  obtain⟨N,hN,q2⟩:=q2;rw[Ge rfl];refine wpAny_passesOwn hp (thn (hb ω s2 σ1 H2 _ I2 q2) λf s3 q3=>?_);cases f with
  | next =>
   obtain⟨σ3,H3,I3,n3⟩:=q3;obtain⟨m',hm,w3⟩:=hN σ3 H3 n3;exact⟨m',hm,σ3,H3,I3,w3⟩
  | cont =>
   obtain⟨σ3,H3,I3,n3⟩:=q3;obtain⟨m',hm,w3⟩:=hN σ3 H3 n3;exact⟨m',hm,σ3,H3,I3,w3⟩
  | brk=>exact q3
  | ret v=>exact q3
 | false =>
  rw[Gf jx];exact wpAny_execs_nil ⟨σ1,H2,I2,q2⟩
end
structure It where
 go:Nat->Hp->Prop
 yld:Nat->Hp->V->Hp->Prop
 stop:Nat->Hp->Prop
def FpOk (X:Cx)(ω:List (Gj×Obj))(H:Hp)(b:Gj):Prop :=
 H b=Gb/\b≠X.env.locals/\b∉X.fs/\(b∈X.ex\/X.s₀.heap.objs.size<=b)/\(∀ x c,X.env.cells.lookup x=Ga c->c≠b)/\∀ p∈X.pn++ω,p.1≠b
theorem Inv.fpOk {X:Cx}{ω:List (Gj×Obj)}{σ:St}{H H':Hp}{s:Gh}{b:Gj}(I:Inv X ω σ H s)(hb:s.heap.objs.size<=b)(hn:H' b=Gb):FpOk X ω H' b:=by
 refine⟨hn,kZ (jA I.lt hb),I.nofs hb,.inr (j9 I.sz hb),λx c e z=>?_,λp hp z=>?_⟩
 .obtain⟨v,q⟩:=I.cell x c e;exact absurd (jA q.lt (by rw[z];exact hb)) (kK _)
 .exact absurd (jA (jp (I.pin p hp).1) (by rw[z];exact hb)) (kK _)
structure Turn (P:Program)(w:World)(K:ja)(tg:Expr)(J:It)(fp:List Gj)(it:Gj)(tn:Nat->Heap->Prop):Prop where
 mem:it∈fp
 obj:∀ i h,tn i h->∀ b∈fp,∃ o,h.get? b=Ga o/\∀ v,o.data≠.cell v
 keep:∀ i h h',tn i h->(∀ b∈fp,∀ o,h.get? b=Ga o->h'.get? b=Ga o)->tn i h'
 item:∀ (X:Cx),X.prog=P->X.w=w->X.K=K->X.calm=true->∀ (i:Nat) (ω:List (Gj×Obj)) (s:Gh) (σ:St) (H:Hp) (E:Gg->Gh->Prop),Inv X ω σ H s->(∀ b∈fp,FpOk X ω H b)->tn i s.heap->J.go i H ->
  wpAny (model P w) X.A (pyNext (.ref it)) (λr s1=>∃ u,r=Ga u /\
   wpAny (model P w) X.A (letOwnedTupleGo tg (.ref it) u) (λ_ s2=>∃ x H',Inv X ω σ H' s2/\RelV x u/\J.yld i H x H'/\tn (i+1) s2.heap/\∀ b∈fp,H' b=Gb) E s1) E s
 done:∀ (X:Cx),X.prog=P->X.w=w->X.K=K->X.calm=true->∀ (i:Nat) (ω:List (Gj×Obj)) (s:Gh) (σ:St) (H:Hp) (E:Gg->Gh->Prop),Inv X ω σ H s->(∀ b∈fp,FpOk X ω H b)->tn i s.heap->J.stop i H ->
  wpAny (model P w) X.A (pyNext (.ref it)) (λr s1=>r=Gb/\Inv X ω σ H s1) E s
 self:∀ (A:Around) (i:Nat) (s:Gh) (Q:Gg->Gh->Prop) (E:Gg->Gh->Prop),tn i s.heap->Q (.ref it) s->wpAny (model P w) A (pyIter (.ref it)) Q E s
abbrev TI:=St->Hp->(It->Hp->Prop)->Prop
def PIE (X:Cx)(ω:List (Gj×Obj))(σ:St)(tg:Expr)(R:It->Hp->Prop)(itv:Gg)(s2:Gh):Prop :=
 ∃ (it:Gj) (fp:List Gj) (tn:Nat->Heap->Prop) (J:It) (H':Hp),itv=.ref it/\Inv X ω σ H' s2/\Turn X.prog X.w X.K tg J fp it tn/\tn 0 s2.heap/\(∀ b∈fp,FpOk X ω H' b)/\R J H'
def PI (X:Cx)(tg iter:Expr)(wi:TI):Prop :=
 ∀ (ω:List (Gj×Obj)) (s:Gh) (σ:St) (H:Hp) (R:It->Hp->Prop),Inv X ω σ H s->wi σ H R ->
  wpAny (model X.prog X.w) X.A (eval iter X.env) (λv s1=>wpAny (model X.prog X.w) X.A (pyIter v) (PIE X ω σ tg R) X.xe s1) X.xe s
theorem go_of {M:Model}{A:Around}{E:Gg->Gh->Prop}{s:Gh}{tg:Expr}{it:Gj}{u:Gg}{o:Obj}{n:String}{vs:Array Gg}{Q:Unit->Gh->Prop}(ho:s.heap.get? it=Ga o)(hc:o.cls=.type n)(hd:o.data=.fields vs)
  (hn:["enumerate","zip","dict_itemiterator","dict_reverseitemiterator","odict_iterator","itertools.zip_longest","itertools.pairwise"].contains n=false) (hQ:Q () s):wpAny M A (letOwnedTupleGo tg (.ref it) u) Q E s:=by
 unfold letOwnedTupleGo;cases tg<;>first
  | exact wpAny_pure hQ
  | (cases u<;>first
    | exact wpAny_pure hQ
    | (refine wpAny_bind (wpAny_load ho ?_)
       rw[hc,hd];show wpAny M A (if (["enumerate","zip","dict_itemiterator","dict_reverseitemiterator","odict_iterator","itertools.zip_longest","itertools.pairwise"].contains n&&vs[0]?==Ga (rawInt _))=true then _ else _) Q E s;rw[Gf (by intro h;rw[hn,qJ] at h;cases h)];exact wpAny_pure hQ))
def Itl (K:ja)(a:Gj):It :=
 ⟨λi H=>∃ xs x,SqL K H a xs/\xs[i]?=Ga x,λi H x H'=>H'=H/\∀ xs,SqL K H a xs->xs[i]?=Ga x,λi H=>∃ xs,SqL K H a xs/\xs.length<=i⟩
def Itt (K:ja)(a:Gj):It :=
 ⟨λi H=>∃ xs x,SqT K H a xs/\xs[i]?=Ga x,λi H x H'=>H'=H/\∀ xs,SqT K H a xs->xs[i]?=Ga x,λi H=>∃ xs,SqT K H a xs/\xs.length<=i⟩
def Itr (lo:Int)(n:Nat):It:=⟨λi _=>i<n,λi H x H'=>H'=H/\x=.int (lo+i),λi _=>n<=i⟩
theorem turn_list {P:Program}{w:World}{K:ja}{tg:Expr}(a it:Gj):Turn P w K tg (Itl K a) [it] it (λi h=>h.IsListIter it a i) where
 mem:=by simp
 obj:=λi h st b hb=>by
  have e:b=it:=by simpa using hb
  subst e;obtain⟨o,e,c,d⟩:=st;exact⟨o,e,λv z=>by rw[d] at z;cases z⟩
 keep:=λi h h' st k=>st.at λo e=>k it (by simp) o e
 item:=by
  intro X hP hw hK hc i ω s σ H E I hf st hg;subst hP hw hK;obtain⟨xs,x,hq,hx⟩:=hg;obtain⟨its,rv,p,hz⟩:=I.list hq;obtain⟨u,hu,ru⟩:=rv.get hx;obtain⟨f0,f1,f2,f3,f4,f5⟩:=hf it (by simp);refine wpAny_pyNext_list_item st p.isList (x:=u) (by simpa using hu) λh' st' sb=>?_;have I1:Inv X ω σ H { s with heap:=h' }:=I.turned (t':=s.toks) (λb o hb e=>(sb.2 b hb).trans e) f0 f1 f3 f4 f5;obtain⟨o,e,c,d⟩:=id st';exact⟨u,rfl,go_of (s:={ s with heap:=h' }) e c d (by decide) ⟨x,H,I1,ru,⟨rfl,λys hy=>by rw[I.list_inj hy hq];exact hx⟩,st',λb hb=>(hf b hb).1⟩⟩
 done:=by
  intro X hP hw hK hc i ω s σ H E I hf st hg;subst hP hw hK;obtain⟨xs,hq,hx⟩:=hg;obtain⟨its,rv,p,hz⟩:=I.list hq;obtain⟨f0,f1,f2,f3,f4,f5⟩:=hf it (by simp);have hl:=rv.length;exact wpAny_pyNext_list_end (I.ok.hd hc) st p.isList (by simp;omega) λh' eb=>⟨rfl,I.turned (t':=s.toks) (λb o hb e=>eb b o hb e) f0 f1 f3 f4 f5⟩
 self:=λ_ _ _ _ _ st h=>wpAny_pyIter_listiter st h
theorem turn_tuple {P:Program}{w:World}{K:ja}{tg:Expr}(a it:Gj):Turn P w K tg (Itt K a) [it] it (λi h=>h.IsTupleIter it a i) where
 mem:=by simp
 obj:=λi h st b hb=>by
  have e:b=it:=by simpa using hb
  subst e;obtain⟨o,e,c,d⟩:=st;exact⟨o,e,λv z=>by rw[d] at z;cases z⟩
 keep:=λi h h' st k=>st.at λo e=>k it (by simp) o e
 item:=by
  intro X hP hw hK hc i ω s σ H E I hf st hg;subst hP hw hK;obtain⟨xs,x,hq,hx⟩:=hg;obtain⟨its,rv,p,hz⟩:=I.tuple hq;obtain⟨u,hu,ru⟩:=rv.get hx;obtain⟨f0,f1,f2,f3,f4,f5⟩:=hf it (by simp);refine wpAny_pyNext_tuple_item st (show s.heap.IsTuple a its.toArray from p) (x:=u) (by simpa using hu) λh' st' sb=>?_;have I1:Inv X ω σ H { s with heap:=h' }:=I.turned (t':=s.toks) (λb o hb e=>(sb.2 b hb).trans e) f0 f1 f3 f4 f5;obtain⟨o,e,c,d⟩:=id st';exact⟨u,rfl,go_of (s:={ s with heap:=h' }) e c d (by decide) ⟨x,H,I1,ru,⟨rfl,λys hy=>by rw[I.tuple_inj hy hq];exact hx⟩,st',λb hb=>(hf b hb).1⟩⟩
 done:=by
  intro X hP hw hK hc i ω s σ H E I hf st hg;subst hP hw hK;obtain⟨xs,hq,hx⟩:=hg;obtain⟨its,rv,p,hz⟩:=I.tuple hq;obtain⟨f0,f1,f2,f3,f4,f5⟩:=hf it (by simp);have hl:=rv.length;exact wpAny_pyNext_tuple_end (I.ok.hd hc) st (show s.heap.IsTuple a its.toArray from p) (by simp;omega) λh' eb=>⟨rfl,I.turned (t':=s.toks) (λb o hb e=>eb b o hb e) f0 f1 f3 f4 f5⟩
 self:=λ_ _ _ _ _ st h=>wpAny_pyIter_tupleiter st h
theorem turn_range {P:Program}{w:World}{K:ja}{tg:Expr}(it:Gj)(lo:Int)(n:Nat):Turn P w K tg (Itr lo n) [it] it (λi h=>IsRangeIter h it (lo+(i:Nat)*1) ((n:Int)-(i:Nat)) 1) where
 mem:=by simp
 obj:=λi h st b hb=>by
  have e:b=it:=by simpa using hb
  subst e;exact⟨_,st,λv z=>by
   have z':Data.fields _=Data.cell v:=z;cases z'⟩
 keep:=λi h h' st k=>k it (by simp) _ st
 item:=by
  intro X hP hw hK hc i ω s σ H E I hf st hg;subst hP hw hK;obtain⟨f0,f1,f2,f3,f4,f5⟩:=hf it (by simp);have W:=Walks.range (prog:=X.prog) (w:=X.w) (I.ok.hd hc) it lo 1 n;refine W.item i s _ _ hg st λv h' tk hv st' kk=>?_;obtain⟨t,rfl⟩:=hv;have I1:Inv X ω σ H { s with heap:=h',toks:=tk }:=I.turned (λb o hb e=>kk b o (by simpa using hb) e) f0 f1 f3 f4 f5;refine⟨_,rfl,go_of (s:={ s with heap:=h',toks:=tk }) (n:="range_iterator") st' rfl rfl (by decide) ⟨.int (lo+i),H,I1,⟨t,?_⟩,⟨rfl,rfl⟩,st',λb hb=>(hf b hb).1⟩⟩;rw[Int.mul_one]
 done:=by
  intro X hP hw hK hc i ω s σ H E I hf st hg;subst hP hw hK;obtain⟨f0,f1,f2,f3,f4,f5⟩:=hf it (by simp);exact wpAny_pyNext_range_end (I.ok.hd hc) st (by have:n<=i:=hg;omega) λh' eb=>⟨rfl,I.turned (t':=s.toks) (λb o hb e=>eb b o hb e) f0 f1 f3 f4 f5⟩
 self:=λ_ _ _ _ _ st h=>wpAny_pyIter_rangeiter st h
end L2
namespace L2
open PySem PySem.Spec PyProof.Rows
section
variable {X:Cx}{tg:Expr}
theorem range_it {ω:List (Gj×Obj)}{σ:St}{H:Hp}{s:Gh}{R:It->Hp->Prop}{E:Gg->Gh->Prop}{lo hi:Int}{t u v:Tok}{tk:Nat}(I:Inv X ω σ H s)(h1:-(2^62)<=lo)(h2:lo<2^62)(h3:-(2^62)<=hi)(h4:hi<2^62)
  (q:R (Itr lo (hi-lo).toNat) H):wpAny (model X.prog X.w) X.A (pyIter (.ref s.heap.objs.size)) (PIE X ω σ tg R) E { s with heap:=s.heap.push { cls:=.type "range",data:=.fields #[.int lo t,.int hi u,.int 1 v] },toks:=tk }:=by
 refine wpAny_pyIter_range (IsRange.new ..) (small_one h1 h2 h3 h4) ?_;have I1:Inv X ω σ H { s with heap:=s.heap.push { cls:=.type "range",data:=.fields #[.int lo t,.int hi u,.int 1 v] },toks:=tk }:=I.kept λb o e=>jg _ e;refine⟨(s.heap.push { cls:=.type "range",data:=.fields #[.int lo t,.int hi u,.int 1 v] }).objs.size,[(s.heap.push { cls:=.type "range",data:=.fields #[.int lo t,.int hi u,.int 1 v] }).objs.size],_,_,H,rfl,
  I1.kept (t':=tk) λb o e=>jg _ e,turn_range _ lo (hi-lo).toNat,?_,λb hb=>?_,q⟩
 .have e1:lo+((0:Nat):Int)*1=lo:=by simp
  have e2:(((hi-lo).toNat:Nat):Int)-((0:Nat):Int)=qt lo hi 1:=by rw[rangeSize_one];split<;>omega
  show IsRangeIter _ _ (lo+((0:Nat):Int)*1) ((((hi-lo).toNat:Nat):Int)-((0:Nat):Int)) 1;rw[e1,e2];exact jv _ rfl
 .have e:b=(s.heap.push { cls:=.type "range",data:=.fields #[.int lo t,.int hi u,.int 1 v] }).objs.size:=by simpa using hb
  subst e;exact I1.fpOk (jo _) (I1.hok.fresh (jo _))
def iRng1 (ta:TA):TI:=λσ H R=>ta σ H λvs H1=>∃ j:Int,vs=[.int j]/\-(2^62)<=j/\j<2^62/\R (Itr 0 j.toNat) H1
def iRng2 (ta:TA):TI:=λσ H R=>ta σ H λvs H1=>∃ i j:Int,vs=[.int i,.int j]/\(-(2^62)<=i/\i<2^62/\-(2^62)<=j/\j<2^62)/\R (Itr i (j-i).toNat) H1
theorem pi_range1 {a:Expr}{ta:TA}{p pos:Pos}(hg:Gl X "range")(hm:X.mg "range"=Gb)(ha:PA X [a] ta)(hs:starEach [a] X.env=[(false,eval a X.env)]:=by rfl):PI X tg (.Call (.Name "range" p) [a] [] pos) (iRng1 ta):=by
 intro ω s σ H R I h;refine Call_ (ld_blt I hg hm boot_range (PyProof.Rows.callWith_type1 (thn (ha pos ω s σ H _ I h) λus s1 ⟨vs,H1,I1,r1,q1⟩=>?_) hs rfl));obtain⟨j,e,q1,q2,q⟩:=q1;subst e;cases r1 with
 | cons r rr =>
  cases rr;obtain⟨t,rfl⟩:=r;exact call_range_1 (range_it I1 (by omega) (by omega) q1 q2 (by simpa using q))
theorem pi_range2 {a b:Expr}{ta:TA}{p pos:Pos}(hg:Gl X "range")(hm:X.mg "range"=Gb)(ha:PA X [a,b] ta)(hs:starEach [a,b] X.env=[(false,eval a X.env),(false,eval b X.env)]:=by rfl)(hs2:starEach [b] X.env=[(false,eval b X.env)]:=by rfl) :
  PI X tg (.Call (.Name "range" p) [a,b] [] pos) (iRng2 ta):=by
 intro ω s σ H R I h;refine Call_ (ld_blt I hg hm boot_range (PyProof.Rows.callWith_type1 (thn (ha pos ω s σ H _ I h) λus s1 ⟨vs,H1,I1,r1,q1⟩=>?_) (by rw[hs,hs2]) (by rw[hs2];rfl)));obtain⟨i,j,e,⟨q1,q2,q3,q4⟩,q⟩:=q1;subst e;cases r1 with
 | cons r rr =>
  cases rr with
  | cons r' rr =>
   cases rr;obtain⟨t,rfl⟩:=r;obtain⟨t',rfl⟩:=r';exact call_range_2 (range_it I1 q1 q2 q3 q4 q)
def tFor (wi:TI)(g:TG)(tb:TS):TS:=λD σ H=>wi σ H λJ H1=>∃ W:Nat->Nat->St->Hp->Prop,(∃ m,W 0 m σ H1)/\∀ i m σ H,W i m σ H ->
 (J.stop i H/\D.nx σ H)\/(J.go i H/\∃ N:St->Hp->Prop,(∀ σ' H',N σ' H'->∃ m',m'<m/\W (i+1) m' σ' H')/\∀ x H',J.yld i H x H'->g x σ H' λσ2 H2=>tb { D with nx:=N,ct:=N,bk:=D.nx } σ2 H2)
def pinsAt (fp:List Gj)(h:Heap):List (Gj×Obj):=fp.filterMap λb=>(h.get? b).map λo=>(b,o)
theorem mem_pinsAt {fp:List Gj}{h:Heap}{b:Gj}{o:Obj}(hb:b∈fp)(e:h.get? b=Ga o):(b,o)∈pinsAt fp h:=uS.mpr ⟨b,hb,by rw[e];rfl⟩
theorem of_pinsAt {fp:List Gj}{h:Heap}{p:Gj×Obj}(hp:p∈pinsAt fp h):p.1∈fp/\h.get? p.1=Ga p.2:=by
 obtain⟨b,hb,e⟩:=uS.mp hp;cases q:h.get? b with
 | none=>rw[q] at e;cases e
 | some o =>
  rw[q] at e;have e':(b,o)=p:=jw e;subst e';exact⟨hb,q⟩
theorem Inv.pinned {ω:List (Gj×Obj)}{σ:St}{H:Hp}{s:Gh}{fp:List Gj}(I:Inv X ω σ H s)(hf:∀ b∈fp,FpOk X ω H b)(ho:∀ b∈fp,∃ o,s.heap.get? b=Ga o/\∀ v,o.data≠.cell v):Inv X (ω++pinsAt fp s.heap) σ H s :=
 I.pins_of λp hp=>(jN.mp hp).elim (λz=>I.pin p (jJ _ z)) λz=>by
  obtain⟨hb,e⟩:=of_pinsAt z;obtain⟨f0,f1,f2,_⟩:=hf p.1 hb;obtain⟨o,e',d⟩:=ho p.1 hb;rw[e] at e';cases e';exact⟨e,f0,f1,f2,d⟩
theorem Inv.unpinned {ω pl:List (Gj×Obj)}{σ:St}{H:Hp}{s:Gh}(I:Inv X (ω++pl) σ H s):Inv X ω σ H s:=I.pins_of λp hp=>I.pin p (jJ _ (uo _ hp))
theorem ps_for {iter:Expr}{body:List Stmt}{wi:TI}{g:TG}{tb:TS}{pos:Pos}(hp:PassesOwn (model X.prog X.w) X.A X.env X.xe)(hc:X.calm=true)(hi:PI X tg iter wi)(hg:PG X tg g)(hb:PSs X body tb)
  (hs:∀ x,foldedSetIterable iter X.env x=pure x:=by intro _;rfl):PS X (.For tg iter body [] pos) (tFor wi g tb):=by
 intro ω s σ H D I h;refine wpAny_For (thn (hi ω s σ H _ I h) λv s1 h1=>thn h1 λitv s2 h2=>?_) hs;obtain⟨it,fp,tn,J,H2,e,I2,T,st2,f2,W,⟨m0,w0⟩,turn⟩:=h2;subst e;have stat:∀ {H':Hp},(∀ b∈fp,H' b=Gb)->∀ b∈fp,FpOk X ω H' b:=λhn b hb=>⟨hn b hb,(f2 b hb).2⟩;refine codeAny_forLoop_any (λn s'=>∃ i σ' H',Inv X ω σ' H' s'/\tn i s'.heap/\(∀ b∈fp,H' b=Gb)/\W i n σ' H') ?_ m0 ⟨0,σ,H2,I2,st2,λb hb=>(f2 b hb).1,w0⟩;rintro n s3 ⟨i,σ3,H3,I3,st3,fr3,w3⟩;rcases turn i n σ3 H3 w3 with ⟨stop,qn⟩|⟨go,N,hN,step⟩
 .refine wpAny_passesOwn hp (thn (T.done X rfl rfl rfl hc i ω s3 σ3 H3 X.xe I3 (stat fr3) st3 stop) λr s4 ⟨hr,I4⟩=>?_);subst hr;exact wpAny_execs_nil ⟨σ3,H3,I4,qn⟩
 .refine wpAny_passesOwn hp (thn (T.item X rfl rfl rfl hc i ω s3 σ3 H3 X.xe I3 (stat fr3) st3 go) λr s4 ⟨u,hr,h4⟩=>?_);subst hr;refine wpAny_passesOwn hp (thn h4 λ_ s5 ⟨x,H5,I5,r5,y5,st5,fr5⟩=>?_);have I5':=I5.pinned (stat fr5) (T.obj _ _ st5);refine wpAny_passesOwn hp (thn (hg _ s5 σ3 H5 x u _ I5' r5 (step x H5 y5)) λ_ s6 ⟨σ6,H6,I6,q6⟩=>?_);refine wpAny_passesOwn hp (thn (hb _ s6 σ6 H6 _ I6 q6) λf s7 q7=>?_);have again:∀ {σ7:St} {H7:Hp},Inv X (ω++pinsAt fp s5.heap) σ7 H7 s7->N σ7 H7->∃ m,m<n/\∃ i σ' H',Inv X ω σ' H' s7/\tn i s7.heap/\(∀ b∈fp,H' b=Gb)/\W i m σ' H':=λ{σ7 H7} I7 n7=>by
   obtain⟨m',hm,w7⟩:=hN σ7 H7 n7;refine⟨m',hm,i+1,σ7,H7,I7.unpinned,T.keep _ _ _ st5 λb hb o e=>(I7.pin (b,o) (jJ _ (jJ _ (mem_pinsAt hb e)))).1,λb hb=>?_,w7⟩;obtain⟨o,e,d⟩:=T.obj _ _ st5 b hb;exact(I7.pin (b,o) (jJ _ (jJ _ (mem_pinsAt hb e)))).2.1
  cases f with
  | next=>obtain⟨σ7,H7,I7,n7⟩:=q7;exact again I7 n7
  | cont=>obtain⟨σ7,H7,I7,n7⟩:=q7;exact again I7 n7
  | brk=>obtain⟨σ7,H7,I7,q7⟩:=q7;exact⟨σ7,H7,I7.unpinned,q7⟩
  | ret v=>obtain⟨x7,σ7,H7,I7,r7,q7⟩:=q7;exact⟨x7,σ7,H7,I7.unpinned,r7,q7⟩
end
end L2
namespace L2
open PySem PySem.Spec PyProof.Rows
abbrev R2:=V->V->Hp->VK->Prop
def OpR (X:Cx)(f:Gg->Gg->Sem Gg)(r:R2):Prop :=
 ∀ (ω:List (Gj×Obj)) (s:Gh) (σ:St) (H:Hp) (x y:V) (v u:Gg) (Q:VK),Inv X ω σ H s->RelV x v->RelV y u->r x y H Q ->
  wpAny (model X.prog X.w) X.A (f v u) (EP X ω σ Q) X.xe s
def UnR (X:Cx)(f:Gg->Sem Gg)(r:V->Hp->VK->Prop):Prop :=
 ∀ (ω:List (Gj×Obj)) (s:Gh) (σ:St) (H:Hp) (x:V) (v:Gg) (Q:VK),Inv X ω σ H s->RelV x v->r x H Q ->
  wpAny (model X.prog X.w) X.A (f v) (EP X ω σ Q) X.xe s
def CallR (X:Cx)(f:Gg)(r:List V->Hp->VK->Prop):Prop :=
 ∀ (ω:List (Gj×Obj)) (s:Gh) (σ:St) (H:Hp) (xs:List V) (us:List Gg) (Q:VK),Inv X ω σ H s->Vals xs us->r xs H Q ->
  wpAny (model X.prog X.w) X.A (call f us) (EP X ω σ Q) X.xe s
def TruR (X:Cx)(r:V->Hp->(Bool->Hp->Prop)->Prop):Prop :=
 ∀ (ω:List (Gj×Obj)) (s:Gh) (σ:St) (H:Hp) (x:V) (v:Gg) (Q:Bool->Hp->Prop),Inv X ω σ H s->RelV x v->r x H Q ->
  wpAny (model X.prog X.w) X.A (truthy v) (TP X ω σ Q) X.xe s
def tOp (r:R2)(ta tb:TE):TE:=λσ H Q=>ta σ H λx H1=>tb σ H1 λy H2=>r x y H2 Q
def tUn (r:V->Hp->VK->Prop)(ta:TE):TE:=λσ H Q=>ta σ H λx H1=>r x H1 Q
def rI (C:Int->Int->Prop)(g:Int->Int->V):R2:=λx y H Q=>∃ i j,x=.int i/\y=.int j/\C i j/\Q (g i j) H
def rI0 (g:Int->Int->V):R2:=λx y H Q=>∃ i j,x=.int i/\y=.int j/\Q (g i j) H
def rU (g:Int->V):V->Hp->VK->Prop:=λx H Q=>∃ i,x=.int i/\Q (g i) H
section
variable {X:Cx}{a b c:Expr}{ta tb tc:TE}{pos:Pos}
theorem binT (ha:PE X a ta)(hb:PE X b tb){ω:List (Gj×Obj)}{s:Gh}{σ:St}{H:Hp}{R:V->V->Hp->Prop}(I:Inv X ω σ H s)
  (h:ta σ H λx H1=>tb σ H1 λy H2=>R x y H2) {Q:Gg->Gh->Prop} {f:Gg->Gg->Sem Gg}
  (hf:∀ v u s2 x y H2,Inv X ω σ H2 s2->RelV x v->RelV y u->R x y H2->wpAny (model X.prog X.w) X.A (f v u) Q X.xe s2) :
  wpAny (model X.prog X.w) X.A (eval a X.env) (λv s₁=>wpAny (model X.prog X.w) X.A (eval b X.env) (λu s₂=>wpAny (model X.prog X.w) X.A (f v u) Q X.xe s₂) X.xe s₁) X.xe s:=by
 refine thn (ha ω s σ H _ I h) λv s1 ⟨x,H1,I1,r1,q1⟩=>?_;refine thn (hb ω s1 σ H1 _ I1 q1) λu s2 ⟨y,H2,I2,r2,q2⟩=>?_;exact hf v u s2 x y H2 I2 r1 r2 q2
theorem pe_op {op:Operator}{r:R2}(ho:OpR X (binaryOp op) r)(ha:PE X a ta)(hb:PE X b tb):PE X (.BinOp a op b pos) (tOp r ta tb):=by
 intro ω s σ H Q I h;exact wpAny_BinOp (binT ha hb I h λv u s2 x y H2 I2 rx ry q=>ho ω s2 σ H2 x y v u Q I2 rx ry q)
theorem pe_un {op:UnaryOp}{r:V->Hp->VK->Prop}(ho:UnR X (unaryOp op) r)(ha:PE X a ta):PE X (.UnaryOp op a pos) (tUn r ta):=by
 intro ω s σ H Q I h;exact UnaryOp_ (thn (ha ω s σ H _ I h) λv s1 ⟨x,H1,I1,r1,q1⟩=>ho ω s1 σ H1 x v Q I1 r1 q1)
theorem opI {f:Gg->Gg->Sem Gg}{C:Int->Int->Prop}{g:Int->Int->Int}
  (rule:∀ (i j:Int) (t u:Tok) (s:Gh) (Q:Gg->Gh->Prop) (E:Gg->Gh->Prop),C i j->Q (.int (g i j) s.toks) { s with toks:=s.toks+1 }->wpAny (model X.prog X.w) X.A (f (.int i t) (.int j u)) Q E s) :
  OpR X f (rI C λi j=>.int (g i j)):=by
 intro ω s σ H x y v u Q I rx ry h;obtain⟨i,j,rfl,rfl,hc,q⟩:=h;obtain⟨t,rfl⟩:=rx;obtain⟨t',rfl⟩:=ry;exact rule i j t t' s _ _ hc ⟨.int (g i j),H,I.tok _,⟨_,rfl⟩,q⟩
theorem opI0 {f:Gg->Gg->Sem Gg}{g:Int->Int->Int}
  (rule:∀ (i j:Int) (t u:Tok) (s:Gh) (Q:Gg->Gh->Prop) (E:Gg->Gh->Prop),Q (.int (g i j) s.toks) { s with toks:=s.toks+1 }->wpAny (model X.prog X.w) X.A (f (.int i t) (.int j u)) Q E s) :
  OpR X f (rI0 λi j=>.int (g i j)):=by
 intro ω s σ H x y v u Q I rx ry h;obtain⟨i,j,rfl,rfl,q⟩:=h;obtain⟨t,rfl⟩:=rx;obtain⟨t',rfl⟩:=ry;exact rule i j t t' s _ _ ⟨.int (g i j),H,I.tok _,⟨_,rfl⟩,q⟩
theorem opB0 {f:Gg->Gg->Sem Gg}{g:Int->Int->Bool}
  (rule:∀ (i j:Int) (t u:Tok) (s:Gh) (Q:Gg->Gh->Prop) (E:Gg->Gh->Prop),Q (.bool (g i j)) s->wpAny (model X.prog X.w) X.A (f (.int i t) (.int j u)) Q E s) :
  OpR X f (rI0 λi j=>.bl (g i j)):=by
 intro ω s σ H x y v u Q I rx ry h;obtain⟨i,j,rfl,rfl,q⟩:=h;obtain⟨t,rfl⟩:=rx;obtain⟨t',rfl⟩:=ry;exact rule i j t t' s _ _ ⟨.bl (g i j),H,I,rfl,q⟩
def CDiv (i j:Int):Prop:=0<j/\j<1073741824
def CPow (i j:Int):Prop:=0<=j/\j<=1000000/\i.natAbs<2^64
def CMul (i j:Int):Prop:=(-(2^64)<i/\i<2^64)\/(-(2^64)<j/\j<2^64)
theorem CMul.ok {i j:Int}(h:CMul i j):IntMulOk i j:=by
 rcases h with ⟨h1,h2⟩|⟨h1,h2⟩
 .exact .of_left (intBits_le_64 h1 h2)
 .exact .of_right (intBits_le_64 h1 h2)
theorem two_pow_nn (k:Nat):(0:Int)<=2^k:=by
 rw[two_pow_cast];exact Int.natCast_nonneg _
theorem op_add:OpR X (binaryOp .Add) (rI0 λi j=>.int (i+j)):=opI0 λ_ _ _ _ _ _ _ q=>add_int q
theorem op_sub:OpR X (binaryOp .Sub) (rI0 λi j=>.int (i-j)):=opI0 λ_ _ _ _ _ _ _ q=>sub_int q
theorem op_mul:OpR X (binaryOp .Mult) (rI CMul λi j=>.int (i*j)):=opI λ_ _ _ _ _ _ _ hc q=>mul_int q hc.ok
theorem op_fdiv:OpR X (binaryOp .FloorDiv) (rI CDiv λi j=>.int (i/j)):=opI λi j _ _ _ _ _ hc q=>by
 have h1:(0:Int)<j:=hc.1;have h2:j<1073741824:=hc.2;exact floordiv_int (by omega) (by rw[qb i (by omega)];exact q) (.inl (PyProof.noPylong_small (by omega)))
theorem op_mod:OpR X (binaryOp .Mod) (rI (λ_ j=>0<j) λi j=>.int (i%j)):=opI λi j _ _ _ _ _ hc q=>by
 have h1:(0:Int)<j:=hc;exact mod_int' (by omega) (by rw[Int.fmod_eq_emod_of_nonneg i (by omega)];exact q)
theorem op_pow:OpR X (binaryOp .Pow) (rI CPow λi j=>.int (i^j.toNat)):=opI λ_ _ _ _ _ _ _ hc q=>pow_int_small hc.1 hc.2.1 hc.2.2 q
theorem op_shl:OpR X (binaryOp .LShift) (rI CPow λi j=>.int (i*2^j.toNat)):=opI λ_ _ _ _ _ _ _ hc q=>lshift_int_small hc.1 hc.2.1 hc.2.2 q
theorem op_shr:OpR X (binaryOp .RShift) (rI (λ_ j=>0<=j) λi j=>.int (i/2^j.toNat)):=opI λi j _ _ _ _ _ hc q =>
 rshift_int hc (by rw[qb i (two_pow_nn _)];exact q)
theorem op_and:OpR X (binaryOp .BitAnd) (rI0 λi j=>.int (kJ i j)):=opI0 λ_ _ _ _ _ _ _ q=>and_int q
theorem unI {f:Gg->Sem Gg}{g:Int->Int}
  (rule:∀ (i:Int) (t:Tok) (s:Gh) (Q:Gg->Gh->Prop) (E:Gg->Gh->Prop),Q (.int (g i) s.toks) { s with toks:=s.toks+1 }->wpAny (model X.prog X.w) X.A (f (.int i t)) Q E s) :
  UnR X f (rU λi=>.int (g i)):=by
 intro ω s σ H x v Q I rx h;obtain⟨i,rfl,q⟩:=h;obtain⟨t,rfl⟩:=rx;exact rule i t s _ _ ⟨.int (g i),H,I.tok _,⟨_,rfl⟩,q⟩
theorem un_neg:UnR X (unaryOp .USub) (rU λi=>.int (-i)):=unI λ_ _ _ _ _ q=>neg_int q
end
section
variable {X:Cx}{a b c:Expr}{ta tb tc:TE}{pos:Pos}
theorem op_lt:OpR X (compareOp .Lt) (rI0 λi j=>.bl (decide (i<j))):=opB0 λ_ _ _ _ _ _ _ q=>lt_int q
theorem op_le:OpR X (compareOp .LtE) (rI0 λi j=>.bl (decide (i<=j))):=opB0 λ_ _ _ _ _ _ _ q=>le_int q
theorem op_gt:OpR X (compareOp .Gt) (rI0 λi j=>.bl (decide (j<i))):=opB0 λ_ _ _ _ _ _ _ q=>gt_int q
theorem nomark (b:Expr){op:CmpOp}(h:op≠.In:=by decide)(h2:op≠.NotIn:=by decide):behindInMarks op b=false:=by
 have e1:(op==CmpOp.In)=false:=by cases op<;>first|rfl|exact absurd rfl h
 have e2:(op==CmpOp.NotIn)=false:=by cases op<;>first|rfl|exact absurd rfl h2
 cases b<;>simp[behindInMarks,e1,e2]
theorem pe_cmpR {op:CmpOp}{r:R2}(ho:OpR X (compareOp op) r)(ha:PE X a ta)(hb:PE X b tb)(hm:behindInMarks op b=false):PE X (.Compare a [op] [b] pos) (tOp r ta tb):=by
 intro ω s σ H Q I h;exact wpAny_Compare1 (binT ha hb I h λv u s2 x y H2 I2 rx ry q=>ho ω s2 σ H2 x y v u Q I2 rx ry q) hm
def tTest (t:TE):TT:=λσ H Q=>t σ H λx H'=>∃ k,x=.bl k/\Q k H'
theorem pt_cmpR {op:CmpOp}{r:R2}(ho:OpR X (compareOp op) r)(ha:PE X a ta)(hb:PE X b tb)(hm:behindInMarks op b=false):PT X (.Compare a [op] [b] pos) (tTest (tOp r ta tb)):=by
 intro ω s σ H Q I h;refine wpAny_isTrue_Compare1 (thn (ha ω s σ H _ I h) λv s1 ⟨x,H1,I1,r1,q1⟩=>thn (hb ω s1 σ H1 _ I1 q1) λu s2 ⟨y,H2,I2,r2,q2⟩ =>
  thn (ho ω s2 σ H2 x y v u _ I2 r1 r2 q2) λc s3 ⟨z,H3,I3,r3,k,e,q3⟩=>?_) hm
 subst e;cases r3;exact wpAny_truthy_bool ⟨H3,I3,q3⟩
def TruV (K:ja)(x:V)(H:Hp)(k:Bool):Prop :=
 match x with
 | .non=>k=false
 | .bl b=>k=b
 | .int i=>k=(i !=0)
 | .str y=>y.length<=sizeLine/\k=((y.length:Int) !=0)
 | .byt y=>y.size<=sizeLine/\k=((y.size:Int) !=0)
 | .ref p=>(∃ xs,SqL K H p xs/\k=!xs.isEmpty)\/(∃ xs,SqT K H p xs/\k=!xs.isEmpty)\/∃ kvs,H p=Ga (.dK kvs)/\k=!kvs.isEmpty
 | _=>False
theorem isEmpty_kv {κ:Type}{kvs:List (κ×V)}{vs:List (κ×Gg)}(r:KV kvs vs):(!vs.isEmpty)=!kvs.isEmpty:=by
 cases r<;>rfl
theorem isEmpty_of {xs:List V}{its:List Gg}(r:Vals xs its):(!its.toArray.isEmpty)=!xs.isEmpty:=by
 cases r<;>simp
theorem line63:(sizeLine:Nat)<2^63:=by rw[sizeLine_eq];decide
theorem tru_ok:TruR X (λx H Q=>∃ k,TruV X.K x H k/\Q k H):=by
 intro ω s σ H x v Q I rx h;obtain⟨k,e,q⟩:=h;have hl:=line63;have hs:sizeLine=16777216:=sizeLine_eq;cases x with
 | non =>
  cases rx;have e':k=false:=e;subst e';exact truthy_none ⟨H,I,q⟩
 | bl b =>
  cases rx;have e':k=b:=e;subst e';exact wpAny_truthy_bool ⟨H,I,q⟩
 | int i =>
  obtain⟨t,rfl⟩:=rx;have e':k=(i !=0):=e;subst e';exact PySem.P.truthy_int ⟨H,I,q⟩
 | str y =>
  obtain⟨t,rfl⟩:=rx;obtain⟨hy,e'⟩:y.length<=sizeLine/\k=((y.length:Int) !=0):=e;subst e';exact PySem.P.truthy_str (by omega) ⟨H,I.tok _,q⟩
 | byt y =>
  obtain⟨t,rfl⟩:=rx;obtain⟨hy,e'⟩:y.size<=sizeLine/\k=((y.size:Int) !=0):=e;subst e';exact PySem.W.truthy_bytes (by omega) ⟨H,I.tok _,q⟩
 | ref p =>
  cases rx;have e':(∃ xs,SqL X.K H p xs/\k=!xs.isEmpty)\/(∃ xs,SqT X.K H p xs/\k=!xs.isEmpty)\/∃ kvs,H p=Ga (.dK kvs)/\k=!kvs.isEmpty:=e;rcases e' with ⟨xs,hx,e'⟩|⟨xs,hx,e'⟩|⟨kvs,hx,e'⟩
  .subst e';obtain⟨its,r,pl,hz⟩:=I.list hx;have hlen:=r.length;exact wpAny_truthy_list pl.isList (by simp only[jy];omega) ⟨H,I.tok _,by rw[isEmpty_of r];exact q⟩
  .subst e';obtain⟨its,r,pl,hz⟩:=I.tuple hx;have hlen:=r.length;exact truthy_tuple pl (by simp only[jy];omega) ⟨H,I.tok _,by rw[isEmpty_of r];exact q⟩
  .subst e';obtain⟨hz,hS,vs,r,m⟩:kvs.length<=sizeLine/\(p==sysModules)=false/\∃ vs,KV kvs vs/\s.heap.DictOf (mixKind X.prog X.w) p vs:=I.hok p _ hx;have hlen:kvs.length=vs.length:=Paired.length r;exact wpAny_truthy_dict hS m (by omega) ⟨H,I.tok _,by rw[isEmpty_kv r];exact q⟩
 | _=>exact(show False from e).elim
theorem pt_truth (ha:PE X a ta)(he:∀ whole,isTrue a X.env whole=(do let v <- whole;standAt a.pos;holding [v] (truthy v))) :
  PT X a (λσ H Q=>ta σ H λx H'=>∃ k,TruV X.K x H' k/\Q k H'):=by
 intro ω s σ H Q I h;exact isTrue_plain (thn (ha ω s σ H _ I h) λv s1 ⟨x,H1,I1,r1,q1⟩=>tru_ok ω s1 σ H1 x v Q I1 r1 q1) (he _)
theorem op_add_str:OpR X (binaryOp .Add) (λx y H Q=>∃ i j,x=.str i/\y=.str j/\i.length+j.length<=sizeLine/\Q (.str (i++j)) H):=by
 intro ω s σ H x y v u Q I rx ry h;obtain⟨i,j,rfl,rfl,hz,q⟩:=h;obtain⟨t,rfl⟩:=rx;obtain⟨t',rfl⟩:=ry;exact add_str (λt' tk=>⟨.str (i++j),H,I.tok _,⟨_,rfl⟩,q⟩) hz
theorem vals1 {x:V}{us:List Gg}(r:Vals [x] us):∃ u,us=[u]/\RelV x u:=by
 cases r with
 | cons r1 r2=>cases r2;exact⟨_,rfl,r1⟩
theorem vals2 {x y:V}{us:List Gg}(r:Vals [x,y] us):∃ u w',us=[u,w']/\RelV x u/\RelV y w':=by
 cases r with
 | cons r1 r2 =>
  cases r2 with
  | cons r3 r4=>cases r4;exact⟨_,_,rfl,r1,r3⟩
theorem call_max2 (hc:X.calm=true):CallR X (.builtin "max") (λxs H Q=>∃ i j,xs=[.int i,.int j]/\Q (.int (if j>i then j else i)) H):=by
 intro ω s σ H xs us Q I r h;obtain⟨i,j,rfl,q⟩:=h;obtain⟨u,w',rfl,⟨t,rfl⟩,⟨t',rfl⟩⟩:=vals2 r;refine max_two_ints (I.ok.hd hc) λh' tk k=>⟨_,H,I.kept k,?_,q⟩;by_cases hj:j>i
 .rw[Ge hj,Ge hj];exact⟨_,rfl⟩
 .rw[Gf hj,Gf hj];exact⟨_,rfl⟩
theorem call_min2 (hc:X.calm=true):CallR X (.builtin "min") (λxs H Q=>∃ i j,xs=[.int i,.int j]/\Q (.int (if j<i then j else i)) H):=by
 intro ω s σ H xs us Q I r h;obtain⟨i,j,rfl,q⟩:=h;obtain⟨u,w',rfl,⟨t,rfl⟩,⟨t',rfl⟩⟩:=vals2 r;refine min_two_ints (I.ok.hd hc) λh' tk k=>⟨_,H,I.kept k,?_,q⟩;by_cases hj:j<i
 .rw[Ge hj,Ge hj];exact⟨_,rfl⟩
 .rw[Gf hj,Gf hj];exact⟨_,rfl⟩
end
end L2
namespace L2
open PySem PySem.Spec PyProof.Rows
structure ObjM (h:Heap)(x dx C:Gj)(mA:Str->Option Gg):Prop where
 obj:h.get? x=Ga (qD C dx)
 ns:h.Ns1 dx mA
 ne:dx≠x
theorem lookIn_ns {h:Heap}{dx:Gj}{mA:Str->Option Gg}(n:h.Ns1 dx mA):∃ od,h.get? dx=Ga od/\∀ name,qK name od=Ga (mA name):=by
 obtain⟨o,es,ep,ho,hd,hk,_,hm⟩:=n;refine⟨o,ho,λname=>?_⟩;have e:=hm name;unfold nsFind findBy at e;rw[<- Array.find?_toList] at e;unfold qK;rw[hd];dsimp only;split
 .rename_i y q;rw[q] at e;exact congrArg Ga e
 .rename_i q;rw[q] at e;have a:es.toList.any (·.refKey)=false:=by
   rw[List.any_eq_false];intro y hy;obtain⟨z,t,hkey⟩:=hk y (uH.mp hy);simp[DictEntry.refKey,hkey]
  have a':¬es.toList.any (·.refKey)=true:=by rw[a];exact jx
  rw[Gf a'];exact congrArg Ga e
theorem ObjM.look {h:Heap}{x dx C:Gj}{mA:Str->Option Gg}(I:ObjM h x dx C mA):∃ od,PySem.W.InstAt h x (qD C dx) C (Ga od)/\∀ name,qK name od=Ga (mA name) :=
 let ⟨od,ho,hl⟩:=lookIn_ns I.ns
 ⟨od,⟨I.obj,rfl,rfl,ho⟩,hl⟩
section
variable {prog:Program}{w:World}{A:Around}{E:Gg->Gh->Prop}{s:Gh}{K:ja}{x dx C f:Gj}{mA:Str->Option Gg}{name:Str}{v:Gg}
end
theorem RelO.some_of {v:V}{o:Option Gg}(r:RelO (Ga v) o):∃ u,o=Ga u/\RelV v u:=by
 cases o with
 | none=>exact(show False from r).elim
 | some u=>exact⟨u,rfl,r⟩
section
variable {P:Program}{w:World}{H H':Hp}{h h':Heap}{a C dx:Gj}{fs fs':List (Str×V)}
end
structure Cls (K:ja)(C:Gj):Prop where
 pg:Ji K C Str.empty=true
 hd:PySem.W.hasDictIn K C=true
 po:PySem.W.plainOver K C=true
 sa:PySem.W.findIn K (.ref C) "__setattr__"=Ga (Ga (.builtin "object.__setattr__"))
theorem Cls.get {K:ja}{C:Gj}(c:Cls K C)(f:Str):Ji K C f=true:=c.pg
section
variable {X:Cx}{ω:List (Gj×Obj)}{σ:St}{H:Hp}{s:Gh}{a C dx:Gj}{fs:List (Str×V)}{f:Str}{v:V}{A:Around}{E:Gg->Gh->Prop}
end
section
variable {X:Cx}{o e value:Expr}{f:Str}{pos pos' tpos:Pos}{ta tv:TE}
end
section
variable {X:Cx}{ω:List (Gj×Obj)}{σ:St}{H:Hp}{s:Gh}{A:Around}{E:Gg->Gh->Prop}{Q:Gg->Gh->Prop}{c:Gg}{b:Bool}
end
end L2
namespace L2
open PySem PySem.Spec PyProof.Rows
structure Room (k:Nat)(A:Around):Prop where
 hd:A.handled=Gb
 dp:A.depth+3*k+5<recursionLimit
 un:A.units+16*k+200<cLine
theorem Room.mono {j k:Nat}{A:Around}(r:Room k A)(h:j<=k):Room j A:=⟨r.hd,by have:=r.dp;omega,by have:=r.un;omega⟩
theorem Room.deeper {k:Nat}{A:Around}(r:Room (k+1) A)(ψ:Env):Room k (A.deeper ψ) :=
 ⟨r.hd,by have:=r.dp;show A.depth+1+3*k+5<_;omega,by have:=r.un;show A.units+3+16*k+200<_;omega⟩
theorem Room.depth {k:Nat}{A:Around}(r:Room k A):A.depth<recursionLimit:=by have:=r.dp;omega
def tNil:TA:=λ_ H Q=>Q [] H
def tCons (ta:TE)(tr:TA):TA:=λσ H Q=>ta σ H λx H1=>tr σ H1 λxs H2=>Q (x::xs) H2
section
variable {X:Cx}{e:Expr}{es:List Expr}{te:TE}{t:TA}{pos:Pos}
theorem pa_nil:PA X [] tNil:=λ_ _ _ _ H Q I h=>qk ⟨[],H,I,.nil,h⟩
theorem pa_cons (ha:PE X e te)(hr:PA X es t)(hs:starEach (e::es) X.env=(false,eval e X.env)::starEach es X.env:=by rfl):PA X (e::es) (tCons te t):=by
 intro pos ω s σ H Q I h;rw[hs];show wpAny _ _ (spliced ((false,eval e X.env)::backTo pos (starEach es X.env))) _ _ s;refine uT (thn (ha ω s σ H _ I h) λu s1 ⟨x,H1,I1,r1,q1⟩=>?_);exact thn (hr pos ω s1 σ H1 _ I1 q1) λus s2 ⟨xs,H2,I2,r2,q2⟩=>⟨x::xs,H2,I2,.cons r1 r2,q2⟩
def tTup (t:TA):TE:=λσ H Q=>t σ H λxs H1=>xs.length<=sizeLine/\∀ p,H1 p=Gb->Q (.ref p) (upd H1 p (.tup xs))
def tLst (t:TA):TE:=λσ H Q=>t σ H λxs H1=>xs.length<=sizeLine/\∀ p,H1 p=Gb->Q (.ref p) (upd H1 p (.lst xs))
theorem pe_tup {x1}(h:PA X es t):PE X (.Tuple es x1 pos) (tTup t):=by
 intro ω s σ H Q I hq;refine wpAny_Tuple_spliced (thn (h pos ω s σ H _ I hq) λus s1 ⟨xs,H1,I1,r,z,q⟩=>⟨by rw[<- r.length];exact z,?_⟩);have hf:H1 s1.heap.objs.size=Gb:=I1.hok.fresh (jo _);refine⟨.ref s1.heap.objs.size,upd H1 s1.heap.objs.size (.tup xs),I1.laid (t':=s1.toks) (λb u e=>jg _ e) (jo _) ?_,rfl,q _ hf⟩;exact⟨z,us,r,⟨_,jv _ rfl,rfl,_,rfl⟩⟩
theorem pe_lst (h:PA X es t):PE X (.List es pos) (tLst t):=by
 intro ω s σ H Q I hq;refine wpAny_List_spliced (thn (h pos ω s σ H _ I hq) λus s1 ⟨xs,H1,I1,r,z,q⟩=>⟨by rw[<- r.length];exact z,?_⟩);have hf:H1 s1.heap.objs.size=Gb:=I1.hok.fresh (jo _);refine⟨.ref s1.heap.objs.size,upd H1 s1.heap.objs.size (.lst xs),I1.laid (t':=s1.toks) (λb u e=>jg _ e) (jo _) ?_,rfl,q _ hf⟩;exact⟨z,us,0,r,jv _ rfl⟩
end
abbrev Sp:=List V->Hp->VK->XK->Prop
abbrev CXT:=List Env->Hp->Gh->XK->Gg->Gh->Prop
structure Env0 (P:Program)(w:World)(K:ja)(mg:Str->Option Gg)(base:Heap)(A:Around)(outer:List Env)(s:Gh)(H:Hp):Prop where
 frames:A.frames=Ga outer
 mod:Mod K mg base
 bs:∀ b o,base.get? b=Ga o->s.heap.get? b=Ga o/\H b=Gb
 bsz:base.objs.size<=s.heap.objs.size
 funs:s.heap.FunFrames base outer
 frf:∀ b∈frs outer,H b=Gb
 hok:HOk P w H s.heap
 bare:AllBare s.gens
def CE (outer:List Env)(P:Program)(w:World)(H:Hp)(s:Gh)(Q:VK)(u:Gg)(s':Gh):Prop :=
 ∃ v H',s'.os=s.os/\AllBare s'.gens/\Un (frs outer) [] H H' s.heap s'.heap/\HOk P w H' s'.heap/\RelV v u/\Q v H'
def CR (CX:CXT)(outer:List Env)(P:Program)(w:World)(H:Hp)(s:Gh)(Q:VK)(E:XK)(r:Result)(s':Gh):Prop :=
 match r with
 | .ok (.ret u)=>CE outer P w H s Q u s'
 | .ok _=>False
 | .error e=>CX outer H s E e s'
structure FnOk (P:Program)(w:World)(K:ja)(mg:Str->Option Gg)(base:Heap)(CX:CXT)(k:Nat)(f:Gj)(fd:Gi)(ps:List Str)(sp:Sp):Prop where
 len:∀ vs H Q E,sp vs H Q E->vs.length=ps.length
 run:∀ (A:Around) (outer:List Env) (s:Gh) (H:Hp) (args:Args) (us:List Gg) (vs:List V) (Q:VK) (E:XK),Room k A->Env0 P w K mg base A outer s H->BindsTo s fd args (ps.zip us)->Vals vs us->sp vs H Q E ->
  codeAny (model P w) A (.call (.ref f) args) (CR CX outer P w H s Q E) s
theorem FnOk.mono {P:Program}{w:World}{K:ja}{mg:Str->Option Gg}{base:Heap}{CX:CXT}{j k:Nat}{f:Gj}{fd:Gi}{ps:List Str}{sp:Sp}(F:FnOk P w K mg base CX j f fd ps sp)(h:j<=k) :
  FnOk P w K mg base CX k f fd ps sp:=⟨F.len,λA outer s H args us vs Q E hr=>F.run A outer s H args us vs Q E (hr.mono h)⟩
theorem FnOk.imp {P:Program}{w:World}{K:ja}{mg:Str->Option Gg}{base:Heap}{CX:CXT}{k:Nat}{f:Gj}{fd:Gi}{ps:List Str}{sp sp':Sp}(F:FnOk P w K mg base CX k f fd ps sp)
  (h:∀ vs H Q E,sp' vs H Q E->sp vs H Q E):FnOk P w K mg base CX k f fd ps sp' :=
 ⟨λvs H Q E q=>F.len vs H Q E (h _ _ _ _ q),λA outer s H args us vs Q E hr he hb hv hs=>F.run A outer s H args us vs Q E hr he hb hv (h _ _ _ _ hs)⟩
section
variable {X:Cx}{ω:List (Gj×Obj)}{σ:St}{H:Hp}{s s':Gh}
theorem Inv.env0 (I:Inv X ω σ H s):Env0 X.prog X.w X.K X.mg X.base X.A X.stack s H :=
 ⟨I.ok.frames,I.ok.mod,I.bs,j9 I.ok.bsz I.sz,I.stack,I.stkFree,I.hok,I.bare⟩
theorem Inv.after {Q:VK}{u:Gg}(I:Inv X ω σ H s)(h:CE X.stack X.prog X.w H s Q u s'):EP X ω σ Q u s':=by
 obtain⟨v,H',os,bare,un,hok,r,q⟩:=h;obtain⟨hh,g,d,t,os'⟩:=s';obtain rfl:os'=s.os:=os;exact⟨v,H',I.call (h':=hh) (g':=g) (d':=d) (t':=t) (ch:=[]) un hok bare (λb z=>absurd z (by simp)),r,q⟩
end
def tCall (sp:Sp)(dvs:List V)(E:XK)(t:TA):TE:=λσ H Q=>t σ H λvs H1=>sp (vs++dvs) H1 Q E
def Binds (K:ja)(fd:Gi)(ps:List Str)(ds:List Gg):Prop :=
 ∀ (s:Gh) (us:List Gg),K.In s.heap->(us++ds).length=ps.length->BindsTo s fd ⟨us,[]⟩ (ps.zip (us++ds))
theorem Binds.all {K:ja}{fd:Gi}{ps:List Str}(h:∀ us:List Gg,us.length=ps.length->bindArgs fd ⟨us,[]⟩=pure (ps.zip us)):Binds K fd ps []:=λs us _ hl=>by
 rw[jX] at hl ⊢;exact .of_eq (h us hl)
def Passes (CX:CXT)(X:Cx)(E:XK):Prop:=∀ (ω:List (Gj×Obj)) (σ:St) (H:Hp) (s:Gh) (e:Gg) (s':Gh),Inv X ω σ H s->CX X.stack H s E e s'->X.xe e s'
section
variable {X:Cx}{CX:CXT}{k:Nat}{f C:Gj}{fd:Gi}{ps:List Str}{sp:Sp}{dvs:List V}{ds:List Gg}{E:XK}{x m:Str}{p pos apos:Pos}{e o:Expr}{es:List Expr}{ta:TE}{t:TA}
theorem run_fn {ω:List (Gj×Obj)}{σ:St}{H:Hp}{s:Gh}{Q:VK}{us:List Gg}{vs:List V}(F:FnOk X.prog X.w X.K X.mg X.base CX k f fd ps sp)(hr:Room k X.A)(hb:Binds X.K fd ps ds)(hd:Vals dvs ds)(hx:Passes CX X E)
  (I:Inv X ω σ H s) (r:Vals vs us) (h:sp (vs++dvs) H Q E):wpAny (model X.prog X.w) X.A (call (.ref f) us) (EP X ω σ Q) X.xe s:=by
 have r2:Vals (vs++dvs) (us++ds):=r.append hd;have hl:(us++ds).length=ps.length:=by rw[<- r2.length];exact F.len _ _ _ _ h
 refine wpAny_call (codeAny_mono (F.run X.A X.stack s H ⟨us,[]⟩ (us++ds) (vs++dvs) Q E hr I.env0 (hb s us I.kIn hl) r2 h) λr s' hq=>?_);cases r with
 | error e=>exact hx ω σ H s e s' I hq
 | ok fl =>
  cases fl with
  | ret u=>exact I.after hq
  | next=>exact False.elim hq
  | brk=>exact False.elim hq
  | cont=>exact False.elim hq
theorem pe_call (F:FnOk X.prog X.w X.K X.mg X.base CX k f fd ps sp)(hr:Room k X.A)(hg:Gl X x)(hm:X.mg x=Ga (.ref f))(hk:uq X.K (.ref f)=true)(hb:Binds X.K fd ps ds)(hd:Vals dvs ds)(hx:Passes CX X E)
  (ha:PA X (e::es) t) (hdb:(x==("__debug__":Str))=false:=by decide) (he:starEach (e::es) X.env=(false,eval e X.env)::starEach es X.env:=by rfl) (hpl:(backTo pos (starEach es X.env)).any (·.1)=false:=by rfl) :
  PE X (.Call (.Name x p) (e::es) [] pos) (tCall sp dvs E t):=by
 intro ω s σ H Q I h;refine wpAny_Call_Name_kw (ld_glob I hg hm ?_ hdb);refine PySem.W.callWith_K (h₀:=X.base) I.ok.mod.kin hk (thn (ha pos ω s σ H _ I h) λus s1 ⟨vs,H1,I1,r,q⟩=>⟨I1.kIn,?_⟩) he hpl;exact run_fn F hr hb hd hx I1 r q
end
section
variable {X:Cx}{CX:CXT}{k:Nat}{f C:Gj}{fd:Gi}{ps ks:List Str}{sp:Sp}{E:XK}{x m:Str}{p pos apos kpos:Pos}{e o:Expr}{es:List Expr}{kws:List Keyword}{te ta:TE}{t tk:TA}{nm:Option Str}
variable {g:List Gg->List Gg->List Gg}{gV:List V->List V->List V}
end
structure FnScope (N P:List Str)(sc:Scope):Prop where
 kind:sc.kind=.function
 co:sc.isCoroutine=false
 gen:sc.isGenerator=false
 nd:N.Nodup
 pre:N.take P.length=P
 par:∀ x∈P,sc.names.lookup x=Ga .local\/sc.names.lookup x=Ga .cell
 nofree:∀ y∈sc.names,y.2≠.free
theorem bindL_out {kindOf:Str->Option NameKind}{x:Str}:∀ {binds:List (Str×Gg)} {m:Str->Option Gg},(∀ v,(x,v)∉binds)->bindL kindOf binds m x=m x
 | [],_,_=>rfl
 | (n,v)::r,m,h=>by
  unfold bindL;rw[bindL_out λw hw=>h w (jm _ hw)];split
  .have:x≠n:=by rintro rfl;exact h v jn
   simp[this]
  .rfl
theorem bindC_out {kindOf:Str->Option NameKind}{x:Str}:∀ {binds:List (Str×Gg)} {m:Str->Option Gg},(∀ v,(x,v)∉binds)->bindC kindOf binds m x=m x
 | [],_,_=>rfl
 | (n,v)::r,m,h=>by
  unfold bindC;rw[bindC_out λw hw=>h w (jm _ hw)];split
  .rfl
  .have:x≠n:=by rintro rfl;exact h v jn
   simp[this]
theorem bindL_get {kindOf:Str->Option NameKind}{x:Str}{v:Gg}:∀ {P:List Str} {vs:List Gg} {i:Nat} {m:Str->Option Gg},P.Nodup->P[i]?=Ga x->vs[i]?=Ga v->kindOf x=Ga .local ->
  bindL kindOf (P.zip vs) m x=Ga v
 | [],_,_,_,_,h,_,_=>by simp at h
 | _::_,[],_,_,_,_,h,_=>by simp at h
 | p::P,w::vs,0,m,nd,h1,h2,hk=>by
  simp at h1 h2;subst h1;subst h2;show bindL kindOf ((p,w)::P.zip vs) m p=_;unfold bindL;rw[bindL_out λv hv=>(jH.mp nd).1 (qE hv).1,Ge hk];simp
 | p::P,w::vs,i+1,m,nd,h1,h2,hk=>by
  show bindL kindOf ((p,w)::P.zip vs) m x=_;unfold bindL;exact bindL_get (i:=i) (jH.mp nd).2 (by simpa using h1) (by simpa using h2) hk
theorem bindC_get {kindOf:Str->Option NameKind}{x:Str}{v:Gg}:∀ {P:List Str} {vs:List Gg} {i:Nat} {m:Str->Option Gg},P.Nodup->P[i]?=Ga x->vs[i]?=Ga v->kindOf x≠Ga .local ->
  bindC kindOf (P.zip vs) m x=Ga v
 | [],_,_,_,_,h,_,_=>by simp at h
 | _::_,[],_,_,_,_,h,_=>by simp at h
 | p::P,w::vs,0,m,nd,h1,h2,hk=>by
  simp at h1 h2;subst h1;subst h2;show bindC kindOf ((p,w)::P.zip vs) m p=_;unfold bindC;rw[bindC_out λv hv=>(jH.mp nd).1 (qE hv).1,Gf hk];simp
 | p::P,w::vs,i+1,m,nd,h1,h2,hk=>by
  show bindC kindOf ((p,w)::P.zip vs) m x=_;unfold bindC;exact bindC_get (i:=i) (jH.mp nd).2 (by simpa using h1) (by simpa using h2) hk
def start (N:List Str)(vs:List V):St:=vs.map Ga++jF (N.length-vs.length) Gb
def cxOf (CX:CXT)(P:Program)(w:World)(K:ja)(mg:Str->Option Gg)(base:Heap)(N:List Str)(qual:Str)(scope:Scope)(f:Gj)(cd:Gg)(A:Around)(outer:List Env)(s:Gh)(H:Hp)(E:XK):Cx where
 prog:=P
 w:=w
 K:=K
 mg:=mg
 base:=base
 A:=A.deeper (envOfC qual scope s.heap.objs.size f cd)
 N:=N
 s₀:=s
 H₀:=H
 env:=envOfC qual scope s.heap.objs.size f cd
 outer:=outer
 stack:=envOfC qual scope s.heap.objs.size f cd::outer
 ex:=[]
 calm:=true
 fn:=λ_=>true
 pn:=[]
 xe:=λe s'=>wpAny (model P w) (A.deeper (envOfC qual scope s.heap.objs.size f cd)) (leaving (envOfC qual scope s.heap.objs.size f cd) e) (λ_ s''=>CX outer H s E e s'') (λe' s''=>CX outer H s E e' s'') s'
theorem cell_has {sc:Scope}{n:Nat}{x:Str}(h:sc.names.lookup x=Ga .cell):∃ c,(cellsFrom n sc.names []).lookup x=Ga c:=by
 have q:=qz sc.names n [] (.inl h);exact qm.mp q
theorem inv_start {CX:CXT}{P:Program}{w:World}{K:ja}{mg:Str->Option Gg}{base:Heap}{N ps:List Str}{qual:Str}{scope:Scope}{f:Gj}{cd:Gg}{A:Around}{outer:List Env}{s s1:Gh}{H:Hp}{E:XK}{us:List Gg}{vs:List V}
  (S:FnScope N ps scope) (hd:A.handled=Gb) (e0:Env0 P w K mg base A outer s H) (hl:vs.length=ps.length) (r:Vals vs us)
  (x:InCallC s s.heap.objs.size (bindL (envOfC qual scope s.heap.objs.size f cd).kindOf (ps.zip us) λ_=>Gb) (cellsFrom (s.heap.objs.size+1) scope.names []) (bindC (envOfC qual scope s.heap.objs.size f cd).kindOf (ps.zip us) λ_=>Gb) s1) :
  Inv (cxOf CX P w K mg base N qual scope f cd A outer s H E) [] (start N vs) H s1:=by
 have hpl:ps.length<=N.length:=by have:=congrArg Jt S.pre;rw[Jj] at this;omega
 obtain⟨h1,tk,rfl,hk⟩:=x.done;have noA:∀ b:Gj,b∉(cxOf CX P w K mg base N qual scope f cd A outer s H E).ex:=λb z=>absurd (show b∈([]:List Gj) from z) (by simp);refine⟨⟨e0.mod,S.kind,rfl,rfl,jo _,λy z c h1 h2=>?_,λy hy=>?_,λy c _ h=>?_,λ_=>hd,Around.frames_deeper e0.frames,.inr ⟨rfl,rfl⟩,λb z=>absurd z (noA b),e0.bs,e0.bsz,λb _ _=>noA b,λb z=>absurd z (noA b),e0.funs,e0.frf⟩,
  rfl,e0.bare,Un.kept hk,⟨_,x.toInCall.ns,λi y v h1 h2 h3=>?_⟩,λy c h=>⟨_,x.cell y c h⟩,e0.hok.fresh (jo _),λy c h=>?_,λp hp=>absurd (show p∈([]:List (Gj×Obj)) from hp) (by simp),e0.hok.kept hk,?_⟩
 .exact name_of_addr x.apart (ui h1) (ui h2)
 .have hy:scope.names.lookup y=Ga .cell\/scope.names.lookup y=Ga .free:=hy;rcases hy with hy|hy
  .exact cell_has hy
  .exact absurd rfl (S.nofree _ (ui hy))
 .exact vC (x.above y c (ui h))
 .have hi:i<vs.length:=by
   unfold start at h2;by_cases hi:i<vs.length
   .exact hi
   .rw[ko (by simpa using hi)] at h2;rw[uu] at h2;split at h2<;>cases h2
  have ha:vs[i]?=Ga v:=by
   unfold start at h2;rw[jW (by simpa using hi),jq] at h2;cases e:vs[i]? with
   | none=>rw[e] at h2;cases h2
   | some a=>rw[e] at h2;cases h2;rfl
  obtain⟨u,hu,rv⟩:=r.get ha;have hp:ps[i]?=Ga y:=by
   rw[<- S.pre,List.getElem?_take_of_lt (by omega)];exact h1
  have ndP:ps.Nodup:=by rw[<- S.pre];exact S.nd.sublist (qZ _ _)
  refine⟨u,rv,?_⟩;rcases S.par y (jL hp) with k|k
  .exact .inl ⟨k,bindL_get ndP hp hu k⟩
  .obtain⟨c,e⟩:=cell_has (n:=s.heap.objs.size+1) k;refine .inr ⟨.inl k,c,e,?_⟩;have q:=x.cell y c e;rw[bindC_get ndP hp hu (by show scope.names.lookup y≠_;rw[k];decide)] at q;exact q
 .exact e0.hok.fresh (vC (x.above y c (ui h)))
 .unfold start;show _=N.length;rw[jB,jd,vK];omega
theorem fn_of {CX:CXT}{P:Program}{w:World}{K:ja}{mg:Str->Option Gg}{base:Heap}{k:Nat}{f:Gj}{name qual:Str}{params:Arguments}{body:List Stmt}{scope:Scope}{dV kV doc pm cdv ct oc:Gg}{an od:Option Gj}
  {osl:Array (Option Gg)} {N ps:List Str} {sp:Sp} (lk:K.lookup f=Ga ⟨oc,od,.func (uc name qual params body scope dV kV doc pm an cdv ct),osl⟩) (hcd:vD K cdv qual=true) (S:FnScope N ps scope)
  (len:∀ vs H Q E,sp vs H Q E->vs.length=ps.length)
  (hbody:∀ (A:Around) (outer:List Env) (s:Gh) (H:Hp) (vs:List V) (Q:VK) (E:XK),Room k (A.deeper (envOfC qual scope s.heap.objs.size f cdv))->sp vs H Q E ->
   ∃ t,PSs (cxOf CX P w K mg base N qual scope f cdv A outer s H E) body t/\t { nx:=λ_ H'=>Q .non H',rt:=Q } (start N vs) H) :
  FnOk P w K mg base CX (k+1) f (uc name qual params body scope dV kV doc pm an cdv ct) ps sp:=by
 refine⟨len,λA outer s H args us vs Q E hr e0 hb r hsp=>?_⟩;have hl:=len _ _ _ _ hsp;have KX:K.In s.heap:=e0.mod.kin.keeps λb o e=>(e0.bs b o e).1;have lim:s.heap.NoLimit:=e0.mod.nolimit.keeps λb o e=>(e0.bs b o e).1;have hkind:∀ y∈ps.zip us,scope.names.lookup y.1=Ga .local\/(scope.names.lookup y.1=Ga .cell/\((cellsFrom (s.heap.objs.size+1) scope.names []).lookup y.1).isSome=true):=λ⟨n,v⟩ hy=>by
  rcases S.par n (qE hy).1 with q|q
  .exact .inl q
  .exact .inr ⟨q,qz _ _ _ (.inl q)⟩
 refine codeAny_call_function hr.depth (KX _ _ lk) rfl S.co S.gen rfl (PySem.W.codeRec_of KX hcd) (hb _ _ _ _ ?_);refine wpAny_newFunctionEnv_cells S.kind hkind λψ he s1 x=>?_;subst he;refine⟨lim.keeps x.toInCall.keep,codeAny_func ?_⟩;obtain⟨t,ht,hq⟩:=hbody A outer s H vs Q E (hr.deeper _) hsp;have I:Inv (cxOf CX P w K mg base N qual scope f cdv A outer s H E) [] (start N vs) H s1:=inv_start S hr.hd e0 hl r x;refine wpAny_mono (ht [] s1 (start N vs) H _ I hq) (λfl s' hs=>?_) λe s' hs=>hs;have fin:∀ {σ':St} {H':Hp} {v:V} {u:Gg},Inv (cxOf CX P w K mg base N qual scope f cdv A outer s H E) [] σ' H' s'->RelV v u->Q v H'->CE outer P w H s Q u s' :=
  λ{σ' H' v u} J rv q=>⟨v,H',J.os,J.bare,J.base,J.hok,rv,q⟩
 cases fl with
 | ret u =>
  obtain⟨v,σ',H',J,rv,q⟩:=hs;exact fin J rv q
 | next =>
  obtain⟨σ',H',J,q⟩:=hs;exact fin (v:=V.non) (u:=jT) J rfl q
 | brk =>
  obtain⟨_,_,_,q⟩:=hs;exact False.elim q
 | cont =>
  obtain⟨_,_,_,q⟩:=hs;exact False.elim q
end L2
namespace L2
open PySem PySem.Spec PyProof.Rows
section
variable {X:Cx}{x:Str}{p pos:Pos}{e:Expr}{es:List Expr}{t:TA}{id T:String}{r:List V->Hp->VK->Prop}
def tCB (r:List V->Hp->VK->Prop)(t:TA):TE:=λσ H Q=>t σ H λvs H1=>r vs H1 Q
theorem pe_callB (hc:CallR X (.builtin id) r)(hg:Gl X x)(hm:X.mg x=Gb)(hv:bootBuiltins x=Ga (.builtin id))(ha:PA X (e::es) t)(hn:x≠"__name__":=by decide)(hdb:(x==("__debug__":Str))=false:=by decide)
  (he:starEach (e::es) X.env=(false,eval e X.env)::starEach es X.env:=by rfl) (hpl:(backTo pos (starEach es X.env)).any (·.1)=false:=by rfl):PE X (.Call (.Name x p) (e::es) [] pos) (tCB r t):=by
 intro ω s σ H Q I h;refine wpAny_Call_Name_kw (ld_blt I hg hm hv ?_ hn hdb);exact PyProof.Rows.callWith_builtin1 (thn (ha pos ω s σ H _ I h) λus s1 ⟨vs,H1,I1,r1,q1⟩=>hc ω s1 σ H1 vs us Q I1 r1 q1) he hpl
theorem pe_callTy (hc:CallR X (.type T) r)(hg:Gl X x)(hm:X.mg x=Gb)(hv:bootBuiltins x=Ga (.type T))(ha:PA X (e::es) t)(hn:x≠"__name__":=by decide)(hdb:(x==("__debug__":Str))=false:=by decide)
  (he:starEach (e::es) X.env=(false,eval e X.env)::starEach es X.env:=by rfl) (hpl:(backTo pos (starEach es X.env)).any (·.1)=false:=by rfl):PE X (.Call (.Name x p) (e::es) [] pos) (tCB r t):=by
 intro ω s σ H Q I h;refine wpAny_Call_Name_kw (ld_blt I hg hm hv ?_ hn hdb);exact PyProof.Rows.callWith_type1 (thn (ha pos ω s σ H _ I h) λus s1 ⟨vs,H1,I1,r1,q1⟩=>hc ω s1 σ H1 vs us Q I1 r1 q1) he hpl
end
end L2
namespace HT
open PySem PyProof.Rows
section
open PySem.SeqAt
open PySem.AutoSeq1 (wpAny_loadPart')
open PySem.MeetsSeq PySem.MeetsSeq2 PySem.MeetsSeq3
end
section
variable {prog:Program}{w:World}{A:Around}{E:Gg->Gh->Prop}{s:Gh}
theorem cat_tup {t b:Gj}{vs ws:List Gg}{Q:Gg->Gh->Prop}(ht:IsTup s.heap t vs.toArray)(hb:IsTup s.heap b ws.toArray)(hv:vs≠[])
  (h1:ws=[]->Q (.ref t) s) (h2:ws≠[]->Q (.ref s.heap.objs.size) { s with heap:=s.heap.push { cls:=.type "tuple",data:=.seq (vs++ws).toArray } })
  (hsz:vs.length+ws.length<=sizeLine):wpAny (model prog w) A (binaryOp .Add (.ref t) (.ref b)) Q E s:=by
 obtain⟨⟨cls,dd,data,sl⟩,ho,hc,n,hd⟩:=id ht;obtain⟨⟨cls2,dd2,data2,sl2⟩,ho2,hc2,n2,hd2⟩:=id hb;simp only at hc hd hc2 hd2;subst hc hd hc2 hd2;have e:vs.toArray++ws.toArray=(vs++ws).toArray:=by simp
 by_cases hw:ws=[]
 .exact concat_meets ⟨_,ho,rfl⟩ ⟨_,ho2,rfl⟩ noFill_tuple_add seq_tuple_add vE vz (vg _ _)
   (tuple_addW1 t b vs.toArray ws.toArray n n2 dd dd2 sl sl2 (by simpa using hv) (by simp[hw])) ⟨ho,ho2,h1 hw⟩
 .refine concat_meets ⟨_,ho,rfl⟩ ⟨_,ho2,rfl⟩ noFill_tuple_add seq_tuple_add vE vz (vg _ _)
   (tuple_addW2 t b vs.toArray ws.toArray n n2 dd dd2 sl sl2 (by simpa using hv) (by simpa using hw) (by rw[jy,jy];exact hsz)) ⟨ho,ho2,?_⟩
  rw[e];exact h2 hw
def sIx (n d:Nat):Option Int->Nat
 | none=>d
 | some v=>if v<0 then(v+(n:Int)).toNat else min v.toNat n
end
end HT
namespace L2
open PySem PySem.Spec PyProof.Rows
abbrev TO:=St->Hp->(Option Int->Hp->Prop)->Prop
def PO (X:Cx)(e:Option Expr)(t:TO):Prop :=
 ∀ (ω:List (Gj×Obj)) (s:Gh) (σ:St) (H:Hp) (Q:Option Int->Hp->Prop),Inv X ω σ H s->t σ H Q ->
  wpAny (model X.prog X.w) X.A (evalPart e X.env) (λu s'=>∃ o H',Inv X ω σ H' s'/\IsPart u o/\Q o H') X.xe s
section
variable {X:Cx}{e:Expr}{te:TE}{lo hi:Option Expr}{tl th:TO}{pos p2:Pos}
def SlR (X:Cx)(r:V->Option Int->Option Int->Hp->VK->Prop):Prop :=
 ∀ (ω:List (Gj×Obj)) (s:Gh) (σ:St) (H:Hp) (x:V) (v vl vu:Gg) (lo hi:Option Int) (sl:Gj) (Q:VK),Inv X ω σ H s->RelV x v->s.heap.IsSliceOf sl vl vu .none->IsPart vl lo->IsPart vu hi->r x lo hi H Q ->
  ∃ T id,typeLookup (.type T) "__getitem__"=pure (Ga (.builtin id))/\s.TypeIs v T/\wpAny (model X.prog X.w) X.A (getItem v (.ref sl)) (EP X ω σ Q) X.xe s
def cutV (xs:List V)(lo hi:Option Int):List V:=(xs.drop (HT.sIx xs.length 0 lo)).take (HT.sIx xs.length xs.length hi-HT.sIx xs.length 0 lo)
theorem cutV_length (xs:List V)(lo hi:Option Int):(cutV xs lo hi).length<=xs.length:=by
 unfold cutV;rw[Jj,Jk];omega
def rCatT (K:ja):R2:=λx y H Q=>∃ a b xs ys,x=.ref a/\y=.ref b/\SqT K H a xs/\SqT K H b ys/\xs≠[]/\xs.length+ys.length<=sizeLine /\
 (ys=[]->Q (.ref a) H)/\(ys≠[]->∀ p,H p=Gb->Q (.ref p) (upd H p (.tup (xs++ys))))
theorem Vals.nil_iff {xs:List V}{us:List Gg}(r:Vals xs us):us=[]↔xs=[]:=by
 cases r with
 | nil=>simp
 | cons _ _=>simp
theorem op_catT:OpR X (binaryOp .Add) (rCatT X.K):=by
 intro ω s σ H x y v u Q I rx ry h;obtain⟨a,b,xs,ys,rfl,rfl,ha,hb,hx,hz,q1,q2⟩:=h;cases rx;cases ry;obtain⟨its,r1,p1,_⟩:=I.tuple ha;obtain⟨its2,r2,p2,_⟩:=I.tuple hb;refine HT.cat_tup p1 p2 (λz=>hx (r1.nil_iff.mp z)) (λz=>⟨.ref a,H,I,rfl,q1 (r2.nil_iff.mp z)⟩) (λz=>?_) (by rw[<- r1.length,<- r2.length];exact hz);refine⟨.ref s.heap.objs.size,_,I.laid (t':=s.toks) (o:=.tup (xs++ys)) (λb ob q=>jg _ q) (jo _) ?_,rfl,q2 (λw=>z (r2.nil_iff.mpr w)) _ (I.hok.fresh (jo _))⟩;exact⟨by rw[jB];exact hz,_,r1.append r2,IsTup.new _ _⟩
end
end L2
namespace L2
open PySem PySem.Spec PyProof.Rows
def ixN (n:Nat)(i:Int):Option Nat:=if 0<=i then(if i<n then Ga i.toNat else Gb) else if -(n:Int)<=i then Ga (i+n).toNat else Gb
def atI {α:Type}(xs:List α)(i:Int):Option α:=(ixN xs.length i).bind λj=>xs[j]?
theorem ixN_seq {n:Nat}{i:Int}{j:Nat}(h:ixN n i=Ga j):seqIndex? i n=Ga j/\j<n/\-(n:Int)<=i/\i<n:=by
 unfold ixN at h;by_cases h0:0<=i
 .rw[Ge h0] at h;by_cases h1:i<n
  .rw[Ge h1] at h;have e:i.toNat=j:=jw h;exact⟨by rw[seqIndex_of h0 h1,e],by omega,by omega,h1⟩
  .rw[Gf h1] at h;cases h
 .rw[Gf h0] at h;by_cases h1:-(n:Int)<=i
  .rw[Ge h1] at h;have e:(i+n).toNat=j:=jw h;exact⟨by rw[seqIndex_neg (by omega) h1,e],by omega,h1,by omega⟩
  .rw[Gf h1] at h;cases h
theorem atI_get {α:Type}{xs:List α}{i:Int}{v:α}(h:atI xs i=Ga v):∃ j,seqIndex? i xs.length=Ga j/\xs[j]?=Ga v/\j<xs.length/\-(xs.length:Int)<=i/\i<xs.length:=by
 unfold atI at h;cases e:ixN xs.length i with
 | none=>rw[e] at h;cases h
 | some j =>
  rw[e] at h;obtain⟨h1,h2,h3,h4⟩:=ixN_seq e;exact⟨j,h1,h,h2,h3,h4⟩
theorem atI_nat {α:Type}{xs:List α}{j:Nat}{v:α}(h:xs[j]?=Ga v):atI xs (j:Int)=Ga v:=by
 have hj:j<xs.length:=(je.mp h).1;have e:ixN xs.length (j:Int)=Ga j:=by
  unfold ixN;rw[Ge (by omega),Ge (by omega)];simp
 unfold atI;rw[e];exact h
theorem atI_last {α:Type}(xs:List α)(v:α):atI (xs++[v]) (-1)=Ga v:=by
 have hl:(xs++[v]).length=xs.length+1:=by simp
 have e:ixN (xs++[v]).length (-1)=Ga xs.length:=by
  unfold ixN;rw[hl,Gf (by decide),Ge (by omega)]
  congr 1
  omega
 unfold atI;rw[e];show(xs++[v])[xs.length]?=Ga v;simp
def PlainIx (b:Expr):Prop:=∀ o i,subscripted b false o i=operate [o,i] (getItem o i)
def IxR (X:Cx)(r:R2):Prop :=
 ∀ (value slice:Expr) (ω:List (Gj×Obj)) (s:Gh) (σ:St) (H:Hp) (x y:V) (v u:Gg) (Q:VK),Inv X ω σ H s->RelV x v->RelV y u->r x y H Q ->
  subscripted slice false v u=operate [v,u] (getItem v u)->wpAny (model X.prog X.w) X.A (subscriptTail value slice v u) (EP X ω σ Q) X.xe s
def MtR (X:Cx)(id:String)(r:V->List V->Hp->VK->Prop):Prop :=
 ∀ (ω:List (Gj×Obj)) (s:Gh) (σ:St) (H:Hp) (x:V) (xs:List V) (v:Gg) (us:List Gg) (Q:VK),Inv X ω σ H s->RelV x v->Vals xs us->r x xs H Q ->
  wpAny (model X.prog X.w) X.A (call (.builtin id) (v::us)) (EP X ω σ Q) X.xe s
section
variable {X:Cx}{a b:Expr}{ta tb:TE}{pos:Pos}
theorem IxR.or {r r':R2}(h:IxR X r)(h':IxR X r'):IxR X (λx y H Q=>r x y H Q\/r' x y H Q):=by
 intro value slice ω s σ H x y v u Q I rx ry q hs;rcases q with q|q
 .exact h value slice ω s σ H x y v u Q I rx ry q hs
 .exact h' value slice ω s σ H x y v u Q I rx ry q hs
theorem pe_ix {r:R2}(hr:IxR X r)(ha:PE X a ta)(hb:PE X b tb)(hs:PlainIx b):PE X (.Subscript a b pos) (tOp r ta tb):=by
 intro ω s σ H Q I h;exact Subscript_ (binT ha hb I h λv u s2 x y H2 I2 rx ry q=>hr a b ω s2 σ H2 x y v u Q I2 rx ry q (hs _ _))
def rIxL (K:ja):R2:=λx y H Q=>∃ p xs i v,x=.ref p/\y=.int i/\SqL K H p xs/\atI xs i=Ga v/\Q v H
def rIxT (K:ja):R2:=λx y H Q=>∃ p xs i v,x=.ref p/\y=.int i/\SqT K H p xs/\atI xs i=Ga v/\Q v H
def rIxS:R2:=λx y H Q=>∃ z i c,x=.str z/\y=.int i/\z.length<=sizeLine/\atI z.cps.toList i=Ga c/\Q (.str ⟨#[c]⟩) H
theorem ix_list:IxR X (rIxL X.K):=by
 intro value slice ω s σ H x y v u Q I rx ry h hs;obtain⟨p,xs,i,z,rfl,rfl,hq,he,q⟩:=h;cases rx;obtain⟨t,rfl⟩:=ry;obtain⟨its,r,pl,hz⟩:=I.list hq;obtain⟨j,h1,h2,h3,h4,h5⟩:=atI_get he;obtain⟨w,ew,rw'⟩:=r.get h2;have hl:=r.length;have hn:=line63;have fin:EP X ω σ Q w s:=⟨z,H,I,rw',q⟩;by_cases h0:0<=i
 .have hj:i.toNat=j:=by
   rw[seqIndex_of h0 h5] at h1;exact jw h1
  exact item_listR pl.isList h0 (by omega) (by rw[hj];simpa using ew) fin hs
 .have hj:(i+(its.toArray.size:Int)).toNat=j:=by
   rw[seqIndex_neg (by omega) h4] at h1;rw[jy,<- hl];exact jw h1
  exact subscriptTail_builtinR (x:=w) pl.isList.typeIs slot_list_getitem.lookup
   (wpAny_getItem_list_neg (Q:=λr s'=>r=w/\EP X ω σ Q r s') pl.isList (by omega) (by rw[jy]<;>omega) (by omega) (by rw[hj];simpa using ew) ⟨rfl,fin⟩) hs
theorem ix_tup:IxR X (rIxT X.K):=by
 intro value slice ω s σ H x y v u Q I rx ry h hs;obtain⟨p,xs,i,z,rfl,rfl,hq,he,q⟩:=h;cases rx;obtain⟨t,rfl⟩:=ry;obtain⟨its,r,pl,hz⟩:=I.tuple hq;obtain⟨j,h1,h2,h3,h4,h5⟩:=atI_get he;obtain⟨w,ew,rw'⟩:=r.get h2;have hl:=r.length;have hn:=line63;have fin:EP X ω σ Q w s:=⟨z,H,I,rw',q⟩;exact subscriptTail_builtinR (x:=w) pl.typeIs slot_tuple_getitem.lookup
  (getItem_tuple (j:=j) (Q:=λr s'=>r=w/\EP X ω σ Q r s') pl (by omega) (by omega) (by rw[jy,<- hl];exact h1) (by simpa using ew) ⟨rfl,fin⟩) hs
theorem ix_str:IxR X rIxS:=by
 intro value slice ω s σ H x y v u Q I rx ry h hs;obtain⟨z,i,c,rfl,rfl,hz,he,q⟩:=h;obtain⟨t,rfl⟩:=rx;obtain⟨t',rfl⟩:=ry;obtain⟨j,h1,h2,h3,h4,h5⟩:=atI_get he;have hl:z.cps.toList.length=z.length:=by simp[Str.length]
 rw[hl] at h1 h4 h5;have hn:=line63;exact tail_any (typeIs_str s z t) slot_str_getitem.lookup (getItem_str (c:=c) (by
  have e1:decide (i < -(2^63:Int))=false:=Gd (by omega);have e2:decide (i≥2^63)=false:=Gd (by omega);rw[e1,e2,qT]) (by rw[h1];simpa using h2) ⟨.str ⟨#[c]⟩,H,I.tok _,⟨_,rfl⟩,q⟩) hs
def rIx (K:ja):R2:=λx y H Q=>rIxL K x y H Q\/rIxT K x y H Q\/rIxS x y H Q
theorem ix_seq:IxR X (rIx X.K):=ix_list.or (ix_tup.or ix_str)
theorem mapSeq_set (its:List Gg)(n j:Nat)(u:Gg):j3 (·.setIfInBounds j u) { cls:=.type "list",data:=.seq its.toArray n }={ cls:=.type "list",data:=.seq (its.set j u).toArray n }:=by
 simp[j3]
theorem Inv.lst {ω:List (Gj×Obj)}{σ:St}{H:Hp}{s:Gh}{p:Gj}{xs:List V}(I:Inv X ω σ H s)(h:H p=Ga (.lst xs)) :
  ∃ (its:List Gg) (n:Nat),Vals xs its/\s.heap.get? p=Ga { cls:=.type "list",data:=.seq its.toArray n }/\xs.length<=sizeLine:=by
 obtain⟨z,its,n,r,e⟩:=I.hok p _ h;exact⟨its,n,r,e,z⟩
theorem Inv.lstUpd {ω:List (Gj×Obj)}{σ:St}{H:Hp}{s:Gh}{p:Gj}{xs ys:List V}{its its':List Gg}{n n':Nat}{f:Obj->Obj}(I:Inv X ω σ H s)(h:H p=Ga (.lst xs))
  (ho:s.heap.get? p=Ga { cls:=.type "list",data:=.seq its.toArray n }) (hf:f { cls:=.type "list",data:=.seq its.toArray n }={ cls:=.type "list",data:=.seq its'.toArray n' }) (r:Vals ys its') (hz:ys.length<=sizeLine) (t:Nat) :
  Inv X ω σ (upd H p (.lst ys)) { s with heap:=s.heap.update p f,toks:=t }:=by
 have e:(s.heap.update p f).get? p=Ga { cls:=.type "list",data:=.seq its'.toArray n' }:=by
  rw[j4 f ho (by rw[hf]<;>rfl),hf]
 refine I.write (x:=p) (e:=p) (by rw[h];trivial) (.inl rfl) (λb u hb q=>(kF _ _ (kY hb)).trans q) ⟨_,e⟩ ?_;exact⟨hz,its',n',r,e⟩
def rSetL:V->V->V->Hp->(Hp->Prop)->Prop:=λo i v H Q=>∃ p xs k j,o=.ref p/\i=.int k/\H p=Ga (.lst xs)/\ixN xs.length k=Ga j/\Q (upd H p (.lst (xs.set j v)))
theorem set_list:PSet X rSetL:=by
 intro ω s σ H o i v ov iv u Q I ro ri rv h;obtain⟨p,xs,k,j,rfl,rfl,hp,hj,q⟩:=h;cases ro;obtain⟨t,rfl⟩:=ri;obtain⟨its,n,r,ho,hz⟩:=I.lst hp;obtain⟨h1,h2,h3,h4⟩:=ixN_seq hj;have hl:=r.length;have hn:=line63;have I':Inv X ω σ (upd H p (.lst (xs.set j v))) { s with heap:=s.heap.update p (j3 (·.setIfInBounds j u)) } :=
  I.lstUpd hp ho (mapSeq_set its n j u) (r.set rv j) (by rw[uY];exact hz) s.toks
 by_cases h0:0<=k
 .have hk:k.toNat=j:=by
   rw[seqIndex_of h0 h4] at h1;exact jw h1
  exact PySem.W.ki_setAt ho h0 (by omega) (by rw[jy,<- hl];exact h4) (by rw[hk];exact⟨_,I',q⟩)
 .have hk:(k+(its.toArray.size:Int)).toNat=j:=by
   rw[seqIndex_neg (by omega) h3] at h1;rw[jy,<- hl];exact jw h1
  exact PySem.W.ki_setBack ho (by omega) (by rw[jy,<- hl];exact h3) (by omega) (by rw[hk];exact⟨_,I',q⟩)
theorem slice_bounds (lo hi:Option Int)(n:Nat):(sliceBounds lo hi Gb n).1=((HT.sIx n 0 lo:Nat):Int)/\(sliceBounds lo hi Gb n).2.1=((HT.sIx n n hi:Nat):Int)/\(sliceBounds lo hi Gb n).2.2=1:=by
 refine⟨?_,?_,rfl⟩
 .cases lo with
  | none=>simp[sliceBounds,HT.sIx]
  | some i =>
   simp only[sliceBounds,HT.sIx,Jl,show(1:Int)>0 by decide,if_true];by_cases h:i<0
   .simp only[h,if_true]<;>omega
   .simp only[h,if_false]<;>omega
 .cases hi with
  | none=>simp[sliceBounds,HT.sIx]
  | some i =>
   simp only[sliceBounds,HT.sIx,Jl,show(1:Int)>0 by decide,if_true];by_cases h:i<0
   .simp only[h,if_true]<;>omega
   .simp only[h,if_false]<;>omega
theorem slicePick_cut (its:List Gg)(lo hi:Option Int):slicePick its.toArray lo hi Gb=((its.drop (HT.sIx its.length 0 lo)).take (HT.sIx its.length its.length hi-HT.sIx its.length 0 lo)).toArray:=by
 obtain⟨h1,h2,h3⟩:=slice_bounds lo hi its.toArray.size;unfold slicePick;rw[h1,h2,h3];simp only[sliceRange_one,pick_run,jy]<;>rfl
def rSlL (K:ja):V->Option Int->Option Int->Hp->VK->Prop:=λx lo hi H Q=>∃ a xs,x=.ref a/\SqL K H a xs/\∀ p,H p=Gb->Q (.ref p) (upd H p (.lst (cutV xs lo hi)))
theorem sl_list:SlR X (rSlL X.K):=by
 intro ω s σ H x v vl vu lo hi sl Q I rx hs pl pu h;obtain⟨a,xs,rfl,hx,q⟩:=h;cases rx;obtain⟨its,r,ht,hz⟩:=I.list hx;have hlen:=r.length;refine⟨"list",_,slot_list_getitem.lookup,ht.isList.typeIs,?_⟩;refine wpAny_getItem_list_slice ht.isList hs pl pu .none (by simp) ?_ (by rw[jy]<;>omega);rw[slicePick_cut,<- hlen];refine⟨.ref s.heap.objs.size,_,I.laid (t':=s.toks) (o:=.lst (cutV xs lo hi)) (λb ob q=>jg _ q) (jo _) ?_,rfl,q _ (I.hok.fresh (jo _))⟩;exact⟨j9 (cutV_length xs lo hi) hz,_,0,(r.drop (HT.sIx xs.length 0 lo)).take (HT.sIx xs.length xs.length hi-HT.sIx xs.length 0 lo),jv _ rfl⟩
theorem call_len_seq:CallR X (.builtin "len") (λxs H Q=>∃ p ys,xs=[.ref p]/\(SqL X.K H p ys\/SqT X.K H p ys)/\Q (.int ys.length) H):=by
 intro ω s σ H xs us Q I r h;obtain⟨p,ys,rfl,hq,q⟩:=h;obtain⟨u,rfl,rx⟩:=vals1 r;cases rx;have hn:=line63;rcases hq with hq|hq
 .obtain⟨its,r',pl,hz⟩:=I.list hq;have hlen:=r'.length;exact Calls.call_len_list pl.isList (by simp only[jy]<;>omega) ⟨.int ys.length,H,I.tok _,⟨s.toks+1,by rw[jy,hlen]⟩,q⟩
 .obtain⟨its,r',pl,hz⟩:=I.tuple hq;have hlen:=r'.length;exact len_tuple pl (by simp only[jy]<;>omega) ⟨.int ys.length,H,I.tok _,⟨s.toks+1,by rw[jy,hlen]⟩,q⟩
theorem call_list_of:CallR X (.type "list") (λxs H Q=>∃ p ys,xs=[.ref p]/\(SqL X.K H p ys\/SqT X.K H p ys)/\∀ l,H l=Gb->Q (.ref l) (upd H l (.lst ys))):=by
 intro ω s σ H xs us Q I r h;obtain⟨p,ys,rfl,hq,q⟩:=h;obtain⟨u,rfl,rx⟩:=vals1 r;cases rx;have fin:∀ (its:List Gg),Vals ys its->ys.length<=sizeLine->∀ (h':Heap) (c':Nat),(∀ b o',s.heap.get? b=Ga o'->h'.get? b=Ga o') ->
   h'.get? s.heap.objs.size=Ga { cls:=.type "list",dict:=Gb,data:=.seq its.toArray c',slots:=#[] }->EP X ω σ Q (.ref s.heap.objs.size) { s with heap:=h' }:=λits r' hz h' c' kp e =>
  ⟨.ref s.heap.objs.size,_,I.laid (t':=s.toks) kp (jo _) (show ObjOk X.prog X.w _ h' _ (.lst ys) from⟨hz,its,c',r',e⟩),rfl,q _ (I.hok.fresh (jo _))⟩
 rcases hq with hq|hq
 .obtain⟨its,r',pl,hz⟩:=I.list hq;have hlen:=r'.length;obtain⟨o,ho,hc,n,hd⟩:=pl.isList;exact call_list_seq p (.inl rfl) ho hc hd (λh' c' kp e=>fin its r' hz h' c' kp e) (by simp only[jy]<;>omega)
 .obtain⟨its,r',pl,hz⟩:=I.tuple hq;have hlen:=r'.length;obtain⟨o,ho,hc,n,hd⟩:=pl;exact call_list_seq p (.inr rfl) ho hc hd (λh' c' kp e=>fin its r' hz h' c' kp e) (by simp only[jy]<;>omega)
theorem call_tuple_of:CallR X (.type "tuple") (λxs H Q=>∃ p ys,xs=[.ref p]/\((SqL X.K H p ys/\∀ l,H l=Gb->Q (.ref l) (upd H l (.tup ys)))\/(SqT X.K H p ys/\Q (.ref p) H))):=by
 intro ω s σ H xs us Q I r h;obtain⟨p,ys,rfl,h⟩:=h;obtain⟨u,rfl,rx⟩:=vals1 r;cases rx;rcases h with ⟨hq,q⟩|⟨hq,q⟩
 .obtain⟨its,r',pl,hz⟩:=I.list hq;have hlen:=r'.length;refine call_tuple_list pl.isList (λh' kp=>?_) (by simp only[jy]<;>omega);have I1:Inv X ω σ H { s with heap:=h' }:=I.kept (t':=s.toks) kp;have I2:Inv X ω σ (upd H h'.objs.size (.tup ys)) { s with heap:=h'.push { cls:=.type "tuple",data:=.seq its.toArray } } :=
   I1.laid (t':=s.toks) (λb o e=>jg _ e) (jo _) (show ObjOk X.prog X.w _ _ _ (.tup ys) from⟨hz,its,r',IsTup.new _ _⟩)
  exact⟨.ref h'.objs.size,_,I2,rfl,q _ (I1.hok.fresh (jo _))⟩
 .obtain⟨its,r',pl,hz⟩:=I.tuple hq;exact call_tuple_same pl ⟨.ref p,H,I,rfl,q⟩
def tyV (K:ja)(T:String)(x:V)(H:Hp):Prop:=match x with
 | .str _=>T="str"
 | .int _=>T="int"
 | .ref p=>(T="list"/\∃ xs,SqL K H p xs)\/(T="tuple"/\∃ o,K.lookup p=Ga o/\o.cls=.type "tuple"/\o.dict=Gb) \/
   (T="dict"/\((∃ kvs,H p=Ga (.dK kvs))\/∃ kvs,H p=Ga (.dT kvs)))\/(T="set"/\∃ S n,H p=Ga (.set S n))
 | _=>False
theorem tyV_is {ω:List (Gj×Obj)}{σ:St}{H:Hp}{s:Gh}{T:String}{x:V}{v:Gg}(I:Inv X ω σ H s)(r:RelV x v)(ty:tyV X.K T x H) :
  s.TypeIs v T/\∀ a,v=.ref a->∃ ob,s.heap.get? a=Ga ob/\ob.dict=Gb:=by
 cases x with
 | str z =>
  obtain⟨t,rfl⟩:=r;cases(show T="str" from ty);exact⟨typeIs_str s z t,λ_ e=>nomatch e⟩
 | int i =>
  obtain⟨t,rfl⟩:=r;cases(show T="int" from ty);exact⟨typeIs_int s i t,λ_ e=>nomatch e⟩
 | ref p =>
  cases r;rcases ty with ⟨rfl,xs,hq⟩|⟨rfl,o,hk,hc,hd⟩|⟨rfl,hk⟩|⟨rfl,S,n,hk⟩
  .obtain⟨its,_,pl,_⟩:=I.list hq;refine⟨pl.isList.typeIs,λa e=>?_⟩;cases e;obtain⟨o,n,e,c,hd,_⟩:=pl;exact⟨o,e,hd⟩
  .refine⟨⟨o,I.kIn p o hk,hc⟩,λa e=>?_⟩;cases e;exact⟨o,I.kIn _ o hk,hd⟩
  .have z:∃ o,s.heap.get? p=Ga o/\o.ExactDict:=by
    rcases hk with ⟨kvs,hk⟩|⟨kvs,hk⟩
    .obtain⟨_,_,_,_,o,_,_,e,ex,_⟩:=I.hok p _ hk;exact⟨o,e,ex⟩
    .obtain⟨_,_,_,_,o,_,_,e,ex,_⟩:=I.hok p _ hk;exact⟨o,e,ex⟩
   obtain⟨o,e,ex⟩:=z;refine⟨⟨o,e,ex.1⟩,λa e2=>?_⟩;cases e2;exact⟨o,e,ex.2.1⟩
  .obtain⟨o,_,_,_,e,ex,_⟩:=I.hok p _ hk;refine⟨⟨o,e,ex.1⟩,λa e2=>?_⟩;cases e2;exact⟨o,e,ex.2.1⟩
 | _=>exact False.elim ty
def tBM (K:ja)(T:String)(r:V->List V->Hp->VK->Prop)(to:TE)(t:TA):TE:=λσ H Q=>to σ H λx H1=>tyV K T x H1/\t σ H1 λxs H2=>r x xs H2 Q
variable {o e:Expr}{es:List Expr}{to:TE}{t:TA}{name:Str}{apos cpos:Pos}{T id:String}{r:V->List V->Hp->VK->Prop}
theorem pe_bm (pa:PlainAttrs T)(slot:Slot T name id)(hty:typeOf (.builtin id)=pure (.type "method_descriptor"))(hm:MtR X id r)(ho:PE X o to)(ha:PA X (e::es) t)
  (hbase:attributeBase o name X.env (eval o X.env)=eval o X.env:=by rfl)
  (hfew:((backTo cpos (starEach (e::es) X.env)).all (λx=>!x.1)&&(backToKw cpos (keywordEach [] X.env)).all (λx=>x.1.isSome)
   && decide ((e::es).length+([]:List Keyword).length+(if ([]:List Keyword).isEmpty then 0 else 1)<30))=true:=by rfl)
  (hline:(apos.endLine==cpos.line)=true:=by rfl) (hs:starEach (e::es) X.env=(false,eval e X.env)::starEach es X.env:=by rfl) (hplain:(backTo cpos (starEach es X.env)).any (·.1)=false:=by rfl) :
  PE X (.Call (.Attribute o name apos) (e::es) [] cpos) (tBM X.K T r to t):=by
 intro ω s σ H Q I h;refine wpAny_Call_method_late hbase hfew hline rfl (thn (ho ω s σ H _ I h) λv s1 ⟨x,H1,I1,r1,ty,q1⟩=>?_);obtain⟨h1,h2⟩:=tyV_is I1 r1 ty;refine⟨T,id,pa,slot,hty,h1,h2,?_⟩;have hA:=ha cpos ω s1 σ H1 _ I1 q1;rw[hs] at hA ⊢;refine uU (by show(false||(backTo cpos (starEach es X.env)).any (·.1))=false;rw[hplain]<;>rfl) (vU ?_);exact thn hA λus s2 ⟨vs,H2,I2,r2,q2⟩=>hm ω s2 σ H2 x vs v us Q I2 r1 r2 q2
end
end L2
namespace L2
open PySem PySem.Spec PyProof.Rows
def MtM (X:Cx)(id:String)(r:V->List V->Hp->VK->Prop):Prop :=
 ∀ (ω:List (Gj×Obj)) (s:Gh) (σ:St) (H:Hp) (x:V) (xs:List V) (v:Gg) (us:List Gg) (Q:VK),Inv X ω σ H s->RelV x v->Vals xs us->r x xs H Q ->
  wpAny (model X.prog X.w) X.A (call (.builtin id) (v::us)) (EP X ω σ Q) X.xe s
theorem Vals.one:∀ {x:V} {us:List Gg},Vals [x] us->∃ u,us=[u]/\RelV x u
 | _,_,.cons r .nil=>⟨_,rfl,r⟩
theorem Vals.two:∀ {x y:V} {us:List Gg},Vals [x,y] us->∃ u v,us=[u,v]/\RelV x u/\RelV y v
 | _,_,_,.cons r (.cons q .nil)=>⟨_,_,rfl,r,q⟩
theorem Vals.zero:∀ {us:List Gg},Vals [] us->us=[]
 | _,.nil=>rfl
theorem Vals.rep {xs:List V}{us:List Gg}(h:Vals xs us):∀ k:Nat,Vals (jF k xs).flatten (jF k us).flatten
 | 0=>.nil
 | k+1=>by
  rw[kX,kX,uv,uv];exact Vals.append h (Vals.rep h k)
theorem foldl_rep (its:List Gg):∀ (k:Nat) (acc:List Gg),
  JB (λx1 x2=>x1++x2) acc.toArray (jF k its.toArray)=(acc++(jF k its).flatten).toArray
 | 0,acc=>by simp
 | k+1,acc=>by
  have e:acc.toArray++its.toArray=(acc++its).toArray:=by simp
  have e2:(acc++its)++(jF k its).flatten=acc++(jF (k+1) its).flatten:=by
   rw[kX,uv,kD]
  rw[<- e2,<- foldl_rep its k (acc++its),<- e,kX,Jw]
section
variable {X:Cx}{ω:List (Gj×Obj)}{σ:St}{H:Hp}{s:Gh}{l b:Gj}{xs ys zs:List V}
theorem Inv.lset {its its':List Gg}{n:Nat}{f:Array Gg->Array Gg}{t':Nat}(I:Inv X ω σ H s)(hH:H l=Ga (.lst xs))
  (e:s.heap.get? l=Ga { cls:=.type "list",data:=.seq its.toArray n }) (hf:f its.toArray=its'.toArray) (hv:Vals ys its') (hz:ys.length<=sizeLine) :
  Inv X ω σ (upd H l (.lst ys)) { s with heap:=s.heap.update l (j3 f),toks:=t' }:=by
 have q:=PySem.IsL.update e f;rw[hf] at q;refine I.write (x:=l) (e:=l) (by rw[hH];exact trivial) (.inl rfl) (λb' u hb hu=>(kF s.heap (j3 f) (kY hb)).trans hu) ⟨_,q⟩ ?_;exact⟨hz,its',_,hv,q⟩
theorem Inv.lnew {its:List Gg}{t':Nat}(I:Inv X ω σ H s)(hv:Vals ys its)(hz:ys.length<=sizeLine) :
  Inv X ω σ (upd H s.heap.objs.size (.lst ys)) { s with heap:=s.heap.push { cls:=.type "list",data:=.seq its.toArray },toks:=t' } :=
 I.laid (λ_ _ q=>jg _ q) (jo _) ⟨hz,its,0,hv,jv _ rfl⟩
theorem Inv.fresh (I:Inv X ω σ H s):H s.heap.objs.size=Gb:=I.hok.fresh (jo _)
theorem Inv.lstM (I:Inv X ω σ H s)(hH:H l=Ga (.lst xs)):xs.length<=sizeLine/\∃ (its:List Gg) (n:Nat),Vals xs its/\xs.length=its.length/\s.heap.get? l=Ga { cls:=.type "list",data:=.seq its.toArray n }:=by
 obtain⟨z,its,n,r,e⟩:=I.hok l _ hH;exact⟨z,its,n,r,r.length,e⟩
theorem notLongL {n:Nat}(h:n<=sizeLine):vh n=false:=by
 unfold vh;exact Gd (by omega)
end
section
variable {X:Cx}
def rAppend:V->List V->Hp->VK->Prop:=λx vs H Q=>∃ l xs y,x=.ref l/\vs=[y]/\H l=Ga (.lst xs)/\xs.length<sizeLine/\Q .non (upd H l (.lst (xs++[y])))
theorem mt_append:MtM X "list.append" rAppend:=by
 intro ω s σ H x vs v us Q I rx rv h;obtain⟨l,xs,y,rfl,rfl,hH,hz,q⟩:=h;cases rx;obtain⟨u,rfl,ru⟩:=rv.one;obtain⟨z,its,n,r,hl,e⟩:=I.lstM hH;refine call_meets F.slot_list_append ⟨_,e,rfl⟩ F.entry_list_append (F.args_list_append_2 _ _) (PySem.list_append l its.toArray n u (by rw[jy];omega)) ⟨e,?_⟩;refine⟨.non,_,I.lset (its':=its++[u]) hH e (by simp) (r.append (.cons ru .nil)) ?_,rfl,q⟩;rw[jB,kL];omega
def rRep:R2:=λx y H Q=>∃ l k xs,x=.ref l/\y=.int k/\H l=Ga (.lst xs)/\-(2^63)<=k/\k<2^63/\xs.length*k.toNat<=sizeLine /\
 ∀ p,H p=Gb->Q (.ref p) (upd H p (.lst (jF k.toNat xs).flatten))
theorem len_rep {α:Type}(xs:List α)(k:Nat):(jF k xs).flatten.length=k*xs.length:=by
 induction k with
 | zero=>simp
 | succ k ih=>rw[kX,uv,jB,ih,Nat.succ_mul,Nat.add_comm]
theorem op_rep:OpR X (binaryOp .Mult) rRep:=by
 intro ω s σ H x y v u Q I rx ry h;obtain⟨l,k,xs,rfl,rfl,hH,h1,h2,hz,q⟩:=h;cases rx;obtain⟨t,rfl⟩:=ry;obtain⟨z,its,n,r,hl,e⟩:=I.lstM hH;have hlen:its.toArray.size*k.toNat<=sizeLine:=by rw[jy,<- hl];exact hz
 have hcap:¬its.toArray.size*k.toNat>(2^63-1)/8:=by
  have:(sizeLine:Nat)<=(2^63-1)/8:=by decide
  omega
 have hfit:¬(!Builtin.List.listFitsIndex k)=true:=by
  rw[fitsIndex_both h1 h2];exact jx
 have hlong:¬vh (its.toArray.size*k.toNat)=true:=by
  rw[notLongL hlen];exact jx
 have hnew:JB (λx1 x2=>x1++x2) #[] (jF (if its.toArray.isEmpty=true then 0 else k.toNat) its.toArray)=(jF k.toNat its).flatten.toArray:=by
  have f0:∀ m:Nat,JB (λx1 x2=>x1++x2) #[] (jF m its.toArray)=(jF m its).flatten.toArray:=λm=>by
   have:=foldl_rep its m [];rw[List.nil_append] at this;exact this
  rw[f0];cases its with
  | nil=>simp
  | cons a r'=>rw[Gf (by simp)]
 refine wpAny_binaryOp_repeat_ref (T:="list") (U:="int") (by decide) ⟨_,e,rfl⟩ (λs'=>typeIs_int s' k t) noFill_list_mul F.fills_int_mul F.slot_int_rmul repeat_list F.slot_int_index.lookup
  (call_meets F.slot_int_rmul (typeIs_int s k t) F.entry_int_rmul (F.args_int_rmul_2 _ _) (int___rmul___int_list k t l its.toArray n)
   ⟨e,rfl,⟨_,e,rfl⟩,call_meets F.slot_list_mul ⟨_,e,rfl⟩ F.entry_list_mul (F.args_list_mul_2 _ _) (AutoListH.list___mul___list_int_3 l its.toArray n k t hfit hcap hlong) ⟨e,?_⟩⟩)
 rw[hnew];exact⟨.ref _,_,I.lnew (t':=s.toks) (r.rep k.toNat) (by rw[len_rep,Nat.mul_comm];exact hz),rfl,q _ I.fresh⟩
end
section
variable {prog:Program}{w:World}{A:Around}{E:Gg->Gh->Prop}{s:Gh}
end
section
variable {X:Cx}
end
end L2
namespace Att
open PySem PySem.W PySem.Calls PyProof.Rows
theorem ints_of_wellAll {P:Params}{h:Heap}:∀ (ns:List Int) (vs:List Gg),WellAll P h vs (ns.map WData.int)->IntsAre vs ns:=by
 intro ns;induction ns with
 | nil =>
  intro vs w;rw[Ja] at w;cases w;exact .nil
 | cons n ns ih =>
  intro vs w;rw[jR] at w;cases w with
  | cons a b =>
   cases a;exact .cons _ _ (ih _ b)
theorem script_of {l:OpenLaw}{n:Nat}(hn:l.most=Ga n){P:Params}{h:Heap}{args:List WData}{vals:List Gg}
  (hpre:l.row.toRowW.claim.pre args=true) (hwl:WellAll P h vals args) :
  ∃ a vs ns,vals=[uk a]/\args=[WData.list (ns.map WData.int)]/\h.get? a=Ga { cls:=.type "list",data:=.seq vs.toArray }/\IntsAre vs ns/\ns.length<=n:=by
 have hsh:WShape.hasAll [] args [.list .int]=true:=(pre_splitW hpre).1;have hc:l.pre.holds [] { args:=args }=true:=(pre_splitW hpre).2;obtain⟨d,r,rfl,h1,h2⟩:=hasAllW_cons hsh;obtain rfl:=hasAllW_nil h2;obtain⟨xs,rfl,h3⟩:=hasW_list h1;obtain⟨ns,rfl⟩:=items_int h3;have hlen:ns.length<=n:=by
  unfold OpenLaw.pre at hc;have h4:(WTm.not (.lt (.lit (.int (n:Int))) (.len (.arg 0)))).holds [] { args:=[.list (ns.map .int)] }=true:=by
   have h4:=(holds_andW hc).1;rw[hn] at h4;exact h4
  have h5:=condW_of h4 (w_not (w_lt w_lit (w_len_list (w_arg rfl))));rw[jd] at h5;refine Nat.le_of_not_lt λq=>?_;have q':(n:Int)<((ns.length:Nat):Int):=by omega
  first
   | (rw[Gc q'] at h5;exact absurd h5 (by decide))
   | (simp at h5;omega)
 cases hwl with
 | cons w1 w2 =>
  cases w2;cases w1 with
  | list ho hall=>exact⟨_,_,ns,rfl,rfl,ho,ints_of_wellAll ns _ hall,hlen⟩
theorem post_true (l:OpenLaw)(args:List WData):l.row.toRowW.claim.post args (.bool true) args=true :=
 postW_of (r:=l.row.toRowW) (X:=(true==true))
  (show WShape.has [] (.bool true) .bool=true by first|rfl|decide|simp[WShape.has,WShape.arms,WShape.armsAll])
  (show(WTm.eq .res (.lit (.bool true))).value [] { args:=args,res:=Ga (.bool true),after:=args }=Ga (.bool (true==true)) from w_eq_bool (w_res rfl) w_lit) rfl
theorem attach_call {l:OpenLaw}{n:Nat}{q:Program}{loose:List Str}{XP:(Str->Option Gg)->Heap->Prop}{YP:World->Heap->Prop}{d:DefRec}
  (hn:l.most=Ga n) (hdf:d.params.defaults=[])
  (call:∀ (w:World) (s₀ s₁:Gh) (mg mb:Str->Option Gg) (fa:Gj) (o:Obj) (pm cd doc:Gg) (a:Gj) (vs:List Gg) (ns:List Int),
   Ground q loose [] XP w s₀ mg mb s₁.heap->YP w s₁.heap ->
   s₁.heap.get? fa=Ga o->o.data=.func (docDef d.name d.params d.body d.scope pm cd doc)->s₁.heap.CodeRec cd d.name->mg d.name=Ga (.ref fa) ->
   s₁.heap.get? a=Ga { cls:=.type "list",data:=.seq vs.toArray }->IntsAre vs ns->ns.length<=n->s₁.gens=#[] ->
   codeAny (model l.prog w) callerA (.call (.ref fa) ⟨[.ref a],[]⟩) (λr s'=>r=.ok (.ret (.bool true))/\OldK s₁.heap s'.heap/\s'.os=s₁.os/\AllBare s'.gens) s₁) :
  WalkO q loose XP YP l.row.toRowW d [] (λf vs=>JC f vs):=by
 intro w s₀ s₁ mg mb G Y fa o pm cd doc dV kV ho hd hcd hD hmg hg args vals as hpre hlay hrd hwl hlo;obtain rfl:dV=.none:=Dflts.none hD hdf;obtain rfl:kV=.none:=Dflts.noKw hD;obtain⟨a,vs,ns,rfl,rfl,hobj,hints,hlen⟩:=script_of hn hpre hwl;refine enter_call (codeAny_mono (call w s₀ s₁ mg mb fa o pm cd doc a vs ns G Y ho (fd_plain hd) hcd hmg hobj hints hlen hg) λr s' hq=>?_);obtain⟨rfl,h2,h3,h4⟩:=hq;exact⟨.inl ⟨.bool true,.bool true,[],rfl,λ_=>rfl,.bool true,post_true l _,λ_=>⟨List.Pairwise.nil,λ_ hm=>(nomatch hm)⟩⟩,h2,h3,h4⟩
section
variable {prog:Program}{w:World}{A:Around}{E:Gg->Gh->Prop}{s:Gh}{K:Frag}
end
end Att
namespace L2
open PySem PySem.Spec PyProof.Rows
theorem vals_ints:∀ {vs:List Gg} {ns:List Int},IntsAre vs ns->Vals (ns.map V.int) vs
 | _,_,.nil=>.nil
 | _,_,.cons n t h=>.cons ⟨t,rfl⟩ (vals_ints h)
def Only (H:Hp):Prop:=∀ b,H b=Gb\/∃ o xs,H b=Ga (.frz o (.lst xs))
theorem law_call {P:Program}{w:World}{K:ja}{mg mb:Str->Option Gg}{CX:CXT}{k:Nat}{fa a:Gj}{fd:Gi}{x:Str}{sp:Sp}{s₁:Gh}{vs:List Gg}{ns:List Int}
  (KX:K.In s₁.heap) (hns:s₁.heap.Ns mainGlobals mg) (hb:s₁.heap.Ns builtinsNs mb) (hbb:∀ x:Str,x≠"__name__"->mb x=bootBuiltins x) (hlim:s₁.heap.NoLimit) (hg:s₁.gens=#[])
  (ha:s₁.heap.get? a=Ga { cls:=.type "list",data:=.seq vs.toArray }) (hi:IntsAre vs ns) (hl:ns.length<=sizeLine) (hr:Room k callerA)
  (F:∀ base:Heap,K.In base->base.Ns mainGlobals mg->FnOk P w K mg base CX k fa fd [x] sp) (hbind:∀ (s:Gh) (u:Gg),BindsTo s fd ⟨[u],[]⟩ [(x,u)])
  (hsp:∀ H:Hp,Only H->SqL K H a (ns.map V.int)->sp [.ref a] H (λv _=>v=.bl true) λ_ _ _=>False)
  (hCX:∀ H e s',CX [] H s₁ (λ_ _ _=>False) e s'->False) :
  codeAny (model P w) callerA (.call (.ref fa) ⟨[.ref a],[]⟩) (λr s'=>r=.ok (.ret (.bool true))/\OldK s₁.heap s'.heap/\s'.os=s₁.os/\AllBare s'.gens) s₁:=by
 have rv:=vals_ints hi;have lenV:=hi.length;have core:∀ H:Hp,Only H->SqL K H a (ns.map V.int)->HOk P w H s₁.heap->(∀ b,H b≠Gb->b=a)->(H a≠Gb->K.lookup a=Gb) ->
   codeAny (model P w) callerA (.call (.ref fa) ⟨[.ref a],[]⟩) (λr s'=>r=.ok (.ret (.bool true))/\OldK s₁.heap s'.heap/\s'.os=s₁.os/\AllBare s'.gens) s₁:=by
  intro H hO hS hok hA hK;have base_of:∀ {b:Gj} {o:Obj},s₁.heap.get? b=Ga o->H b=Gb->(hidT s₁.heap H).get? b=Ga o:=λe n=>hidT_get e n;have noA:∀ {b:Gj} {o:Obj} {es:Array DictEntry} {ep:Nat},s₁.heap.get? b=Ga o->o.data=.dict es ep->H b=Gb:=λ{b o es ep} e d=>by
   cases q:H b with
   | none=>rfl
   | some u =>
    have e':b=a:=hA b (by rw[q];simp);subst e';rw[ha] at e;cases e;have d':Data.seq vs.toArray _=Data.dict es ep:=d;cases d'
  have nsK:∀ {b:Gj} {m:Str->Option Gg},s₁.heap.Ns b m->(hidT s₁.heap H).Ns b m:=λ{b m} ⟨o,es,ep,e,d,r⟩=>⟨o,es,ep,base_of e (noA e d),d,r⟩;have hKb:K.In (hidT s₁.heap H):=λb o e=>base_of (KX b o e) (by
   cases q:H b with
   | none=>rfl
   | some u =>
    have e':b=a:=hA b (by rw[q];simp);subst e';rw[hK (by rw[q];simp)] at e;cases e)
  have hM:Mod K mg (hidT s₁.heap H):=⟨hKb,nsK hns,⟨mb,nsK hb,hbb⟩,let ⟨mc,h1,h2⟩:=hlim;⟨mc,nsK h1,h2⟩⟩;have e0:Env0 P w K mg (hidT s₁.heap H) callerA [] s₁ H:=⟨rfl,hM,λb o e=>of_hidT e,Nat.le_of_eq (hidT_size _ _),trivial,λb hb=>absurd (show b∈([]:List Gj) from hb) (by simp),hok,.of_eq hg⟩;refine codeAny_mono ((F _ hKb (nsK hns)).run callerA [] s₁ H ⟨[.ref a],[]⟩ [.ref a] [.ref a] _ _ hr e0 (hbind s₁ (.ref a)) (.cons rfl .nil) (hsp H hO hS)) λr s' h=>?_;cases r with
  | error e=>exact(hCX H e s' h).elim
  | ok fl =>
   cases fl with
   | next=>exact False.elim h
   | brk=>exact False.elim h
   | cont=>exact False.elim h
   | ret u =>
    obtain⟨v,H',os,bare,un,hok',r',q⟩:=h;have q':v=.bl true:=q;subst q';obtain rfl:u=Value.bool true:=r';refine⟨rfl,OldK.of_keep λb o e=>?_,os,bare⟩;cases q:H b with
    | none=>exact un.keep b o e q (by intro z;exact absurd (show b∈([]:List Gj) from z) (by simp)) (by simp)
    | some u =>
     rcases hO b with z|⟨ob,xs,z⟩
     .rw[q] at z;cases z
     .have z2:=un.frzs b ob _ z;obtain⟨e1,_⟩:=hok b _ z;obtain⟨e2,_⟩:=hok' b _ z2;rw[e] at e1;cases e1;exact e2
 cases hk:K.lookup a with
 | some o =>
  have e:=KX a o hk;rw[ha] at e;cases e;refine core (λ_=>Gb) (λ_=>.inl rfl) (.inr ⟨_,vs.toArray,_,hk,rfl,rfl,rfl,by rw[jy,lenV];exact hl,by simpa using rv⟩) (λb u z=>by have z':(Gb:Option HO)=Ga u:=z;cases z') (λb z=>absurd rfl z) λz=>absurd rfl z
 | none =>
  refine core (λb=>if b=a then Ga (.frz { cls:=.type "list",data:=.seq vs.toArray } (.lst (ns.map V.int))) else Gb) (λb=>?_) (.inl (.inr ⟨{ cls:=.type "list",data:=.seq vs.toArray },Ge rfl⟩)) (λb u z=>?_) (λb z=>?_) λ_=>hk
  .by_cases hb:b=a
   .exact .inr ⟨_,_,Ge hb⟩
   .exact .inl (Gf hb)
  .by_cases hb:b=a
   .have z':=(Ge hb).symm.trans z;cases z';subst hb;exact⟨ha,by rw[jd];exact hl,vs,_,rv,ha⟩
   .have z':=(Gf hb).symm.trans z;cases z'
  .by_cases hb:b=a
   .exact hb
   .exact absurd (Gf hb) z
end L2
namespace L2
open PySem PySem.Spec PyProof.Rows
theorem walk_of {l:Jx}{n k:Nat}{q:Program}{loose:List Str}{XP:(Str->Option Gg)->Heap->Prop}{YP:World->Heap->Prop}{d:DefRec}{K:Params->ja}{CX:World->CXT}{sp:World->Sp}{x:Str}
  (hn:l.most=Ga n) (hn2:n<=sizeLine) (hdf:d.params.defaults=[]) (hr:Room k callerA)
  (hY:∀ (w:World) (h:Heap),YP w h->(K w.params).In h)
  (F:∀ (w:World) (mg:Str->Option Gg) (fa:Gj) (h:Heap),(K w.params).In h->h.Ns mainGlobals mg->mg d.name=Ga (.ref fa) ->
   ∃ fd:Gi,(∀ (s:Gh) (u:Gg),BindsTo s fd ⟨[u],[]⟩ [(x,u)]) /\
    ∀ base:Heap,(K w.params).In base->base.Ns mainGlobals mg->FnOk l.prog w (K w.params) mg base (CX w) k fa fd [x] (sp w))
  (hsp:∀ (w:World) (H:Hp) (a:Gj) (ns:List Int),ns.length<=n->Only H->SqL (K w.params) H a (ns.map V.int)->sp w [.ref a] H (λv _=>v=.bl true) λ_ _ _=>False)
  (hCX:∀ (w:World) (H:Hp) (s:Gh) (e:Gg) (s':Gh),CX w [] H s (λ_ _ _=>False) e s'->False) :
  JJ q loose XP YP l.row.toRowW d [] (λf vs=>JC f vs):=by
 refine Att.attach_call hn hdf λw s₀ s₁ mg mb fa o pm cd doc a vs ns G Y ho hd hcd hmg hobj hints hlen hg=>?_;have KX:=hY w _ Y;obtain⟨fd,hb,hF⟩:=F w mg fa _ KX G.T.g hmg;exact law_call KX G.T.g G.T.b G.T.builtins G.T.nolimit hg hobj hints (j9 hlen hn2) hr hF hb (λH hO hS=>hsp w H a ns hlen hO hS) λH e s'=>hCX w H s₁ e s'
theorem walk_ofK {l:Jx}{n k:Nat}{q:Program}{loose:List Str}{XP:(Str->Option Gg)->Heap->Prop}{YP:World->Heap->Prop}{d:DefRec}{K:Params->ja}{CX:CXT}{sp:ja->Sp}{x:Str}
  (hn:l.most=Ga n) (hn2:n<=sizeLine) (hdf:d.params.defaults=[]) (hr:Room k callerA)
  (hY:∀ (w:World) (h:Heap),YP w h->(K w.params).In h)
  (F:∀ (w:World) (mg:Str->Option Gg) (fa:Gj) (h:Heap),(K w.params).In h->h.Ns mainGlobals mg->mg d.name=Ga (.ref fa) ->
   ∃ fd:Gi,(∀ (s:Gh) (u:Gg),BindsTo s fd ⟨[u],[]⟩ [(x,u)]) /\
    ∀ base:Heap,(K w.params).In base->base.Ns mainGlobals mg->FnOk l.prog w (K w.params) mg base CX k fa fd [x] (sp (K w.params)))
  (hsp:∀ (K:ja) (H:Hp) (a:Gj) (ns:List Int),ns.length<=n->Only H->SqL K H a (ns.map V.int)->sp K [.ref a] H (λv _=>v=.bl true) λ_ _ _=>False)
  (hCX:∀ (H:Hp) (s:Gh) (e:Gg) (s':Gh),CX [] H s (λ_ _ _=>False) e s'->False) :
  JJ q loose XP YP l.row.toRowW d [] (λf vs=>JC f vs) :=
 walk_of (K:=K) (CX:=λ_=>CX) (sp:=λw=>sp (K w.params)) hn hn2 hdf hr hY F (λw H a ns h1 h2 h3=>hsp (K w.params) H a ns h1 h2 h3) λ_ H s e s'=>hCX H s e s'
end L2
namespace L2
open PySem PySem.Spec PyProof.Rows
def defArgs (s:Stmt):Arguments:=match s with
 | .FunctionDef _ a _ _ _ _ _ _ _ _=>a
 | _=>{ posonlyargs:=[],args:=[],vararg:=Gb,kwonlyargs:=[],kw_defaults:=[],kwarg:=Gb,defaults:=[] }
def defBody (s:Stmt):List Stmt:=match s with
 | .FunctionDef _ _ b _ _ _ _ _ _ _=>b
 | _=>[]
def defScope (s:Stmt):Scope:=match s with
 | .FunctionDef _ _ _ _ _ _ sc _ _ _=>sc
 | _=>{ kind:=.function,names:=[],isGenerator:=false,isCoroutine:=false }
abbrev CX0:CXT:=λ_ _ _ _ _ _=>False
abbrev E0:XK:=λ_ _ _=>False
theorem pass0 {X:Cx}:Passes CX0 X E0:=λ_ _ _ _ _ _ _ h=>h.elim
structure Fun (K:ja)(x qual:Str)(st:Stmt)(f:Gj)(fd:Gi):Prop where
 ex:∃ (oc:Gg) (od:Option Gj) (kV doc pm:Gg) (an:Option Gj) (cdv ct:Gg) (osl:Array (Option Gg)),
  fd=uc x qual (defArgs st) (defBody st) (defScope st) .none kV doc pm an cdv ct/\K.lookup f=Ga ⟨oc,od,.func fd,osl⟩/\vD K cdv qual=true
 kp:uq K (.ref f)=true
section
variable {P:Program}{w:World}{K:ja}{mg:Str->Option Gg}{base:Heap}
theorem Fun.ok {x qual:Str}{st:Stmt}{f:Gj}{fd:Gi}{N ps:List Str}{k:Nat}{sp:Sp}(F:Fun K x qual st f fd)(S:FnScope N ps (defScope st))(len:∀ vs H Q E,sp vs H Q E->vs.length=ps.length)
  (hbody:∀ (cdv:Gg) (A:Around) (outer:List Env) (s:Gh) (H:Hp) (vs:List V) (Q:VK) (E:XK),Room k (A.deeper (envOfC qual (defScope st) s.heap.objs.size f cdv))->sp vs H Q E ->
   ∃ t,PSs (cxOf CX0 P w K mg base N qual (defScope st) f cdv A outer s H E).nox (defBody st) t/\t { nx:=λ_ H'=>Q .non H',rt:=Q } (start N vs) H):FnOk P w K mg base CX0 (k+1) f fd ps sp:=by
 obtain⟨oc,od,kV,doc,pm,an,cdv,ct,osl,rfl,lk,hcd⟩:=F.ex;refine fn_of lk hcd S len λA outer s H vs Q E hr hsp=>?_;obtain⟨t,h,q⟩:=hbody cdv A outer s H vs Q E hr hsp;exact⟨t,h.nox,q⟩
theorem Fun.binds {x qual:Str}{st:Stmt}{f:Gj}{fd:Gi}{ps:List Str}(F:Fun K x qual st f fd)
  (h:∀ (kV doc pm:Gg) (an:Option Gj) (cdv ct:Gg) (us:List Gg),us.length=ps.length->bindArgs (uc x qual (defArgs st) (defBody st) (defScope st) .none kV doc pm an cdv ct) ⟨us,[]⟩=pure (ps.zip us)):Binds K fd ps []:=by
 obtain⟨oc,od,kV,doc,pm,an,cdv,ct,osl,rfl,lk,hcd⟩:=F.ex;exact .all (h kV doc pm an cdv ct)
theorem fun_mk {x qual:Str}{st:Stmt}{f:Gj}{oc:Gg}{od an:Option Gj}{osl:Array (Option Gg)}{kV doc pm cdv ct:Gg}(l:K.lookup f=Ga ⟨oc,od,.func (uc x qual (defArgs st) (defBody st) (defScope st) .none kV doc pm an cdv ct),osl⟩)
  (c:vD K cdv qual=true) (k:uq K (.ref f)=true):Fun K x qual st f (uc x qual (defArgs st) (defBody st) (defScope st) .none kV doc pm an cdv ct):=⟨⟨oc,od,kV,doc,pm,an,cdv,ct,osl,rfl,l,c⟩,k⟩
end
theorem small1000 {n:Nat}(h:n<=1000):n<sizeLine:=Nat.lt_of_le_of_lt h (by decide)
section
variable {X:Cx}
end
theorem iteF {A B:Prop}(h:B):if false=true then A else B:=by
 rw[Gf jx];exact h
theorem iteT {A B:Prop}(h:A):if true=true then A else B:=by
 rw[Ge rfl];exact h
def Same (H H':Hp):Prop:=∀ b o,H b=Ga o->H' b=Ga o
theorem Same.refl (H:Hp):Same H H:=λ_ _ h=>h
theorem Same.trans {H H1 H2:Hp}(a:Same H H1)(b:Same H1 H2):Same H H2:=λc o h=>b c o (a c o h)
theorem Same.free {H H':Hp}(e:Same H H'){l:Gj}(h:H' l=qL):H l=qL:=by
 cases q:H l with
 | none=>rfl
 | some o =>
  rw[e l o q] at h;cases h
theorem Same.seq {K:ja}{H H':Hp}{a:Gj}{xs:List V}(e:Same H H')(h:SqL K H a xs):SqL K H' a xs:=by
 rcases h with (h|⟨o,h⟩)|h
 .exact .inl (.inl (e _ _ h))
 .exact .inl (.inr ⟨o,e _ _ h⟩)
 .exact .inr h
end L2
namespace L2
open PySem PySem.Spec PyProof.Rows
section
variable {κ:Type}[DecidableEq κ]
def valV (kvs:List (κ×V))(k:κ):Option V:=(kvs.find? λkv=>decide (kv.1=k)).map (·.2)
def putK (kvs:List (κ×V))(k:κ)(v:V):List (κ×V) :=
 if (kvs.any λkv=>decide (kv.1=k))=true then kvs.map (λkv=>if kv.1=k then(kv.1,v) else kv) else kvs++[(k,v)]
def dropK (kvs:List (κ×V))(k:κ):List (κ×V):=kvs.filter λkv=>decide (kv.1≠k)
theorem valV_pos {p:κ×V}{r:List (κ×V)}{k:κ}(e:p.1=k):valV (p::r) k=Ga p.2:=by simp[valV,uZ,e]
theorem valV_neg {p:κ×V}{r:List (κ×V)}{k:κ}(e:¬p.1=k):valV (p::r) k=valV r k:=by simp[valV,uZ,e]
theorem valV_any (k:κ):∀ kvs:List (κ×V),(kvs.any λkv=>decide (kv.1=k))=(valV kvs k).isSome
 | []=>rfl
 | p::r=>by
  rw[vi];by_cases e:p.1=k
  .simp only[valV_pos e,Gc e,Bool.true_or,Option.isSome_some]
  .rw[valV_neg e,Gd e,Bool.false_or];exact valV_any k r
theorem RelO.isSome_eq {o:Option V}{u:Option Gg}(r:RelO o u):o.isSome=u.isSome:=by
 cases o with
 | none=>cases u with
  | none=>rfl
  | some _=>exact(show False from r).elim
 | some _=>cases u with
  | none=>exact(show False from r).elim
  | some _=>rfl
theorem RelO.getD {o:Option V}{u:Option Gg}{d:V}{d':Gg}(r:RelO o u)(rd:RelV d d'):RelV (o.getD d) (u.getD d'):=by
 cases o with
 | none=>cases u with
  | none=>exact rd
  | some _=>exact(show False from r).elim
 | some _=>cases u with
  | none=>exact(show False from r).elim
  | some _=>exact r
theorem KV.val {kvs:List (κ×V)}{vs:List (κ×Gg)}(r:KV kvs vs)(k:κ):RelO (valV kvs k) (valueAt vs k):=by
 unfold KV at r;induction r with
 | nil=>exact True.intro
 | @cons p q ps qs h t ih =>
  obtain⟨h1,h2⟩:=h;by_cases e:p.1=k
  .have e':q.1=k:=h1.symm.trans e;have b:valueAt (q::qs) k=Ga q.2:=by simp[valueAt,uZ,e']
   rw[valV_pos e,b];exact h2
  .have e':¬q.1=k:=λz=>e (h1.trans z);have b:valueAt (q::qs) k=valueAt qs k:=by simp[valueAt,uZ,e']
   rw[valV_neg e,b];exact ih
theorem KV.any {kvs:List (κ×V)}{vs:List (κ×Gg)}(r:KV kvs vs)(k:κ):(kvs.any λkv=>decide (kv.1=k))=vs.any λkv=>decide (kv.1=k):=by
 unfold KV at r;induction r with
 | nil=>rfl
 | cons h t ih=>rw[vi,vi,ih,h.1]
theorem KV.repl {kvs:List (κ×V)}{vs:List (κ×Gg)}(r:KV kvs vs)(k:κ){y:V}{u:Gg}(ry:RelV y u) :
  KV (kvs.map λkv=>if kv.1=k then(kv.1,y) else kv) (vs.map λkv=>if kv.1=k then(kv.1,u) else kv):=by
 unfold KV at r ⊢;induction r with
 | nil=>exact .nil
 | @cons p q ps qs h t ih =>
  rw[jR,jR];refine .cons ?_ ih;obtain⟨h1,h2⟩:=h;by_cases e:p.1=k
  .rw[Ge e,Ge (h1.symm.trans e)];exact⟨h1,ry⟩
  .rw[Gf e,Gf (λz=>e (h1.trans z))];exact⟨h1,h2⟩
theorem KV.put {kvs:List (κ×V)}{vs:List (κ×Gg)}(r:KV kvs vs)(k:κ){y:V}{u:Gg}(ry:RelV y u):KV (putK kvs k y) (stored vs k u):=by
 unfold putK stored;rw[r.any k];by_cases e:(vs.any λkv=>decide (kv.1=k))=true
 .rw[Ge e,Ge e];exact r.repl k ry
 .rw[Gf e,Gf e];exact Paired.snoc r ⟨rfl,ry⟩
theorem KV.drop {kvs:List (κ×V)}{vs:List (κ×Gg)}(r:KV kvs vs)(k:κ):KV (dropK kvs k) (without vs k):=by
 unfold KV at r ⊢;unfold dropK without;induction r with
 | nil=>exact .nil
 | @cons p q ps qs h t ih =>
  obtain⟨h1,h2⟩:=h;rw[vM,vM];by_cases e:p.1=k
  .have a:¬decide (p.1≠k)=true:=by simp[e]
   have b:¬decide (q.1≠k)=true:=by simp[h1.symm.trans e]
   rw[Gf a,Gf b];exact ih
  .have e':¬q.1=k:=λz=>e (h1.trans z);have a:decide (p.1≠k)=true:=by simp[e]
   have b:decide (q.1≠k)=true:=by simp[e']
   rw[Ge a,Ge b];exact .cons ⟨h1,h2⟩ ih
theorem KV.length {kvs:List (κ×V)}{vs:List (κ×Gg)}(r:KV kvs vs):kvs.length=vs.length:=Paired.length r
end
abbrev KT (H:Hp):List (List Key×V)->List (List Key×Gj×Gg)->Prop:=Paired λp q=>p.1=q.1/\H q.2.1=Ga (.tup (p.1.map kV))/\RelV p.2 q.2.2
theorem KT.val {H:Hp}{kvs:List (List Key×V)}{xs:List (List Key×Gj×Gg)}(r:KT H kvs xs)(k:List Key):RelO (valV kvs k) ((atKey xs k).map (·.2)):=by
 induction r with
 | nil=>exact True.intro
 | @cons p q ps qs h t ih =>
  obtain⟨h1,_,h2⟩:=h;by_cases e:p.1=k
  .have e':q.1=k:=h1.symm.trans e;have b:atKey (q::qs) k=Ga q.2:=by simp[atKey,uZ,e']
   rw[valV_pos e,b];exact h2
  .have e':¬q.1=k:=λz=>e (h1.trans z);have b:atKey (q::qs) k=atKey qs k:=by simp[atKey,uZ,e']
   rw[valV_neg e,b];exact ih
theorem KT.repl {H:Hp}{kvs:List (List Key×V)}{xs:List (List Key×Gj×Gg)}(r:KT H kvs xs)(k:List Key){y:V}{u:Gg}(ry:RelV y u) :
  KT H (kvs.map λkv=>if kv.1=k then(kv.1,y) else kv) (xs.map (putAt k u)):=by
 induction r with
 | nil=>exact .nil
 | @cons p q ps qs h t ih =>
  rw[jR,jR];refine .cons ?_ ih;obtain⟨h1,h2,h3⟩:=h;unfold putAt;by_cases e:p.1=k
  .rw[Ge e,Ge (h1.symm.trans e)];exact⟨h1,h2,ry⟩
  .rw[Gf e,Gf (λz=>e (h1.trans z))];exact⟨h1,h2,h3⟩
theorem KT.put {H:Hp}{kvs:List (List Key×V)}{xs:List (List Key×Gj×Gg)}(r:KT H kvs xs)(k:List Key){b:Gj}{y:V}{u:Gg}(hb:H b=Ga (.tup (k.map kV)))(ry:RelV y u) :
  KT H (putK kvs k y) (storedH xs k b u):=by
 have e:(kvs.any λkv=>decide (kv.1=k))=(atKey xs k).isSome:=by
  rw[valV_any,(r.val k).isSome_eq,Option.isSome_map]
 unfold putK storedH;rw[e];by_cases q:(atKey xs k).isSome=true
 .rw[Ge q,Ge q];exact r.repl k ry
 .rw[Gf q,Gf q];exact Paired.snoc r ⟨rfl,hb,ry⟩
theorem KT.keeps {H H':Hp}{kvs:List (List Key×V)}{xs:List (List Key×Gj×Gg)}(r:KT H kvs xs)(ht:∀ b ys,H b=Ga (.tup ys)->H' b=Ga (.tup ys)):KT H' kvs xs :=
 Paired.mapP r λ_ _ z=>⟨z.1,ht _ _ z.2.1,z.2.2⟩
section
variable {P:Program}{w:World}{H:Hp}{h:Heap}{a:Gj}
end
def DGet (H:Hp)(a:Gj)(y:V)(r:Option V):Prop :=
 (∃ kvs k,Rd H a (.dK kvs)/\y=kV k/\r=valV kvs k)\/∃ kvs k b,Rd H a (.dT kvs)/\y=.ref b/\H b=Ga (.tup (k.map kV))/\r=valV kvs k
def DPut (H:Hp)(a:Gj)(y v:V)(H':Hp):Prop :=
 (∃ kvs k,H a=Ga (.dK kvs)/\y=kV k/\kvs.length<sizeLine/\H'=upd H a (.dK (putK kvs k v))) \/
 ∃ kvs k b,H a=Ga (.dT kvs)/\y=.ref b/\H b=Ga (.tup (k.map kV))/\kvs.length<sizeLine/\H'=upd H a (.dT (putK kvs k v))
theorem DGet.k {H:Hp}{a:Gj}{kvs:List (Key×V)}{k:Key}(e:H a=Ga (.dK kvs)):DGet H a (kV k) (valV kvs k):=.inl ⟨kvs,k,.inl e,rfl,rfl⟩
theorem DGet.t {H:Hp}{a b:Gj}{kvs:List (List Key×V)}{k:List Key}(e:H a=Ga (.dT kvs))(eb:H b=Ga (.tup (k.map kV))):DGet H a (.ref b) (valV kvs k):=.inr ⟨kvs,k,b,.inl e,rfl,eb,rfl⟩
theorem DPut.k {H:Hp}{a:Gj}{kvs:List (Key×V)}{k:Key}{v:V}(e:H a=Ga (.dK kvs))(hl:kvs.length<sizeLine):DPut H a (kV k) v (upd H a (.dK (putK kvs k v))):=.inl ⟨kvs,k,e,rfl,hl,rfl⟩
theorem DPut.t {H:Hp}{a b:Gj}{kvs:List (List Key×V)}{k:List Key}{v:V}(e:H a=Ga (.dT kvs))(eb:H b=Ga (.tup (k.map kV)))(hl:kvs.length<sizeLine) :
  DPut H a (.ref b) v (upd H a (.dT (putK kvs k v))):=.inr ⟨kvs,k,b,e,rfl,eb,hl,rfl⟩
section
variable {X:Cx}{ω:List (Gj×Obj)}{σ:St}{H:Hp}{s:Gh}{a:Gj}{y v:V}{u r:Gg}{o:Option V}{A:Around}{E:Gg->Gh->Prop}
theorem Inv.big (I:Inv X ω σ H s):sysModules<s.heap.objs.size:=by
 have h:mainGlobals<s.heap.objs.size:=(I.mod.glob.keeps I.bk).lt;exact qA (by decide) h
theorem d_write {h':Heap}{t':Nat}{ob:HO}(I:Inv X ω σ H s)(mu:Mut (H a))(hs:kw a s.heap h')(he:∃ q,h'.get? a=Ga q)(new:ObjOk X.prog X.w (upd H a ob) h' a ob) :
  Inv X ω σ (upd H a ob) { s with heap:=h',toks:=t' } :=
 I.write (x:=a) (e:=a) mu (.inl rfl) (λb q hb z=>(hs.2 b hb).trans z) he new
end
section
variable {X:Cx}{ω:List (Gj×Obj)}{σ:St}{H:Hp}{s:Gh}{a:Gj}{kvs:List (Key×V)}{k:Key}{u:Gg}{A:Around}{E:Gg->Gh->Prop}
end
def NoSl (i:Expr):Prop:=∀ ov iv,subscripted i false ov iv=operate [ov,iv] (getItem ov iv)
theorem subD_of {prog:Program}{w:World}{A:Around}{E:Gg->Gh->Prop}{s:Gh}{ψ:Env}{value slice:Expr}{pos:Pos}{T id:String}{Q:Gg->Gh->Prop}
  (hl:typeLookup (.type T) "__getitem__"=pure (Ga (.builtin id))) (hs:NoSl slice)
  (h:wpAny (model prog w) A (eval value ψ) (λo s₁=>wpAny (model prog w) A (eval slice ψ) (λi s₂=>s₂.TypeIs o T/\wpAny (model prog w) A (getItem o i) Q E s₂) E s₁) E s) :
  wpAny (model prog w) A (eval (.Subscript value slice pos) ψ) Q E s:=by
 refine Subscript_ (wpAny_mono h (λo s₁ h₁=>wpAny_mono h₁ (λi s₂ h₂=>?_) λ_ _ x=>x) λ_ _ x=>x);obtain⟨hT,h₂⟩:=h₂;unfold subscriptTail;refine wpAny_bind ?_;rw[getitemInPython_of_ne hT.not_modules];refine wpAny_bind (wpAny_specialOf hT hl ?_);have fin:wpAny (model prog w) A (subscripted slice false o i) (λr s₃=>wpAny (model prog w) A (letTemporaryGo value o r >>= λ_=>pure r) Q E s₃) E s₂:=by
  rw[hs o i];exact wpAny_operating (wpAny_mono h₂ (λr s₃ h₃=>wpAny_bind (wpAny_letTemporaryGo (wpAny_pure h₃))) λ_ _ x=>x)
 first
  | exact wpAny_pure (wpAny_bind fin)
  | exact wpAny_bind (wpAny_pure (wpAny_bind fin))
  | exact wpAny_bind fin
section
variable {X:Cx}{o i e value:Expr}{pos pos' tpos:Pos}{td ty tv:TE}
end
section
variable {X:Cx}{pos:Pos}
end
structure M2 (X:Cx)(o:Expr)(m:Str)(apos:Pos)(e f:Expr)(cpos:Pos):Prop where
 base:attributeBase o m X.env (eval o X.env)=eval o X.env
 few:((backTo cpos (starEach [e,f] X.env)).all (λx=>!x.1)&&(backToKw cpos (keywordEach [] X.env)).all (λx=>x.1.isSome)
  && decide (([e,f]:List Expr).length+([]:List Keyword).length+(if ([]:List Keyword).isEmpty then 0 else 1)<30))=true
 line:(apos.endLine==cpos.line)=true
 trees:backTo cpos (starEach [e,f] X.env)=[(false,eval e X.env),(false,eval f X.env)]
section
variable {X:Cx}{ω:List (Gj×Obj)}{σ:St}{H:Hp}{s:Gh}{a:Gj}{y d:V}{u r:Gg}{o:Option V}{A:Around}{E:Gg->Gh->Prop}
end
section
variable {X:Cx}{o e f:Expr}{apos cpos:Pos}{td ty tx:TE}
end
section
variable {X:Cx}{ω:List (Gj×Obj)}{σ:St}{H:Hp}{s:Gh}{a:Gj}{kvs:List (Key×V)}{A:Around}{E:Gg->Gh->Prop}
end
section
variable {X:Cx}{ω:List (Gj×Obj)}{σ:St}{H:Hp}{s:Gh}{a:Gj}{y:V}{u:Gg}{A:Around}{E:Gg->Gh->Prop}
end
end L2
namespace L2
open PySem PySem.Spec PyProof.Rows
section
variable {κ:Type}[DecidableEq κ]
end
end L2
set_option autoImplicit false
namespace T3
open PySem PySem.Spec
noncomputable instance decD:DecidableEq PyData:=λa b=>Classical.propDecidable (a=b)
mutual
def keyD:PyData->Nat->Bool
 | .none,_=>true
 | .int _,_=>true
 | .tuple _,0=>false
 | .tuple xs,n+1=>keyAll xs n
 | .bool _,_=>false
 | .str _,_=>false
 | .list _,_=>false
 | .dict _,_=>false
def keyAll:List PyData->Nat->Bool
 | [],_=>true
 | x::xs,n=>keyD x n&&keyAll xs n
end
mutual
def hashD:PyData->Int
 | .int i=>hashInt i
 | .tuple xs=>reduceHash (kW (hashAll xs))
 | _=>0xFCA86420
def hashAll:List PyData->List Int
 | []=>[]
 | x::xs=>hashD x::hashAll xs
end
mutual
def drawD:PyData->Nat
 | .tuple xs=>drawAll xs+1
 | _=>1
def drawAll:List PyData->Nat
 | []=>0
 | x::xs=>drawD x+drawAll xs
end
mutual
theorem zf5:∀ (d:PyData) (n:Nat),keyD d n=true->d.canLay0=true/\d.depth<=n
 | .none,_,_=>⟨rfl,jY _⟩
 | .int _,_,_=>⟨rfl,jY _⟩
 | .tuple xs,0,h=>by simp[keyD] at h
 | .tuple xs,n+1,h=>by
  rw[keyD] at h;have:=zg4 xs n h;exact⟨this.1,Nat.succ_le_succ this.2⟩
 | .bool _,_,h=>by simp[keyD] at h
 | .str _,_,h=>by simp[keyD] at h
 | .list _,_,h=>by simp[keyD] at h
 | .dict _,_,h=>by simp[keyD] at h
theorem zg4:∀ (xs:List PyData) (n:Nat),keyAll xs n=true->jZ xs=true/\jU xs<=n
 | [],_,_=>⟨rfl,jY _⟩
 | x::xs,n,h=>by
  rw[keyAll,jE] at h;have a:=zf5 x n h.1;have b:=zg4 xs n h.2;refine⟨?_,?_⟩
  .rw[jZ,a.1,b.1];rfl
  .rw[jU];omega
end
mutual
theorem zmQ:∀ (a b:PyData) (n m:Nat),keyD a n=true->keyD b m=true->jV a b=true->a=b
 | .none,.none,_,_,_,_,_=>rfl
 | .none,.int _,_,_,_,_,h=>by simp[jV] at h
 | .none,.tuple _,_,_,_,_,h=>by simp[jV] at h
 | .int _,.none,_,_,_,_,h=>by simp[jV] at h
 | .int i,.int j,_,_,_,_,h=>by simp only[jV] at h;rw[beq_iff_eq] at h;rw[h]
 | .int _,.tuple _,_,_,_,_,h=>by simp[jV] at h
 | .tuple _,.none,_,_,_,_,h=>by simp[jV] at h
 | .tuple _,.int _,_,_,_,_,h=>by simp[jV] at h
 | .tuple xs,.tuple ys,0,_,p,_,_=>by simp[keyD] at p
 | .tuple xs,.tuple ys,_+1,0,_,q,_=>by simp[keyD] at q
 | .tuple xs,.tuple ys,n+1,m+1,p,q,h=>by rw[jV] at h;rw[keyD] at p q;rw[zg5 xs ys n m p q h]
 | .bool _,_,_,_,p,_,_=>by simp[keyD] at p
 | .str _,_,_,_,p,_,_=>by simp[keyD] at p
 | .list _,_,_,_,p,_,_=>by simp[keyD] at p
 | .dict _,_,_,_,p,_,_=>by simp[keyD] at p
 | .none,.bool _,_,_,_,q,_=>by simp[keyD] at q
 | .none,.str _,_,_,_,q,_=>by simp[keyD] at q
 | .none,.list _,_,_,_,q,_=>by simp[keyD] at q
 | .none,.dict _,_,_,_,q,_=>by simp[keyD] at q
 | .int _,.bool _,_,_,_,q,_=>by simp[keyD] at q
 | .int _,.str _,_,_,_,q,_=>by simp[keyD] at q
 | .int _,.list _,_,_,_,q,_=>by simp[keyD] at q
 | .int _,.dict _,_,_,_,q,_=>by simp[keyD] at q
 | .tuple _,.bool _,_,_,_,q,_=>by simp[keyD] at q
 | .tuple _,.str _,_,_,_,q,_=>by simp[keyD] at q
 | .tuple _,.list _,_,_,_,q,_=>by simp[keyD] at q
 | .tuple _,.dict _,_,_,_,q,_=>by simp[keyD] at q
theorem zg5:∀ (xs ys:List PyData) (n m:Nat),keyAll xs n=true->keyAll ys m=true->uL xs ys=true->xs=ys
 | [],[],_,_,_,_,_=>rfl
 | [],_::_,_,_,_,_,h=>by simp[uL] at h
 | _::_,[],_,_,_,_,h=>by simp[uL] at h
 | x::xs,y::ys,n,m,p,q,h=>by
  rw[uL,jE] at h;rw[keyAll,jE] at p q;rw[zmQ x y n m p.1 q.1 h.1,zg5 xs ys n m p.2 q.2 h.2]
end
mutual
theorem zf6 {h h':Heap}{d0:Gj}{o:Obj}{es:Array DictEntry}{ep:Nat}(ho:h.get? d0=Ga o)(hd:o.data=.dict es ep)(hs:kw d0 h h'):∀ (d:PyData) (n:Nat) (v:Gg) (as:List Gj),keyD d n=true->Reads h v d as->Reads h' v d as
 | .none,_,_,_,_,.none=>.none
 | .int _,_,_,_,_,.int i t=>.int i t
 | .tuple _,0,_,_,k,_=>by simp[keyD] at k
 | .tuple xs,n+1,_,_,k,.tuple (a:=a) (o:=o') h1 h2 h3 h4=>by
  rw[keyD] at k;have hne:a≠d0:=by
   rintro rfl;have:o'=o:=jw (h1.symm.trans ho);rw[this,hd] at h3;cases h3
  exact .tuple ((hs.2 a hne).trans h1) h2 h3 (zeA ho hd hs xs n _ _ k h4)
 | .bool _,_,_,_,k,_=>by simp[keyD] at k
 | .str _,_,_,_,k,_=>by simp[keyD] at k
 | .list _,_,_,_,k,_=>by simp[keyD] at k
 | .dict _,_,_,_,k,_=>by simp[keyD] at k
theorem zeA {h h':Heap}{d0:Gj}{o:Obj}{es:Array DictEntry}{ep:Nat}(ho:h.get? d0=Ga o)(hd:o.data=.dict es ep)(hs:kw d0 h h'):∀ (xs:List PyData) (n:Nat) (vs:List Gg) (as:List Gj),keyAll xs n=true->ReadsAll h vs xs as->ReadsAll h' vs xs as
 | [],_,_,_,_,.nil=>.nil
 | x::xs,n,_,_,k,.cons h1 h2=>by
  rw[keyAll,jE] at k;exact .cons (zf6 ho hd hs x n _ _ k.1 h1) (zeA ho hd hs xs n _ _ k.2 h2)
end
section
variable {prog:Program}{w:World}
theorem zmR {A:Around}{E:Gg->Gh->Prop}{s:Gh}{Q:Int->Gh->Prop}(h:Q 0xFCA86420 { s with toks:=s.toks+1 }):wpAny (model prog w) A (pyHash .none) Q E s:=by
 have hT:s.TypeIs .none "NoneType":=rfl;unfold pyHash;have hv:[jT].any Value.onHeap=false:=rfl;refine wpAny_bind ?_;rw[cRoomFor,Gf (by rw[hv];exact jx)];refine wpAny_pure (wpAny_bind (wpAny_specialOf hT F.slot_NoneType_hash.lookup ?_));show wpAny _ _ (if (Ga (Value.builtin "NoneType.__hash__")==Ga jT)=true then _ else _) Q E s;rw[Gf (by rw[beq_builtin_none];exact jx)];refine wpAny_bind (wpAny_specialOf hT F.slot_NoneType_hash.lookup ?_);show wpAny _ _ (callSpecialIfBoundUnlessNone? .none "__hash__" _ >>= _) Q E s;refine wpAny_bind (wpAny_callSpecialIfBoundUnlessNone?_slot hT F.slot_NoneType_hash (wpAny_call_entry F.slot_NoneType_hash hT F.entry_NoneType_hash (show wpAny _ _ (do ret (<- mkInt 0xFCA86420)) _ _ s from wpAny_ret_mkInt ?_) (F.args_NoneType_hash_1 _)));show wpAny _ _ (if (decide (-(2:Int)^63<=0xFCA86420)&&decide ((0xFCA86420:Int)<2^63))=true then _ else _) Q E _;rw[Ge (by decide)];exact wpAny_pure h
def HashOk (prog:Program)(w:World)(d:PyData):Prop:=∀ (A:Around) (E:Gg->Gh->Prop) (s:Gh) (v:Gg) (as:List Gj) (Q:Int->Gh->Prop),A.units+d.depth<cLine->Reads s.heap v d as->Q (hashD d) { s with toks:=s.toks+drawD d }->wpAny (model prog w) A (pyHash v) Q E s
theorem zeB:∀ (xs ys:List PyData),hashAll (xs++ys)=hashAll xs++hashAll ys
 | [],ys=>by rw[hashAll];rfl
 | x::xs,ys=>by rw[Jm,hashAll,hashAll,zeB xs ys];rfl
theorem zeC:∀ (xs ys:List PyData),drawAll (xs++ys)=drawAll xs+drawAll ys
 | [],ys=>by rw[drawAll];exact(ud _).symm
 | x::xs,ys=>by rw[Jm,drawAll,drawAll,zeC xs ys,qo]
theorem zfO:∀ {xs:List PyData} {x:PyData},x∈xs->x.depth<=jU xs
 | y::ys,x,h=>by
  rw[jU];rcases ju.mp h with rfl|h
  .omega
  .have:=zfO h;omega
theorem zo3 {xs:List PyData}(IH:∀ x∈xs,HashOk prog w x):HashOk prog w (.tuple xs):=by
 intro A E s v as Q hu r q;cases r with
 | @tuple a o vs n' _ _ h1 h2 h3 h4 =>
  rw[hashD,drawD] at q;have hT:s.TypeIs (.ref a) "tuple":=⟨o,h1,h2⟩;have hu':A.units+(jU xs+1)<cLine:=hu;unfold pyHash;unfold pyHashByItsType;refine wpAny_bind (wpAny_cRoomFor_or (.inr (by omega)) ?_);refine wpAny_bind (wpAny_specialOf hT F.slot_tuple_hash.lookup ?_);show wpAny _ _ (if (Ga (Value.builtin "tuple.__hash__")==Ga jT)=true then _ else _) Q E s;rw[Gf (by rw[beq_builtin_none];exact jx)];refine wpAny_bind (wpAny_specialOf hT F.slot_tuple_hash.lookup ?_);show wpAny _ _ (callSpecialIfBoundUnlessNone? (.ref a) "__hash__" _ >>= _) Q E s;refine wpAny_bind (wpAny_callSpecialIfBoundUnlessNone?_slot hT F.slot_tuple_hash (wpAny_call_entry F.slot_tuple_hash hT F.entry_tuple_hash ?_ (F.args_tuple_hash_1 _)));show wpAny _ _ (Builtin.Tuple.tupleItemsOf (.ref a) >>= _) _ _ s;refine wpAny_bind (wpAny_tupleItemsOf h1 h3 ?_);refine wpAny_bind ?_;rw[<- qW];refine wpAny_forIn_list _
   (λrest (b:Array Int) s'=>∃ dn lf bs,xs=dn++lf/\ReadsAll s.heap rest lf bs/\b.toList=hashAll dn/\s'={ s with toks:=s.toks+drawAll dn })
   _ ?_ ?_ _ _ ⟨[],xs,_,rfl,h4,rfl,rfl⟩
  .rintro x rest b s' ⟨dn,lf,bs,e,hl,hb,rfl⟩;cases hl with
   | @cons _ _ d ds as1 bs1 r1 r2 =>
    have hm:d∈xs:=by rw[e];exact jJ _ jn
    have hd:=zfO hm;refine wpAny_bind (IH d hm A.in1 _ _ x as1 _ (by show A.units+1+d.depth<cLine;omega) r1 ?_);have z:∃ dn' lf' bs',xs=dn'++lf'/\ReadsAll s.heap rest lf' bs'/\(b.push (hashD d)).toList=hashAll dn'/\({ s with toks:=s.toks+drawAll dn+drawD d }:Gh)={ s with toks:=s.toks+drawAll dn' }:=by
     refine⟨dn++[d],ds,bs1,by rw[e,kD];rfl,r2,?_,?_⟩
     .rw[uI,hb,zeB];rw[hashAll,hashAll]
     .rw[zeC,drawAll,drawAll,Jb,qo]
    first
     | exact wpAny_pure z
     | exact wpAny_bind (wpAny_pure (wpAny_pure z))
  .rintro b s' ⟨dn,lf,bs,e,hl,hb,rfl⟩;cases hl;rw[jX] at e;subst e;show wpAny _ _ (retInt (kW b.toList)) _ _ _;rw[hb];refine wpAny_ret_mkInt ?_;show wpAny _ _ (if (decide (-(2:Int)^63<=kW (hashAll xs))&&decide (kW (hashAll xs)<2^63))=true then _ else _) Q E _;unfold reduceHash at q;by_cases hr:(decide (-(2:Int)^63<=kW (hashAll xs))&&decide (kW (hashAll xs)<2^63))=true
   .rw[Ge hr] at q ⊢;exact wpAny_pure (by simpa [qo] using q)
   .rw[Gf hr] at q ⊢;exact wpAny_bind (wpAny_rule (wpAny_pure (by simpa [qo] using q)))
mutual
theorem ziI:∀ (d:PyData) (n:Nat),keyD d n=true->HashOk prog w d
 | .none,_,_=>λA E s v as Q _ r q=>by cases r;exact zmR (by rw[hashD,drawD] at q;exact q;all_goals exact λ_ z=>by cases z)
 | .int i,_,_=>λA E s v as Q _ r q=>by cases r;exact wpAny_pyHash_int (by rw[hashD,drawD] at q;exact q;all_goals exact λ_ z=>by cases z)
 | .tuple _,0,k=>by simp[keyD] at k
 | .tuple xs,n+1,k=>by rw[keyD] at k;exact zo3 (zkQ xs n k)
 | .bool _,_,k=>by simp[keyD] at k
 | .str _,_,k=>by simp[keyD] at k
 | .list _,_,k=>by simp[keyD] at k
 | .dict _,_,k=>by simp[keyD] at k
theorem zkQ:∀ (xs:List PyData) (n:Nat),keyAll xs n=true->∀ x∈xs,HashOk prog w x
 | [],_,_,x,h=>by cases h
 | y::ys,n,k,x,h=>by
  rw[keyAll,jE] at k;rcases ju.mp h with e|h
  .rw[e];exact ziI y n k.1
  .exact zkQ ys n k.2 x h
end
def QuietOk (prog:Program)(w:World)(n:Nat)(d:PyData):Prop:=∀ (A:Around) (E:Gg->Gh->Prop) (s:Gh) (v:Gg) (as:List Gj) (Q:Bool->Gh->Prop),Reads s.heap v d as->Q true s->wpAny (model prog w) A (eqIsQuiet n v) Q E s
theorem zmS {xs:List PyData}{n:Nat}(IH:∀ x∈xs,QuietOk prog w n x):QuietOk prog w (n+1) (.tuple xs):=by
 intro A E s v as Q r q;cases r with
 | @tuple a o vs n' _ _ h1 h2 h3 h4 =>
  have hT:s.TypeIs (.ref a) "tuple":=⟨o,h1,h2⟩;unfold eqIsQuiet;refine wpAny_bind (wpAny_specialOf hT F.slot_tuple_eq.lookup ?_);show wpAny _ _ (isInstance (.ref a) (.type "tuple") >>= _) _ _ s;refine wpAny_bind (wpAny_isInstance hT isSubtype_tuple_tuple ?_);simp only[qU,kQ,if_false];refine wpAny_bind (wpAny_seqItems h1 h3 (wpAny_bind ?_));show wpAny _ _ (forIn vs _ _) _ _ s;rw[<- qW];refine wpAny_forIn_list _ (λrest r s'=>r.1=Gb/\s'=s/\∃ lf bs,ReadsAll s.heap rest lf bs/\∀ x∈lf,x∈xs) _ ?_ ?_ _ _ ⟨rfl,rfl,xs,_,h4,λ_ z=>z⟩
  .rintro x rest r s' ⟨hr,rfl,lf,bs,hl,hm⟩;cases hl with
   | @cons _ _ d ds as1 bs1 r1 r2 =>
    refine wpAny_bind (IH d (hm d jn) _ _ _ x as1 _ r1 ?_);simp only[qU,kQ,if_false];exact wpAny_pure ⟨rfl,rfl,ds,bs1,r2,λy hy=>hm y (jm _ hy)⟩
  .rintro⟨b1,b2⟩ s' ⟨hr,rfl,_⟩;simp only at hr;subst hr;exact wpAny_pure q
mutual
theorem zg6:∀ (d:PyData) (n:Nat),keyD d n=true->QuietOk prog w n d
 | .none,n,_=>λA E s v as Q r q=>by cases r;rw[eqIsQuiet_byValue n rfl];exact wpAny_pure q
 | .int i,n,_=>λA E s v as Q r q=>by cases r;rw[eqIsQuiet_byValue n rfl];exact wpAny_pure q
 | .tuple _,0,k=>by simp[keyD] at k
 | .tuple xs,n+1,k=>by rw[keyD] at k;exact zmS (ziJ xs n k)
 | .bool _,_,k=>by simp[keyD] at k
 | .str _,_,k=>by simp[keyD] at k
 | .list _,_,k=>by simp[keyD] at k
 | .dict _,_,k=>by simp[keyD] at k
theorem ziJ:∀ (xs:List PyData) (n:Nat),keyAll xs n=true->∀ x∈xs,QuietOk prog w n x
 | [],_,_,x,h=>by cases h
 | y::ys,n,k,x,h=>by
  rw[keyAll,jE] at k;rcases ju.mp h with e|h
  .rw[e];exact zg6 y n k.1
  .exact ziJ ys n k.2 x h
end
noncomputable def treeKind (prog:Program)(w:World):HeapKind prog w PyData where
 is:=λh d a=>keyD d 8=true/\∃ as,Reads h (.ref a) d as
 hash:=hashD
 draws:=drawD
 room:=λA=>A.units+20<cLine
 inj:=λ{h a x y} hx hy=>SeqAt.Reads.unique x y _ _ _ (zf5 x 8 hx.1).1 hx.2.choose_spec hy.2.choose_spec
 keeps:=λ{h h' k a d o es ep} x ho hd hs=>⟨x.1,_,zf6 ho hd hs k 8 _ _ x.1 x.2.choose_spec⟩
 pyHash:=λ{A E s k a Q} hu hk q=>ziI k 8 hk.1 A E s _ _ Q (by have:=(zf5 k 8 hk.1).2;omega) hk.2.choose_spec q
 eqBool:=λ{A E s x y a b Q} hu hx hy q=>by
  have l1:=zf5 x 8 hx.1;have l2:=zf5 y 8 hy.1;refine SeqAt.eqAt_reads x y A s (.ref a) (.ref b) _ _ hx.2.choose_spec hy.2.choose_spec l1.1 l2.1 (by omega) prog w E Q ?_;have e:jV x y=decide (x=y):=by
   rw[kS,decide_eq_true_eq];exact⟨λz=>zmQ x y 8 8 hx.1 hy.1 z,λz=>by rw[z];exact SeqAt.eqv_refl y l2.1⟩
  rw[e];exact q
 quiet:=λ{A E s k a Q} hk q=>zg6 k 8 hk.1 A E s _ _ Q hk.2.choose_spec q
end
end T3
namespace T3
open PySem PySem.Spec
section
variable {prog:Program}{w:World}{A:Around}{E:Gg->Gh->Prop}{s:Gh}
def DRaw (h:Heap)(d:Gj)(es:Array DictEntry)(ep:Nat):Prop:=∃ o,h.get? d=Ga o/\o.ExactDict/\o.data=.dict es ep
theorem DRaw.ty {d:Gj}{es:Array DictEntry}{ep:Nat}(x:DRaw s.heap d es ep):s.TypeIs (.ref d) "dict":=let ⟨o,ho,hc,_⟩:=x;⟨o,ho,hc.1⟩
theorem DRaw.kept {h h':Heap}{d:Gj}{es:Array DictEntry}{ep:Nat}(x:DRaw h d es ep)(k:∀ o,h.get? d=Ga o->h'.get? d=Ga o):DRaw h' d es ep:=let ⟨o,ho,r⟩:=x;⟨o,k _ ho,r⟩
theorem zo4 {d:Gj}{es:Array DictEntry}{ep:Nat}{Q:Gg->Gh->Prop}(hd:(d==sysModules)=false)(hm:DRaw s.heap d es ep)
  (hQ:Q (.ref s.heap.objs.size) { s with heap:=s.heap.push { cls:=.type "dict_keyiterator",data:=.fields #[.ref d,.int 0 0,.int es.size 0,.int ep 0] } }):wpAny (model prog w) A (pyIter (.ref d)) Q E s:=by
 have hT:=hm.ty;obtain⟨o,ho,hc,hdat⟩:=hm;refine wpAny_pyIter_slot hT F.slot_dict_iter (wpAny_call_entry F.slot_dict_iter hT F.entry_dict_iter ?_ (F.args_dict_iter_1 _));unfold Builtin.«dict.__iter__» Builtin.Dict.dictSlotNone;refine wpAny_bind (wpAny_bind (wpAny_notOrdered_dict hT ?_));show wpAny _ _ (pure (uk d)) _ _ s;refine wpAny_pure ?_;show wpAny _ _ (qF d >>= _) _ _ s;unfold qF;rw[Gf (by rw[hd];exact jx)];refine wpAny_bind (wpAny_pure (wpAny_bind (wpAny_dictEntries ho hdat (wpAny_bind (wpAny_dictEpoch ho hdat ?_)))));exact wpAny_bind (wpAny_newObj_type (wpAny_pure ⟨_,rfl,"dict_keyiterator",_,⟨_,jv _ rfl,rfl⟩,F.slot_dict_keyiterator_next.lookup,hQ⟩))
theorem zo5 {it d:Gj}{i ep:Nat}{es:Array DictEntry}{e:DictEntry}{Q:Option Gg->Gh->Prop}(hit:s.heap.IsKeyIter it d i es.size ep)(hm:DRaw s.heap d es ep)(hx:es[i]?=Ga e)
  (hQ:∀ h',h'.IsKeyIter it d (i+1) es.size ep->kw it s.heap h'->Q (Ga e.key) { s with heap:=h' }):wpAny (model prog w) A (pyNext (.ref it)) Q E s:=by
 obtain⟨o,ho,hc,hd⟩:=id hit;obtain⟨od,hod,hcd,hdd⟩:=id hm;unfold pyNext;refine wpAny_bind (wpAny_attempt (wpAny_callSpecial?_slot (name:=uV "__next__") hit.typeIs F.slot_dict_keyiterator_next (wpAny_call_entry F.slot_dict_keyiterator_next hit.typeIs F.entry_dict_keyiterator_next ?_ (F.args_dict_keyiterator_next_1 _))));refine wpAny_bind (wpAny_pure (wpAny_bind (wpAny_bind ?_)))
 first|refine wpAny_bind (wpAny_typeNameOfWhole_keyiter hit.typeIs (wpAny_pure ?_))|refine wpAny_bind (wpAny_typeNameOf_keyiter hit.typeIs (wpAny_pure ?_))
 refine wpAny_bind (wpAny_fieldsOf ho hd ?_);simp only[show vZ "dict_keyiterator"=false by decide,kQ,if_false];show wpAny _ _ (if (uk d==jT)=true then _ else _) _ _ s;rw[Gf (show ¬((uk d==jT)=true) from jx)];refine wpAny_bind (wpAny_pure (wpAny_bind (wpAny_dictEntries hod hdd ?_)));rw[Gf (by simp)];refine wpAny_bind (wpAny_pure (wpAny_bind (wpAny_dictEpoch hod hdd ?_)));rw[Gf (by simp)];refine wpAny_pure ?_;simp only[show ¬((i:Int)<0) from by omega,if_false,jD,hx];refine wpAny_bind ?_
 first|refine wpAny_bind (wpAny_typeNameOfWhole_keyiter hit.typeIs (wpAny_pure ?_))|refine wpAny_bind (wpAny_typeNameOf_keyiter hit.typeIs (wpAny_pure ?_))
 refine wpAny_bind (wpAny_isOneOf_keyiter hit.typeIs ?_);show wpAny _ _ (setField (.ref it) 1 (rawInt ((i:Int)+1)) >>= _) _ _ s;refine wpAny_bind (wpAny_setField ho hd (by simp) ?_);have hit':(s.heap.update it (u6 (·.setIfInBounds 1 (rawInt ((i:Int)+1))))).IsKeyIter it d (i+1) es.size ep :=
  ⟨_,j4 _ ho (u8 (k0 hd _)),(vF ..).trans hc,by rw[k0 hd];simp[rawInt]⟩
 refine wpAny_bind (wpAny_holding (wpAny_bind (wpAny_isOneOf_keyiter (s:={ s with heap:=s.heap.update it (u6 (·.setIfInBounds 1 (rawInt ((i:Int)+1)))) }) hit'.typeIs ?_)));show wpAny _ _ (pure e.key) _ _ _;exact wpAny_pure (wpAny_pure ⟨_,rfl,wpAny_pure (hQ _ hit' (jP ..))⟩)
theorem zo6 {it d:Gj}{i ep:Nat}{es:Array DictEntry}{Q:Option Gg->Gh->Prop}(hh:A.handled=Gb)(hit:s.heap.IsKeyIter it d i es.size ep)(hm:DRaw s.heap d es ep)(hx:es.size<=i)
  (hQ:∀ h',qM it s.heap h'->Q Gb { s with heap:=h' }):wpAny (model prog w) A (pyNext (.ref it)) Q E s:=by
 obtain⟨o,ho,hc,hd⟩:=id hit;obtain⟨od,hod,hcd,hdd⟩:=id hm;unfold pyNext;refine wpAny_bind (wpAny_attempt (wpAny_callSpecial?_slot (name:=uV "__next__") hit.typeIs F.slot_dict_keyiterator_next (wpAny_call_entry F.slot_dict_keyiterator_next hit.typeIs F.entry_dict_keyiterator_next ?_ (F.args_dict_keyiterator_next_1 _))));refine wpAny_bind (wpAny_pure (wpAny_bind (wpAny_bind ?_)))
 first|refine wpAny_bind (wpAny_typeNameOfWhole_keyiter hit.typeIs (wpAny_pure ?_))|refine wpAny_bind (wpAny_typeNameOf_keyiter hit.typeIs (wpAny_pure ?_))
 refine wpAny_bind (wpAny_fieldsOf ho hd ?_);simp only[show vZ "dict_keyiterator"=false by decide,kQ,if_false];show wpAny _ _ (if (uk d==jT)=true then _ else _) _ _ s;rw[Gf (show ¬((uk d==jT)=true) from jx)];refine wpAny_bind (wpAny_pure (wpAny_bind (wpAny_dictEntries hod hdd ?_)));rw[Gf (by simp)];refine wpAny_bind (wpAny_pure (wpAny_bind (wpAny_dictEpoch hod hdd ?_)));rw[Gf (by simp)];refine wpAny_pure ?_;simp only[show ¬((i:Int)<0) from by omega,if_false,jD,kG hx];refine wpAny_bind ?_
 first|refine wpAny_bind (wpAny_typeNameOfWhole_keyiter hit.typeIs (wpAny_pure ?_))|refine wpAny_bind (wpAny_typeNameOf_keyiter hit.typeIs (wpAny_pure ?_))
 show wpAny _ _ (setField (.ref it) 0 .none >>= _) _ _ s;refine wpAny_bind (wpAny_setField ho hd (by simp) ?_);show wpAny _ _ (newExc (.type "StopIteration") [] >>= _) _ _ _;refine wpAny_bind ?_;simp only[newExc,newTuple];refine wpAny_bind (wpAny_newObj_type (wpAny_bind (m:=firstArgMember _ _) (wpAny_of_eq (a:=jT) (by first|rfl|(simp only[firstArgMember];rfl)) (wpAny_newObj_type ?_ (by size_fits)))) (by size_fits));simp only[raiseNew];refine wpAny_bind (wpAny_handled ?_);rw[show A.in1.handled=Gb from hh];refine wpAny_bind (wpAny_pure (wpAny_throw ?_));refine(wpAny_bind (wpAny_isInstance (T:="StopIteration") (b:=true) ⟨_,jv _ rfl,rfl⟩ isSubtype_stop ?_));exact wpAny_pure (hQ _ (((jP ..).extBut.push _).push _))
theorem zmT (hh:A.handled=Gb)(I d:Gj)(hne:d≠I)(es:Array DictEntry)(ep:Nat) :
  Walks prog w A I [I,d] [I] es.size (λi v=>∃ e,es[i]?=Ga e/\v=e.key) (λi h=>h.IsKeyIter I d i es.size ep/\DRaw h d es ep) where
 sub:=λb hb=>by simp at hb;simp[hb]
 frame:=λ_ _ _ st hk=>⟨st.1.at λo e=>hk I (by simp) o e,st.2.kept λo e=>hk d (by simp) o e⟩
 item:=λi s Q E hi st hQ=>by
  have hx:es[i]?=Ga es[i]:=jG hi;refine zo5 st.1 st.2 hx λh' hit' hs'=>?_;exact hQ _ h' s.toks ⟨_,hx,rfl⟩ ⟨hit',st.2.kept λo eo=>(hs'.2 d hne).trans eo⟩ λb o hb eo=>hs'.extBut b o (λh=>hb (by simp[h])) eo
 done:=λs Q E st hQ=>zo6 hh st.1 st.2 (jo _) λh' he'=>hQ h' s.toks λb o hb eo=>he' b o (λh=>hb (by simp[h])) eo
 self:=λ_ _ _ _ st hQ=>wpAny_pyIter_keyiter st.1 hQ
end
end T3
namespace T3
open PySem PySem.Spec PyProof.Rows L2
abbrev St:=L2.St
abbrev D:=PySem.PyData
def GoodT (H:Hp)(l:List Gg):Prop:=TriplesOk l/\∀ pos cv,codeAmong pos l=Ga cv->∃ c o vs,∃ v:Str×Tok,cv=.ref c/\H c=Ga (.frz o (.own c))/\o.data=.fields vs/\vs[1]?=Ga (.str v.1 v.2)
def Gr (H:Hp)(o:HO)(H':Hp)(x:Option HO):Prop:=match o with
 | .tbl ps=>∃ qs,x=Ga (.tbl qs)/\(GoodT H ps.toList->GoodT H' qs.toList)
 | o=>x=Ga o
theorem Gr.some {H H':Hp}{o:HO}{x:Option HO}(g:Gr H o H' x):∃ u,x=Ga u:=by
 cases o<;>first|exact⟨_,g⟩|exact⟨_,g.choose_spec.1⟩
theorem Gr.of {H H':Hp}{o:HO}{x:Option HO}(e:x=Option.some o)(g:∀ l,GoodT H l->GoodT H' l):Gr H o H' x:=by
 cases o<;>first|exact e|exact⟨_,e,g _⟩
theorem Gr.to {H H' H2:Hp}{o:HO}{x:Option HO}(a:Gr H o H' x)(g:∀ l,GoodT H' l->GoodT H2 l):Gr H o H2 x:=by
 cases o<;>first|exact a|exact⟨a.choose,a.choose_spec.1,λz=>g _ (a.choose_spec.2 z)⟩
def Same (H H':Hp):Prop:=∀ b o,H b=Ga o->Gr H o H' (H' b)
theorem Same.refl (H:Hp):Same H H:=λ_ _ h=>.of h λ_ z=>z
theorem Same.trans {H H1 H2:Hp}(a:Same H H1)(b:Same H1 H2):Same H H2:=λc o h=>by
 have g:=a c o h;cases o<;>first
  | exact b c _ g
  | (obtain⟨qs,e,k⟩:=g
     obtain⟨rs,e2,k2⟩:=b c _ e;exact⟨rs,e2,λz=>k2 (k z)⟩)
theorem Same.free {H H':Hp}(e:Same H H'){l:Gj}(h:H' l=qL):H l=qL:=by
 cases q:H l with
 | none=>rfl
 | some o =>
  obtain⟨u,z⟩:=(e l o q).some;rw[z] at h;cases h
theorem Same.seq {K:ja}{H H':Hp}{a:Gj}{xs:List V}(e:Same H H')(h:SqL K H a xs):SqL K H' a xs:=by
 rcases h with (h|⟨o,h⟩)|h
 .exact .inl (.inl (e _ _ h))
 .exact .inl (.inr ⟨o,e _ _ h⟩)
 .exact .inr h
theorem GoodT.updG {H:Hp}{a:Gj}{ob:HO}(m:∀ o u,H a≠Ga (.frz o u)){l:List Gg}(g:GoodT H l):GoodT (upd H a ob) l :=
 ⟨g.1,λpos cv e=>by
  obtain⟨c,o,vs,v,e1,e2,e3⟩:=g.2 pos cv e;exact⟨c,o,vs,v,e1,by rw[upd_ne (λz=>by subst z;exact m _ _ e2)];exact e2,e3⟩⟩
theorem GoodT.sub {H H':Hp}(m:∀ c o,H c=Ga o->H' c=Ga o){l:List Gg}(g:GoodT H l):GoodT H' l :=
 ⟨g.1,λpos cv e=>by
  obtain⟨c,o,vs,v,e1,e2,e3⟩:=g.2 pos cv e;exact⟨c,o,vs,v,e1,m _ _ e2,e3⟩⟩
theorem Same.of {H H':Hp}(m:∀ c o,H c=Ga o->H' c=Ga o):Same H H':=λb o h=>.of (m b o h) λ_ z=>z.sub m
theorem Gr.from {H H1 H':Hp}{o:HO}{x:Option HO}(a:Gr H o H' x)(g:∀ l,GoodT H1 l->GoodT H l):Gr H1 o H' x:=by
 cases o<;>first|exact a|exact⟨a.choose,a.choose_spec.1,λz=>a.choose_spec.2 (g _ z)⟩
theorem Same.put {H0 H:Hp}{a:Gj}{ob:HO}(s:Same H0 H)(n:H0 a=Gb)(m:∀ o u,H a≠Ga (.frz o u)):Same H0 (upd H a ob):=λb o h=>by
 rw[upd_ne (ne_of_none h n)];exact(s b o h).to λ_=>GoodT.updG m
theorem Same.new {H:Hp}{a:Gj}{ob:HO}(n:H a=Gb):Same H (upd H a ob):=(Same.refl H).put n λo u z=>by rw[n] at z;cases z
def Ow:HO->Prop
 | .lst _=>True
 | .ext _=>True
 | _=>False
theorem Same.ow {H H':Hp}{a:Gj}{ob:HO}(s:Same H H')(h:H a=Ga ob)(o:Ow ob):H' a=Ga ob:=by
 have g:=s a ob h;cases ob<;>first|exact g|exact o.elim
theorem Ow.nf {H:Hp}{a:Gj}{ob:HO}(o:Ow ob)(h:H a=Ga ob):∀ x u,H a≠Ga (.frz x u):=λx u z=>by
 rw[h] at z;cases z;exact o
def Pl:HO->Prop
 | .lst _=>True
 | .tup _=>True
 | .ext _=>True
 | _=>False
theorem Ow.pl {ob:HO}(o:Ow ob):Pl ob:=by cases ob<;>first|exact o|trivial
theorem GoodT.un {F:Hp}{a:Gj}{ob:HO}(o:Pl ob){l:List Gg}(g:GoodT (upd F a ob) l):GoodT F l :=
 ⟨g.1,λpos cv e=>by
  obtain⟨c,x,vs,v,e1,e2,e3⟩:=g.2 pos cv e;have ne:c≠a:=λz=>by subst z;rw[upd_same] at e2;cases e2;exact o
  rw[upd_ne ne] at e2;exact⟨c,x,vs,v,e1,e2,e3⟩⟩
theorem Same.upL {F H:Hp}{a:Gj}{ob:HO}(s:Same F H)(ha:H a=Ga ob)(p:Pl ob):Same (upd F a ob) H:=λb o h=>by
 by_cases hb:b=a
 .subst hb;rw[upd_same] at h;cases h;cases ob<;>first|exact ha|exact p.elim
 .rw[upd_ne hb] at h;have g:=s b o h;cases o<;>first|exact g|exact⟨g.choose,g.choose_spec.1,λz=>g.choose_spec.2 (z.un p)⟩
theorem Same.up2 {F H:Hp}{a:Gj}{ob:HO}(s:Same F H)(nF:F a=Gb)(nH:H a=Gb)(p:Pl ob):Same (upd F a ob) (upd H a ob) :=
 (s.put nF λo u z=>by rw[nH] at z;cases z).upL upd_same p
theorem Pl.nf {H:Hp}{a:Gj}{ob:HO}(o:Pl ob)(h:H a=Ga ob):∀ x u,H a≠Ga (.frz x u):=λx u z=>by
 rw[h] at z;cases z;exact o
theorem Same.pl {H H':Hp}{a:Gj}{ob:HO}(s:Same H H')(h:H a=Ga ob)(o:Pl ob):H' a=Ga ob:=by
 have g:=s a ob h;cases ob<;>first|exact g|exact o.elim
theorem Same.swp {H0 H:Hp}{a:Gj}{o o':HO}(s:Same (upd H0 a o) H)(p:Pl o)(p':Pl o'):Same (upd H0 a o') (upd H a o'):=λb u h=>by
 have ha:=s.pl upd_same p;by_cases hb:b=a
 .subst hb;rw[upd_same] at h;cases h;rw[upd_same];cases o'<;>first|exact rfl|exact p'.elim
 .rw[upd_ne hb] at h ⊢;have g:=s b u (by rw[upd_ne hb];exact h);cases u<;>first
   | exact g
   | (obtain⟨qs,e,k⟩:=g
      refine⟨qs,e,λz=>(k ⟨z.1,λpos cv e=>?_⟩).updG (p.nf ha)⟩;obtain⟨c,x,vs,v,e1,e2,e3⟩:=z.2 pos cv e;have ne:c≠a:=λw=>by subst w;rw[upd_same] at e2;cases e2;exact p'
      rw[upd_ne ne] at e2;exact⟨c,x,vs,v,e1,by rw[upd_ne ne];exact e2,e3⟩)
def SameX (a:Gj)(H H':Hp):Prop:=∀ b o,b≠a->H b=Ga o->Gr H o H' (H' b)
theorem Same.x {H H':Hp}(s:Same H H')(a:Gj):SameX a H H':=λb o _ h=>s b o h
def dicE (ks:List D)(as:List Gj):List DictEntry:=(ks.zip as).map λp=>{ key:=.ref p.2,hash:=hashD p.1,val:=.bool true }
def DicP (a:Gj)(ks:List D)(as:List Gj)(ep:Nat):Heap->Prop:=λh=>∃ o es,h.get? a=Ga o/\o.ExactDict/\o.data=.dict es ep/\es.toList=dicE ks as
structure KeysOk (ks:List D):Prop where
 key:∀ k∈ks,keyD k 8=true
 tup:∀ k∈ks,∃ xs,k=.tuple xs
 nd:ks.Nodup
 len:ks.length<=1000000
abbrev dkD (ks:List D):D:=PyData.dict (ks.map λk=>(k,uJ true))
inductive IntEs:List (Int×V)->List DictEntry->Prop where
 | nil:IntEs [] []
 | cons {k:Int} {v:V} {e:DictEntry} {ws:List (Int×V)} {es:List DictEntry} (hk:vT k e.key=true) (hh:e.hash=hashInt k) (hv:RelV v e.val) (t:IntEs ws es):IntEs ((k,v)::ws) (e::es)
def DiP (a:Gj)(ws:List (Int×V))(ep:Nat):Heap->Prop:=λh=>∃ o es,h.get? a=Ga o/\o.ExactDict/\o.data=.dict es ep/\IntEs ws es.toList
structure KvOk (kvs:List (Int×D)):Prop where
 nd:(kvs.map (·.1)).Nodup
 len:kvs.length<=1000000
def dtE (l:List (D×Gj×Gg)):List DictEntry:=l.map λx=>{ key:=.ref x.2.1,hash:=hashD x.1,val:=x.2.2 }
inductive WV:List (D×Gj×V)->List (D×Gj×Gg)->Prop where
 | nil:WV [] []
 | cons {k:D} {b:Gj} {v:V} {u:Gg} {ws:List (D×Gj×V)} {l:List (D×Gj×Gg)} (r:RelV v u) (t:WV ws l):WV ((k,b,v)::ws) ((k,b,u)::l)
def DtP (a:Gj)(ws:List (D×Gj×V))(ep:Nat):Heap->Prop:=λh=>∃ o es l,h.get? a=Ga o/\o.ExactDict/\o.data=.dict es ep/\es.toList=dtE l/\WV ws l
structure KtOk (kvs:List (D×D)):Prop where
 key:∀ k∈kvs.map (·.1),keyD k 8=true
 nd:(kvs.map (·.1)).Nodup
 len:kvs.length<=1000000
def diD (kvs:List (Int×D)):D:=PyData.dict ((uR,uR)::kvs.map λp=>(jb p.1,p.2))
mutual
inductive Rep (K:ja)(H:Hp):D->V->Prop where
 | non:Rep K H .none .non
 | bl (b:Bool):Rep K H (.bool b) (.bl b)
 | int (i:Int):Rep K H (.int i) (.int i)
 | str (x:Str):Rep K H (.str x) (.str x)
 | tup {a:Gj} {xs:List V} {ds:List D} (h:SqT K H a xs) (r:Reps K H ds xs):Rep K H (.tuple ds) (.ref a)
 | lst {a:Gj} {xs:List V} {ds:List D} (h:SqL K H a xs) (r:Reps K H ds xs):Rep K H (.list ds) (.ref a)
 | dic {a:Gj} {ks:List D} {as:List Gj} {ep:Nat} (hs:(a==sysModules)=false) (h:H a=Ga (.ext (DicP a ks as ep))) (ok:KeysOk ks) (r:Reps K H ks (as.map V.ref)):Rep K H (.dict (ks.map λk=>(k,uJ true))) (.ref a)
 | dci {a:Gj} {kvs:List (Int×D)} {ws:List (Int×V)} {ep:Nat} (hs:(a==sysModules)=false) (h:H a=Ga (.ext (DiP a ws ep))) (ok:KvOk kvs) (r:RepKV K H kvs ws):Rep K H (.dict ((uR,uR)::kvs.map λp=>(jb p.1,p.2))) (.ref a)
inductive Reps (K:ja)(H:Hp):List D->List V->Prop where
 | nil:Reps K H [] []
 | cons {d:D} {v:V} {ds:List D} {vs:List V} (h:Rep K H d v) (t:Reps K H ds vs):Reps K H (d::ds) (v::vs)
inductive RepKV (K:ja)(H:Hp):List (Int×D)->List (Int×V)->Prop where
 | nil:RepKV K H [] []
 | cons {k:Int} {d:D} {v:V} {l:List (Int×D)} {m:List (Int×V)} (h:Rep K H d v) (t:RepKV K H l m):RepKV K H ((k,d)::l) ((k,v)::m)
end
inductive RepW (K:ja)(H:Hp):List (D×D)->List (D×Gj×V)->Prop where
 | nil:RepW K H [] []
 | cons {k d:D} {b:Gj} {v:V} {l:List (D×D)} {m:List (D×Gj×V)} (hk:Rep K H k (.ref b)) (h:Rep K H d v) (t:RepW K H l m):RepW K H ((k,d)::l) ((k,b,v)::m)
theorem seqT {K:ja}{H H':Hp}{a:Gj}{xs:List V}(e:Same H H')(h:SqT K H a xs):SqT K H' a xs:=by
 rcases h with (h|⟨o,h⟩)|h
 .exact .inl (.inl (e _ _ h))
 .exact .inl (.inr ⟨o,e _ _ h⟩)
 .exact .inr h
mutual
theorem Rep.mono {K:ja}{H H':Hp}(e:Same H H'):∀ {d:D} {v:V},Rep K H d v->Rep K H' d v
 | _,_,.non=>.non
 | _,_,.bl b=>.bl b
 | _,_,.int i=>.int i
 | _,_,.str x=>.str x
 | _,_,.tup h r=>.tup (seqT e h) (Reps.mono e r)
 | _,_,.lst h r=>.lst (e.seq h) (Reps.mono e r)
 | _,_,.dic hs h ok r=>.dic hs (e _ _ h) ok (Reps.mono e r)
 | _,_,.dci hs h ok r=>.dci hs (e _ _ h) ok (RepKV.mono e r)
theorem Reps.mono {K:ja}{H H':Hp}(e:Same H H'):∀ {ds:List D} {vs:List V},Reps K H ds vs->Reps K H' ds vs
 | _,_,.nil=>.nil
 | _,_,.cons h t=>.cons (Rep.mono e h) (Reps.mono e t)
theorem RepKV.mono {K:ja}{H H':Hp}(e:Same H H'):∀ {l:List (Int×D)} {m:List (Int×V)},RepKV K H l m->RepKV K H' l m
 | _,_,.nil=>.nil
 | _,_,.cons h t=>.cons (Rep.mono e h) (RepKV.mono e t)
end
theorem RepW.mono {K:ja}{H H':Hp}(e:Same H H'):∀ {l:List (D×D)} {m:List (D×Gj×V)},RepW K H l m->RepW K H' l m
 | _,_,.nil=>.nil
 | _,_,.cons k h t=>.cons (k.mono e) (h.mono e) (t.mono e)
theorem Reps.length {K:ja}{H:Hp}:∀ {ds:List D} {vs:List V},Reps K H ds vs->ds.length=vs.length
 | _,_,.nil=>rfl
 | _,_,.cons _ t=>congrArg uC t.length
theorem Reps.get {K:ja}{H:Hp}:∀ {ds:List D} {vs:List V} {i:Nat} {d:D},Reps K H ds vs->ds[i]?=Ga d->∃ v,vs[i]?=Ga v/\Rep K H d v
 | _,_,_,_,.nil,e=>by simp at e
 | _,_,0,_,.cons h _,e=>by simp at e;subst e;exact⟨_,rfl,h⟩
 | _,_,i+1,d,.cons _ t,e=>by
  obtain⟨v,h1,h2⟩:=Reps.get (i:=i) (d:=d) t (by simpa using e);exact⟨v,by simpa using h1,h2⟩
theorem Reps.append {K:ja}{H:Hp}:∀ {ds es:List D} {vs ws:List V},Reps K H ds vs->Reps K H es ws->Reps K H (ds++es) (vs++ws)
 | _,_,_,_,.nil,q=>q
 | _,_,_,_,.cons h t,q=>.cons h (t.append q)
theorem Reps.take {K:ja}{H:Hp}:∀ {ds:List D} {vs:List V} (n:Nat),Reps K H ds vs->Reps K H (ds.take n) (vs.take n)
 | _,_,0,_=>.nil
 | _,_,_+1,.nil=>.nil
 | _,_,n+1,.cons h t=>.cons h (t.take n)
theorem Reps.drop {K:ja}{H:Hp}:∀ {ds:List D} {vs:List V} (n:Nat),Reps K H ds vs->Reps K H (ds.drop n) (vs.drop n)
 | _,_,0,r=>r
 | _,_,_+1,.nil=>.nil
 | _,_,n+1,.cons _ t=>t.drop n
theorem Reps.set {K:ja}{H:Hp}{d:D}{v:V}(q:Rep K H d v):∀ {ds:List D} {vs:List V} (i:Nat),Reps K H ds vs->Reps K H (ds.set i d) (vs.set i v)
 | _,_,_,.nil=>.nil
 | _,_,0,.cons _ t=>.cons q t
 | _,_,i+1,.cons h t=>.cons h (t.set q i)
theorem Reps.ints {K:ja}{H:Hp}:∀ (ns:List Int),Reps K H (ns.map jb) (ns.map V.int)
 | []=>.nil
 | n::ns=>.cons (.int n) (Reps.ints ns)
def Fz (H H':Hp):Prop:=∀ b x,H b=Ga (.frz x (.own b))->H' b=Ga (.frz x (.own b))
theorem Same.fz {H H':Hp}(s:Same H H'):Fz H H':=λ_ _ h=>s _ _ h
theorem Fz.upd {H:Hp}{a:Gj}{ob:HO}(m:∀ o u,H a≠Ga (.frz o u)):Fz H (upd H a ob):=λb x h=>by
 rw[upd_ne (λz=>by subst z;exact m _ _ h)];exact h
structure FnC where
 C:Gj->Hp->Hp->Prop
 mono:∀ f F F' H H',Same F F'->Fz H H'->C f F H->C f F' H'
inductive Sl where
 | no|val (d:D)|own (ds:List D)|dic (ks:List D)|dki (oa:Option Gj) (kvs:List (Int×D))|tab (P:Gj)|fn (c:FnC)|owk (a:Gj) (ds:List D)|dkt (kvs:List (D×D))
 deriving Inhabited
abbrev En:=List Sl
def ownS:Sl->Bool
 | .own _=>true
 | .dic _=>true
 | .dki _ _=>true
 | .owk _ _=>true
 | .dkt _=>true
 | _=>false
def New (F F' H:Hp):Prop:=∀ b o,F' b=Ga o->F b=Gb->H b=Gb
theorem New.refl (F H:Hp):New F F H:=λb o e n=>by rw[e] at n;cases n
theorem New.trans {F F1 F2 H H1:Hp}(a:New F F1 H)(b:New F1 F2 H1)(s:Same H H1):New F F2 H:=λc o e n=>by
 cases q:F1 c with
 | none=>exact s.free (b c o e q)
 | some u=>exact a c u q n
def RepSl (K:ja)(H0 F H:Hp):Sl->Option V->Prop
 | .no,_=>True
 | .val d,u=>∃ v,u=Ga v/\Rep K F d v
 | .own ds,u=>∃ a xs,u=Ga (.ref a)/\H a=Ga (.lst xs)/\F a=Gb/\H0 a=Gb/\Reps K F ds xs
 | .dic ks,u=>∃ a as ep,u=Ga (.ref a)/\H a=Ga (.ext (DicP a ks as ep))/\F a=Gb/\H0 a=Gb/\Reps K F ks (as.map V.ref)/\(a==sysModules)=false/\KeysOk ks
 | .dki oa kvs,u=>∃ a ws ep,u=Ga (.ref a)/\H a=Ga (.ext (DiP a ws ep))/\F a=Gb/\H0 a=Gb/\RepKV K F kvs ws/\(a==sysModules)=false/\KvOk kvs/\∀ x,oa=Ga x->a=x
 | .tab P,_=>∃ ps,H0 P=Ga (.tbl ps)/\GoodT H0 ps.toList
 | .fn c,u=>∃ f,u=Ga (.ref f)/\c.C f F H
 | .dkt kvs,u=>∃ a ws ep,u=Ga (.ref a)/\H a=Ga (.ext (DtP a ws ep))/\F a=Gb/\H0 a=Gb/\RepW K F kvs ws/\(a==sysModules)=false/\KtOk kvs
 | .owk a ds,u=>∃ xs,u=Ga (.ref a)/\H a=Ga (.lst xs)/\F a=Gb/\H0 a=Gb/\Reps K F ds xs
structure RS (K:ja)(H0 F H:Hp)(ψ:En)(σ:St):Prop where
 h0:Same H0 H
 fh:Same F H
 sl:∀ (i:Nat) (s:Sl),ψ[i]?=Ga s->∃ u,σ[i]?=Ga u/\RepSl K H0 F H s u
 ap:∀ (i j:Nat) (a:Gj) (s t:Sl),ownS s=true->ownS t=true->ψ[i]?=Ga s->ψ[j]?=Ga t->σ[i]?=Ga (Ga (.ref a))->σ[j]?=Ga (Ga (.ref a))->i=j
section
variable {K:ja}{H0 F F' H H':Hp}{ψ:En}{σ:St}
theorem RepSl.at {s:Sl}{u:Option V}(r:RepSl K H0 F H s u)(o:ownS s=true):∃ a ob,u=Ga (.ref a)/\H a=Ga ob/\F a=Gb/\H0 a=Gb/\Ow ob:=by
 cases s with
 | no=>cases o
 | val d=>cases o
 | own ds=>obtain⟨a,xs,e,h,f,g,_⟩:=r;exact⟨a,_,e,h,f,g,trivial⟩
 | dic ks=>obtain⟨a,as,ep,e,h,f,g,_⟩:=r;exact⟨a,_,e,h,f,g,trivial⟩
 | dki oa kvs=>obtain⟨a,ws,ep,e,h,f,g,_⟩:=r;exact⟨a,_,e,h,f,g,trivial⟩
 | tab P=>cases o
 | fn c=>cases o
 | owk a ds=>obtain⟨xs,e,h,f,g,_⟩:=r;exact⟨a,_,e,h,f,g,trivial⟩
 | dkt kvs=>obtain⟨a,ws,ep,e,h,f,g,_⟩:=r;exact⟨a,_,e,h,f,g,trivial⟩
theorem RepSl.to {s:Sl}{u:Option V}(r:RepSl K H0 F H s u)(f:Same F F')(zz:Fz H H')(k:∀ a ob,ownS s=true->u=Ga (.ref a)->H a=Ga ob->F a=Gb->Ow ob->H' a=Ga ob/\F' a=Gb):RepSl K H0 F' H' s u:=by
 cases s with
 | no=>trivial
 | val d=>obtain⟨v,e2,q⟩:=r;exact⟨v,e2,q.mono f⟩
 | own ds =>
  obtain⟨a,xs,e2,ha,fa,h0a,q⟩:=r;obtain⟨k1,k2⟩:=k a _ rfl e2 ha fa trivial;exact⟨a,xs,e2,k1,k2,h0a,q.mono f⟩
 | dic ks =>
  obtain⟨a,as,ep,e2,ha,fa,h0a,q,r2⟩:=r;obtain⟨k1,k2⟩:=k a _ rfl e2 ha fa trivial;exact⟨a,as,ep,e2,k1,k2,h0a,q.mono f,r2⟩
 | dki oa kvs =>
  obtain⟨a,ws,ep,e2,ha,fa,h0a,q,r2⟩:=r;obtain⟨k1,k2⟩:=k a _ rfl e2 ha fa trivial;exact⟨a,ws,ep,e2,k1,k2,h0a,q.mono f,r2⟩
 | tab P=>exact r
 | fn c=>obtain⟨g,e,q⟩:=r;exact⟨g,e,c.mono _ _ _ _ _ f zz q⟩
 | dkt kvs =>
  obtain⟨a,ws,ep,e2,ha,fa,h0a,q,r2⟩:=r;obtain⟨k1,k2⟩:=k a _ rfl e2 ha fa trivial;exact⟨a,ws,ep,e2,k1,k2,h0a,q.mono f,r2⟩
 | owk a ds =>
  obtain⟨xs,e2,ha,fa,h0a,q⟩:=r;obtain⟨k1,k2⟩:=k a _ rfl e2 ha fa trivial;exact⟨xs,e2,k1,k2,h0a,q.mono f⟩
theorem RS.ne_free (r:RS K H0 F H ψ σ){a:Gj}(n:H a=Gb):∀ (j:Nat) (s:Sl),ownS s=true->ψ[j]?=Ga s->σ[j]?≠Ga (Ga (.ref a)):=λj s o e z=>by
 obtain⟨u,e1,q⟩:=r.sl j s e;obtain⟨b,ob,e2,hb,_⟩:=q.at o;rw[z] at e1;cases e1;cases e2;rw[n] at hb;cases hb
theorem RS.grow (r:RS K H0 F H ψ σ)(g:Same H H')(f:Same F F')(fh:Same F' H')(n:New F F' H):RS K H0 F' H' ψ σ:=by
 refine⟨r.h0.trans g,fh,λi s e=>?_,r.ap⟩;obtain⟨u,e1,q⟩:=r.sl i s e;refine⟨u,e1,q.to f g.fz λa ob _ _ ha fa ow=>⟨g.ow ha ow,?_⟩⟩;cases z:F' a with
 | none=>rfl
 | some o=>have:=n a o z fa;rw[ha] at this;cases this
theorem RS.later (r:RS K H0 F H ψ σ)(g:Same H H'):RS K H0 F H' ψ σ:=r.grow g (.refl _) (r.fh.trans g) (.refl _ _)
theorem RS.put (r:RS K H0 F H ψ σ){i:Nat}{d:D}{v:V}(hi:i<σ.length)(q:Rep K F d v):RS K H0 F H (ψ.set i (.val d)) (σ.set i (Ga v)):=by
 refine⟨r.h0,r.fh,λj s e=>?_,λj k a s t o1 o2 e1 e2 e3 e4=>?_⟩
 .by_cases h:i=j
  .subst h;refine⟨Ga v,by rw[jM hi],?_⟩;by_cases hl:i<ψ.length
   .rw[jM hl] at e;cases e;exact⟨v,rfl,q⟩
   .rw[kr (by simpa using hl)] at e;cases e
  .rw[jI h] at e ⊢;exact r.sl j s e
 .have nj:∀ (j:Nat) (s:Sl),ownS s=true->(ψ.set i (.val d))[j]?=Ga s->i≠j:=λj s o e z=>by
   subst z;by_cases hl:i<ψ.length
   .rw[jM hl] at e;cases e;cases o
   .rw[kr (by simpa using hl)] at e;cases e
  have n1:=nj j s o1 e1;have n2:=nj k t o2 e2;rw[jI n1] at e1 e3;rw[jI n2] at e2 e4;exact r.ap j k a s t o1 o2 e1 e2 e3 e4
theorem RS.putG (r:RS K H0 F H ψ σ){i:Nat}{s0:Sl}{a:Gj}(hi:i<σ.length)(q:RepSl K H0 F H s0 (Ga (.ref a)))
  (ne:∀ (j:Nat) (s:Sl),ownS s=true->j≠i->ψ[j]?=Ga s->σ[j]?≠Ga (Ga (.ref a))):RS K H0 F H (ψ.set i s0) (σ.set i (Ga (.ref a))):=by
 refine⟨r.h0,r.fh,λj s e=>?_,λj k b s t o1 o2 e1 e2 e3 e4=>?_⟩
 .by_cases h:i=j
  .subst h;refine⟨Ga (.ref a),by rw[jM hi],?_⟩;by_cases hl:i<ψ.length
   .rw[jM hl] at e;cases e;exact q
   .rw[kr (by simpa using hl)] at e;cases e
  .rw[jI h] at e ⊢;exact r.sl j s e
 .by_cases hj:i=j
  .by_cases hk:i=k
   .exact hj.symm.trans hk
   .subst hj;rw[jM hi] at e3;rw[jI hk] at e2 e4;cases e3;exact absurd e4 (ne k t o2 (kY hk) e2)
  .by_cases hk:i=k
   .subst hk;rw[jM hi] at e4;rw[jI hj] at e1 e3;cases e4;exact absurd e3 (ne j s o1 (kY hj) e1)
   .rw[jI hj] at e1 e3;rw[jI hk] at e2 e4;exact r.ap j k b s t o1 o2 e1 e2 e3 e4
theorem RS.putO (r:RS K H0 F H ψ σ){i:Nat}{ds:List D}{a:Gj}{xs:List V}(hi:i<σ.length)(ha:H a=Ga (.lst xs))(fa:F a=Gb)(h0a:H0 a=Gb)(q:Reps K F ds xs)
  (ne:∀ (j:Nat) (s:Sl),ownS s=true->j≠i->ψ[j]?=Ga s->σ[j]?≠Ga (Ga (.ref a))):RS K H0 F H (ψ.set i (.own ds)) (σ.set i (Ga (.ref a))) :=
 r.putG hi ⟨a,xs,rfl,ha,fa,h0a,q⟩ ne
theorem RS.chgG (r:RS K H0 F H ψ σ){i:Nat}{s0 s1:Sl}{a:Gj}{ob:HO}(e:ψ[i]?=Ga s0)(o0:ownS s0=true)(u:σ[i]?=Ga (Ga (.ref a)))(q:RepSl K H0 F (upd H a ob) s1 (Ga (.ref a))) :
  RS K H0 F (upd H a ob) (ψ.set i s1) σ:=by
 obtain⟨u',e',q'⟩:=r.sl i _ e;obtain⟨a',ob',z,ha,fa,h0a,ow0⟩:=q'.at o0;rw[u] at e';cases e';cases z;have hl:i<ψ.length:=(je.mp e).1;refine⟨r.h0.put h0a (ow0.nf ha),r.fh.put fa (ow0.nf ha),λj s ej=>?_,λj k b s t o1 o2 e1 e2 e3 e4=>?_⟩
 .by_cases h:i=j
  .subst h;rw[jM hl] at ej;cases ej;exact⟨_,u,q⟩
  .rw[jI h] at ej;obtain⟨w,e2,q2⟩:=r.sl j s ej;refine⟨w,e2,q2.to (.refl _) (Fz.upd (ow0.nf ha)) λb ob2 ow z1 hb fb _=>⟨?_,fb⟩⟩;subst z1;rw[upd_ne (λz=>by subst z;exact h (r.ap i j b _ _ o0 ow e ej u e2))];exact hb
 .have f1:∀ (j:Nat) (s:Sl),ownS s=true->(ψ.set i s1)[j]?=Ga s->∃ s',ownS s'=true/\ψ[j]?=Ga s':=λj s o h=>by
   by_cases hj:i=j
   .subst hj;exact⟨_,o0,e⟩
   .rw[jI hj] at h;exact⟨_,o,h⟩
  obtain⟨_,o1,e1⟩:=f1 j _ o1 e1;obtain⟨_,o2,e2⟩:=f1 k _ o2 e2;exact r.ap j k b _ _ o1 o2 e1 e2 e3 e4
theorem RS.chg (r:RS K H0 F H ψ σ){i:Nat}{ds es:List D}{a:Gj}{ys:List V}(e:ψ[i]?=Ga (.own ds))(u:σ[i]?=Ga (Ga (.ref a)))(q:Reps K F es ys) :
  RS K H0 F (upd H a (.lst ys)) (ψ.set i (.own es)) σ:=by
 obtain⟨u',e',a',xs,z,ha,fa,h0a,_⟩:=r.sl i _ e;rw[u] at e';cases e';cases z;exact r.chgG e rfl u ⟨a,ys,rfl,upd_same,fa,h0a,q⟩
end
def frz1:Sl->Sl
 | .own ds=>.val (.list ds)
 | .dic ks=>.val (dkD ks)
 | .dki _ kvs=>.val (diD kvs)
 | .owk _ ds=>.val (.list ds)
 | .dkt _=>.no
 | s=>s
theorem zo7 (s:Sl):ownS (frz1 s)=false:=by cases s<;>rfl
def frz (ψ:En):En:=ψ.map frz1
theorem RS.frz {K:ja}{H0 F H:Hp}{ψ:En}{σ:St}(r:RS K H0 F H ψ σ):RS K H0 H H (T3.frz ψ) σ:=by
 refine⟨r.h0,.refl _,λi s e=>?_,λi j a s t o1 o2 e1=>?_⟩
 .unfold T3.frz at e;rw[jq] at e;cases z:ψ[i]? with
  | none=>rw[z] at e;cases e
  | some s' =>
   rw[z] at e;obtain⟨u,e1,q⟩:=r.sl i s' z;refine⟨u,e1,?_⟩;cases s' with
   | no=>cases e;trivial
   | val d=>cases e;obtain⟨v,e2,q⟩:=q;exact⟨v,e2,q.mono r.fh⟩
   | own ds =>
    cases e;obtain⟨a,xs,e2,ha,fa,h0a,q⟩:=q;exact⟨_,e2,.lst (SqL.of ha) (q.mono r.fh)⟩
   | dic ks =>
    cases e;obtain⟨a,as,ep,e2,ha,fa,h0a,q,sm,ok⟩:=q;exact⟨_,e2,.dic sm ha ok (q.mono r.fh)⟩
   | dki oa kvs =>
    cases e;obtain⟨a,ws,ep,e2,ha,fa,h0a,q,sm,ok,_⟩:=q;exact⟨_,e2,.dci sm ha ok (q.mono r.fh)⟩
   | tab P=>cases e;exact q
   | fn c=>cases e;obtain⟨g,e2,q⟩:=q;exact⟨g,e2,c.mono _ _ _ _ _ r.fh (λ_ _ h=>h) q⟩
   | dkt kvs=>cases e;trivial
   | owk a ds =>
    cases e;obtain⟨xs,e2,ha,fa,h0a,q⟩:=q;exact⟨_,e2,.lst (SqL.of ha) (q.mono r.fh)⟩
 .exfalso;unfold T3.frz at e1;rw[jq] at e1;cases z:ψ[i]? with
  | none=>rw[z] at e1;cases e1
  | some s'=>rw[z] at e1;cases e1;rw[zo7] at o1;cases o1
def frzAt (i:Nat)(ψ:En):En:=match ψ[i]? with
 | some (.own ds)=>ψ.set i (.val (.list ds))
 | some (.dic ks)=>ψ.set i (.val (dkD ks))
 | some (.dki _ kvs)=>ψ.set i (.val (diD kvs))
 | _=>ψ
theorem RS.frzG {K:ja}{H0 F H:Hp}{ψ:En}{σ:St}(r:RS K H0 F H ψ σ){i:Nat}{s0 s1:Sl}{a:Gj}{ob:HO}(os:ownS s1=false)(e:ψ[i]?=Ga s0)(o0:ownS s0=true)(e1:σ[i]?=Ga (Ga (.ref a)))(ha:H a=Ga ob)(ow0:Ow ob)(fa:F a=Gb)(h0a:H0 a=Gb)
  (q:∀ F',Same F F'->F' a=Ga ob->RepSl K H0 F' H s1 (Ga (.ref a))):F a=Gb/\H a=Ga ob/\Ow ob/\Same F (upd F a ob)/\New F (upd F a ob) H0/\RS K H0 (upd F a ob) H (ψ.set i s1) σ:=by
 have hi:i<σ.length:=(je.mp e1).1;have hl:i<ψ.length:=(je.mp e).1;have sF:Same F (upd F a ob):=Same.new fa;refine⟨fa,ha,ow0,sF,λb o h n=>?_,⟨r.h0,λb o h=>?_,λj s ej=>?_,λj k b s t o1 o2 x1 x2 x3 x4=>?_⟩⟩
 .by_cases hb:b=a
  .subst hb;exact h0a
  .rw[upd_ne hb,n] at h;cases h
 .by_cases hb:b=a
  .subst hb;rw[upd_same] at h;cases h;cases ob<;>first|exact ha|exact ow0.elim
  .rw[upd_ne hb] at h;have g:=r.fh b o h;cases o<;>first|exact g|exact⟨g.choose,g.choose_spec.1,λz=>g.choose_spec.2 (z.un ow0.pl)⟩
 .by_cases h:i=j
  .subst h;rw[jM hl] at ej;cases ej;exact⟨_,e1,q _ sF upd_same⟩
  .rw[jI h] at ej;obtain⟨w,z1,q2⟩:=r.sl j s ej;refine⟨w,z1,q2.to sF (λ_ _ h=>h) λb ob2 ow z2 hb fb _=>⟨hb,?_⟩⟩;subst z2;rw[upd_ne (λz=>by subst z;exact h (r.ap i j b _ _ o0 ow e ej e1 z1))];exact fb
 .have f1:∀ (j:Nat) (s:Sl),ownS s=true->(ψ.set i s1)[j]?=Ga s->ψ[j]?=Ga s:=λj s o h=>by
   by_cases hj:i=j
   .subst hj;rw[jM hl] at h;cases h;rw[os] at o;cases o
   .rw[jI hj] at h;exact h
  exact r.ap j k b _ _ o1 o2 (f1 j _ o1 x1) (f1 k _ o2 x2) x3 x4
theorem RS.frzAt2 {K:ja}{H0 F H:Hp}{ψ:En}{σ:St}(r:RS K H0 F H ψ σ)(i:Nat):T3.frzAt i ψ=ψ\/∃ a ob,F a=Gb/\H a=Ga ob/\Ow ob/\Same F (upd F a ob)/\New F (upd F a ob) H0/\RS K H0 (upd F a ob) H (T3.frzAt i ψ) σ:=by
 unfold T3.frzAt;split
 .rename_i ds e;obtain⟨u,e1,a,xs,e2,ha,fa,h0a,q⟩:=r.sl i _ e;subst e2;exact .inr ⟨_,_,r.frzG rfl e rfl e1 ha trivial fa h0a λF' f h=>⟨_,rfl,.lst (SqL.of h) (q.mono f)⟩⟩
 .rename_i ks e;obtain⟨u,e1,a,as,ep,e2,ha,fa,h0a,q,sm,ok⟩:=r.sl i _ e;subst e2;exact .inr ⟨_,_,r.frzG rfl e rfl e1 ha trivial fa h0a λF' f h=>⟨_,rfl,.dic sm h ok (q.mono f)⟩⟩
 .rename_i oa kvs e;obtain⟨u,e1,a,ws,ep,e2,ha,fa,h0a,q,sm,ok,_⟩:=r.sl i _ e;subst e2;exact .inr ⟨_,_,r.frzG rfl e rfl e1 ha trivial fa h0a λF' f h=>⟨_,rfl,.dci sm h ok (q.mono f)⟩⟩
 .exact .inl rfl
theorem RS.frzAt {K:ja}{H0 F H:Hp}{ψ:En}{σ:St}(r:RS K H0 F H ψ σ)(i:Nat):∃ F',Same F F'/\New F F' H0/\RS K H0 F' H (T3.frzAt i ψ) σ:=by
 rcases r.frzAt2 i with e|⟨a,ob,_,_,_,f,n,q⟩
 .rw[e];exact⟨F,.refl _,.refl _ _,r⟩
 .exact⟨_,f,n,q⟩
end T3
namespace T3
open PySem PySem.Spec PyProof.Rows L2
abbrev FV:=En->Option D
abbrev FL:=En->Option (List D)
abbrev FB:=En->Option Bool
def tV (K:ja)(f:FV):TE:=λσ H Q=>∃ H0 F ψ d,RS K H0 F H ψ σ/\f ψ=Ga d/\∀ v H' F',Same H H'->Same F F'->Same F' H'->New F F' H->Rep K F' d v->Q v H'
def tO (K:ja)(f:FL):TE:=λσ H Q=>∃ H0 F ψ ds,RS K H0 F H ψ σ/\f ψ=Ga ds /\
 ∀ a xs H' F',Same H H'->Same F F'->Same F' H'->New F F' H->H a=Gb->F' a=Gb->H' a=Ga (.lst xs)->Reps K F' ds xs->Q (.ref a) H'
def tT (K:ja)(f:FB):TT:=λσ H Q=>∃ H0 F ψ b,RS K H0 F H ψ σ/\f ψ=Ga b/\∀ H',Same H H'->Q b H'
def tL (K:ja)(f:FL):TA:=λσ H Q=>∃ H0 F ψ ds,RS K H0 F H ψ σ/\f ψ=Ga ds/\∀ vs H' F',Same H H'->Same F F'->Same F' H'->New F F' H->Reps K F' ds vs->Q vs H'
abbrev PV (X:Cx)(e:Expr)(f:FV):Prop:=PE X e (tV X.K f)
abbrev PO (X:Cx)(e:Expr)(f:FL):Prop:=PE X e (tO X.K f)
abbrev PB (X:Cx)(e:Expr)(f:FB):Prop:=PT X e (tT X.K f)
abbrev PBW (X:Cx)(e:Expr)(f:FB):Prop:=PW X e (tT X.K f)
structure PL (X:Cx)(es:List Expr)(f:FL):Prop where
 pa:PA X es (tL X.K f)
 len:∀ ψ ds,f ψ=Ga ds->ds.length=es.length
theorem zaN {X:Cx}{e:Expr}{t t':TE}(h:PE X e t)(m:∀ σ H Q,t' σ H Q->t σ H Q):PE X e t':=λω s σ H Q I q=>h ω s σ H Q I (m σ H Q q)
theorem zjK {X:Cx}{e:Expr}{t t':TT}(h:PT X e t)(m:∀ σ H Q,t' σ H Q->t σ H Q):PT X e t':=λω s σ H Q I q=>h ω s σ H Q I (m σ H Q q)
theorem zmU {X:Cx}{e:Expr}{t t':TT}(h:PW X e t)(m:∀ σ H Q,t' σ H Q->t σ H Q):PW X e t':=λwh ω s σ H Q I q=>h wh ω s σ H Q I (m σ H Q q)
theorem zcU {X:Cx}{e:List Expr}{t t':TA}(h:PA X e t)(m:∀ σ H Q,t' σ H Q->t σ H Q):PA X e t':=λp ω s σ H Q I q=>h p ω s σ H Q I (m σ H Q q)
theorem zkR {X:Cx}{e:List Stmt}{t t':TS}(h:PSs X e t)(m:∀ D σ H,t' D σ H->t D σ H):PSs X e t':=λω s σ H D I q=>h ω s σ H D I (m D σ H q)
theorem zbL {X:Cx}{e:Stmt}{t t':TS}(h:PS X e t)(m:∀ D σ H,t' D σ H->t D σ H):PS X e t':=λω s σ H D I q=>h ω s σ H D I (m D σ H q)
theorem bind_some {α β:Type}{o:Option α}{f:α->Option β}{b:β}(h:o.bind f=Ga b):∃ a,o=Ga a/\f a=Ga b:=by
 cases o with
 | none=>cases h
 | some a=>exact⟨a,rfl,h⟩
section
variable {X:Cx}{pos:Pos}
theorem PO.v {e:Expr}{f:FL}(h:PO X e f):PV X e (λψ=>(f ψ).bind λds=>Ga (.list ds)):=by
 refine zaN h λσ H Q=>?_;rintro⟨H0,F,ψ,d,r,e,q⟩;obtain⟨ds,z,e⟩:=bind_some e;cases e
 .refine⟨H0,F,ψ,ds,r,z,λa xs H' F' g f1 fh n ha fa ha' rr=>?_⟩;have sF:Same F' (upd F' a (.lst xs)):=Same.new fa;refine q (.ref a) H' (upd F' a (.lst xs)) g (f1.trans sF) (λb o h=>?_) (λb o h nb=>?_) (.lst (SqL.of upd_same) (rr.mono sF))
  .exact Same.upL fh ha' trivial b o h
  .by_cases hb:b=a
   .subst hb;exact ha
   .rw[upd_ne hb] at h;exact n b o h nb
def gv (i:Nat):FV:=λψ=>match ψ[i]? with
 | some (.val d)=>Ga d
 | _=>Gb
theorem zaA (i:Nat){x:Str}(hN:X.N[i]?=Ga x:=by rfl)(hv:Vis X.env.scope x:=by first|exact kR rfl|exact kc (kR rfl)|exact kc (kc rfl))(hd:(x==("__debug__":Str))=false:=by decide)
  (hcd:(x==("__classdict__":Str))=false:=by decide):PV X (.Name x pos) (gv i):=by
 refine zaN (pe_var hN hv hd hcd) λσ H Q=>?_;rintro⟨H0,F,ψ,d,r,e,q⟩;unfold gv at e;cases z:ψ[i]? with
 | none=>rw[z] at e;cases e
 | some s =>
  rw[z] at e;cases s with
  | val d' =>
   cases e;obtain⟨u,e1,v,e2,h⟩:=r.sl i _ z;subst e2;exact⟨v,e1,q v H F (.refl _) (.refl _) r.fh (.refl _ _) h⟩
  | no=>cases e
  | own _=>cases e
  | dic _=>cases e
  | dki _ _=>cases e
  | tab _=>cases e
  | fn _=>cases e
  | owk _ _=>cases e
  | dkt _=>cases e
theorem zjL {e:Expr}{d:D}{v:V}(h:PE X e (tC v))(r:∀ K F,Rep K F d v):PV X e (λ_=>Ga d):=by
 refine zaN h λσ H Q=>?_;rintro⟨H0,F,ψ,d',rs,e,q⟩;cases e;exact q v H F (.refl _) (.refl _) rs.fh (.refl _ _) (r _ _)
theorem zaE {i j}:PV X (.Constant (.int i) j pos) (λ_=>Ga (.int i)):=zjL pe_int λ_ _=>.int i
theorem v_bl {b j}:PV X (.Constant (.bool b) j pos) (λ_=>Ga (.bool b)):=zjL pe_bl λ_ _=>.bl b
theorem zeK {j}:PV X (.Constant .none j pos) (λ_=>Ga .none):=zjL pe_non λ_ _=>.non
theorem zaR:PL X [] (λ_=>Ga []):=by
 refine⟨zcU pa_nil λσ H Q=>?_,λψ ds e=>by cases e;rfl⟩;rintro⟨H0,F,ψ,ds,r,e,q⟩;cases e;exact q [] H F (.refl _) (.refl _) r.fh (.refl _ _) .nil
theorem zaC {e:Expr}{es:List Expr}{f:FV}{g:FL}(ha:PV X e f)(hr:PL X es g)(hs:starEach (e::es) X.env=(false,eval e X.env)::starEach es X.env:=by rfl) :
  PL X (e::es) (λψ=>(f ψ).bind λd=>(g ψ).bind λds=>Ga (d::ds)):=by
 refine⟨zcU (pa_cons ha hr.pa hs) λσ H Q=>?_,λψ ds e=>?_⟩
 .rintro⟨H0,F,ψ,ds,r,e,q⟩;obtain⟨d,e1,e⟩:=bind_some e;obtain⟨ds',e2,e⟩:=bind_some e;cases e;refine⟨H0,F,ψ,d,r,e1,λv H1 F1 g1 f1 fh1 n1 rv=>⟨H0,F1,ψ,ds',r.grow g1 f1 fh1 n1,e2,λvs H2 F2 g2 f2 fh2 n2 rvs=>?_⟩⟩;exact q (v::vs) H2 F2 (g1.trans g2) (f1.trans f2) fh2 (n1.trans n2 g1) (.cons (rv.mono f2) rvs)
 .obtain⟨d,e1,e⟩:=bind_some e;obtain⟨ds',e2,e⟩:=bind_some e;cases e;exact congrArg uC (hr.len ψ _ e2)
theorem zgV {es:List Expr}{x1}{g:FL}(h:PL X es g)(hz:es.length<=1000:=by decide):PV X (.Tuple es x1 pos) (λψ=>(g ψ).bind λds=>Ga (.tuple ds)):=by
 refine zaN (pe_tup h.pa) λσ H Q=>?_;rintro⟨H0,F,ψ,d,r,e,q⟩;obtain⟨ds,e1,e⟩:=bind_some e;cases e;refine⟨H0,F,ψ,ds,r,e1,λvs H1 F1 g1 f1 fh1 n1 rv=>⟨?_,λp hp=>?_⟩⟩
 .rw[<- rv.length,h.len ψ ds e1];exact vC (small1000 hz)
 .have fp:F1 p=Gb:=fh1.free hp;have s1:Same F1 (upd F1 p (.tup vs)):=Same.new fp;have s2:Same H1 (upd H1 p (.tup vs)):=Same.new hp;refine q (.ref p) (upd H1 p (.tup vs)) (upd F1 p (.tup vs)) (g1.trans s2) (f1.trans s1) (λb o h=>?_) (λb o h nb=>?_) (.tup (SqT.of upd_same) (rv.mono s1))
  .exact Same.up2 (ob:=.tup vs) fh1 fp hp trivial b o h
  .by_cases hb:b=p
   .subst hb;exact g1.free hp
   .rw[upd_ne hb] at h;exact n1 b o h nb
theorem zhO {es:List Expr}{g:FL}(h:PL X es g)(hz:es.length<=1000:=by decide):PO X (.List es pos) g:=by
 refine zaN (pe_lst h.pa) λσ H Q=>?_;rintro⟨H0,F,ψ,ds,r,e1,q⟩;refine⟨H0,F,ψ,ds,r,e1,λvs H1 F1 g1 f1 fh1 n1 rv=>⟨?_,λp hp=>?_⟩⟩
 .rw[<- rv.length,h.len ψ ds e1];exact vC (small1000 hz)
 .have s2:Same H1 (upd H1 p (.lst vs)):=Same.new hp;exact q p vs (upd H1 p (.lst vs)) F1 (g1.trans s2) f1 (fh1.trans s2) n1 (g1.free hp) (fh1.free hp) upd_same rv
def R2V (K:ja)(r:R2)(g:D->D->Option D):Prop:=∀ (F H:Hp) (x y:V) (a b d:D) (Q:VK),Same F H->Rep K F a x->Rep K F b y->g a b=Ga d ->
 (∀ v H' F',Same H H'->Same F F'->Same F' H'->New F F' H->Rep K F' d v->Q v H')->r x y H Q
theorem zo8 {K:ja}{r:R2}{g:D->D->Option D}(hr:R2V K r g){fa fb:FV}{σ:St}{H:Hp}{Q:VK}(h:tV K (λψ=>(fa ψ).bind λa=>(fb ψ).bind λb=>g a b) σ H Q):tOp r (tV K fa) (tV K fb) σ H Q:=by
 obtain⟨H0,F,ψ,d,rs,e,q⟩:=h;obtain⟨a,e1,e⟩:=bind_some e;obtain⟨b,e2,e⟩:=bind_some e;refine⟨H0,F,ψ,a,rs,e1,λv H1 F1 g1 f1 fh1 n1 rv=>⟨H0,F1,ψ,b,rs.grow g1 f1 fh1 n1,e2,λu H2 F2 g2 f2 fh2 n2 ru=>?_⟩⟩;refine hr F2 H2 v u a b d Q fh2 (rv.mono f2) ru e λw H3 F3 g3 f3 fh3 n3 rw3=>?_;exact q w H3 F3 ((g1.trans g2).trans g3) ((f1.trans f2).trans f3) fh3 ((n1.trans n2 g1).trans n3 (g1.trans g2)) rw3
theorem v_op {op:Operator}{r:R2}{g:D->D->Option D}(ho:OpR X (binaryOp op) r)(hr:R2V X.K r g){a b:Expr}{fa fb:FV}(ha:PV X a fa)(hb:PV X b fb) :
  PV X (.BinOp a op b pos) (λψ=>(fa ψ).bind λx=>(fb ψ).bind λy=>g x y):=zaN (pe_op ho ha hb) λ_ _ _ h=>zo8 hr h
theorem zo9 {op:CmpOp}{r:R2}{g:D->D->Option D}(ho:OpR X (compareOp op) r)(hr:R2V X.K r g){a b:Expr}{fa fb:FV}(ha:PV X a fa)(hb:PV X b fb)(hm:behindInMarks op b=false:=by first|exact nomark _|rfl|with_unfolding_all rfl) :
  PV X (.Compare a [op] [b] pos) (λψ=>(fa ψ).bind λx=>(fb ψ).bind λy=>g x y):=zaN (pe_cmpR ho ha hb hm) λ_ _ _ h=>zo8 hr h
def toB:D->Option Bool
 | .bool b=>Ga b
 | _=>Gb
theorem zf2 {d:D}{b:Bool}(h:toB d=Ga b):d=.bool b:=by cases d<;>cases h;rfl
theorem tV_B {K:ja}{f:FV}{σ:St}{H:Hp}{Q:Bool->Hp->Prop}(h:tT K (λψ=>(f ψ).bind toB) σ H Q):tV K f σ H (λx H'=>∃ k,x=.bl k/\Q k H'):=by
 obtain⟨H0,F,ψ,b,rs,e,q⟩:=h;obtain⟨d,e1,e2⟩:=bind_some e;cases zf2 e2;refine⟨H0,F,ψ,_,rs,e1,λv H1 F1 g1 f1 fh1 n1 rv=>?_⟩;cases rv;exact⟨b,rfl,q H1 g1⟩
theorem zgW {op:CmpOp}{r:R2}{g:D->D->Option D}(ho:OpR X (compareOp op) r)(hr:R2V X.K r g){a b:Expr}{fa fb:FV}(ha:PV X a fa)(hb:PV X b fb)(hm:behindInMarks op b=false:=by first|exact nomark _|rfl|with_unfolding_all rfl) :
  PB X (.Compare a [op] [b] pos) (λψ=>((fa ψ).bind λx=>(fb ψ).bind λy=>g x y).bind toB):=by
 refine zjK (pt_cmpR ho ha hb hm) λσ H Q h=>?_;exact zo8 hr (tV_B h)
def tru:D->Option Bool
 | .none=>Ga false
 | .bool b=>Ga b
 | .int i=>Ga (i !=0)
 | .tuple xs=>Ga (!xs.isEmpty)
 | .list xs=>Ga (!xs.isEmpty)
 | _=>Gb
theorem Reps.isEmpty {K:ja}{H:Hp}{ds:List D}{vs:List V}(r:Reps K H ds vs):ds.isEmpty=vs.isEmpty:=by cases r<;>rfl
theorem zxU {K:ja}{F H:Hp}{d:D}{v:V}{b:Bool}(e:tru d=Ga b)(r:Rep K F d v)(s:Same F H):TruV K v H b:=by
 cases r with
 | non=>cases e;rfl
 | bl c=>cases e;rfl
 | int i=>cases e;rfl
 | str x=>cases e
 | tup h r=>cases e;exact .inr (.inl ⟨_,seqT s h,by rw[r.isEmpty]⟩)
 | lst h r=>cases e;exact .inl ⟨_,s.seq h,by rw[r.isEmpty]⟩
 | dic hs h ok r=>cases e
 | dci hs h ok r=>cases e
theorem zfU {e:Expr}{f:FV}(h:PV X e f)(he:∀ whole,isTrue e X.env whole=(do let v <- whole;standAt e.pos;holding [v] (truthy v)):=by intro _;rfl):PB X e (λψ=>(f ψ).bind tru):=by
 refine zjK (pt_truth h he) λσ H Q=>?_;rintro⟨H0,F,ψ,b,rs,e,q⟩;obtain⟨d,e1,e2⟩:=bind_some e;exact⟨H0,F,ψ,d,rs,e1,λv H1 F1 g1 f1 fh1 n1 rv=>⟨b,zxU e2 rv fh1,q H1 g1⟩⟩
theorem zmV {e:Expr}{f:FB}(h:PB X e f):PB X (.UnaryOp .Not e pos) (λψ=>(f ψ).bind λc=>Ga (!c)):=by
 refine zjK (pt_not h) λσ H Q=>?_;rintro⟨H0,F,ψ,b,rs,e,q⟩;obtain⟨c,z,e⟩:=bind_some e;cases e;exact⟨H0,F,ψ,c,rs,z,q⟩
theorem zeD {a:Expr}{f:FB}(h:PB X a f):PBW X (.BoolOp .And [a] pos) f:=pw_and1 h
theorem ziK {a:Expr}{f:FB}(h:PB X a f):PBW X (.BoolOp .Or [a] pos) f:=pw_or1 h
theorem zf7 {a b:Expr}{rest:List Expr}{f g:FB}(ha:PB X a f)(hb:PBW X (.BoolOp .And (b::rest) pos) g):PBW X (.BoolOp .And (a::b::rest) pos) (λψ=>(f ψ).bind λc=>if c then g ψ else Ga false):=by
 refine zmU (pw_and ha hb) λσ H Q=>?_;rintro⟨H0,F,ψ,b,rs,e,q⟩;obtain⟨c,e1,e2⟩:=bind_some e;refine⟨H0,F,ψ,c,rs,e1,λH1 g1=>?_⟩;cases c with
 | true=>exact iteT ⟨H0,F,ψ,b,rs.later g1,e2,λH2 g2=>q H2 (g1.trans g2)⟩
 | false=>cases e2;exact iteF (q H1 g1)
theorem b_or {a b:Expr}{rest:List Expr}{f g:FB}(ha:PB X a f)(hb:PBW X (.BoolOp .Or (b::rest) pos) g):PBW X (.BoolOp .Or (a::b::rest) pos) (λψ=>(f ψ).bind λc=>if c then Ga true else g ψ):=by
 refine zmU (pw_or ha hb) λσ H Q=>?_;rintro⟨H0,F,ψ,b,rs,e,q⟩;obtain⟨c,e1,e2⟩:=bind_some e;refine⟨H0,F,ψ,c,rs,e1,λH1 g1=>?_⟩;cases c with
 | false=>exact iteF ⟨H0,F,ψ,b,rs.later g1,e2,λH2 g2=>q H2 (g1.trans g2)⟩
 | true=>cases e2;exact iteT (q H1 g1)
theorem PBW.b {e:Expr}{f:FB}(h:PBW X e f):PB X e f:=PW.pt h
theorem zrW {op}{a:Expr}{f:FV}(h:PV X a f):PV X (.BoolOp op [a] pos) f:=pe_one h
theorem zu0 {a b:Expr}{rest:List Expr}{f g:FV}(ha:PV X a f)(hb:PV X (.BoolOp .And (b::rest) pos) g):PV X (.BoolOp .And (a::b::rest) pos) (λψ=>((f ψ).bind toB).bind λc=>if c then g ψ else Ga (.bool false)):=by
 refine zaN (pe_and ha hb) λσ H Q=>?_;rintro⟨H0,F,ψ,d,rs,e,q⟩;obtain⟨c,e1,e2⟩:=bind_some e;obtain⟨d',e3,e4⟩:=bind_some e1;cases zf2 e4;refine⟨H0,F,ψ,_,rs,e3,λv H1 F1 g1 f1 fh1 n1 rv=>?_⟩;cases rv;refine⟨c,rfl,?_⟩;cases c with
 | true=>exact iteT ⟨H0,F1,ψ,d,rs.grow g1 f1 fh1 n1,e2,λw H2 F2 g2 f2 fh2 n2 rw2=>q w H2 F2 (g1.trans g2) (f1.trans f2) fh2 (n1.trans n2 g1) rw2⟩
 | false=>cases e2;exact iteF (q (.bl false) H1 F1 g1 f1 fh1 n1 (.bl false))
theorem v_or {a b:Expr}{rest:List Expr}{f g:FV}(ha:PV X a f)(hb:PV X (.BoolOp .Or (b::rest) pos) g):PV X (.BoolOp .Or (a::b::rest) pos) (λψ=>((f ψ).bind toB).bind λc=>if c then Ga (.bool true) else g ψ):=by
 refine zaN (pe_or ha hb) λσ H Q=>?_;rintro⟨H0,F,ψ,d,rs,e,q⟩;obtain⟨c,e1,e2⟩:=bind_some e;obtain⟨d',e3,e4⟩:=bind_some e1;cases zf2 e4;refine⟨H0,F,ψ,_,rs,e3,λv H1 F1 g1 f1 fh1 n1 rv=>?_⟩;cases rv;refine⟨c,rfl,?_⟩;cases c with
 | false=>exact iteF ⟨H0,F1,ψ,d,rs.grow g1 f1 fh1 n1,e2,λw H2 F2 g2 f2 fh2 n2 rw2=>q w H2 F2 (g1.trans g2) (f1.trans f2) fh2 (n1.trans n2 g1) rw2⟩
 | true=>cases e2;exact iteT (q (.bl true) H1 F1 g1 f1 fh1 n1 (.bl true))
theorem zxV {a:Expr}{f:FV}(ha:PV X a f):PV X (.UnaryOp .Not a pos) (λψ=>((f ψ).bind toB).bind λc=>Ga (.bool (!c))):=by
 refine zaN (pe_not ha) λσ H Q=>?_;rintro⟨H0,F,ψ,d,rs,e,q⟩;obtain⟨c,e1,e2⟩:=bind_some e;obtain⟨d',e3,e4⟩:=bind_some e1;cases zf2 e4;cases e2;refine⟨H0,F,ψ,_,rs,e3,λv H1 F1 g1 f1 fh1 n1 rv=>?_⟩;cases rv;exact⟨c,rfl,q (.bl (!c)) H1 F1 g1 f1 fh1 n1 (.bl _)⟩
theorem v_if {c a b:Expr}{fc:FB}{f g:FV}(hc:PB X c fc)(ha:PV X a f)(hb:PV X b g):PV X (.IfExp c a b pos) (λψ=>(fc ψ).bind λk=>if k then f ψ else g ψ):=by
 refine zaN (pe_ifExp hc ha hb) λσ H Q=>?_;rintro⟨H0,F,ψ,d,rs,e,q⟩;obtain⟨k,e1,e2⟩:=bind_some e;refine⟨H0,F,ψ,k,rs,e1,λH1 g1=>?_⟩;cases k with
 | true=>exact iteT ⟨H0,F,ψ,d,rs.later g1,e2,λw H2 F2 g2 f2 fh2 n2 rw2=>q w H2 F2 (g1.trans g2) f2 fh2 (λb o h nb=>g1.free (n2 b o h nb)) rw2⟩
 | false=>exact iteF ⟨H0,F,ψ,d,rs.later g1,e2,λw H2 F2 g2 f2 fh2 n2 rw2=>q w H2 F2 (g1.trans g2) f2 fh2 (λb o h nb=>g1.free (n2 b o h nb)) rw2⟩
end
end T3
namespace T3
open PySem PySem.Spec PyProof.Rows L2
section
variable {X:Cx}{ω:List (Gj×Obj)}{σ:St}{F H:Hp}{s:Gh}
mutual
def plD:D->Bool
 | .dict _=>false
 | .list xs=>plAll xs
 | .tuple xs=>plAll xs
 | _=>true
def plAll:List D->Bool
 | []=>true
 | x::xs=>plD x&&plAll xs
end
mutual
theorem zeL:∀ {d:D},d.canLay0=true->plD d=true
 | .none,_=>by rw[plD]<;>(intros;contradiction)
 | .bool _,_=>by rw[plD]<;>(intros;contradiction)
 | .int _,_=>by rw[plD]<;>(intros;contradiction)
 | .str _,_=>by rw[plD]<;>(intros;contradiction)
 | .list xs,h=>by rw[qN] at h;rw[plD];exact zdL h
 | .tuple xs,h=>by rw[qN] at h;rw[plD];exact zdL h
 | .dict _,h=>by rw[qN] at h;cases h
theorem zdL:∀ {ds:List D},jZ ds=true->plAll ds=true
 | [],_=>by rw[plAll]
 | x::xs,h=>by
  rw[jZ,jE] at h;rw[plAll,zeL h.1,zdL h.2];rfl
end
mutual
theorem zjM:∀ {d:D} {n:Nat},keyD d n=true->plD d=true
 | .none,_,_=>by rw[plD]<;>(intros;contradiction)
 | .int _,_,_=>by rw[plD]<;>(intros;contradiction)
 | .tuple xs,0,h=>by rw[keyD] at h;cases h
 | .tuple xs,n+1,h=>by rw[keyD] at h;rw[plD];exact ziL h
 | .bool _,_,h=>by rw[keyD] at h;cases h
 | .str _,_,h=>by rw[keyD] at h;cases h
 | .list _,_,h=>by rw[keyD] at h;cases h
 | .dict _,_,h=>by rw[keyD] at h;cases h
theorem ziL:∀ {ds:List D} {n:Nat},keyAll ds n=true->plAll ds=true
 | [],_,_=>by rw[plAll]
 | x::xs,n,h=>by
  rw[keyAll,jE] at h;rw[plAll,zjM h.1,ziL h.2];rfl
end
mutual
theorem Rep.reads (I:Inv X ω σ H s)(g:Same F H):∀ {d:D} {v:V},Rep X.K F d v->plD d=true->∀ {u:Gg},RelV v u->∃ as,Reads s.heap u d as
 | _,_,.non,_,u,r=>by cases r;exact⟨_,.none⟩
 | _,_,.bl b,_,u,r=>by cases r;exact⟨_,.bool b⟩
 | _,_,.int i,_,u,r=>by obtain⟨t,rfl⟩:=r;exact⟨_,.int i t⟩
 | _,_,.str x,_,u,r=>by obtain⟨t,rfl⟩:=r;exact⟨_,.str x t⟩
 | _,_,.tup h q,pl,u,r=>by
  cases r;rw[plD] at pl;obtain⟨its,rv,⟨o,e,c,n,d⟩,_⟩:=I.tuple (seqT g h);obtain⟨as,ra⟩:=Reps.reads I g q pl rv;exact⟨_,.tuple e c d (by simpa using ra)⟩
 | _,_,.lst h q,pl,u,r=>by
  cases r;rw[plD] at pl;obtain⟨its,rv,⟨o,n,e,c,_,d⟩,_⟩:=I.list (g.seq h);obtain⟨as,ra⟩:=Reps.reads I g q pl rv;exact⟨_,.list e c d (by simpa using ra)⟩
 | _,_,.dic _ _ _ _,pl,u,r=>by rw[plD] at pl;cases pl
 | _,_,.dci _ _ _ _,pl,u,r=>by rw[plD] at pl;cases pl
theorem Reps.reads (I:Inv X ω σ H s)(g:Same F H):∀ {ds:List D} {vs:List V},Reps X.K F ds vs->plAll ds=true->∀ {us:List Gg},Vals vs us->∃ as,ReadsAll s.heap us ds as
 | _,_,.nil,_,us,r=>by cases r;exact⟨_,.nil⟩
 | _,_,.cons h t,pl,us,r=>by
  rw[plAll,jE] at pl;cases r with
  | cons r1 r2 =>
   obtain⟨as,a⟩:=Rep.reads I g h pl.1 r1;obtain⟨bs,b⟩:=Reps.reads I g t pl.2 r2;exact⟨_,.cons a b⟩
end
end
def okEq (a b:D):Bool:=a.canLay0&&b.canLay0&&decide (min a.depth b.depth<=100)
def dEq (a b:D):Option D:=if okEq a b then Ga (.bool (jV a b)) else Gb
def dNe (a b:D):Option D:=if okEq a b then Ga (.bool (!PyData.eqv a b)) else Gb
def rEqD (K:ja)(g:D->D->Option D):R2:=λx y H Q=>∃ F a b d,Same F H/\Rep K F a x/\Rep K F b y/\g a b=Ga d/\∀ k,d=.bool k->Q (.bl k) H
theorem zmW {a b:D}(h:okEq a b=true):a.canLay0=true/\b.canLay0=true/\min a.depth b.depth<=100:=by
 unfold okEq at h;simp only[jE,decide_eq_true_eq] at h;exact⟨h.1.1,h.1.2,h.2⟩
theorem zq3 {X:Cx}(hu:X.A.units+100<cLine):OpR X (compareOp .Eq) (rEqD X.K dEq):=by
 intro ω s σ H x y v u Q I rx ry h;obtain⟨F,a,b,d,g,ra,rb,e,q⟩:=h;unfold dEq at e;split at e
 .rename_i ok;obtain⟨h1,h2,h3⟩:=zmW ok;obtain⟨as,ha⟩:=ra.reads I g (zeL h1) rx;obtain⟨bs,hb⟩:=rb.reads I g (zeL h2) ry;refine SeqAt.compareEq_reads ha hb h1 h2 (by omega) ⟨.bl _,H,I,rfl,q _ (jw e).symm⟩
 .cases e
theorem zq4 {X:Cx}(hu:X.A.units+100<cLine):OpR X (compareOp .NotEq) (rEqD X.K dNe):=by
 intro ω s σ H x y v u Q I rx ry h;obtain⟨F,a,b,d,g,ra,rb,e,q⟩:=h;unfold dNe at e;split at e
 .rename_i ok;obtain⟨h1,h2,h3⟩:=zmW ok;obtain⟨as,ha⟩:=ra.reads I g (zeL h1) rx;obtain⟨bs,hb⟩:=rb.reads I g (zeL h2) ry;refine SeqAt.compareNe_reads ha hb h1 h2 (by omega) ⟨.bl _,H,I,rfl,q _ (jw e).symm⟩
 .cases e
theorem zeE {K:ja}{g:D->D->Option D}(hg:∀ a b d,g a b=Ga d->∃ k,d=.bool k):R2V K (rEqD K g) g:=by
 intro F H x y a b d Q s ra rb e q;refine⟨F,a,b,d,s,ra,rb,e,λk ek=>?_⟩;subst ek;exact q (.bl k) H F (.refl _) (.refl _) s (.refl _ _) (.bl k)
theorem zq5:∀ a b d,dEq a b=Ga d->∃ k,d=.bool k:=λa b d h=>by unfold dEq at h;split at h<;>cases h;exact⟨_,rfl⟩
theorem zq6:∀ a b d,dNe a b=Ga d->∃ k,d=.bool k:=λa b d h=>by unfold dNe at h;split at h<;>cases h;exact⟨_,rfl⟩
def dI (C:Int->Int->Bool)(g:Int->Int->D):D->D->Option D
 | .int i,.int j=>if C i j then Ga (g i j) else Gb
 | _,_=>Gb
theorem r2_I {K:ja}{C:Int->Int->Prop}{C':Int->Int->Bool}{g:Int->Int->V}{g':Int->Int->D}(hC:∀ i j,C' i j=true->C i j)(hg:∀ i j F,Rep K F (g' i j) (g i j)):R2V K (rI C g) (dI C' g'):=by
 intro F H x y a b d Q s ra rb e q;cases ra<;>cases rb<;>first|(cases e;done)|skip
 rename_i i j;unfold dI at e;dsimp only at e;split at e
 .rename_i c;cases e;exact⟨i,j,rfl,rfl,hC i j c,q _ H F (.refl _) (.refl _) s (.refl _ _) (hg i j F)⟩
 .cases e
def dI0 (g:Int->Int->D):D->D->Option D
 | .int i,.int j=>Ga (g i j)
 | _,_=>Gb
theorem zlP {K:ja}{g:Int->Int->V}{g':Int->Int->D}(hg:∀ i j F,Rep K F (g' i j) (g i j)):R2V K (rI0 g) (dI0 g'):=by
 intro F H x y a b d Q s ra rb e q;cases ra<;>cases rb<;>first|(cases e;done)|skip
 rename_i i j;cases e;exact⟨i,j,rfl,rfl,q _ H F (.refl _) (.refl _) s (.refl _ _) (hg i j F)⟩
def dSub:D->D->Option D:=dI0 λi j=>.int (i-j)
def cMul (i j:Int):Bool:=(decide (-(2^64)<i)&&decide (i<2^64))||(decide (-(2^64)<j)&&decide (j<2^64))
def dMul:D->D->Option D:=dI cMul λi j=>.int (i*j)
def dDiv:D->D->Option D:=dI (λ_ j=>decide (0<j)&&decide (j<1073741824)) λi j=>.int (i/j)
def dMod:D->D->Option D:=dI (λ_ j=>decide (0<j)) λi j=>.int (i%j)
def dPow:D->D->Option D:=dI (λi j=>decide (0<=j)&&decide (j<=1000000)&&decide (i.natAbs<2^64)) λi j=>.int (i^j.toNat)
def dAnd:D->D->Option D:=dI0 λi j=>.int (kJ i j)
def dLt:D->D->Option D:=dI0 λi j=>.bool (decide (i<j))
def dLe:D->D->Option D:=dI0 λi j=>.bool (decide (i<=j))
def dGt:D->D->Option D:=dI0 λi j=>.bool (decide (j<i))
def dAdd:D->D->Option D
 | .int i,.int j=>Ga (.int (i+j))
 | .tuple xs,.tuple ys=>if xs.length+ys.length<=sizeLine then Ga (.tuple (xs++ys)) else Gb
 | .list xs,.list ys=>if xs.length+ys.length<=sizeLine then Ga (.list (xs++ys)) else Gb
 | .str x,.str y=>if x.length+y.length<=sizeLine then Ga (.str (x++y)) else Gb
 | _,_=>Gb
section
variable {X:Cx}
theorem zpA {ω:List (Gj×Obj)}{s:Gh}{σ:St}{H:Hp}{a b:Gj}{ys:List V}{Q:Gg->Gh->Prop}(I:Inv X ω σ H s)(ha:SqT X.K H a [])(hb:SqT X.K H b ys)(h:Q (.ref b) s) :
  wpAny (model X.prog X.w) X.A (binaryOp .Add (.ref a) (.ref b)) Q X.xe s:=by
 obtain⟨its,r1,p1,_⟩:=I.tuple ha;obtain⟨its2,r2,p2,_⟩:=I.tuple hb;cases r1;obtain⟨⟨cls,dd,data,sl⟩,ho,hc,n,hd⟩:=id p1;obtain⟨⟨cls2,dd2,data2,sl2⟩,ho2,hc2,n2,hd2⟩:=id p2;simp only at hc hd hc2 hd2;subst hc hd hc2 hd2;exact concat_meets ⟨_,ho,rfl⟩ ⟨_,ho2,rfl⟩ noFill_tuple_add seq_tuple_add vE vz (vg _ _)
   (tuple_addW0 a b #[] its2.toArray n n2 dd dd2 sl sl2 (by rfl)) ⟨ho,ho2,h⟩
def rAddD (K:ja):R2:=λx y H Q=>∃ F a b d,Same F H/\Rep K F a x/\Rep K F b y/\dAdd a b=Ga d/\∀ v H' F',Same H H'->Same F F'->Same F' H'->New F F' H->Rep K F' d v->Q v H'
theorem grow1 {F H:Hp}{p:Gj}{o:HO}(g:Same F H)(hp:H p=Gb)(pl:Pl o:=by trivial):Same H (upd H p o)/\Same F (upd F p o)/\Same (upd F p o) (upd H p o)/\New F (upd F p o) H:=by
 have fp:F p=Gb:=g.free hp;refine⟨Same.new hp,Same.new fp,Same.up2 g fp hp pl,λb u h nb=>?_⟩
 .by_cases hb:b=p
  .subst hb;exact hp
  .rw[upd_ne hb,nb] at h;cases h
theorem zrX:OpR X (binaryOp .Add) (rAddD X.K):=by
 intro ω s σ H x y v u Q I rx ry h;obtain⟨F,a,b,d,g,ra,rb,e,q⟩:=h;cases ra with
 | int i =>
  cases rb<;>first|(cases e;done)|skip
  cases e;exact op_add ω s σ H _ _ v u Q I rx ry ⟨i,_,rfl,rfl,q _ H F (.refl _) (.refl _) g (.refl _ _) (.int _)⟩
 | str i =>
  cases rb<;>first|(cases e;done)|skip
  unfold dAdd at e;dsimp only at e;split at e
  .rename_i c;cases e;exact op_add_str ω s σ H _ _ v u Q I rx ry ⟨i,_,rfl,rfl,c,q _ H F (.refl _) (.refl _) g (.refl _ _) (.str _)⟩
  .cases e
 | @tup p xs ds h1 q1 =>
  cases rb<;>first|(cases e;done)|skip
  rename_i p2 xs2 ds2 h2 q2;unfold dAdd at e;dsimp only at e;split at e
  .rename_i c;cases e;by_cases hx:xs=[]
   .subst hx;cases q1;cases rx;cases ry;exact zpA I (seqT g h1) (seqT g h2) ⟨.ref p2,H,I,rfl,q _ H F (.refl _) (.refl _) g (.refl _ _) (.tup h2 q2)⟩
   .refine op_catT ω s σ H _ _ v u Q I rx ry ⟨p,p2,xs,xs2,rfl,rfl,seqT g h1,seqT g h2,hx,by rw[<- q1.length,<- q2.length];exact c,λz=>?_,λz l hl=>?_⟩
    .subst z;cases q2;exact q _ H F (.refl _) (.refl _) g (.refl _ _) (by rw[jX];exact .tup h1 q1)
    .obtain⟨s1,s2,s3,s4⟩:=grow1 (o:=.tup (xs++xs2)) g hl;exact q _ _ _ s1 s2 s3 s4 (.tup (SqT.of upd_same) ((q1.append q2).mono s2))
  .cases e
 | @lst p xs ds h1 q1 =>
  cases rb<;>first|(cases e;done)|skip
  rename_i p2 xs2 ds2 h2 q2;unfold dAdd at e;dsimp only at e;split at e
  .rename_i c;cases e;cases rx;cases ry;obtain⟨its,r,pl,hz⟩:=I.list (g.seq h1);obtain⟨its2,r2,pl2,hz2⟩:=I.list (g.seq h2);obtain⟨o,n,e1,c1,d1,k1⟩:=pl;obtain⟨o2,n2,e2,c2,d2,k2⟩:=pl2;have l1:=q1.length;have l2:=q2.length;have l3:=r.length;have l4:=r2.length;obtain⟨oc,od,oda,osl⟩:=o;obtain⟨oc2,od2,oda2,osl2⟩:=o2;simp only at c1 d1 k1 c2 d2 k2;subst c1 d1 k1 c2 d2 k2;refine concat_meets ⟨_,e1,rfl⟩ ⟨_,e2,rfl⟩ noFill_list_add seq_list_add PySem.F.slot_list_add PySem.F.entry_list_add (PySem.F.args_list_add_2 _ _)
    (list_addW p p2 its.toArray its2.toArray n n2 _ _ _ _ (by rw[jy,jy];omega)) ⟨e1,e2,?_⟩
   have ea:its.toArray++its2.toArray=(its++its2).toArray:=by simp
   rw[ea];obtain⟨s1,s2,s3,s4⟩:=grow1 (o:=.lst (xs++xs2)) g I.fresh;exact⟨.ref _,_,I.lnew (t':=s.toks) (r.append r2) (by rw[jB];omega),rfl,q _ _ _ s1 s2 s3 s4 (.lst (SqL.of upd_same) ((q1.append q2).mono s2))⟩
  .cases e
 | non=>cases e
 | bl k=>cases e
 | dic hs h ok r=>cases e
 | dci hs h ok r=>cases e
theorem zu1 {K:ja}:R2V K (rAddD K) dAdd:=λF H x y a b d Q s ra rb e q=>⟨F,a,b,d,s,ra,rb,e,q⟩
end
section
variable {X:Cx}{pos:Pos}{a b:Expr}{f g:FV}
theorem ze9 (ha:PV X a f)(hb:PV X b g):PV X (.BinOp a .Add b pos) (λψ=>(f ψ).bind λx=>(g ψ).bind λy=>dAdd x y):=v_op zrX zu1 ha hb
theorem zjN (ha:PV X a f)(hb:PV X b g):PV X (.BinOp a .Sub b pos) (λψ=>(f ψ).bind λx=>(g ψ).bind λy=>dSub x y):=v_op op_sub (zlP λ_ _ _=>.int _) ha hb
theorem zlQ (ha:PV X a f)(hb:PV X b g):PV X (.BinOp a .Mult b pos) (λψ=>(f ψ).bind λx=>(g ψ).bind λy=>dMul x y) :=
 v_op op_mul (r2_I (λi j h=>by simpa [cMul,CMul] using h) λ_ _ _=>.int _) ha hb
theorem zeM (ha:PV X a f)(hb:PV X b g):PV X (.BinOp a .FloorDiv b pos) (λψ=>(f ψ).bind λx=>(g ψ).bind λy=>dDiv x y) :=
 v_op op_fdiv (r2_I (λi j h=>by simpa [CDiv] using h) λ_ _ _=>.int _) ha hb
theorem zb7 (ha:PV X a f)(hb:PV X b g):PV X (.BinOp a .Mod b pos) (λψ=>(f ψ).bind λx=>(g ψ).bind λy=>dMod x y) :=
 v_op op_mod (r2_I (λi j h=>by simpa using h) λ_ _ _=>.int _) ha hb
theorem zrY (ha:PV X a f)(hb:PV X b g):PV X (.BinOp a .Pow b pos) (λψ=>(f ψ).bind λx=>(g ψ).bind λy=>dPow x y) :=
 v_op op_pow (r2_I (λi j h=>by simpa [CPow,and_assoc] using h) λ_ _ _=>.int _) ha hb
theorem zkS (ha:PV X a f)(hb:PV X b g):PV X (.BinOp a .BitAnd b pos) (λψ=>(f ψ).bind λx=>(g ψ).bind λy=>dAnd x y):=v_op op_and (zlP λ_ _ _=>.int _) ha hb
theorem v_gt (ha:PV X a f)(hb:PV X b g):PV X (.Compare a [.Gt] [b] pos) (λψ=>(f ψ).bind λx=>(g ψ).bind λy=>dGt x y):=zo9 op_gt (zlP λ_ _ _=>.bl _) ha hb
theorem v_eq (hu:X.A.units+100<cLine)(ha:PV X a f)(hb:PV X b g):PV X (.Compare a [.Eq] [b] pos) (λψ=>(f ψ).bind λx=>(g ψ).bind λy=>dEq x y):=zo9 (zq3 hu) (zeE zq5) ha hb
theorem v_ne (hu:X.A.units+100<cLine)(ha:PV X a f)(hb:PV X b g):PV X (.Compare a [.NotEq] [b] pos) (λψ=>(f ψ).bind λx=>(g ψ).bind λy=>dNe x y):=zo9 (zq4 hu) (zeE zq6) ha hb
theorem b_lt (ha:PV X a f)(hb:PV X b g):PB X (.Compare a [.Lt] [b] pos) (λψ=>((f ψ).bind λx=>(g ψ).bind λy=>dLt x y).bind toB):=zgW op_lt (zlP λ_ _ _=>.bl _) ha hb
theorem b_le (ha:PV X a f)(hb:PV X b g):PB X (.Compare a [.LtE] [b] pos) (λψ=>((f ψ).bind λx=>(g ψ).bind λy=>dLe x y).bind toB):=zgW op_le (zlP λ_ _ _=>.bl _) ha hb
theorem b_gt (ha:PV X a f)(hb:PV X b g):PB X (.Compare a [.Gt] [b] pos) (λψ=>((f ψ).bind λx=>(g ψ).bind λy=>dGt x y).bind toB):=zgW op_gt (zlP λ_ _ _=>.bl _) ha hb
theorem b_eq (hu:X.A.units+100<cLine)(ha:PV X a f)(hb:PV X b g):PB X (.Compare a [.Eq] [b] pos) (λψ=>((f ψ).bind λx=>(g ψ).bind λy=>dEq x y).bind toB):=zgW (zq3 hu) (zeE zq5) ha hb
theorem b_ne (hu:X.A.units+100<cLine)(ha:PV X a f)(hb:PV X b g):PB X (.Compare a [.NotEq] [b] pos) (λψ=>((f ψ).bind λx=>(g ψ).bind λy=>dNe x y).bind toB):=zgW (zq4 hu) (zeE zq6) ha hb
end
end T3
namespace T3
open PySem PySem.Spec PyProof.Rows L2
def tSh (K:ja)(f:FL):TE:=λσ H Q=>∃ H0 F ψ ds,RS K H0 F H ψ σ/\f ψ=Ga ds /\
 ∀ a xs H' F',Same H H'->Same F F'->Same F' H'->New F F' H->SqL K H' a xs->Reps K F' ds xs->Q (.ref a) H'
abbrev PSh (X:Cx)(e:Expr)(f:FL):Prop:=PE X e (tSh X.K f)
def toL:D->Option (List D)
 | .list xs=>Ga xs
 | _=>Gb
def toT:D->Option (List D)
 | .tuple xs=>Ga xs
 | _=>Gb
theorem zpB {d:D}{xs:List D}(h:toL d=Ga xs):d=.list xs:=by cases d<;>cases h;rfl
theorem zpC {d:D}{xs:List D}(h:toT d=Ga xs):d=.tuple xs:=by cases d<;>cases h;rfl
def gl (i:Nat):FL:=λψ=>match ψ[i]? with
 | some (.own ds)=>Ga ds
 | some (.val (.list ds))=>Ga ds
 | _=>Gb
section
variable {X:Cx}{pos:Pos}
theorem PV.sh {e:Expr}{f:FV}(h:PV X e f):PSh X e (λψ=>(f ψ).bind toL):=by
 refine zaN h λσ H Q=>?_;rintro⟨H0,F,ψ,ds,r,e,q⟩;obtain⟨d,e1,e2⟩:=bind_some e;cases zpB e2;refine⟨H0,F,ψ,_,r,e1,λv H' F' g f1 fh n rv=>?_⟩;cases rv with
 | lst h1 h2=>exact q _ _ H' F' g f1 fh n (fh.seq h1) h2
theorem PO.sh {e:Expr}{f:FL}(h:PO X e f):PSh X e f:=by
 refine zaN h λσ H Q=>?_;rintro⟨H0,F,ψ,ds,r,e,q⟩;exact⟨H0,F,ψ,ds,r,e,λa xs H' F' g f1 fh n ha fa ha' rr=>q a xs H' F' g f1 fh n (SqL.of ha') rr⟩
theorem ziM (i:Nat){x:Str}(hN:X.N[i]?=Ga x:=by rfl)(hv:Vis X.env.scope x:=by first|exact kR rfl|exact kc (kR rfl)|exact kc (kc rfl))(hd:(x==("__debug__":Str))=false:=by decide)
  (hcd:(x==("__classdict__":Str))=false:=by decide):PSh X (.Name x pos) (gl i):=by
 refine zaN (pe_var hN hv hd hcd) λσ H Q=>?_;rintro⟨H0,F,ψ,ds,r,e,q⟩;unfold gl at e;split at e
 .rename_i ds' z;cases e;obtain⟨u,e1,a,xs,e2,ha,fa,h0a,rr⟩:=r.sl i _ z;subst e2;exact⟨.ref a,e1,q a xs H F (.refl _) (.refl _) r.fh (.refl _ _) (SqL.of ha) rr⟩
 .rename_i ds' z;cases e;obtain⟨u,e1,v,e2,h⟩:=r.sl i _ z;subst e2;cases h with
  | lst h1 h2=>exact⟨_,e1,q _ _ H F (.refl _) (.refl _) r.fh (.refl _ _) (r.fh.seq h1) h2⟩
 .cases e
def dIx:D->D->Option D
 | .list xs,.int i=>atI xs i
 | .tuple xs,.int i=>atI xs i
 | _,_=>Gb
theorem Reps.at {K:ja}{F:Hp}{ds:List D}{vs:List V}(r:Reps K F ds vs){i:Int}{d:D}(h:atI ds i=Ga d):∃ v,atI vs i=Ga v/\Rep K F d v:=by
 unfold atI at h ⊢;rw[<- r.length];obtain⟨j,e1,e2⟩:=bind_some h;obtain⟨v,e3,e4⟩:=r.get e2;exact⟨v,by rw[e1];exact e3,e4⟩
theorem zxW {K:ja}:R2V K (rIx K) dIx:=by
 intro F H x y a b d Q s ra rb e q;cases ra<;>first|(cases e;done)|skip
 .rename_i p xs ds h1 h2;cases rb<;>first|(cases e;done)|skip
  rename_i i;obtain⟨v,e1,e2⟩:=h2.at e;exact .inr (.inl ⟨p,xs,i,v,rfl,rfl,seqT s h1,e1,q v H F (.refl _) (.refl _) s (.refl _ _) e2⟩)
 .rename_i p xs ds h1 h2;cases rb<;>first|(cases e;done)|skip
  rename_i i;obtain⟨v,e1,e2⟩:=h2.at e;exact .inl ⟨p,xs,i,v,rfl,rfl,s.seq h1,e1,q v H F (.refl _) (.refl _) s (.refl _ _) e2⟩
theorem v_ix {a b:Expr}{f g:FV}(ha:PV X a f)(hb:PV X b g)(hs:PlainIx b:=by exact λ_ _=>rfl):PV X (.Subscript a b pos) (λψ=>(f ψ).bind λx=>(g ψ).bind λy=>dIx x y) :=
 zaN (pe_ix ix_seq ha hb hs) λ_ _ _ h=>zo8 zxW h
def dIxL (xs:List D):D->Option D
 | .int i=>atI xs i
 | _=>Gb
theorem zmX {a b:Expr}{f:FL}{g:FV}(ha:PSh X a f)(hb:PV X b g)(hs:PlainIx b:=by exact λ_ _=>rfl):PV X (.Subscript a b pos) (λψ=>(f ψ).bind λx=>(g ψ).bind λy=>dIxL x y):=by
 refine zaN (pe_ix ix_list ha hb hs) λσ H Q=>?_;rintro⟨H0,F,ψ,d,r,e,q⟩;obtain⟨ds,e1,e⟩:=bind_some e;obtain⟨b,e2,e⟩:=bind_some e;refine⟨H0,F,ψ,ds,r,e1,λp xs H1 F1 g1 f1 fh1 n1 hl rr=>⟨H0,F1,ψ,b,r.grow g1 f1 fh1 n1,e2,λu H2 F2 g2 f2 fh2 n2 ru=>?_⟩⟩;cases ru<;>first|(cases e;done)|skip
 rename_i i;obtain⟨v,e3,e4⟩:=rr.at e;exact⟨p,xs,i,v,rfl,rfl,g2.seq hl,e3,q v H2 F2 (g1.trans g2) (f1.trans f2) fh2 (n1.trans n2 g1) (e4.mono f2)⟩
theorem cB1 {e:Expr}{te:TE}{p:Pos}{x:Str}{id:String}{r:List V->Hp->VK->Prop}(hc:CallR X (.builtin id) r)(hg:Gl X x)(hm:X.mg x=Gb)(hv:bootBuiltins x=Ga (.builtin id))(ha:PE X e te)
  (hn:x≠"__name__":=by decide) (hdb:(x==("__debug__":Str))=false:=by decide) (hs:starEach [e] X.env=[(false,eval e X.env)]:=by rfl):PE X (.Call (.Name x p) [e] [] pos) (λσ H Q=>te σ H λv H1=>r [v] H1 Q) :=
 zaN (pe_callB hc hg hm hv (pa_cons ha pa_nil hs) hn hdb hs (by rfl)) λσ H Q h=>h
theorem cT1 {e:Expr}{te:TE}{p:Pos}{x:Str}{id:String}{r:List V->Hp->VK->Prop}(hc:CallR X (.type id) r)(hg:Gl X x)(hm:X.mg x=Gb)(hv:bootBuiltins x=Ga (.type id))(ha:PE X e te)
  (hn:x≠"__name__":=by decide) (hdb:(x==("__debug__":Str))=false:=by decide) (hs:starEach [e] X.env=[(false,eval e X.env)]:=by rfl):PE X (.Call (.Name x p) [e] [] pos) (λσ H Q=>te σ H λv H1=>r [v] H1 Q) :=
 zaN (pe_callTy hc hg hm hv (pa_cons ha pa_nil hs) hn hdb hs (by rfl)) λσ H Q h=>h
def dLen:D->Option D
 | .list xs=>Ga (.int xs.length)
 | .tuple xs=>Ga (.int xs.length)
 | _=>Gb
theorem zdK {e:Expr}{f:FV}{p:Pos}(hg:Gl X "len")(hm:X.mg "len"=Gb)(ha:PV X e f)(hs:starEach [e] X.env=[(false,eval e X.env)]:=by rfl):PV X (.Call (.Name "len" p) [e] [] pos) (λψ=>(f ψ).bind dLen):=by
 refine zaN (cB1 call_len_seq hg hm JD ha (hs:=hs)) λσ H Q=>?_;rintro⟨H0,F,ψ,d,r,e,q⟩;obtain⟨d',e1,e⟩:=bind_some e;refine⟨H0,F,ψ,d',r,e1,λv H1 F1 g1 f1 fh1 n1 rv=>?_⟩;cases rv<;>first|(cases e;done)|skip
 .rename_i p xs ds h1 h2;cases e;exact⟨p,xs,rfl,.inr (seqT fh1 h1),q _ H1 F1 g1 f1 fh1 n1 (by rw[h2.length];exact .int _)⟩
 .rename_i p xs ds h1 h2;cases e;exact⟨p,xs,rfl,.inl (fh1.seq h1),q _ H1 F1 g1 f1 fh1 n1 (by rw[h2.length];exact .int _)⟩
theorem zq7 {e:Expr}{f:FL}{p:Pos}(hg:Gl X "len")(hm:X.mg "len"=Gb)(ha:PSh X e f)(hs:starEach [e] X.env=[(false,eval e X.env)]:=by rfl):PV X (.Call (.Name "len" p) [e] [] pos) (λψ=>(f ψ).bind λxs=>Ga (.int xs.length)):=by
 refine zaN (cB1 call_len_seq hg hm JD ha (hs:=hs)) λσ H Q=>?_;rintro⟨H0,F,ψ,d,r,e,q⟩;obtain⟨ds,e1,e⟩:=bind_some e;cases e;exact⟨H0,F,ψ,ds,r,e1,λp xs H1 F1 g1 f1 fh1 n1 hl rr=>⟨p,xs,rfl,.inl hl,q _ H1 F1 g1 f1 fh1 n1 (by rw[rr.length];exact .int _)⟩⟩
theorem zd3 {e:Expr}{f:FL}{p:Pos}(hg:Gl X "tuple")(hm:X.mg "tuple"=Gb)(ha:PSh X e f)(hs:starEach [e] X.env=[(false,eval e X.env)]:=by rfl):PV X (.Call (.Name "tuple" p) [e] [] pos) (λψ=>(f ψ).bind λxs=>Ga (.tuple xs)):=by
 refine zaN (cT1 call_tuple_of hg hm boot_tuple ha (hs:=hs)) λσ H Q=>?_;rintro⟨H0,F,ψ,d,r,e,q⟩;obtain⟨ds,e1,e⟩:=bind_some e;cases e;refine⟨H0,F,ψ,ds,r,e1,λp xs H1 F1 g1 f1 fh1 n1 hl rr=>⟨p,xs,rfl,.inl ⟨hl,λl hl'=>?_⟩⟩⟩;obtain⟨s1,s2,s3,s4⟩:=grow1 (o:=.tup xs) fh1 hl';exact q _ _ _ (g1.trans s1) (f1.trans s2) s3 (n1.trans s4 g1) (.tup (SqT.of upd_same) (rr.mono s2))
def tyN:D->String
 | .none=>"NoneType"|.bool _=>"bool"|.int _=>"int"|.str _=>"str"|.list _=>"list"|.tuple _=>"tuple"|.dict _=>"dict"
def isT (T:String)(d:D):Bool:=tyN d==T||(T=="int"&&tyN d=="bool")
def Tys:List String:=["int","bool","str","list","tuple"]
theorem zrZ {K:ja}{T:String}(hT:T∈Tys)(d:D):PySem.W.kitOne K (.type (tyN d)) (.type T)=Ga (isT T d):=by
 simp only[Tys,ju,ki,or_false] at hT;rcases hT with rfl|rfl|rfl|rfl|rfl<;>cases d<;>kernel_rfl
theorem zxX {ω:List (Gj×Obj)}{σ:St}{F H:Hp}{s:Gh}(I:Inv X ω σ H s)(g:Same F H){d:D}{v:V}(r:Rep X.K F d v){u:Gg}(ru:RelV v u):∃ P,PySem.W.KitX X.K u (.type (tyN d)) P/\P s.heap:=by
 cases r with
 | non=>cases ru;exact⟨_,PySem.W.kitx_none,True.intro⟩
 | bl b=>cases ru;exact⟨_,PySem.W.kitx_bool,True.intro⟩
 | int i=>obtain⟨t,rfl⟩:=ru;exact⟨_,PySem.W.kitx_int,True.intro⟩
 | str x=>obtain⟨t,rfl⟩:=ru;exact⟨_,PySem.W.kitx_str,True.intro⟩
 | tup h q=>cases ru;obtain⟨its,rv,⟨o,e,c,n,d⟩,_⟩:=I.tuple (seqT g h);exact⟨_,PySem.W.kitx_tuple,⟨o,e,c⟩⟩
 | lst h q=>cases ru;obtain⟨its,rv,⟨o,n,e,c,_,d⟩,_⟩:=I.list (g.seq h);exact⟨_,PySem.W.kitx_list,⟨o,e,c⟩⟩
 | dic sm h ok q=>cases ru;obtain⟨⟨o,es,e,c,d,k⟩,_,_⟩:=(show ObjOk X.prog X.w H s.heap _ (.ext _) from I.hok _ _ (g _ _ h));exact⟨_,Jc,⟨o,e,c.1⟩⟩
 | dci sm h ok q=>cases ru;obtain⟨⟨o,es,e,c,d,k⟩,_,_⟩:=(show ObjOk X.prog X.w H s.heap _ (.ext _) from I.hok _ _ (g _ _ h));exact⟨_,Jc,⟨o,e,c.1⟩⟩
theorem zlR {v:V}{u:Gg}(r:RelV v u):u≠.builtin "__main__.__loader__#opaque":=by
 intro z;subst z;cases v<;>first|(cases r;done)|(obtain⟨t,q⟩:=r;cases q)
theorem zmY {T:String}(hT:T∈Tys):CallR X (.builtin "isinstance") (λxs H Q=>∃ F d x,xs=[x,.ty T]/\Same F H/\Rep X.K F d x/\Q (.bl (isT T d)) H):=by
 intro ω s σ H xs us Q I r h;obtain⟨F,d,x,rfl,g,rx,q⟩:=h;obtain⟨u,w',rfl,r1,r2⟩:=vals2 r;cases r2;obtain⟨P,Z,z⟩:=zxX I g rx r1;exact PySem.W.kia_one Z I.kIn z (zrZ hT d) (zlR r1) λtk=>⟨.bl _,H,I.tok tk,rfl,q⟩
theorem zxY {x:Str}{T:String}(hg:Gl X x)(hm:X.mg x=Gb)(hv:bootBuiltins x=Ga (.type T))(hn:x≠"__name__":=by decide)(hd:(x==("__debug__":Str))=false:=by decide):PE X (.Name x pos) (tC (.ty T)) :=
 λ_ _ _ H _ I h=>ld_blt I hg hm hv ⟨.ty T,H,I,rfl,h⟩ hn hd
theorem zpD {e:Expr}{f:FV}{p p2:Pos}{x:Str}{T:String}(hT:T∈Tys)(hg:Gl X "isinstance")(hm:X.mg "isinstance"=Gb)(hg2:Gl X x)(hm2:X.mg x=Gb)(hv:bootBuiltins x=Ga (.type T))(ha:PV X e f)
  (hn:x≠"__name__":=by decide) (hd:(x==("__debug__":Str))=false:=by decide)
  (hs:starEach [e,.Name x p2] X.env=(false,eval e X.env)::starEach [.Name x p2] X.env:=by rfl) (hs2:starEach [.Name x p2] X.env=[(false,eval (.Name x p2) X.env)]:=by rfl) :
  PV X (.Call (.Name "isinstance" p) [e,.Name x p2] [] pos) (λψ=>(f ψ).bind λd=>Ga (.bool (isT T d))):=by
 refine zaN (pe_callB (zmY hT) hg hm boot_isinstance (pa_cons ha (pa_cons (zxY (pos:=p2) hg2 hm2 hv hn hd) pa_nil hs2) hs) (by decide) (by decide) hs (by rw[hs2];rfl)) λσ H Q=>?_;rintro⟨H0,F,ψ,d,r,e,q⟩;obtain⟨d',e1,e⟩:=bind_some e;cases e;refine⟨H0,F,ψ,d',r,e1,λv H1 F1 g1 f1 fh1 n1 rv=>?_⟩;exact⟨F1,d',v,rfl,fh1,rv,q _ H1 F1 g1 f1 fh1 n1 (.bl _)⟩
end
end T3
namespace T3
open PySem PySem.Spec PyProof.Rows L2
inductive Out where
 | nx (ψ:En)|rt (d:D)|ro (ds:List D)|bk (ψ:En)|ct (ψ:En)|rm (a:Gj) (kvs:List (Int×D))|rc (d:D) (ψ:En)
abbrev FS:=En->Option Out
def Post (K:ja)(H0 F:Hp)(E:Ends):Out->Prop
 | .nx ψ=>∀ σ' H' F',Same F F'->New F F' H0->RS K H0 F' H' ψ σ'->E.nx σ' H'
 | .bk ψ=>∀ σ' H' F',Same F F'->New F F' H0->RS K H0 F' H' ψ σ'->E.bk σ' H'
 | .ct ψ=>∀ σ' H' F',Same F F'->New F F' H0->RS K H0 F' H' ψ σ'->E.ct σ' H'
 | .rt d=>∀ v H' F',Same H0 H'->Same F F'->Same F' H'->New F F' H0->Rep K F' d v->E.rt v H'
 | .ro ds=>∀ a xs H' F',Same H0 H'->Same F F'->Same F' H'->New F F' H0->H0 a=Gb->F' a=Gb->H' a=Ga (.lst xs)->Reps K F' ds xs->E.rt (.ref a) H'
 | .rm a kvs=>∀ ws ep H' F',Same H0 H'->Same F F'->Same F' H'->New F F' H0->F' a=Gb->H' a=Ga (.ext (DiP a ws ep))->RepKV K F' kvs ws->KvOk kvs->E.rt (.ref a) H'
 | .rc d ψ=>∀ v σ' H' F',Same F F'->New F F' H0->RS K H0 F' H' ψ σ'->Rep K F' d v->E.rt v H'
theorem New.up {F F1 F2 H0:Hp}(a:New F F1 H0)(b:New F1 F2 H0):New F F2 H0:=a.trans b (.refl _)
theorem New.dn {F F1 H H0:Hp}(a:New F F1 H)(s:Same H0 H):New F F1 H0:=λb o h n=>s.free (a b o h n)
theorem Post.mono {K:ja}{H0 F F1:Hp}{E:Ends}{o:Out}(f:Same F F1)(n:New F F1 H0)(p:Post K H0 F E o):Post K H0 F1 E o:=by
 cases o with
 | nx ψ=>exact λσ' H' F' f2 n2 r=>p σ' H' F' (f.trans f2) (n.up n2) r
 | bk ψ=>exact λσ' H' F' f2 n2 r=>p σ' H' F' (f.trans f2) (n.up n2) r
 | ct ψ=>exact λσ' H' F' f2 n2 r=>p σ' H' F' (f.trans f2) (n.up n2) r
 | rt d=>exact λv H' F' g f2 fh n2 r=>p v H' F' g (f.trans f2) fh (n.up n2) r
 | ro ds=>exact λa xs H' F' g f2 fh n2 h1 h2 h3 r=>p a xs H' F' g (f.trans f2) fh (n.up n2) h1 h2 h3 r
 | rm a kvs=>exact λws ep H' F' g f2 fh n2 h1 h2 h3 r=>p ws ep H' F' g (f.trans f2) fh (n.up n2) h1 h2 h3 r
 | rc d ψ=>exact λv σ' H' F' f2 n2 r q=>p v σ' H' F' (f.trans f2) (n.up n2) r q
def tStm (K:ja)(g:FS):TS:=λE σ H=>∃ H0 F ψ o,RS K H0 F H ψ σ/\g ψ=Ga o/\Post K H0 F E o
abbrev PSt (X:Cx)(st:Stmt)(g:FS):Prop:=PS X st (tStm X.K g)
abbrev PSts (X:Cx)(st:List Stmt)(g:FS):Prop:=PSs X st (tStm X.K g)
def thenD (o:Option Out)(k:FS):Option Out:=o.bind λo=>match o with
 | .nx ψ=>k ψ
 | o=>Ga o
section
variable {X:Cx}{pos:Pos}
theorem zbU:PSts X [] (λψ=>Ga (.nx ψ)):=by
 refine zkR pss_nil λE σ H=>?_;rintro⟨H0,F,ψ,o,r,e,p⟩;cases e;exact p σ H F (.refl _) (.refl _ _) r
theorem zaF {st:Stmt}{rest:List Stmt}{g k:FS}(h1:PSt X st g)(h2:PSts X rest k):PSts X (st::rest) (λψ=>thenD (g ψ) k):=by
 refine zkR (pss_cons h1 h2) λE σ H=>?_;rintro⟨H0,F,ψ,o,r,e,p⟩;obtain⟨o1,e1,e2⟩:=bind_some e;refine⟨H0,F,ψ,o1,r,e1,?_⟩;cases o1 with
 | nx env1=>exact λσ' H' F' f n r'=>⟨H0,F',env1,o,r',e2,p.mono f n⟩
 | rt d=>cases e2;exact p
 | ro d=>cases e2;exact p
 | rm a d=>cases e2;exact p
 | rc a d=>cases e2;exact p
 | bk d=>cases e2;exact p
 | ct d=>cases e2;exact p
theorem zaJ {st:Stmt}{g:FS}(h1:PSt X st g):PSts X [st] g:=pss_one h1
theorem zu2 (i:Nat){st:Stmt}{g:FS}(h:PSt X st g):PSt X st (λψ=>g (frzAt i ψ)):=by
 refine zbL h λE σ H=>?_;rintro⟨H0,F,ψ,o,r,e,p⟩;obtain⟨F',f,n,r'⟩:=r.frzAt i;exact⟨H0,F',_,o,r',e,p.mono f n⟩
theorem zbB {e:Expr}{f:FV}(h:PV X e f):PSt X (.Return (Ga e) pos) (λψ=>(f ψ).bind λd=>Ga (.rt d)):=by
 refine zbL (ps_ret h) λE σ H=>?_;rintro⟨H0,F,ψ,o,r,e,p⟩;obtain⟨d,e1,e⟩:=bind_some e;cases e;exact⟨H0,F,ψ,d,r,e1,λv H' F' g f1 fh n rv=>p v H' F' (r.h0.trans g) f1 fh (n.dn r.h0) rv⟩
theorem zu3 {e:Expr}{f:FL}(h:PO X e f):PSt X (.Return (Ga e) pos) (λψ=>(f ψ).bind λd=>Ga (.ro d)):=by
 refine zbL (ps_ret h) λE σ H=>?_;rintro⟨H0,F,ψ,o,r,e,p⟩;obtain⟨d,e1,e⟩:=bind_some e;cases e;exact⟨H0,F,ψ,d,r,e1,λa xs H' F' g f1 fh n ha fa ha' rr=>p a xs H' F' (r.h0.trans g) f1 fh (n.dn r.h0) (r.h0.free ha) fa ha' rr⟩
def go (i:Nat):FL:=λψ=>match ψ[i]? with
 | some (.own ds)=>Ga ds
 | _=>Gb
theorem zkT (i:Nat){x:Str}{p:Pos}(hN:X.N[i]?=Ga x:=by rfl)(hv:Vis X.env.scope x:=by first|exact kR rfl|exact kc (kR rfl)|exact kc (kc rfl))(hd:(x==("__debug__":Str))=false:=by decide)
  (hcd:(x==("__classdict__":Str))=false:=by decide):PSt X (.Return (Ga (.Name x p)) pos) (λψ=>(go i ψ).bind λd=>Ga (.ro d)):=by
 refine zbL (ps_ret (pe_var hN hv hd hcd)) λE σ H=>?_;rintro⟨H0,F,ψ,o,r,e,p⟩;obtain⟨ds,e1,e⟩:=bind_some e;cases e;unfold go at e1;split at e1
 .rename_i ds' z;cases e1;obtain⟨u,e1,a,xs,e2,ha,fa,h0a,rr⟩:=r.sl i _ z;subst e2;exact⟨.ref a,e1,p a xs H F r.h0 (.refl _) r.fh (.refl _ _) h0a fa ha rr⟩
 .cases e1
theorem s_if {c:Expr}{a b:List Stmt}{fc:FB}{g k:FS}(hc:PB X c fc)(ha:PSts X a g)(hb:PSts X b k):PSt X (.If c a b pos) (λψ=>(fc (frz ψ)).bind λt=>if t then g ψ else k ψ):=by
 refine zbL (ps_if hc ha hb) λE σ H=>?_;rintro⟨H0,F,ψ,o,r,e,p⟩;obtain⟨t,e1,e⟩:=bind_some e;refine⟨H0,H,frz ψ,t,r.frz,e1,λH' g'=>?_⟩;cases t with
 | true=>exact iteT ⟨H0,F,ψ,o,r.later g',e,p⟩
 | false=>exact iteF ⟨H0,F,ψ,o,r.later g',e,p⟩
theorem zbM (i:Nat){x:Str}{e:Expr}{f:FV}{pos':Pos}(h:PV X e f)(hN:X.N.Nodup)(hi:X.N[i]?=Ga x:=by rfl)(hx:Loc X.env.scope x:=by first|exact kR rfl|exact kc rfl)
  (hs:swapsWith e (Ga (.Name x pos')) pos.line X.env=pure false:=by rfl) (hf:X.fn x=true\/X.env.scope.names.lookup x=Ga .local:=by first|exact .inl rfl|exact .inr rfl) :
  PSt X (.Assign [.Name x pos'] e pos) (λψ=>(f ψ).bind λd=>Ga (.nx (ψ.set i (.val d)))):=by
 intro ω s σ H D I hw;refine ps_set hN hi hx h hs hf ω s σ H D I ?_;obtain⟨H0,F,ψ,o,r,e,p⟩:=hw;obtain⟨d,e1,e⟩:=bind_some e;cases e;have hl:i<σ.length:=by rw[I.len];exact(je.mp hi).1
 exact⟨H0,F,ψ,d,r,e1,λv H' F' g f1 fh n rv=>p _ H' F' f1 (n.dn r.h0) ((r.grow g f1 fh n).put hl rv)⟩
theorem zeW (i:Nat){x:Str}{e:Expr}{f:FL}{pos':Pos}(h:PO X e f)(hN:X.N.Nodup)(hi:X.N[i]?=Ga x:=by rfl)(hx:Loc X.env.scope x:=by first|exact kR rfl|exact kc rfl)
  (hs:swapsWith e (Ga (.Name x pos')) pos.line X.env=pure false:=by rfl) (hf:X.fn x=true\/X.env.scope.names.lookup x=Ga .local:=by first|exact .inl rfl|exact .inr rfl) :
  PSt X (.Assign [.Name x pos'] e pos) (λψ=>(f ψ).bind λd=>Ga (.nx (ψ.set i (.own d)))):=by
 intro ω s σ H D I hw;refine ps_set hN hi hx h hs hf ω s σ H D I ?_;obtain⟨H0,F,ψ,o,r,e,p⟩:=hw;obtain⟨d,e1,e⟩:=bind_some e;cases e;have hl:i<σ.length:=by rw[I.len];exact(je.mp hi).1
 refine⟨H0,F,ψ,d,r,e1,λa xs H' F' g f1 fh n ha fa ha' rr=>p _ H' F' f1 (n.dn r.h0) ((r.grow g f1 fh n).putO hl ha' fa (r.h0.free ha) rr ?_)⟩;exact λj s o _ ej=>r.ne_free ha j s o ej
theorem zb8 (i:Nat){x:Str}{e:Expr}{f:FV}{p p2 p3:Pos}(h:PV X e f)(hN:X.N[i]?=Ga x:=by rfl)(hv:Vis X.env.scope x:=by first|exact kR rfl|exact kc (kR rfl)|exact kc (kc rfl))
  (hst:starEach [e] X.env=[(false,eval e X.env)]:=by rfl) (hline:(p2.endLine==p3.line)=true:=by rfl)
  (hd:(x==("__debug__":Str))=false:=by decide) (hcd:(x==("__classdict__":Str))=false:=by decide)
  (hs:swapsWith (.Call (.Attribute (.Name x p) "append" p2) [e] [] p3) Gb pos.line X.env=pure false:=by rfl) :
  PSt X (.Expr (.Call (.Attribute (.Name x p) "append" p2) [e] [] p3) pos) (λψ=>(go i ψ).bind λds=>(f ψ).bind λd=>if ds.length<1000000 then Ga (.nx (ψ.set i (.own (ds++[d])))) else Gb):=by
 refine zbL (ps_expr (pe_bm qu qp qq mt_append (pe_var (pos:=p) hN hv hd hcd) (pa_cons h pa_nil hst) rfl (by rw[hst];rfl) hline hst rfl) hs) λE σ H=>?_;rintro⟨H0,F,ψ,o,r,e,p⟩;obtain⟨ds,e1,e⟩:=bind_some e;obtain⟨d,e2,e⟩:=bind_some e;split at e;rotate_left
 .cases e
 rename_i hz;cases e;unfold go at e1;split at e1;rotate_left
 .cases e1
 rename_i ds' z;cases e1;obtain⟨u,e3,a,xs,e4,ha,fa,h0a,rr⟩:=r.sl i _ z;subst e4;refine⟨.ref a,e3,.inl ⟨rfl,xs,SqL.of ha⟩,H0,F,ψ,d,r,e2,λv H' F' g f1 fh n rv=>?_⟩;have r2:=r.grow g f1 fh n;obtain⟨u2,e5,a2,xs2,e6,ha2,fa2,h0a2,rr2⟩:=r2.sl i _ z;rw[e3] at e5;cases e5;cases e6;have ex:xs2=xs:=by have:=g a _ ha;rw[ha2] at this;cases this;rfl
 subst ex;refine⟨a,xs2,v,rfl,rfl,ha2,?_,?_⟩
 .rw[<- rr2.length];exact jA hz (by rw[sizeLine_eq];decide)
 .exact p σ _ F' f1 (n.dn r.h0) (r2.chg z e3 (rr2.append (.cons rv .nil)))
abbrev FT:=D->En->Option En
def tG (K:ja)(t:FT):TG:=λv σ H Q=>∃ H0 F ψ d env',RS K H0 F H ψ σ/\Rep K F d v/\t d ψ=Ga env'/\∀ σ',RS K H0 F H env' σ'->Q σ' H
abbrev PTg (X:Cx)(tg:Expr)(t:FT):Prop:=PG X tg (tG X.K t)
def tGs (K:ja)(t:List D->En->Option En):TGs:=λvs σ H Q=>∃ H0 F ψ ds env',RS K H0 F H ψ σ/\Reps K F ds vs/\t ds ψ=Ga env'/\∀ σ',RS K H0 F H env' σ'->Q σ' H
abbrev PTgs (X:Cx)(tg:List Expr)(t:List D->En->Option En):Prop:=PGs X tg (tGs X.K t)
theorem zr0 {tg:Expr}{t t':TG}(h:PG X tg t)(m:∀ v σ H Q,t' v σ H Q->t v σ H Q):PG X tg t':=λω s σ H v u Q I r q=>h ω s σ H v u Q I r (m _ _ _ _ q)
theorem zkU {tg:List Expr}{t t':TGs}(h:PGs X tg t)(m:∀ v σ H Q,t' v σ H Q->t v σ H Q):PGs X tg t':=λω s σ H v u Q I r q=>h ω s σ H v u Q I r (m _ _ _ _ q)
theorem ziN (i:Nat){x:Str}(hN:X.N.Nodup)(hi:X.N[i]?=Ga x:=by rfl)(hx:Loc X.env.scope x:=by first|exact kR rfl|exact kc rfl)(hf:X.fn x=true\/X.env.scope.names.lookup x=Ga .local:=by first|exact .inl rfl|exact .inr rfl) :
  PTg X (.Name x pos) (λd ψ=>Ga (ψ.set i (.val d))):=by
 intro ω s σ H v u Q I r hw;refine pg_name hN hi hx hf ω s σ H v u Q I r ?_;obtain⟨H0,F,ψ,d,env',rs,rv,e,q⟩:=hw;cases e;have hl:i<σ.length:=by rw[I.len];exact(je.mp hi).1
 exact q _ (rs.put hl rv)
theorem zu4:PTgs X [] (λds ψ=>match ds with|[]=>Ga ψ|_=>Gb):=by
 refine zkU pgs_nil λvs σ H Q=>?_;rintro⟨H0,F,ψ,ds,env',rs,rv,e,q⟩;cases rv with
 | nil=>cases e;exact⟨rfl,q σ rs⟩
 | cons _ _=>cases e
theorem zr1 {e:Expr}{es:List Expr}{t:FT}{u:List D->En->Option En}(h1:PTg X e t)(h2:PTgs X es u)(hs:(assignEach (e::es) X.env).map (·.2)=assign e X.env::(assignEach es X.env).map (·.2):=by rfl) :
  PTgs X (e::es) (λds ψ=>match ds with|d::r=>(t d ψ).bind λenv1=>u r env1|[]=>Gb):=by
 refine zkU (pgs_cons h1 h2 hs) λvs σ H Q=>?_;rintro⟨H0,F,ψ,ds,env',rs,rv,e,q⟩;cases rv with
 | nil=>cases e
 | @cons d v ds vs h t =>
  obtain⟨env1,e1,e2⟩:=bind_some e;exact⟨v,vs,rfl,H0,F,ψ,d,env1,rs,h,e1,λσ1 r1=>⟨H0,F,env1,ds,env',r1,t,e2,q⟩⟩
theorem zxZ {es:List Expr}{k:Nat}{t:List D->En->Option En}(hc:X.calm=true)(h:PTgs X es t)(hl:∀ ds ψ env',t ds ψ=Ga env'->ds.length=es.length)
  (hn:(assignEach es X.env).length=es.length:=by rfl) (hst:(assignEach es X.env).findIdx? (·.1)=Gb:=by rfl):PTg X (.Tuple es k pos) (λd ψ=>(toT d).bind λds=>t ds ψ):=by
 refine zr0 (pg_tup hc h hn hst) λv σ H Q=>?_;rintro⟨H0,F,ψ,d,env',rs,rv,e,q⟩;obtain⟨ds,e1,e2⟩:=bind_some e;cases zpC e1;cases rv with
 | @tup a xs _ h1 rr=>exact⟨a,xs,rfl,seqT rs.fh h1,by rw[<- rr.length];exact hl _ _ _ e2,H0,F,ψ,ds,env',rs,rr,e2,q⟩
theorem zx0 {tg e:Expr}{f:FV}{t:FT}(he:PV X e f)(hg:PTg X tg t)(hs:swapsWithSole [tg] e pos.line X.env=pure false:=by rfl)(hw:swappedStores [tg] e X.env=pure Gb:=by rfl)
  (h1:(assignEach [tg] X.env).map (·.2)=[assign tg X.env]:=by rfl):PSt X (.Assign [tg] e pos) (λψ=>(f ψ).bind λd=>(t d ψ).bind λenv1=>Ga (.nx env1)):=by
 refine zbL (ps_asg he hg hs hw h1) λE σ H=>?_;rintro⟨H0,F,ψ,o,r,e,p⟩;obtain⟨d,e1,e⟩:=bind_some e;obtain⟨env1,e2,e⟩:=bind_some e;cases e;exact⟨H0,F,ψ,d,r,e1,λv H' F' g f1 fh n rv=>⟨H0,F',ψ,d,env1,r.grow g f1 fh n,rv,e2,λσ' r'=>p σ' H' F' f1 (n.dn r.h0) r'⟩⟩
def forD (t:FT)(body:FS):List D->FS
 | [],ψ=>Ga (.nx ψ)
 | x::r,ψ=>(t x ψ).bind λe1=>(body e1).bind λo=>match o with
  | .nx e=>forD t body r e
  | .ct e=>forD t body r e
  | .bk e=>Ga (.nx e)
  | .rt d=>Ga (.rt d)
  | .ro ds=>Ga (.ro ds)
  | .rm a kvs=>Ga (.rm a kvs)
  | .rc d e=>Ga (.rc d e)
def Yields (K:ja)(J:It)(F:Hp)(items:List D):Prop:=∀ (H:Hp),Same F H->∀ i,(items.length<=i->J.stop i H) /\
 ∀ d,items[i]?=Ga d->J.go i H/\∀ x H',J.yld i H x H'->Same H H'/\∃ F',Same F F'/\Same F' H'/\New F F' H/\Rep K F' d x
def tI (K:ja)(f:FL):TI:=λσ H R=>∃ H0 F ψ ds,RS K H0 F H ψ σ/\f ψ=Ga ds/\∀ J H' F',Same H H'->Same F F'->Same F' H'->New F F' H->(∀ F2,Same F' F2->Yields K J F2 ds)->R J H'
abbrev PIt (X:Cx)(tg iter:Expr)(f:FL):Prop:=PI X tg iter (tI X.K f)
theorem zjO {tg it:Expr}{t t':TI}(h:PI X tg it t)(m:∀ σ H Q,t' σ H Q->t σ H Q):PI X tg it t':=λω s σ H Q I q=>h ω s σ H Q I (m σ H Q q)
theorem zc6 {tg iter:Expr}{body:List Stmt}{f:FL}{t:FT}{g:FS}(hp:PassesOwn (model X.prog X.w) X.A X.env X.xe)(hc:X.calm=true)(hi:PIt X tg iter f)(hg:PTg X tg t)(hb:PSts X body g)
  (hs:∀ x,foldedSetIterable iter X.env x=pure x:=by intro _;rfl):PSt X (.For tg iter body [] pos) (λψ=>(f ψ).bind λds=>forD t g ds ψ):=by
 refine zbL (ps_for hp hc hi hg hb hs) λE σ H=>?_;rintro⟨H0,F,ψ,o,r,e,p⟩;obtain⟨ds,e1,e⟩:=bind_some e;refine⟨H0,F,ψ,ds,r,e1,λJ H1 F1 g1 f1 fh1 n1 Y=>?_⟩;have p1:=p.mono f1 (n1.dn r.h0);have r1:=r.grow g1 f1 fh1 n1;refine⟨λi m σ H=>i+m=ds.length/\∃ F2 ψ,RS X.K H0 F2 H ψ σ/\Same F1 F2/\New F1 F2 H0/\forD t g (ds.drop i) ψ=Ga o,⟨ds.length,by omega,F1,ψ,r1,.refl _,.refl _ _,e⟩,?_⟩;rintro i m σ' H' ⟨hm,F2,env2,r2,f2,n2,e2⟩;have p2:=p1.mono f2 n2;obtain⟨yd,yg⟩:=Y F2 f2 H' r2.fh i;by_cases hlt:i<ds.length
 .obtain⟨go,yy⟩:=yg ds[i] (by simp[hlt]);rw[uF hlt] at e2;unfold forD at e2;obtain⟨e3,x1,x2⟩:=bind_some e2;obtain⟨o1,x3,x4⟩:=bind_some x2;refine .inr ⟨go,λσ3 H3=>i+1+(m-1)=ds.length/\∃ F3 ψ,RS X.K H0 F3 H3 ψ σ3/\Same F1 F3/\New F1 F3 H0/\forD t g (ds.drop (i+1)) ψ=Ga o,λσ3 H3 h3=>⟨m-1,by omega,h3⟩,λx Hx yl=>?_⟩;obtain⟨gx,F4,f4,fh4,n4,rx⟩:=yy x Hx yl;have r4:=r2.grow gx f4 fh4 n4;refine⟨H0,F4,env2,ds[i],e3,r4,rx,x1,λσ5 r5=>⟨H0,F4,e3,o1,r5,x3,?_⟩⟩;have p4:=p2.mono f4 (n4.dn r2.h0);cases o1 with
  | nx e5=>exact λσ6 H6 F6 f6 n6 r6=>⟨by omega,F6,e5,r6,f2.trans (f4.trans f6),n2.up ((n4.dn r2.h0).up n6),x4⟩
  | ct e5=>exact λσ6 H6 F6 f6 n6 r6=>⟨by omega,F6,e5,r6,f2.trans (f4.trans f6),n2.up ((n4.dn r2.h0).up n6),x4⟩
  | bk e5=>cases x4;exact p4
  | rt d=>cases x4;exact p4
  | ro d=>cases x4;exact p4
  | rm a d=>cases x4;exact p4
  | rc a d=>cases x4;exact p4
 .rw[uW (by omega)] at e2;cases e2;exact .inl ⟨yd (by omega),p2 σ' H' F2 (.refl _) (.refl _ _) r2⟩
def toS:D->Option (List D)
 | .list xs=>Ga xs
 | .tuple xs=>Ga xs
 | _=>Gb
theorem zjP {K:ja}{F:Hp}{a:Gj}{xs:List V}{ds:List D}(h:SqL K F a xs)(r:Reps K F ds xs):Yields K (Itl K a) F ds:=by
 intro H g i;refine⟨λhi=>⟨xs,g.seq h,by rw[<- r.length];exact hi⟩,λd hd=>?_⟩;obtain⟨v,e1,e2⟩:=r.get hd;refine⟨⟨xs,v,g.seq h,e1⟩,λx H' y=>?_⟩;obtain⟨rfl,y⟩:=y;have:=y xs (g.seq h);rw[e1] at this;cases this;exact⟨.refl _,F,.refl _,g,.refl _ _,e2⟩
theorem zlS {K:ja}{F:Hp}{a:Gj}{xs:List V}{ds:List D}(h:SqT K F a xs)(r:Reps K F ds xs):Yields K (Itt K a) F ds:=by
 intro H g i;refine⟨λhi=>⟨xs,seqT g h,by rw[<- r.length];exact hi⟩,λd hd=>?_⟩;obtain⟨v,e1,e2⟩:=r.get hd;refine⟨⟨xs,v,seqT g h,e1⟩,λx H' y=>?_⟩;obtain⟨rfl,y⟩:=y;have:=y xs (seqT g h);rw[e1] at this;cases this;exact⟨.refl _,F,.refl _,g,.refl _ _,e2⟩
end
end T3
namespace T3
open PySem PySem.Spec PyProof.Rows L2
theorem zfA {ψ:Env}:∀ (names:List (Str×NameKind)) (cs:List (Str×Gj)),(∀ y∈names,y.2=.free->∃ c,ψ.cells.lookup y.1=Ga c)->(∀ x c,cs.lookup x=Ga c->ψ.cells.lookup x=Ga c) ->
  ∃ cl,(forIn names cs λ(y:Str×NameKind) (r:List (Str×Gj))=>(if (y.2==.free)=true then(do let a <- cellOf ψ y.1;pure (ForInStep.yield ((y.1,a)::r))) else pure (ForInStep.yield r):Sem (ForInStep (List (Str×Gj)))))=(pure cl:Sem (List (Str×Gj))) /\
   (∀ x c,cl.lookup x=Ga c->ψ.cells.lookup x=Ga c)/\(∀ x,(x,jS)∈names->∃ c,cl.lookup x=Ga c)/\∀ x c,cs.lookup x=Ga c->∃ c',cl.lookup x=Ga c'
 | [],cs,_,h2=>⟨cs,rfl,h2,λx hx=>by simp at hx,λx c h=>⟨c,h⟩⟩
 | (n,k)::r,cs,h1,h2=>by
  have h1':∀ y∈r,y.2=.free->∃ c,ψ.cells.lookup y.1=Ga c:=λy hy=>h1 y (jm _ hy);by_cases hk:k=.free
  .obtain⟨c,hc⟩:=h1 (n,k) jn hk;have h2':∀ x c',((n,c)::cs).lookup x=Ga c'->ψ.cells.lookup x=Ga c':=λx c' h=>by
    rw[j7] at h;cases hx:x==n with
    | true=>rw[hx] at h;cases h;rw[beq_iff_eq.mp hx];exact hc
    | false=>rw[hx] at h;exact h2 x c' h
   obtain⟨cl,e,a,b,d⟩:=zfA r ((n,c)::cs) h1' h2';refine⟨cl,?_,a,λx hx=>?_,λx c' h=>?_⟩
   .rw[Jy];have hb:(k==jS)=true:=by simp[hk]
    simp only[hb,if_true];have hcell:cellOf ψ n=pure c:=by unfold cellOf;rw[hc]
    rw[hcell];exact e
   .rcases ju.mp hx with z|z
    .cases z;exact d n c (by simp[j7])
    .exact b x z
   .cases hx:x==n with
    | true=>exact d x c (by rw[j7,hx])
    | false=>exact d x c' (by rw[j7,hx];exact h)
  .obtain⟨cl,e,a,b,d⟩:=zfA r cs h1' h2;refine⟨cl,?_,a,λx hx=>?_,d⟩
   .rw[Jy];have hb:(k==jS)=false:=by simpa using hk
    simp only[hb,kQ,if_false];exact e
   .rcases ju.mp hx with z|z
    .cases z;exact absurd rfl hk
    .exact b x z
theorem zhP {scope:Scope}{ψ:Env}:closureFor scope ψ=(forIn scope.names [] λ(y:Str×NameKind) (r:List (Str×Gj))=>(if (y.2==.free)=true then(do let a <- cellOf ψ y.1;pure (ForInStep.yield ((y.1,a)::r))) else pure (ForInStep.yield r):Sem (ForInStep (List (Str×Gj))))) >>= pure:=by
 unfold closureFor;rfl
theorem zdM {ψ:Env}:∀ {names:List (Str×NameKind)} {x:Str},names.lookup x=Ga .free ->
  (names.map λ(n,k)=>if (k==jS&&ψ.scope.kind==.function&&ψ.kindOf n==Ga .cell) then(n,uM) else(n,k)).lookup x=Ga .cell \/
  (names.map λ(n,k)=>if (k==jS&&ψ.scope.kind==.function&&ψ.kindOf n==Ga .cell) then(n,uM) else(n,k)).lookup x=Ga .free
 | [],_,h=>by simp at h
 | (n,k)::r,x,h=>by
  have ih:=@zdM ψ r x;show List.lookup x ((if (k==jS&&ψ.scope.kind==.function&&ψ.kindOf n==Ga .cell)=true then(n,uM) else(n,k))::_)=_\/List.lookup x ((if (k==jS&&ψ.scope.kind==.function&&ψ.kindOf n==Ga .cell)=true then(n,uM) else(n,k))::_)=_;cases hx:x==n with
  | true =>
   simp only[j7,hx] at h;cases h;by_cases hc:(jS==jS&&ψ.scope.kind==.function&&ψ.kindOf n==Ga .cell)=true
   .rw[Ge hc];simp[j7,hx]
   .rw[Gf hc];simp[j7,hx]
  | false =>
   simp only[j7,hx] at h;by_cases hc:(k==jS&&ψ.scope.kind==.function&&ψ.kindOf n==Ga .cell)=true
   .rw[Ge hc];simp only[j7,hx];exact ih h
   .rw[Gf hc];simp only[j7,hx];exact ih h
structure CompSc (N:List Str)(osc:Scope)(scope:Scope)(x:Str)(fr:List Str)(ix:List Nat):Prop where
 kind:scope.kind=.function
 nocell:∀ y∈scope.names,y.2≠.cell
 locs:∀ y∈scope.names,y.2=.local->scope.names.lookup y.1=Ga .local
 tgt:scope.names.lookup x=Ga .local
 outs:∀ y∈scope.names,y.2=.free->osc.names.lookup y.1=Ga .cell\/osc.names.lookup y.1=Ga .free
 free:∀ y∈fr,scope.names.lookup y=Ga .free
 len:fr.length=ix.length
 at_:∀ (j i:Nat) (y:Str),ix[j]?=Ga i->fr[j]?=Ga y->N[i]?=Ga y
 apart:ix.Nodup
def prj (ix:List Nat)(σ:St):St:=Gb::ix.map λi=>(σ[i]?).join
def cxComp (X:Cx)(scope:Scope)(cl:List (Str×Gj))(C:Gj)(N':List Str)(s:Gh)(H:Hp)(fp:List Gj)(ω:List (Gj×Obj)):Cx :=
 { X with N:=N',s₀:=s,H₀:=H,env:=compEnvC scope cl C X.env,outer:=X.stack,ex:=fp,fn:=λ_=>false,pn:=X.pn++ω,xe:=λ_ _=>False }
def CompW (J:It)(g:TG)(tc:TT)(te:TE)(D0:Gj)(σ:St)(H:Hp)(Qv:Hp->Prop):Prop:=∃ W:Nat->Nat->St->Hp->Prop,(∃ m,W 0 m σ H)/\∀ i m σ H,W i m σ H ->
 (J.stop i H/\Qv H)\/(J.go i H/\∃ N:St->Hp->Prop,(∀ σ' H',N σ' H'->∃ m',m'<m/\W (i+1) m' σ' H') /\
  ∀ x H',J.yld i H x H'->g x σ H' λσ2 H2=>tc σ2 H2 λb H3=>if b=true then te σ2 H3 λy H4=>∃ ys,H4 D0=Ga (.lst ys)/\ys.length<sizeLine/\N σ2 (upd H4 D0 (.lst (ys++[y]))) else N σ2 H3)
def PIf (X:Cx):List Expr->TT->Prop
 | [],t=>t=λ_ H Q=>Q true H
 | [c],t=>PT X c t
 | _,_=>False
section
variable {X:Cx}{ω:List (Gj×Obj)}{σ:St}{H2:Hp}{s2:Gh}{elt iter:Expr}{x:Str}{px pos:Pos}{ifs:List Expr}{scope:Scope}{cl:List (Str×Gj)}{fr:List Str}{ix:List Nat}
theorem ziO {E:Gg->Gh->Prop}(S:CompSc X.N X.env.scope scope x fr ix)(hl1:∀ x c,cl.lookup x=Ga c->X.env.cells.lookup x=Ga c)(hl2:∀ x,(x,jS)∈scope.names->∃ c,cl.lookup x=Ga c)
  {it:Gj} {fp:List Gj} {tn:Nat->Heap->Prop} {J:It} (I:Inv X ω σ H2 s2) (T:Turn X.prog X.w X.K (.Name x px) J fp it tn) (st:tn 0 s2.heap) (hf:∀ b∈fp,FpOk X ω H2 b) (hc:X.calm=true)
  {Qv:Gj->Hp->Prop} {g:TG} {tc:TT} {te:TE}
  (hblk:∀ C s H,PG (cxComp X scope cl C (x::fr) s H fp ω) (.Name x px) g/\PIf (cxComp X scope cl C (x::fr) s H fp ω) ifs tc/\PE (cxComp X scope cl C (x::fr) s H fp ω) elt te)
  (hW:∀ D0,H2 D0=Gb->CompW J g tc te D0 (prj ix σ) (upd H2 D0 (.lst [])) (Qv D0))
  {RR:Gg->Gj->Result->Gh->Prop}
  (hRR:∀ D0 C s' H',Inv X ω σ H' s'->s2.heap.objs.size<=C->(∃ m,s'.heap.Ns C m)->H' C=Gb->Qv D0 H'->RR (.ref D0) C (.ok .next) s') :
  wpAny (model X.prog X.w) X.A (newList []) (λacc s3=>wpAny (model X.prog X.w) X.A (newFunctionEnv scope X.env.globals cl [] X.env.qual Gb .none (Ga X.env)) (λcenv s4 =>
   codeAny (model X.prog X.w) X.A (.compStart (.ListComp elt [⟨.Name x px,iter,ifs,0⟩] scope pos) 0 (.ref it) acc { cenv with scope:=relabel scope X.env }) (RR acc cenv.locals) s4) E s3) E s2:=by
 have hD0:H2 s2.heap.objs.size=Gb:=I.fresh;obtain⟨W,⟨m0,w0⟩,turn⟩:=hW s2.heap.objs.size hD0;have I3:=I.lnew (t':=s2.toks) (ys:=[]) (its:=[]) .nil (jY _);refine wpAny_newList (wpAny_newFunctionEnv S.nocell (by intro y hy;simp at hy) (λh1 hns hsb=>?_) S.kind);dsimp only at hns hsb ⊢;generalize hHp:s2.heap.push { cls:=.type "list",dict:=Gb,data:=.seq ([]:List Gg).toArray }=P2 at hns hsb I3 ⊢;have hC:P2.objs.size=s2.heap.objs.size+1:=by rw[<- hHp,u9]
 have keep:∀ b o,P2.get? b=Ga o->h1.get? b=Ga o:=λb o e=>hsb.extBut b o (jC (jp e)) (jg _ e);have neC:∀ b o,P2.get? b=Ga o->b≠P2.objs.size:=λb o e=>jC (jp e);have keep2:∀ b o,s2.heap.get? b=Ga o->P2.get? b=Ga o:=λb o e=>by rw[<- hHp];exact jg _ e
 have fpo:∀ b∈fp,∃ o,s2.heap.get? b=Ga o/\∀ v,o.data≠.cell v:=λb hb=>T.obj 0 _ st b hb;have fpC:∀ b∈fp,b≠P2.objs.size:=λb hb=>by obtain⟨o,e,_⟩:=fpo b hb;exact neC b o (keep2 b o e)
 have fpD:∀ b∈fp,b≠s2.heap.objs.size:=λb hb=>by obtain⟨o,e,_⟩:=fpo b hb;exact jC (jp e)
 have fpS:∀ b∈fp,b∉frs X.stack:=λb hb z=>by
  obtain⟨_,f1,f2,_⟩:=hf b hb;rcases ju.mp (I.stkSub b z) with q|q
  .exact f1 q
  .exact f2 q
 have cellK:∀ x c,cl.lookup x=Ga c->∃ v,P2.IsCell c v:=λx c e=>by
  obtain⟨v,o,ho,hd⟩:=I.cell x c (hl1 x c e);exact⟨v,o,keep2 c o ho,hd⟩
 have okB:(cxComp X scope cl P2.objs.size (x::fr) { s2 with heap:=P2 } (upd H2 s2.heap.objs.size (.lst [])) fp ω).Ok:=by
  refine⟨I.ok.mod,by show(relabel scope X.env).kind=_;exact S.kind,I.ok.glob,I.ok.blt,jo _,λy z c e1 e2=>?_,λy hy=>?_,λy c hfn _=>?_,I.ok.hd,I.ok.frames,.inl rfl,λb hb=>⟨fpC b hb,λy c e=>?_⟩,λb o e=>?_,?_,λb o e hb=>?_,fpS,I3.stack,I3.stkFree⟩
  .exact I.ok.inj y z c (hl1 y c e1) (hl1 z c e2)
  .
   have hy':(relabel scope X.env).names.lookup y=Ga .cell\/(relabel scope X.env).names.lookup y=Ga .free:=hy;have mem:(y,jS)∈scope.names:=by
    have hfind:∀ (names:List (Str×NameKind)),(∀ z∈names,z.2≠.cell)->((names.map λ(n,k)=>if (k==jS&&X.env.scope.kind==.function&&X.env.kindOf n==Ga .cell) then(n,uM) else(n,k)).lookup y=Ga .cell \/
      (names.map λ(n,k)=>if (k==jS&&X.env.scope.kind==.function&&X.env.kindOf n==Ga .cell) then(n,uM) else(n,k)).lookup y=Ga .free)->(y,jS)∈names:=by
     intro names;induction names with
     | nil=>intro _ h;simp at h
     | cons p r ih =>
      obtain⟨n,k⟩:=p;intro hn h;have ih':=ih (λz hz=>hn z (jm _ hz));have hk:k≠.cell:=hn (n,k) jn;rw[jR] at h;dsimp only at h;by_cases hcnd:(k==jS&&X.env.scope.kind==.function&&X.env.kindOf n==Ga .cell)=true
      .rw[Ge hcnd] at h;have hkf:k=.free:=by simp only[jE,beq_iff_eq] at hcnd;exact hcnd.1.1
       cases hx:y==n with
       | true=>rw[beq_iff_eq.mp hx,hkf];exact jn
       | false =>
        rw[j7,hx] at h;exact jm _ (ih' h)
      .rw[Gf hcnd] at h;cases hx:y==n with
       | true =>
        rw[j7,hx] at h;rcases h with h|h
        .exact absurd (jw h) hk
        .rw[beq_iff_eq.mp hx,<- jw h];exact jn
       | false =>
        rw[j7,hx] at h;exact jm _ (ih' h)
    exact hfind scope.names S.nocell hy'
   exact hl2 y mem
  .cases hfn
  .obtain⟨_,_,_,_,f4,_⟩:=hf b hb;exact f4 y c (hl1 y c e)
  .obtain⟨e1,e2⟩:=I3.bs b o e;exact⟨e1,e2⟩
  .exact j9 I.ok.bsz I3.sz
  .obtain⟨_,_,_,f3,_⟩:=hf b hb;rcases f3 with z|z
   .exact I.ok.noex b o e z
   .exact absurd (jA (jp e) (j9 I.ok.bsz z)) (kK _)
 have i4:Inv (cxComp X scope cl P2.objs.size (x::fr) { s2 with heap:=P2 } (upd H2 s2.heap.objs.size (.lst [])) fp ω) [] (prj ix σ) (upd H2 s2.heap.objs.size (.lst [])) { s2 with heap:=h1,toks:=s2.toks+([]:List (Str×Gg)).length }:=by
  refine⟨okB,rfl,I.bare,Un.kept keep,⟨_,hns,λi y v e1 e2 e3=>?_⟩,λy c e=>?_,?_,λy c e=>?_,λp hp=>?_,I3.hok.kept keep,?_⟩
  .cases i with
   | zero=>simp[prj] at e2
   | succ j =>
    have e1':fr[j]?=Ga y:=by simpa [cxComp] using e1
    have hj:j<ix.length:=by rw[<- S.len];exact(je.mp e1').1
    have eix:ix[j]?=Ga ix[j]:=jc hj;have e2':(σ[ix[j]]?).join=Ga v:=by simpa [prj,eix] using e2
    have e2'':σ[ix[j]]?=Ga (Ga v):=by
     cases z:σ[ix[j]]? with
     | none=>rw[z] at e2';cases e2'
     | some w=>rw[z] at e2';cases e2';rfl
    have hN:=S.at_ j ix[j] y eix e1';have hfree:=S.free y (jL e1');have hmem:(y,jS)∈scope.names:=ui hfree;have hout:=S.outs _ hmem rfl;obtain⟨m,hn,hl⟩:=I.loc;obtain⟨u,ru,lk⟩:=hl ix[j] y v hN e2'' (hout.elim (λz=>.inr (.inl z)) λz=>.inr (.inr z));refine⟨u,ru,.inr ?_⟩;rcases lk with ⟨k,_⟩|⟨k,c,ec,hcell⟩
    .exfalso;have k':X.env.scope.names.lookup y=Ga .local:=k;rcases hout with z|z
     .rw[z] at k';cases k'
     .rw[z] at k';cases k'
    .obtain⟨c',ec'⟩:=hl2 y hmem;have:c'=c:=by have:=hl1 y c' ec';rw[ec] at this;cases this;rfl
     subst this;obtain⟨o,ho,hd⟩:=hcell;exact⟨zdM (ψ:=X.env) hfree,c',ec',o,keep _ o (keep2 _ o ho),hd⟩
  .obtain⟨v,o,ho,hd⟩:=cellK y c e;exact⟨v,o,keep _ o ho,hd⟩
  .show upd H2 s2.heap.objs.size (.lst []) P2.objs.size=Gb;exact I3.hok.fresh (jo _)
  .exact I3.freeC y c (hl1 y c e)
  .have hp':p∈X.pn++ω:=by simpa [cxComp] using hp
   obtain⟨e,n,ne,nf,d⟩:=I3.pin p hp';refine⟨keep _ _ e,n,neC _ _ e,λz=>?_,d⟩;rcases ju.mp (I.stkSub _ z) with q|q
   .exact ne q
   .exact nf q
  .simp[prj,cxComp,S.len]
 obtain⟨hg,hif,he⟩:=hblk P2.objs.size { s2 with heap:=P2 } (upd H2 s2.heap.objs.size (.lst []));generalize hX':cxComp X scope cl P2.objs.size (x::fr) { s2 with heap:=P2 } (upd H2 s2.heap.objs.size (.lst [])) fp ω=X' at okB i4 hg hif he;have xA:X'.A=X.A:=by rw[<- hX'];rfl
 have xP:X'.prog=X.prog:=by rw[<- hX'];rfl
 have xw:X'.w=X.w:=by rw[<- hX'];rfl
 have xK:X'.K=X.K:=by rw[<- hX'];rfl
 have xc:X'.calm=true:=by rw[<- hX'];exact hc
 have xe:X'.env=compEnvC scope cl P2.objs.size X.env:=by rw[<- hX'];rfl
 have xx:∀ v s,X'.xe v s->False:=by rw[<- hX'];exact λ_ _ z=>z
 have stat:∀ {H':Hp},(∀ b∈fp,H' b=Gb)->∀ b∈fp,FpOk X' [] H' b:=λhn b hb=>by
  obtain⟨_,f1,f2,f3,f4,f5⟩:=hf b hb;refine⟨hn b hb,?_,?_,?_,?_,?_⟩
  .rw[xe];exact fpC b hb
  .rw[<- hX'];exact fpS b hb
  .rw[<- hX'];exact .inl hb
  .rw[<- hX'];exact λy c e=>f4 y c (hl1 y c e)
  .rw[<- hX'];intro p hp;exact f5 p (by simpa [cxComp] using hp)
 have st1:tn 0 h1:=T.keep 0 _ _ st λb hb o e=>keep b o (keep2 b o e);have fr0:∀ b∈fp,upd H2 s2.heap.objs.size (.lst []) b=Gb:=λb hb=>by rw[upd_ne (fpD b hb)];exact(hf b hb).1
 have loop:∀ s4:Gh,s4={ s2 with heap:=h1,toks:=s2.toks+([]:List (Str×Gg)).length } ->
   codeAny (model X.prog X.w) X.A (.compLoop (.ListComp elt [⟨.Name x px,iter,ifs,0⟩] scope pos) 0 (.ref it) (.ref s2.heap.objs.size) (compEnvC scope cl P2.objs.size X.env)) (RR (.ref s2.heap.objs.size) P2.objs.size) s4:=by
  rintro s4 rfl;refine codeAny_compLoop_tests (λn s'=>∃ i σ' H',Inv X' [] σ' H' s'/\tn i s'.heap/\(∀ b∈fp,H' b=Gb)/\W i n σ' H') ?_ m0 ⟨0,_,_,i4,st1,fr0,w0⟩;rintro n s5 ⟨i,σ5,H5,I5,st5,fr5,w5⟩;rcases turn i n σ5 H5 w5 with ⟨stop,qn⟩|⟨go,N,hN,step⟩
  .have dn:=T.done X' xP xw xK xc i [] s5 σ5 H5 (λ_ _=>False) I5 (stat fr5) st5 stop;rw[xA] at dn;refine wpAny_mono dn (λr s6 ⟨hr,I6⟩=>?_) λ_ _ z=>z.elim;subst hr;have base6:Un (frs X.stack) fp (upd H2 s2.heap.objs.size (.lst [])) H5 P2 s6.heap:=by have:=I6.base;rw[<- hX'] at this;exact this
   have os6:s6.os=s2.os:=by have:=I6.os;rw[<- hX'] at this;exact this
   have hok6:HOk X.prog X.w H5 s6.heap:=by have:=I6.hok;rw[xP,xw] at this;exact this
   have I7:Inv X ω σ H5 s6:=Inv.call' (s:={ s2 with heap:=P2,toks:=s2.toks }) I3 os6 base6 hok6 I6.bare λb hb=>by
    obtain⟨_,f1,_,f3,f4,f5⟩:=hf b hb;exact⟨f3,f1,f4,f5⟩
   refine hRR _ _ s6 H5 I7 (by rw[hC];exact vV _) ?_ ?_ qn
   .obtain⟨m,hm,_⟩:=I6.loc;rw[xe] at hm;exact⟨m,hm⟩
   .have:=I6.free;rw[xe] at this;exact this
  .have itm:=T.item X' xP xw xK xc i [] s5 σ5 H5 (λ_ _=>False) I5 (stat fr5) st5 go;rw[xA] at itm;refine wpAny_mono itm (λr s6 ⟨u,hr,h6⟩=>?_) λ_ _ z=>z.elim;subst hr;show wpAny _ _ ((letOwnedTupleGo (.Name x px) (.ref it) u) >>= λ_=>assign (.Name x px) (compEnvC scope cl P2.objs.size X.env) u) _ _ _;refine wpAny_bind (wpAny_mono h6 (λ_ s7 ⟨xv,H7,I7,r7,y7,st7,fr7⟩=>?_) λ_ _ z=>z.elim);have I7':=I7.pinned (stat fr7) (T.obj _ _ st7);have stepx:=step xv H7 y7;have asg:=hg _ s7 σ5 H7 xv u _ I7' r7 stepx;rw[xA,xP,xw,xe] at asg;refine wpAny_mono asg (λ_ s8 ⟨σ8,H8,I8,q8⟩=>?_) λ_ _ z=>(xx _ _ z).elim;have again:∀ {H9:Hp} {s9:Gh},Inv X' ([]++pinsAt fp s7.heap) σ8 H9 s9->N σ8 H9->∃ m,m<n/\∃ i σ' H',Inv X' [] σ' H' s9/\tn i s9.heap/\(∀ b∈fp,H' b=Gb)/\W i m σ' H':=λ{H9 s9} I9 n9=>by
    obtain⟨m',hm,w9⟩:=hN σ8 H9 n9;refine⟨m',hm,i+1,σ8,H9,I9.unpinned,T.keep _ _ _ st7 λb hb o e=>(I9.pin (b,o) (jJ _ (jJ _ (mem_pinsAt hb e)))).1,λb hb=>?_,w9⟩;obtain⟨o,e,d⟩:=T.obj _ _ st7 b hb;exact(I9.pin (b,o) (jJ _ (jJ _ (mem_pinsAt hb e)))).2.1
   have fin:∀ (ok:Bool) (H9:Hp) (s9:Gh),Inv X' ([]++pinsAt fp s7.heap) σ8 H9 s9->(if ok=true then te σ8 H9 λy H4=>∃ ys,H4 s2.heap.objs.size=Ga (.lst ys)/\ys.length<sizeLine/\N σ8 (upd H4 s2.heap.objs.size (.lst (ys++[y]))) else N σ8 H9) ->
     if ok=true then wpAny (model X.prog X.w) X.A (eval elt (compEnvC scope cl P2.objs.size X.env)) (λxv s10=>wpAny (model X.prog X.w) X.A (call (.builtin "list.append") [.ref s2.heap.objs.size,xv]) (λ_ s11=>∃ m,m<n/\∃ i σ' H',Inv X' [] σ' H' s11/\tn i s11.heap/\(∀ b∈fp,H' b=Gb)/\W i m σ' H')
      (notedBy (model X.prog X.w) X.A (compEnvC scope cl P2.objs.size X.env) λe s'=>RR (.ref s2.heap.objs.size) P2.objs.size (.error e) s') s10) (notedBy (model X.prog X.w) X.A (compEnvC scope cl P2.objs.size X.env) λe s'=>RR (.ref s2.heap.objs.size) P2.objs.size (.error e) s') s9
     else ∃ m,m<n/\∃ i σ' H',Inv X' [] σ' H' s9/\tn i s9.heap/\(∀ b∈fp,H' b=Gb)/\W i m σ' H':=by
    intro ok H9 s9 I9 q9;cases ok with
    | false =>
     rw[Gf jx] at q9 ⊢;exact again I9 q9
    | true =>
     rw[Ge rfl] at q9 ⊢;have ev:=he _ s9 σ8 H9 _ I9 q9;rw[xA,xP,xw,xe] at ev;refine wpAny_mono ev (λu s10 ⟨y,H10,I10,r10,ys,hys,hz,q10⟩=>?_) λ_ _ z=>(xx _ _ z).elim;have ap:=mt_append (X:=X') _ s10 σ8 H10 (.ref s2.heap.objs.size) [y] (.ref s2.heap.objs.size) [u] (λ_ H'=>N σ8 H') I10 rfl (.cons r10 .nil) ⟨_,ys,y,rfl,rfl,hys,hz,q10⟩;rw[xA,xP,xw] at ap;refine wpAny_mono ap (λ_ s11 ⟨_,H11,I11,_,q11⟩=>again I11 q11) λ_ _ z=>(xx _ _ z).elim
   match ifs,hif with
   | [],hif=>exact wpAny_tests_nil (by
     have hif':tc=λ_ H Q=>Q true H:=hif;rw[hif'] at q8;exact fin true H8 s8 I8 q8)
   | [c],hif =>
    have tst:=(show PT X' c tc from hif) _ s8 σ8 H8 _ I8 q8;rw[xA,xP,xw,xe] at tst;exact wpAny_tests_one (wpAny_mono tst (λok s9 ⟨H9,I9,q9⟩=>fin ok H9 s9 I9 q9) λ_ _ z=>(xx _ _ z).elim)
   | _::_::_,hif=>exact hif.elim
 exact codeAny_compStart_list (loop _ rfl) (T.self _ 0 _ _ _ st1 (loop _ rfl))
end
end T3
namespace T3
open PySem PySem.Spec PyProof.Rows L2
def slv:Option Sl->Sl
 | some (.val d)=>.val d
 | some (.own ds)=>.own ds
 | some (.fn c)=>.fn c
 | _=>.no
def prjE (ix:List Nat)(ψ:En):En:=ix.map λ(i:Nat)=>slv ψ[i]?
def compD (fc:FB)(fe:FV)(base:En):List D->Option (List D)
 | []=>Ga []
 | x::r=>(fc (.val x::base)).bind λb=>if b then(fe (.val x::base)).bind λy=>(compD fc fe base r).bind λys=>Ga (y::ys) else compD fc fe base r
theorem RS.lend {K:ja}{H0 F H:Hp}{ψ:En}{σ:St}(r:RS K H0 F H ψ σ){a:Gj}{o:HO}(ha:H a=Gb)(pl:Pl o:=by trivial):RS K (upd H0 a o) F (upd H a o) ψ σ:=by
 have fa:=r.fh.free ha;refine⟨Same.up2 r.h0 (r.h0.free ha) ha pl,r.fh.put fa (λx u z=>by rw[ha] at z;cases z),λi s e=>?_,r.ap⟩
 .obtain⟨u,e1,q⟩:=r.sl i s e;refine⟨u,e1,?_⟩;cases s with
  | no=>trivial
  | val d=>exact q
  | own ds=>obtain⟨b,xs,e2,hb,fb,h0b,rr⟩:=q;have n:=ne_of_none hb ha;exact⟨b,xs,e2,by rw[upd_ne n];exact hb,fb,by rw[upd_ne n];exact h0b,rr⟩
  | owk b ds=>obtain⟨xs,e2,hb,fb,h0b,rr⟩:=q;have n:=ne_of_none hb ha;exact⟨xs,e2,by rw[upd_ne n];exact hb,fb,by rw[upd_ne n];exact h0b,rr⟩
  | dic ks=>obtain⟨b,as,ep,e2,hb,fb,h0b,rr⟩:=q;have n:=ne_of_none hb ha;exact⟨b,as,ep,e2,by rw[upd_ne n];exact hb,fb,by rw[upd_ne n];exact h0b,rr⟩
  | dki oa kvs=>obtain⟨b,ws,ep,e2,hb,fb,h0b,rr⟩:=q;have n:=ne_of_none hb ha;exact⟨b,ws,ep,e2,by rw[upd_ne n];exact hb,fb,by rw[upd_ne n];exact h0b,rr⟩
  | dkt kvs=>obtain⟨b,ws,ep,e2,hb,fb,h0b,rr⟩:=q;have n:=ne_of_none hb ha;exact⟨b,ws,ep,e2,by rw[upd_ne n];exact hb,fb,by rw[upd_ne n];exact h0b,rr⟩
  | tab P=>obtain⟨ps,q,g⟩:=q;exact⟨ps,by rw[upd_ne (ne_of_none q (r.h0.free ha))];exact q,g.updG λx u z=>by rw[r.h0.free ha] at z;cases z⟩
  | fn c=>obtain⟨g,e,q⟩:=q;exact⟨g,e,c.mono _ _ _ _ _ (.refl _) (Fz.upd λx u z=>by rw[ha] at z;cases z) q⟩
theorem GoodT.swp {H:Hp}{a:Gj}{o o':HO}(p:Pl o){l:List Gg}(g:GoodT (upd H a o) l):GoodT (upd H a o') l :=
 ⟨g.1,λpos cv e=>by
  obtain⟨c,x,vs,v,e1,e2,e3⟩:=g.2 pos cv e;have ne:c≠a:=λz=>by subst z;rw[upd_same] at e2;cases e2;exact p
  rw[upd_ne ne] at e2;exact⟨c,x,vs,v,e1,by rw[upd_ne ne];exact e2,e3⟩⟩
theorem RS.swap {K:ja}{H0 F H:Hp}{ψ:En}{σ:St}{a:Gj}{o o':HO}(r:RS K (upd H0 a o) F H ψ σ)(fa:F a=Gb)(pl:Pl o:=by trivial)(pl':Pl o':=by trivial):RS K (upd H0 a o') F (upd H a o') ψ σ:=by
 refine⟨r.h0.swp pl pl',r.fh.put fa (pl.nf (r.h0.pl upd_same pl)),λi s e=>?_,r.ap⟩
 .obtain⟨u,e1,q⟩:=r.sl i s e;have ne:∀ b,upd H0 a o b=Gb->b≠a:=λb h z=>by subst z;rw[upd_same] at h;cases h
  refine⟨u,e1,?_⟩;cases s with
  | no=>trivial
  | val d=>exact q
  | own ds=>obtain⟨b,xs,e2,hb,fb,h0b,rr⟩:=q;have n:=ne b h0b;exact⟨b,xs,e2,by rw[upd_ne n];exact hb,fb,by rw[upd_ne n] at h0b ⊢;exact h0b,rr⟩
  | owk b ds=>obtain⟨xs,e2,hb,fb,h0b,rr⟩:=q;have n:=ne b h0b;exact⟨xs,e2,by rw[upd_ne n];exact hb,fb,by rw[upd_ne n] at h0b ⊢;exact h0b,rr⟩
  | dic ks=>obtain⟨b,as,ep,e2,hb,fb,h0b,rr⟩:=q;have n:=ne b h0b;exact⟨b,as,ep,e2,by rw[upd_ne n];exact hb,fb,by rw[upd_ne n] at h0b ⊢;exact h0b,rr⟩
  | dki oa kvs=>obtain⟨b,ws,ep,e2,hb,fb,h0b,rr⟩:=q;have n:=ne b h0b;exact⟨b,ws,ep,e2,by rw[upd_ne n];exact hb,fb,by rw[upd_ne n] at h0b ⊢;exact h0b,rr⟩
  | dkt kvs=>obtain⟨b,ws,ep,e2,hb,fb,h0b,rr⟩:=q;have n:=ne b h0b;exact⟨b,ws,ep,e2,by rw[upd_ne n];exact hb,fb,by rw[upd_ne n] at h0b ⊢;exact h0b,rr⟩
  | tab P =>
   obtain⟨ps,q,g⟩:=q;have n:P≠a:=λz=>by subst z;rw[upd_same] at q;cases q;exact pl
   exact⟨ps,by rw[upd_ne n] at q ⊢;exact q,g.swp pl⟩
  | fn c=>obtain⟨g,e,q⟩:=q;exact⟨g,e,c.mono _ _ _ _ _ (.refl _) (Fz.upd (pl.nf (r.h0.pl upd_same pl))) q⟩
theorem zkV {ix:List Nat}{ψ:En}{j:Nat}{s:Sl}(h:(prjE ix ψ)[j]?=Ga s)(o:ownS s=true):∃ k ds,ix[j]?=Ga k/\ψ[k]?=Ga (.own ds)/\s=.own ds:=by
 unfold prjE at h;rw[jq] at h;cases z:ix[j]? with
 | none=>rw[z] at h;cases h
 | some k =>
  rw[z] at h;have h2:=jw h;unfold slv at h2;dsimp only at h2;split at h2
  .subst h2;cases o
  .rename_i ds hd;subst h2;exact⟨k,ds,rfl,hd,rfl⟩
  .subst h2;cases o
  .subst h2;cases o
theorem RS.prj {K:ja}{H0 F H:Hp}{ψ:En}{σ:St}(r:RS K H0 F H ψ σ)(ix:List Nat)(nd:ix.Nodup):RS K H0 F H (.no::prjE ix ψ) (T3.prj ix σ):=by
 refine⟨r.h0,r.fh,λi s e=>?_,λi j a s t o1 o2 e1 e2 e3 e4=>?_⟩
 .cases i with
  | zero=>simp at e;subst e;exact⟨Gb,rfl,trivial⟩
  | succ j =>
   have e':(prjE ix ψ)[j]?=Ga s:=by simpa using e
   unfold prjE at e';rw[jq] at e';cases z:ix[j]? with
   | none=>rw[z] at e';cases e'
   | some k =>
    rw[z] at e';have e2:=jw e';refine⟨(σ[k]?).join,by simp[T3.prj,z],?_⟩;unfold slv at e2;dsimp only at e2;split at e2
    .rename_i d hd;subst e2;obtain⟨u,e3,v,e4,rv⟩:=r.sl k _ hd;exact⟨v,by rw[e3,e4];rfl,rv⟩
    .rename_i ds hd;subst e2;obtain⟨u,e3,a,xs,e4,rv⟩:=r.sl k _ hd;exact⟨a,xs,by rw[e3,e4];rfl,rv⟩
    .rename_i c hd;subst e2;obtain⟨u,e3,f,e4,rv⟩:=r.sl k _ hd;exact⟨f,by rw[e3,e4];rfl,rv⟩
    .subst e2;trivial
 .cases i with
  | zero=>simp at e1;subst e1;cases o1
  | succ i =>
   cases j with
   | zero=>simp at e2;subst e2;cases o2
   | succ j =>
    obtain⟨k1,d1,x1,y1,z1⟩:=zkV (by simpa using e1) o1;obtain⟨k2,d2,x2,y2,z2⟩:=zkV (by simpa using e2) o2;have g1:σ[k1]?=Ga (Ga (.ref a)):=by
     obtain⟨u,e5,b,xs,e6,_⟩:=r.sl k1 _ y1;have:(T3.prj ix σ)[i+1]?=Ga ((σ[k1]?).join):=by simp[T3.prj,x1]
     rw[e3] at this;rw[e5,e6] at this ⊢;exact congrArg Ga (jw this).symm
    have g2:σ[k2]?=Ga (Ga (.ref a)):=by
     obtain⟨u,e5,b,xs,e6,_⟩:=r.sl k2 _ y2;have:(T3.prj ix σ)[j+1]?=Ga ((σ[k2]?).join):=by simp[T3.prj,x2]
     rw[e4] at this;rw[e5,e6] at this ⊢;exact congrArg Ga (jw this).symm
    have ek:k1=k2:=r.ap k1 k2 a _ _ rfl rfl y1 y2 g1 g2;subst ek;have hi:i<ix.length:=(je.mp x1).1;have hj:j<ix.length:=(je.mp x2).1;have:i=j:=(Jh (h₀:=hi) (h₁:=hj) nd).mp (by rw[(je.mp x1).2,(je.mp x2).2]);rw[this]
theorem zg7 {K:ja}{J:It}{H0 F1 H1:Hp}{ψ:En}{σ:St}{ds rs:List D}{fc:FB}{fe:FV}{ix:List Nat}{tc:TT}{D0:Gj}{Qv:Hp->Prop}{g:TG}
  (hg:∀ v σ H Q,tG K (λd ψ=>Ga (ψ.set 0 (.val d))) v σ H Q->g v σ H Q)
  (htc:∀ σ H Q,tT K fc σ H Q->tc σ H Q) (nd:ix.Nodup) (r:RS K H0 F1 H1 ψ σ) (Y:∀ F2,Same F1 F2->Yields K J F2 ds) (e:compD fc fe (prjE ix ψ) ds=Ga rs) (hz:ds.length<=1000000) (hD:H1 D0=Gb)
  (q:∀ xs H' F',Same H1 H'->Same F1 F'->Same F' H'->New F1 F' H1->F' D0=Gb->H' D0=Ga (.lst xs)->Reps K F' rs xs->Qv H') :
  CompW J g tc (tV K fe) D0 (prj ix σ) (upd H1 D0 (.lst [])) Qv:=by
 have fD:F1 D0=Gb:=r.fh.free hD;have h0D:H0 D0=Gb:=r.h0.free hD;have g0:Same H1 (upd H1 D0 (.lst [])):=Same.new hD;refine⟨λi m σ' H'=>i+m=ds.length/\∃ F2 sx don ys rest,RS K (upd H0 D0 (.lst ys)) F2 H' (sx::prjE ix ψ) σ'/\Same F1 F2/\New F1 F2 H1/\Same H1 H'/\F2 D0=Gb/\H' D0=Ga (.lst ys)/\Reps K F2 don ys/\don.length<=i /\
  compD fc fe (prjE ix ψ) (ds.drop i)=Ga rest/\rs=don++rest,⟨ds.length,by omega,F1,.no,[],[],rs,(r.prj ix nd).lend hD,.refl _,.refl _ _,g0,fD,upd_same,.nil,jo _,e,rfl⟩,?_⟩
 rintro i m σ' H' ⟨hm,F2,sx,don,ys,rest,r2,f2,n2,g2,fd2,hd2,rr2,hl2,e2,ers⟩;obtain⟨yd,yg⟩:=Y F2 f2 H' r2.fh i;by_cases hlt:i<ds.length
 .obtain⟨go,yy⟩:=yg ds[i] (by simp[hlt]);rw[uF hlt] at e2;unfold compD at e2;obtain⟨b,x1,x2⟩:=bind_some e2;refine .inr ⟨go,λσ3 H3=>i+1+(m-1)=ds.length/\∃ F2 sx don ys rest,RS K (upd H0 D0 (.lst ys)) F2 H3 (sx::prjE ix ψ) σ3/\Same F1 F2/\New F1 F2 H1/\Same H1 H3/\F2 D0=Gb/\H3 D0=Ga (.lst ys)/\Reps K F2 don ys/\don.length<=i+1 /\
   compD fc fe (prjE ix ψ) (ds.drop (i+1))=Ga rest/\rs=don++rest,λσ3 H3 h3=>⟨m-1,by omega,h3⟩,λx Hx yl=>?_⟩
  obtain⟨gx,F4,f4,fh4,n4,rx⟩:=yy x Hx yl;have r4:=r2.grow gx f4 fh4 n4;have noD:∀ {F F' H:Hp},F D0=Gb->(∃ o,H D0=Ga o)->New F F' H->F' D0=Gb:=λ{F F' H} a ⟨o,b⟩ n=>by
   cases z:F' D0 with
   | none=>rfl
   | some o'=>have:=n D0 o' z a;rw[b] at this;cases this
  have fd4:F4 D0=Gb:=noD fd2 ⟨_,hd2⟩ n4;refine hg _ _ _ _ ⟨upd H0 D0 (.lst ys),F4,sx::prjE ix ψ,ds[i],.val ds[i]::prjE ix ψ,r4,rx,rfl,λσ5 r5=>?_⟩;refine htc _ _ _ ⟨upd H0 D0 (.lst ys),F4,.val ds[i]::prjE ix ψ,b,r5,x1,λH6 g6=>?_⟩;have r6:=r5.later g6;have hd6:H6 D0=Ga (.lst ys):=g6 _ _ (gx _ _ hd2);have s6:Same H1 H6:=g2.trans (gx.trans g6);have nn4:New F1 F4 H1:=n2.trans n4 g2;cases b with
  | true =>
   obtain⟨y,x3,x4⟩:=bind_some x2;obtain⟨ys',x5,x6⟩:=bind_some x4;cases x6;refine iteT ⟨upd H0 D0 (.lst ys),F4,.val ds[i]::prjE ix ψ,y,r6,x3,λv H7 F7 g7 f7 fh7 n7 rv=>⟨ys,g7 _ _ hd6,?_,by omega,F7,.val ds[i],don++[y],ys++[v],ys',?_,f2.trans (f4.trans f7),?_,?_,noD fd4 ⟨_,hd6⟩ n7,upd_same,?_,?_,x5,?_⟩⟩
   .rw[<- rr2.length];have:don.length<1000000:=by omega
    exact jA this (by rw[sizeLine_eq];decide)
   .exact(r6.grow g7 f7 fh7 n7).swap (noD fd4 ⟨_,hd6⟩ n7)
   .exact nn4.trans n7 s6
   .exact(s6.trans g7).put hD (Ow.nf (ob:=.lst ys) trivial (g7 _ _ hd6))
   .exact((rr2.mono f4).mono f7).append (.cons rv .nil)
   .rw[jB,kL];omega
   .rw[ers,kD];rfl
  | false =>
   exact iteF ⟨by omega,F4,.val ds[i],don,ys,rest,r6,f2.trans f4,nn4,s6,fd4,hd6,rr2.mono f4,by omega,x2,ers⟩
 .rw[uW (by omega)] at e2;cases e2;refine .inl ⟨yd (by omega),q ys H' F2 g2 f2 r2.fh n2 fd2 hd2 ?_⟩;rw[ers,jX];exact rr2
def compF (fi:FL)(fc:FB)(fe:FV)(ix:List Nat):FL:=λψ=>(fi ψ).bind λds=>if ds.length<=1000000 then compD fc fe (prjE ix ψ) ds else Gb
section
variable {X:Cx}{elt iter:Expr}{x:Str}{px pos:Pos}{ifs:List Expr}{scope:Scope}{fr:List Str}{ix:List Nat}{fi:FL}{fc:FB}{fe:FV}
def tcOf (K:ja)(ifs:List Expr)(fc:FB):TT:=match ifs with
 | []=>λ_ H Q=>Q true H
 | _=>tT K fc
structure Blk (X:Cx)(scope:Scope)(x:Str)(px:Pos)(fr:List Str)(ifs:List Expr)(elt:Expr)(fc:FB)(fe:FV):Prop where
 h:∀ cl C s H fp ω,PTg (cxComp X scope cl C (x::fr) s H fp ω) (.Name x px) (λd ψ=>Ga (ψ.set 0 (.val d))) /\
  PIf (cxComp X scope cl C (x::fr) s H fp ω) ifs (tcOf X.K ifs fc)/\PV (cxComp X scope cl C (x::fr) s H fp ω) elt fe
 hn:ifs=[]->fc=λ_=>Ga true
theorem blk0 (nd:(x::fr).Nodup)(hl:scope.names.lookup x=Ga .local)(he:∀ cl C s H fp ω,PV (cxComp X scope cl C (x::fr) s H fp ω) elt fe):Blk X scope x px fr [] elt (λ_=>Ga true) fe :=
 ⟨λcl C s H fp ω=>⟨ziN 0 nd rfl (.inl (lookup_relabel_local hl)) (.inr (lookup_relabel_local hl)),rfl,he cl C s H fp ω⟩,λ_=>rfl⟩
theorem blk1 {c:Expr}(nd:(x::fr).Nodup)(hl:scope.names.lookup x=Ga .local)(hc:∀ cl C s H fp ω,PB (cxComp X scope cl C (x::fr) s H fp ω) c fc)(he:∀ cl C s H fp ω,PV (cxComp X scope cl C (x::fr) s H fp ω) elt fe) :
  Blk X scope x px fr [c] elt fc fe :=
 ⟨λcl C s H fp ω=>⟨ziN 0 nd rfl (.inl (lookup_relabel_local hl)) (.inr (lookup_relabel_local hl)),hc cl C s H fp ω,he cl C s H fp ω⟩,λh=>nomatch h⟩
theorem Blk.tc (B:Blk X scope x px fr ifs elt fc fe):∀ σ H Q,tT X.K fc σ H Q->tcOf X.K ifs fc σ H Q:=by
 intro σ H Q h;cases ifs with
 | nil =>
  obtain⟨H0,F,ψ,b,r,e,q⟩:=h;rw[B.hn rfl] at e;cases e;exact q H (.refl _)
 | cons c r=>exact h
theorem zjQ {ω:List (Gj×Obj)}{σ:St}{H:Hp}{s:Gh}(I:Inv X ω σ H s)(S:CompSc X.N X.env.scope scope x fr ix):∃ cl,closureFor scope X.env=pure cl/\(∀ x c,cl.lookup x=Ga c->X.env.cells.lookup x=Ga c)/\∀ x,(x,jS)∈scope.names->∃ c,cl.lookup x=Ga c:=by
 obtain⟨cl,e,a,b,_⟩:=zfA (ψ:=X.env) scope.names [] (λy hy hf=>I.ok.has y.1 (S.outs y hy hf)) (λx c h=>by simp at h);refine⟨cl,?_,a,b⟩;rw[zhP,e];rfl
theorem ziP (hc:X.calm=true)(S:CompSc X.N X.env.scope scope x fr ix)(hi:PIt X (.Name x px) iter fi)(B:Blk X scope x px fr ifs elt fc fe)(hs:∀ v,foldedSetIterable iter X.env v=pure v:=by intro _;rfl) :
  PO X (.ListComp elt [⟨.Name x px,iter,ifs,0⟩] scope pos) (compF fi fc fe ix):=by
 intro ω s σ H Q I hw;obtain⟨cl,hclos,hl1,hl2⟩:=zjQ I S;obtain⟨H0,F,ψ,rs,r,e,q⟩:=hw;obtain⟨ds,e1,e⟩:=bind_some e;split at e;rotate_left
 .cases e
 rename_i hz;rw[eval_ListComp];refine wpAny_comprehension_free (use:=Gb) rfl hs hclos S.kind S.locs (wpAny_mono (hi ω s σ H (λJ H1=>∃ F1,Same H H1/\Same F F1/\Same F1 H1/\New F F1 H/\∀ F2,Same F1 F2->Yields X.K J F2 ds) I ⟨H0,F,ψ,ds,r,e1,λJ H1 F1 g1 f1 fh1 n1 Y=>⟨F1,g1,f1,fh1,n1,Y⟩⟩)
  (λxv s1 h1=>wpAny_mono h1 (λitv s2 h2=>?_) λ_ _ z=>z) λ_ _ z=>z)
 obtain⟨it,fp,tn,J,H2,eit,I2,T,st2,f2,F1,g1,f1,fh1,n1,Y⟩:=h2;subst eit;refine ziO (g:=tG X.K (λd ψ=>Ga (ψ.set 0 (.val d)))) (te:=tV X.K fe) (tc:=tcOf X.K ifs fc) (RR:=λacc C=>compPost (model X.prog X.w) X.A X.xe Gb (EP X ω σ Q) acc C) (Qv:=λD0 H'=>Q (.ref D0) H') S hl1 hl2 I2 T st2 f2 hc (λC s' H'=>B.h cl C s' H' fp ω) (λD0 hD=>?_) λD0 C s' H' I' hC hn hf hq=>?_
 .exact zg7 (λ_ _ _ _ h=>h) B.tc S.apart (r.grow g1 f1 fh1 n1) Y e hz hD λxs H' F' g2 f2' fh2 n2 fd hd rr=>q D0 xs H' F' (g1.trans g2) (f1.trans f2') fh2 (n1.trans n2 g1) (g1.free hD) fd hd rr
 .obtain⟨m,hm⟩:=hn;refine⟨m,hm,λh' sb=>?_⟩;have nC:∀ p o,s2.heap.get? p=Ga o->p≠C:=λp o e=>jC (jA (jp e) hC);refine⟨.ref D0,H',?_,rfl,hq⟩;refine I'.turned (it:=C) (t':=s'.toks) (λb o hb e=>sb.extBut b o hb e) hf (kZ (jA I2.lt hC)) (.inr (j9 I2.sz hC)) (λy c ec z=>?_) λp hp z=>?_
  .obtain⟨v,qv⟩:=I2.cell y c ec;exact absurd (jA qv.lt (by rw[z];exact hC)) (kK _)
  .exact nC _ _ (I2.pin p hp).1 z
end
end T3
namespace T3
open PySem PySem.Spec PyProof.Rows L2
section
variable {X:Cx}{elt iter:Expr}{x y:Str}{px py pos spos:Pos}{ifs:List Expr}{scope:Scope}{fr:List Str}{ix:List Nat}{fi:FL}{fc:FB}{fe:FV}
theorem zg8 (i:Nat)(hc:X.calm=true)(S:CompSc X.N X.env.scope scope x fr ix)(hit:PIt X (.Name x px) iter fi)(B:Blk X scope x px fr ifs elt fc fe)(hN:X.N.Nodup)(hi:X.N[i]?=Ga y:=by rfl)(hy:X.env.scope.names.lookup y=Ga .local:=by rfl)
  (hsw:swapsWith (.ListComp elt [⟨.Name x px,iter,ifs,0⟩] scope pos) (Ga (.Name y py)) spos.line X.env=pure true:=by rfl) (hs:∀ v,foldedSetIterable iter X.env v=pure v:=by intro _;rfl) :
  PSt X (.Assign [.Name y py] (.ListComp elt [⟨.Name x px,iter,ifs,0⟩] scope pos) spos) (λψ=>(compF fi fc fe ix ψ).bind λd=>Ga (.nx (ψ.set i (.own d)))):=by
 intro ω s σ H D I hw;obtain⟨cl,hclos,hl1,hl2⟩:=zjQ I S;obtain⟨H0,F,ψ,o,r,e,p⟩:=hw;obtain⟨rs,e0,e⟩:=bind_some e;cases e;obtain⟨ds,e1,e⟩:=bind_some e0;split at e;rotate_left
 .cases e
 rename_i hz;have hl:i<σ.length:=by rw[I.len];exact(je.mp hi).1
 rw[exec_Assign_Name_used _ _ _ _ hsw];refine wpAny_bind (wpAny_standAt (wpAny_bind ?_));show wpAny _ X.A (do let _ <- comprehension (.ListComp elt [⟨.Name x px,iter,ifs,0⟩] scope pos) scope X.env _ (newList []) false (eval iter X.env) (Ga (assign (.Name y py) X.env))) _ _ s;refine wpAny_bind (wpAny_mono (wpAny_comprehension_free (use:=Ga (assign (.Name y py) X.env)) (Q:=λ_ s'=>SP X ω D .next s') rfl hs hclos S.kind S.locs
  (wpAny_mono (hit ω s σ H (λJ H1=>∃ F1,Same H H1/\Same F F1/\Same F1 H1/\New F F1 H/\∀ F2,Same F1 F2->Yields X.K J F2 ds) I ⟨H0,F,ψ,ds,r,e1,λJ H1 F1 g1 f1 fh1 n1 Y=>⟨F1,g1,f1,fh1,n1,Y⟩⟩)
  (λxv s1 h1=>wpAny_mono h1 (λitv s2 h2=>?_) λ_ _ z=>z) λ_ _ z=>z)) (λ_ s' hq=>wpAny_pure (wpAny_pure hq)) λ_ _ z=>z)
 obtain⟨it,fp,tn,J,H2,eit,I2,T,st2,f2,F1,g1,f1,fh1,n1,Y⟩:=h2;subst eit;refine ziO (g:=tG X.K (λd ψ=>Ga (ψ.set 0 (.val d)))) (te:=tV X.K fe) (tc:=tcOf X.K ifs fc) (RR:=λacc C=>compPost (model X.prog X.w) X.A X.xe (Ga (assign (.Name y py) X.env)) (λ_ s'=>SP X ω D .next s') acc C) (Qv:=λD0 H'=>D.nx (σ.set i (Ga (.ref D0))) H') S hl1 hl2 I2 T st2 f2 hc
  (λC s' H'=>B.h cl C s' H' fp ω) (λD0 hD=>?_) λD0 C s' H' I' hC hn hf hq=>?_
 .refine zg7 (λ_ _ _ _ h=>h) B.tc S.apart (r.grow g1 f1 fh1 n1) Y e hz hD λxs H' F' g2 f2' fh2 n2 fd hd rr=>?_;have nn:New F F' H:=n1.trans n2 g1;have r':=r.grow (g1.trans g2) (f1.trans f2') fh2 nn;refine p _ H' F' (f1.trans f2') (nn.dn r.h0) (r'.putO hl hd fd (r.h0.free (g1.free hD)) rr ?_);exact λj s o _ ej=>r.ne_free (g1.free hD) j s o ej
 .obtain⟨m,hm⟩:=hn;have nC:∀ p o,s2.heap.get? p=Ga o->p≠C:=λp o e=>jC (jA (jp e) hC);have cC:∀ y c,X.env.cells.lookup y=Ga c->c≠C:=λy c ec z=>by
   obtain⟨v,qv⟩:=I2.cell y c ec;exact absurd (jA qv.lt (by rw[z];exact hC)) (kK _)
  have lC:C≠X.env.locals:=kZ (jA I2.lt hC);show wpAny _ X.A (assign (.Name y py) X.env (.ref D0)) _ _ _;refine wpAny_assign_Name (store_ok2 I' hN hi (.inl hy) (v:=.ref D0) rfl (λs'' I'' ⟨a,sb,ha⟩=>?_) (.inr hy));have aC:C≠a:=by
   rcases ha with z|z
   .rw[z];exact lC
   .exact(cC _ _ z).symm
  refine⟨m,hm.sameBut sb aC,λh' sb2=>⟨_,H',?_,hq⟩⟩;refine I''.turned (it:=C) (t':=s''.toks) (λb o hb e=>sb2.extBut b o hb e) hf lC (.inr (j9 I2.sz hC)) cC λp hp z=>nC _ _ (I2.pin p hp).1 z
end
def frzO (i:Nat):Out->Out
 | .nx e=>.nx (frzAt i e)
 | o=>o
theorem zpE (i:Nat){X:Cx}{st:Stmt}{g:FS}(h:PSt X st g):PSt X st (λψ=>(g ψ).bind λo=>Ga (frzO i o)):=by
 refine zbL h λE σ H=>?_;rintro⟨H0,F,ψ,o,r,e,p⟩;obtain⟨o1,e1,e2⟩:=bind_some e;cases e2;refine⟨H0,F,ψ,o1,r,e1,?_⟩;cases o1 with
 | nx e3 =>
  intro σ' H' F' f n r';obtain⟨F2,f2,n2,r2⟩:=r'.frzAt i;exact p σ' H' F2 (f.trans f2) (n.up n2) r2
 | rt d=>exact p
 | ro d=>exact p
 | rm a d=>exact p
 | rc a d=>exact p
 | bk d=>exact p
 | ct d=>exact p
section
variable {X:Cx}{tg:Expr}{pos:Pos}
theorem zu5 {l:Expr}{tl:TE}(hl:PE X l tl):PI X tg l (λσ H R=>tl σ H λx H1=>∃ a,x=.ref a/\(((∃ xs,SqL X.K H1 a xs)/\R (Itl X.K a) H1)\/((∃ xs,SqT X.K H1 a xs)/\R (Itt X.K a) H1))):=by
 intro ω s σ H R I h;refine thn (hl ω s σ H _ I h) λv s1 ⟨x,H1,I1,r1,a,e,q1⟩=>?_;subst e;cases r1;rcases q1 with ⟨⟨xs,hq⟩,q⟩|⟨⟨xs,hq⟩,q⟩
 .obtain⟨its,rv,p,hz⟩:=I1.list hq;refine wpAny_pyIter_list p.isList ⟨s1.heap.objs.size,[s1.heap.objs.size],_,_,H1,rfl,I1.kept (t':=s1.toks) λb o e=>jg _ e,turn_list a _,⟨_,jv _ rfl,rfl,rfl⟩,λb hb=>?_,q⟩;cases jh.mp hb;exact I1.fpOk (jo _) I1.fresh
 .obtain⟨its,rv,p,hz⟩:=I1.tuple hq;refine wpAny_pyIter_tuple (show s1.heap.IsTuple a its.toArray from p) ⟨s1.heap.objs.size,[s1.heap.objs.size],_,_,H1,rfl,I1.kept (t':=s1.toks) λb o e=>jg _ e,turn_tuple a _,⟨_,jv _ rfl,rfl,rfl⟩,λb hb=>?_,q⟩;cases jh.mp hb;exact I1.fpOk (jo _) I1.fresh
theorem zfB {l:Expr}{f:FV}(h:PV X l f):PIt X tg l (λψ=>(f ψ).bind toS):=by
 refine zjO (zu5 h) λσ H R=>?_;rintro⟨H0,F,ψ,ds,r,e,q⟩;obtain⟨d,e1,e2⟩:=bind_some e;refine⟨H0,F,ψ,d,r,e1,λv H1 F1 g1 f1 fh1 n1 rv=>?_⟩;cases rv<;>first|(cases e2;done)|skip
 .rename_i a xs ds' h1 rr;cases e2;exact⟨a,rfl,.inr ⟨⟨xs,seqT fh1 h1⟩,q _ H1 F1 g1 f1 fh1 n1 λF2 f2=>zlS (seqT f2 h1) (rr.mono f2)⟩⟩
 .rename_i a xs ds' h1 rr;cases e2;exact⟨a,rfl,.inl ⟨⟨xs,fh1.seq h1⟩,q _ H1 F1 g1 f1 fh1 n1 λF2 f2=>zjP (f2.seq h1) (rr.mono f2)⟩⟩
def rngD (lo:Int)(n:Nat):List D:=(jk n).map λk=>.int (lo+(k:Nat))
theorem zg9 {K:ja}{F:Hp}{lo:Int}{n:Nat}:Yields K (Itr lo n) F (rngD lo n):=by
 intro H g i;refine⟨λhi=>(by simpa [rngD] using hi:n<=i),λd hd=>?_⟩;have hi:i<n:=by have:=(je.mp hd).1;simpa [rngD] using this
 refine⟨hi,λx H' y=>?_⟩;obtain⟨rfl,rfl⟩:=y;have:d=.int (lo+(i:Nat)):=by
  have h2:(rngD lo n)[i]?=Ga (.int (lo+(i:Nat))):=by simp[rngD,hi]
  rw[h2] at hd;exact(jw hd).symm
 subst this;exact⟨.refl _,F,.refl _,g,.refl _ _,.int _⟩
def rng1:D->Option (List D)
 | .int j=>if -(2^62)<=j/\j<2^62 then Ga (rngD 0 j.toNat) else Gb
 | _=>Gb
def rng2:D->D->Option (List D)
 | .int i,.int j=>if -(2^62)<=i/\i<2^62/\-(2^62)<=j/\j<2^62 then Ga (rngD i (j-i).toNat) else Gb
 | _,_=>Gb
theorem zcP {a:Expr}{f:FV}{p:Pos}(hg:Gl X "range")(hm:X.mg "range"=Gb)(ha:PV X a f)(hs:starEach [a] X.env=[(false,eval a X.env)]:=by rfl):PIt X tg (.Call (.Name "range" p) [a] [] pos) (λψ=>(f ψ).bind rng1):=by
 refine zjO (pi_range1 hg hm (pa_cons ha pa_nil hs) hs) λσ H R=>?_;rintro⟨H0,F,ψ,ds,r,e,q⟩;obtain⟨d,e1,e2⟩:=bind_some e;refine⟨H0,F,ψ,d,r,e1,λv H1 F1 g1 f1 fh1 n1 rv=>?_⟩;cases rv<;>first|(cases e2;done)|skip
 rename_i j;unfold rng1 at e2;dsimp only at e2;split at e2
 .rename_i c;cases e2;exact⟨j,rfl,c.1,c.2,q _ H1 F1 g1 f1 fh1 n1 λF2 f2=>zg9⟩
 .cases e2
theorem zmZ {a b:Expr}{f g:FV}{p:Pos}(hg:Gl X "range")(hm:X.mg "range"=Gb)(ha:PV X a f)(hb:PV X b g)(hs:starEach [a,b] X.env=[(false,eval a X.env),(false,eval b X.env)]:=by rfl)(hs2:starEach [b] X.env=[(false,eval b X.env)]:=by rfl) :
  PIt X tg (.Call (.Name "range" p) [a,b] [] pos) (λψ=>(f ψ).bind λx=>(g ψ).bind λy=>rng2 x y):=by
 refine zjO (pi_range2 hg hm (pa_cons ha (pa_cons hb pa_nil hs2) (by rw[hs,hs2])) hs hs2) λσ H R=>?_;rintro⟨H0,F,ψ,ds,r,e,q⟩;obtain⟨d,e1,e2⟩:=bind_some e;obtain⟨d2,e3,e4⟩:=bind_some e2;refine⟨H0,F,ψ,d,r,e1,λv H1 F1 g1 f1 fh1 n1 rv=>⟨H0,F1,ψ,d2,r.grow g1 f1 fh1 n1,e3,λv2 H2 F2 g2 f2 fh2 n2 rv2=>?_⟩⟩;cases rv<;>first|(cases e4;done)|skip
 cases rv2<;>first|(cases e4;done)|skip
 rename_i i j;unfold rng2 at e4;dsimp only at e4;split at e4
 .rename_i c;cases e4;exact⟨i,j,rfl,c,q _ H2 F2 (g1.trans g2) (f1.trans f2) fh2 (n1.trans n2 g1) λF2 f2=>zg9⟩
 .cases e4
end
def spV (K:ja)(fm:List D->Option D):Sp:=λvs H Q _=>∃ F ds d,Same F H/\Reps K F ds vs/\fm ds=Ga d/\∀ v H' F',Same H H'->Same F F'->Same F' H'->New F F' H->Rep K F' d v->Q v H'
def spO (K:ja)(fm:List D->Option (List D)):Sp:=λvs H Q _=>∃ F ds d,Same F H/\Reps K F ds vs/\fm ds=Ga d/\∀ a xs H' F',Same H H'->Same F F'->Same F' H'->New F F' H->H a=Gb->F' a=Gb->H' a=Ga (.lst xs)->Reps K F' d xs->Q (.ref a) H'
def startE (n:Nat)(ds:List D):En:=ds.map Sl.val++jF (n-ds.length) Sl.no
theorem RS.start {K:ja}{F H:Hp}{N:List Str}{ds:List D}{vs:List V}(g:Same F H)(r:Reps K F ds vs):RS K H F H (startE N.length ds) (start N vs):=by
 have hl:=r.length;refine⟨.refl _,g,λi s e=>?_,λi j a s t o1 o2 e1=>?_⟩
 .unfold startE at e;by_cases hi:i<ds.length
  .rw[jW (by simpa using hi),jq] at e;obtain⟨v,e1,e2⟩:=r.get (jc hi);rw[jc hi] at e;cases e;refine⟨Ga v,?_,v,rfl,e2⟩;unfold L2.start;rw[jW (by rw[jd];omega),jq,e1];rfl
  .rw[ko (by simpa using hi),uu] at e;split at e
   .rename_i hlt;cases e;refine⟨Gb,?_,trivial⟩;unfold L2.start;rw[ko (by rw[jd];omega),uu];rw[jd] at hlt ⊢;rw[Ge (by omega)]
   .cases e
 .exfalso;unfold startE at e1;by_cases hi:i<ds.length
  .rw[jW (by simpa using hi),jq,jc hi] at e1;cases e1;cases o1
  .rw[ko (by simpa using hi),uu] at e1;split at e1<;>cases e1;cases o1
section
variable {P:Program}{w:World}{K:ja}{mg:Str->Option Gg}{base:Heap}{x qual:Str}{st:Stmt}{f:Gj}{fd:Gi}{N ps:List Str}{k:Nat}
theorem fnV {fm:List D->Option D}(F:Fun K x qual st f fd)(S:FnScope N ps (defScope st))(hlen:∀ ds d,fm ds=Ga d->ds.length=ps.length)
  (hb:∀ (cdv:Gg) (A:Around) (outer:List Env) (s:Gh) (H:Hp) (E:XK),Room k (A.deeper (envOfC qual (defScope st) s.heap.objs.size f cdv)) ->
   ∃ g,PSts (cxOf CX0 P w K mg base N qual (defScope st) f cdv A outer s H E).nox (defBody st) g/\∀ ds d,fm ds=Ga d->g (startE N.length ds)=Ga (.rt d)\/(∃ xs,d=.list xs/\g (startE N.length ds)=Ga (.ro xs))) :
  FnOk P w K mg base CX0 (k+1) f fd ps (spV K fm):=by
 refine F.ok S (λvs H Q E h=>?_) (λcdv A outer s H vs Q E hr h=>?_)
 .obtain⟨F0,ds,d,_,r,e,_⟩:=h;rw[<- r.length];exact hlen ds d e
 .obtain⟨F0,ds,d,g0,r,e,q⟩:=h;obtain⟨g,hg,hm⟩:=hb cdv A outer s H E hr;rcases hm ds d e with z|⟨xs,rfl,z⟩
  .exact⟨_,hg,H,F0,_,_,RS.start g0 r,z,λv H' F' g1 f1 fh1 n1 rv=>q v H' F' g1 f1 fh1 n1 rv⟩
  .refine⟨_,hg,H,F0,_,_,RS.start g0 r,z,λa ys H' F' g1 f1 fh1 n1 ha fa ha' rr=>?_⟩;have sF:Same F' (upd F' a (.lst ys)):=Same.new fa;refine q (.ref a) H' (upd F' a (.lst ys)) g1 (f1.trans sF) (λb o h=>?_) (λb o h nb=>?_) (.lst (SqL.of upd_same) (rr.mono sF))
   .exact Same.upL fh1 ha' trivial b o h
   .by_cases hb:b=a
    .subst hb;exact ha
    .rw[upd_ne hb] at h;exact n1 b o h nb
theorem fnO {fm:List D->Option (List D)}(F:Fun K x qual st f fd)(S:FnScope N ps (defScope st))(hlen:∀ ds d,fm ds=Ga d->ds.length=ps.length)
  (hb:∀ (cdv:Gg) (A:Around) (outer:List Env) (s:Gh) (H:Hp) (E:XK),Room k (A.deeper (envOfC qual (defScope st) s.heap.objs.size f cdv)) ->
   ∃ g,PSts (cxOf CX0 P w K mg base N qual (defScope st) f cdv A outer s H E).nox (defBody st) g/\∀ ds d,fm ds=Ga d->g (startE N.length ds)=Ga (.ro d)) :
  FnOk P w K mg base CX0 (k+1) f fd ps (spO K fm):=by
 refine F.ok S (λvs H Q E h=>?_) (λcdv A outer s H vs Q E hr h=>?_)
 .obtain⟨F0,ds,d,_,r,e,_⟩:=h;rw[<- r.length];exact hlen ds d e
 .obtain⟨F0,ds,d,g0,r,e,q⟩:=h;obtain⟨g,hg,hm⟩:=hb cdv A outer s H E hr;exact⟨_,hg,H,F0,_,_,RS.start g0 r,hm ds d e,λa xs H' F' g1 f1 fh1 n1 ha fa ha' rr=>q a xs H' F' g1 f1 fh1 n1 ha fa ha' rr⟩
end
section
variable {X:Cx}{k:Nat}{f:Gj}{fd:Gi}{ps:List Str}{x:Str}{p pos:Pos}{e:Expr}{es:List Expr}{g:FL}
theorem zu6 {fm:List D->Option D}(F:FnOk X.prog X.w X.K X.mg X.base CX0 k f fd ps (spV X.K fm))(hr:Room k X.A)(hm:X.mg x=Ga (.ref f))(hk:uq X.K (.ref f)=true)(hb:Binds X.K fd ps [])(ha:PL X (e::es) g)(hg:Gl X x:=by rfl)
  (hdb:(x==("__debug__":Str))=false:=by decide) (he:starEach (e::es) X.env=(false,eval e X.env)::starEach es X.env:=by rfl) (hpl:(backTo pos (starEach es X.env)).any (·.1)=false:=by rfl) :
  PV X (.Call (.Name x p) (e::es) [] pos) (λψ=>(g ψ).bind fm):=by
 refine zaN (pe_call F hr hg hm hk hb .nil pass0 ha.pa hdb he hpl) λσ H Q=>?_;rintro⟨H0,F,ψ,d,r,e,q⟩;obtain⟨ds,e1,e2⟩:=bind_some e;refine⟨H0,F,ψ,ds,r,e1,λvs H1 F1 g1 f1 fh1 n1 rv=>⟨F1,ds,d,fh1,by rw[jX];exact rv,e2,λv H2 F2 g2 f2 fh2 n2 rv2=>?_⟩⟩;exact q v H2 F2 (g1.trans g2) (f1.trans f2) fh2 (n1.trans n2 g1) rv2
theorem zq8 {fm:List D->Option (List D)}(F:FnOk X.prog X.w X.K X.mg X.base CX0 k f fd ps (spO X.K fm))(hr:Room k X.A)(hm:X.mg x=Ga (.ref f))(hk:uq X.K (.ref f)=true)(hb:Binds X.K fd ps [])(ha:PL X (e::es) g)(hg:Gl X x:=by rfl)
  (hdb:(x==("__debug__":Str))=false:=by decide) (he:starEach (e::es) X.env=(false,eval e X.env)::starEach es X.env:=by rfl) (hpl:(backTo pos (starEach es X.env)).any (·.1)=false:=by rfl) :
  PO X (.Call (.Name x p) (e::es) [] pos) (λψ=>(g ψ).bind fm):=by
 refine zaN (pe_call F hr hg hm hk hb .nil pass0 ha.pa hdb he hpl) λσ H Q=>?_;rintro⟨H0,F,ψ,d,r,e,q⟩;obtain⟨ds,e1,e2⟩:=bind_some e;refine⟨H0,F,ψ,ds,r,e1,λvs H1 F1 g1 f1 fh1 n1 rv=>⟨F1,ds,d,fh1,by rw[jX];exact rv,e2,λa xs H2 F2 g2 f2 fh2 n2 ha fa ha' rr=>?_⟩⟩;exact q a xs H2 F2 (g1.trans g2) (f1.trans f2) fh2 (n1.trans n2 g1) (g1.free ha) fa ha' rr
end
end T3
namespace T3
open PySem PySem.Spec PyProof.Rows L2
def isTag:D->D->Option Bool
 | .none,.none=>Ga true
 | _,.none=>Ga false
 | .bool a,.bool b=>Ga (a==b)
 | _,.bool _=>Ga false
 | _,_=>Gb
def dIs (a b:D):Option D:=(isTag a b).bind λk=>Ga (.bool k)
def dIsnt (a b:D):Option D:=(isTag a b).bind λk=>Ga (.bool (!k))
section
variable {X:Cx}{pos:Pos}{a b:Expr}{f g:FV}
theorem ziQ {K:ja}{F:Hp}{a b:D}{x y:V}{u v:Gg}{k:Bool}(ra:Rep K F a x)(rb:Rep K F b y)(rx:RelV x u)(ry:RelV y v)(e:isTag a b=Ga k):plainIs u v=true/\(u==v)=k:=by
 cases rb<;>first|(cases ra<;>cases e;done)|skip
 .cases ry;cases ra<;>cases e<;>first
   | (cases rx;exact⟨rfl,rfl⟩)
   | (obtain⟨t,rfl⟩:=rx;exact⟨rfl,rfl⟩)
 .rename_i c;cases ry;cases ra<;>cases e<;>first
   | (cases rx;exact⟨rfl,rfl⟩)
   | (cases rx;rename_i b;cases b<;>cases c<;>exact⟨rfl,rfl⟩)
   | (obtain⟨t,rfl⟩:=rx;exact⟨rfl,rfl⟩)
theorem zq9:OpR X (compareOp .Is) (rEqD X.K dIs):=by
 intro ω s σ H x y v u Q I rx ry h;obtain⟨F,a,b,d,g,ra,rb,e,q⟩:=h;obtain⟨k,e1,e2⟩:=bind_some e;obtain⟨z1,z2⟩:=ziQ ra rb rx ry e1;cases e2;exact wpAny_is_plain z1 (by rw[z2];exact⟨.bl k,H,I,rfl,q k rfl⟩)
theorem zpF:OpR X (compareOp .IsNot) (rEqD X.K dIsnt):=by
 intro ω s σ H x y v u Q I rx ry h;obtain⟨F,a,b,d,g,ra,rb,e,q⟩:=h;obtain⟨k,e1,e2⟩:=bind_some e;obtain⟨z1,z2⟩:=ziQ ra rb rx ry e1;cases e2;exact wpAny_isNot_plain z1 (by rw[z2];exact⟨.bl (!k),H,I,rfl,q _ rfl⟩)
theorem zrA:∀ a b d,dIs a b=Ga d->∃ k,d=.bool k:=λa b d h=>by obtain⟨k,_,e⟩:=bind_some h;cases e;exact⟨_,rfl⟩
theorem zpG:∀ a b d,dIsnt a b=Ga d->∃ k,d=.bool k:=λa b d h=>by obtain⟨k,_,e⟩:=bind_some h;cases e;exact⟨_,rfl⟩
theorem v_is (ha:PV X a f)(hb:PV X b g):PV X (.Compare a [.Is] [b] pos) (λψ=>(f ψ).bind λx=>(g ψ).bind λy=>dIs x y):=zo9 zq9 (zeE zrA) ha hb
theorem b_is (ha:PV X a f)(hb:PV X b g):PB X (.Compare a [.Is] [b] pos) (λψ=>((f ψ).bind λx=>(g ψ).bind λy=>dIs x y).bind toB):=zgW zq9 (zeE zrA) ha hb
theorem zrB (ha:PV X a f)(hb:PV X b g):PB X (.Compare a [.IsNot] [b] pos) (λψ=>((f ψ).bind λx=>(g ψ).bind λy=>dIsnt x y).bind toB):=zgW zpF (zeE zpG) ha hb
def okIn (a:D)(xs:List D):Bool:=a.canLay0&&jZ xs&&decide (min (jU xs) a.depth<=90)
def dIn (a b:D):Option D:=(toS b).bind λxs=>if okIn a xs then Ga (.bool (xs.any λy=>jV y a)) else Gb
def dNin (a b:D):Option D:=(toS b).bind λxs=>if okIn a xs then Ga (.bool (!xs.any λy=>jV y a)) else Gb
theorem zm0 {a:D}{xs:List D}(h:okIn a xs=true):a.canLay0=true/\jZ xs=true/\min (jU xs) a.depth<=90:=by
 unfold okIn at h;simp only[jE,decide_eq_true_eq] at h;exact⟨h.1.1,h.1.2,h.2⟩
theorem zu7 (hu:X.A.units+100<cLine):OpR X (compareOp .In) (rEqD X.K dIn):=by
 intro ω s σ H x y v u Q I rx ry h;obtain⟨F,a,b,d,g,ra,rb,e,q⟩:=h;obtain⟨xs,e1,e2⟩:=bind_some e;split at e2
 .rename_i ok;obtain⟨h1,h2,h3⟩:=zm0 ok;obtain⟨as,ha⟩:=ra.reads I g (zeL h1) rx;obtain⟨bs,hb⟩:=rb.reads I g (by cases b<;>cases e1<;>(rw[plD];exact zdL h2)) ry;cases b<;>cases e1
  .exact SeqAt.in_list_reads hb ha h2 h1 (by omega) ⟨.bl _,H,I,rfl,q _ (jw e2).symm⟩
  .exact SeqAt.in_tuple_reads hb ha h2 h1 (by omega) ⟨.bl _,H,I,rfl,q _ (jw e2).symm⟩
 .cases e2
theorem zr2 (hu:X.A.units+100<cLine):OpR X (compareOp .NotIn) (rEqD X.K dNin):=by
 intro ω s σ H x y v u Q I rx ry h;obtain⟨F,a,b,d,g,ra,rb,e,q⟩:=h;obtain⟨xs,e1,e2⟩:=bind_some e;split at e2
 .rename_i ok;obtain⟨h1,h2,h3⟩:=zm0 ok;obtain⟨as,ha⟩:=ra.reads I g (zeL h1) rx;obtain⟨bs,hb⟩:=rb.reads I g (by cases b<;>cases e1<;>(rw[plD];exact zdL h2)) ry;cases b<;>cases e1
  .exact SeqAt.notIn_list_reads hb ha h2 h1 (by omega) ⟨.bl _,H,I,rfl,q _ (jw e2).symm⟩
  .exact SeqAt.notIn_tuple_reads hb ha h2 h1 (by omega) ⟨.bl _,H,I,rfl,q _ (jw e2).symm⟩
 .cases e2
theorem zu8:∀ a b d,dIn a b=Ga d->∃ k,d=.bool k:=λa b d h=>by obtain⟨k,_,e⟩:=bind_some h;split at e<;>cases e;exact⟨_,rfl⟩
theorem zr3:∀ a b d,dNin a b=Ga d->∃ k,d=.bool k:=λa b d h=>by obtain⟨k,_,e⟩:=bind_some h;split at e<;>cases e;exact⟨_,rfl⟩
theorem b_in (hu:X.A.units+100<cLine)(ha:PV X a f)(hb:PV X b g)(hm:behindInMarks .In b=false:=by first|rfl|with_unfolding_all rfl):PB X (.Compare a [.In] [b] pos) (λψ=>((f ψ).bind λx=>(g ψ).bind λy=>dIn x y).bind toB):=zgW (zu7 hu) (zeE zu8) ha hb hm
theorem zu9 (hu:X.A.units+100<cLine)(ha:PV X a f)(hb:PV X b g)(hm:behindInMarks .NotIn b=false:=by first|rfl|with_unfolding_all rfl):PB X (.Compare a [.NotIn] [b] pos) (λψ=>((f ψ).bind λx=>(g ψ).bind λy=>dNin x y).bind toB):=zgW (zr2 hu) (zeE zr3) ha hb hm
def dNeg:D->Option D
 | .int i=>Ga (.int (-i))
 | _=>Gb
theorem zx1 (ha:PV X a f):PV X (.UnaryOp .USub a pos) (λψ=>(f ψ).bind dNeg):=by
 refine zaN (pe_un un_neg ha) λσ H Q=>?_;rintro⟨H0,F,ψ,d,r,e,q⟩;obtain⟨d',e1,e⟩:=bind_some e;refine⟨H0,F,ψ,d',r,e1,λv H1 F1 g1 f1 fh1 n1 rv=>?_⟩;cases rv<;>first|(cases e;done)|skip
 cases e;exact⟨_,rfl,q _ H1 F1 g1 f1 fh1 n1 (.int _)⟩
def intsD:List D->Option (List Int)
 | []=>Ga []
 | .int i::r=>(intsD r).bind λis=>Ga (i::is)
 | _=>Gb
theorem zd4:∀ {ds:List D} {is:List Int},intsD ds=Ga is->ds=is.map jb
 | [],_,h=>by cases h;rfl
 | .int i::r,is,h=>by
  obtain⟨js,e1,e2⟩:=bind_some (show(intsD r).bind (λis=>Ga (i::is))=Ga is from h);cases e2;rw[zd4 e1];rfl
 | .none::_,_,h=>by cases h
 | .bool _::_,_,h=>by cases h
 | .str _::_,_,h=>by cases h
 | .list _::_,_,h=>by cases h
 | .tuple _::_,_,h=>by cases h
 | .dict _::_,_,h=>by cases h
end
end T3
namespace T3
open PySem PySem.Spec PyProof.Rows L2
section
variable {prog:Program}{w:World}{A:Around}{E:Gg->Gh->Prop}{s:Gh}
theorem zlT {it t:Gj}{i:Nat}{items:Array Gg}{x:Gg}{Q:Gg->Gh->Prop}(st:s.heap.IsTupleIter it t i)(ht:s.heap.IsTuple t items)(hx:items[i]?=Ga x)
  (hQ:∀ h',h'.IsTupleIter it t (i+1)->kw it s.heap h'->Q x { s with heap:=h' }):wpAny (model prog w) A (uG (.ref it)) Q E s:=by
 obtain⟨o,ho,hc,hd⟩:=id st;obtain⟨ot,hot,_,nt,hdt⟩:=ht;unfold uG;refine wpAny_bind (wpAny_callSpecial?_slot (name:=uV "__next__") st.typeIs ue (wpAny_call_entry ue st.typeIs vB ?_ (vy _)));show wpAny _ _ (field (.ref it) 0 >>= _) _ _ s;refine wpAny_bind (wpAny_field ho hd (x:=.ref t) rfl ?_);show wpAny _ _ (if (uk t==jT)=true then _ else _) _ _ s;rw[Gf (show ¬(uk t==jT)=true from λz=>jx z)];show wpAny _ _ (field (.ref it) 1 >>= _) _ _ s;refine wpAny_bind (wpAny_field ho hd (x:=.int i 0) rfl ?_);show wpAny _ _ (seqItems? (.ref t) >>= _) _ _ s;refine wpAny_bind (wpAny_seqItems hot hdt ?_);simp only[jD,hx];refine wpAny_bind (wpAny_setField ho hd (by simp) (wpAny_pure ⟨x,rfl,wpAny_pure (hQ _ ⟨_,j4 _ ho (u8 (k0 hd _)),(vF ..).trans hc,?_⟩ (jP ..))⟩));rw[k0 hd];simp[rawInt]
theorem zlU {it t:Gj}{i:Nat}{items:Array Gg}{Q:Gg->Gh->Prop}(hh:A.handled=Gb)(st:s.heap.IsTupleIter it t i)(ht:s.heap.IsTuple t items)(hx:items[i]?=Gb)
  (hE:∀ h' e,qM it s.heap h'->(∃ o,h'.get? e=Ga o/\o.cls=.type "StopIteration")->E (.ref e) { s with heap:=h' }):wpAny (model prog w) A (uG (.ref it)) Q E s:=by
 obtain⟨o,ho,hc,hd⟩:=id st;obtain⟨ot,hot,_,nt,hdt⟩:=ht;unfold uG;refine wpAny_bind (wpAny_callSpecial?_slot (name:=uV "__next__") st.typeIs ue (wpAny_call_entry ue st.typeIs vB ?_ (vy _)));show wpAny _ _ (field (.ref it) 0 >>= _) _ _ s;refine wpAny_bind (wpAny_field ho hd (x:=.ref t) rfl ?_);show wpAny _ _ (if (uk t==jT)=true then _ else _) _ _ s;rw[Gf (show ¬(uk t==jT)=true from λz=>jx z)];show wpAny _ _ (field (.ref it) 1 >>= _) _ _ s;refine wpAny_bind (wpAny_field ho hd (x:=.int i 0) rfl ?_);show wpAny _ _ (seqItems? (.ref t) >>= _) _ _ s;refine wpAny_bind (wpAny_seqItems hot hdt ?_);simp only[jD,hx];refine wpAny_bind (wpAny_rule (wpAny_bind (wpAny_setField ho hd (by simp) ?_)));show wpAny _ _ (newExc (.type "StopIteration") [] >>= _) _ _ _;refine wpAny_bind ?_;simp only[newExc,newTuple];refine wpAny_bind (wpAny_newObj_type ?_ (by size_fits));refine wpAny_bind (m:=firstArgMember _ _) (wpAny_of_eq (a:=jT) (by first|rfl|(simp only[firstArgMember];rfl)) ?_);refine wpAny_newObj_type ?_ (by size_fits);simp only[raiseNew];refine wpAny_bind (wpAny_handled ?_)
 first|rw[show A.in1.handled=Gb from hh]|rw[hh]
 exact wpAny_bind (wpAny_pure (wpAny_throw (hE _ _ (((jP ..).extBut.push _).push _) ⟨_,jv _ rfl,rfl⟩)))
variable {z ti tp i1 i2:Gj}{I1 I2:Nat->Heap->Prop}{k1 k2:Heap->Prop}{xs ys:List Gg}{i:Nat}
end
end T3
namespace T3
open PySem PySem.Spec PyProof.Rows L2
def SqX (t:Bool)(K:ja)(H:Hp)(a:Gj)(xs:List V):Prop:=if t then SqT K H a xs else SqL K H a xs
def IsX (t:Bool)(h:Heap)(a:Gj)(its:List Gg):Prop:=if t then h.IsTuple a its.toArray else h.IsList a its.toArray
theorem IsX.at {t:Bool}{h h':Heap}{a:Gj}{its:List Gg}(x:IsX t h a its)(k:∀ o,h.get? a=Ga o->h'.get? a=Ga o):IsX t h' a its:=by
 cases t with
 | true=>obtain⟨o,e,r⟩:=(x:h.IsTuple a its.toArray);exact(⟨o,k o e,r⟩:h'.IsTuple a its.toArray)
 | false=>exact Heap.IsList.at (x:h.IsList a its.toArray) k
section
variable {X:Cx}{ω:List (Gj×Obj)}{σ:St}{H:Hp}{s:Gh}
theorem zlV {t:Bool}{a:Gj}{xs:List V}(I:Inv X ω σ H s)(h:SqX t X.K H a xs):∃ its:List Gg,Vals xs its/\IsX t s.heap a its/\∃ o,s.heap.get? a=Ga o:=by
 cases t with
 | true=>obtain⟨its,r,p,_⟩:=I.tuple h;exact⟨its,r,p,let ⟨o,e,_⟩:=p;⟨o,e⟩⟩
 | false=>obtain⟨its,r,p,_⟩:=I.list h;exact⟨its,r,p.isList,let ⟨o,n,e,_⟩:=p;⟨o,e⟩⟩
theorem zkW {t:Bool}{a:Gj}{xs ys:List V}(I:Inv X ω σ H s)(h:SqX t X.K H a xs)(h':SqX t X.K H a ys):xs=ys:=by
 cases t with
 | true=>exact I.tuple_inj h h'
 | false=>exact I.list_inj h h'
theorem zf3 {h':Heap}{ch:List Gj}(I:Inv X ω σ H s)(hch:∀ b∈ch,FpOk X ω H b)(k:∀ b o,b∉ch->s.heap.get? b=Ga o->h'.get? b=Ga o)(tk:Nat):Inv X ω σ H { s with heap:=h',toks:=tk }:=by
 have nch:∀ b u,H b=Ga u->b∉ch:=λb u e z=>by rw[(hch b z).1] at e;cases e
 refine I.step (g':=s.gens) (d':=s.drawn) (ch:=ch) (λb hb=>?_) (λb o _ _ hc e _=>k b o hc e) (λb o _ _ hc e _=>⟨o.slots,k b o hc e⟩) (λ_ _ _ _ n=>n) (λb o hc e=>⟨o,k b o hc e⟩) (λ_ _ e=>e) (λ_ _ _ e=>e) (λb ps e=>⟨#[],by rw[e];simp⟩) (λm hm=>?_) (λb u e=>?_) I.bare
 .obtain⟨_,f1,_,f3,f4,f5⟩:=hch b hb;exact⟨f3,f1,f4,f5⟩
 .obtain⟨o,es,ep,ho,r⟩:=hm;exact⟨o,es,ep,k _ o (λz=>(hch _ z).2.1 rfl) ho,r⟩
 .refine(I.hok b u e).stay (λc v hc q=>k c v ?_ q) (λ_ q=>q) λ_ _ q=>q;rcases hc with z|z
  .rw[z];exact nch b u e
  .exact nch c _ z
end
section
variable {X:Cx}{pos:Pos}
end
end T3
namespace T3
open PySem PySem.Spec PyProof.Rows L2
abbrev cst (d:D):FV:=λ_=>Ga d
abbrev bin (op:D->D->Option D)(f g:FV):FV:=λψ=>(f ψ).bind λx=>(g ψ).bind λy=>op x y
abbrev un (op:D->Option D)(f:FV):FV:=λψ=>(f ψ).bind op
abbrev unL (op:List D->Option D)(f:FL):FV:=λψ=>(f ψ).bind op
abbrev tst (f:FV):FB:=λψ=>(f ψ).bind tru
abbrev cmpB (op:D->D->Option D)(f g:FV):FB:=λψ=>((f ψ).bind λx=>(g ψ).bind λy=>op x y).bind toB
abbrev notB (f:FB):FB:=λψ=>(f ψ).bind λc=>Ga (!c)
abbrev andB (f g:FB):FB:=λψ=>(f ψ).bind λc=>if c then g ψ else Ga false
abbrev orB (f g:FB):FB:=λψ=>(f ψ).bind λc=>if c then Ga true else g ψ
abbrev andV (f g:FV):FV:=λψ=>((f ψ).bind toB).bind λc=>if c then g ψ else Ga (.bool false)
abbrev orV (f g:FV):FV:=λψ=>((f ψ).bind toB).bind λc=>if c then Ga (.bool true) else g ψ
abbrev notV (f:FV):FV:=λψ=>((f ψ).bind toB).bind λc=>Ga (.bool (!c))
abbrev ifV (c:FB)(f g:FV):FV:=λψ=>(c ψ).bind λk=>if k then f ψ else g ψ
abbrev nilL:FL:=λ_=>Ga []
abbrev consL (f:FV)(g:FL):FL:=λψ=>(f ψ).bind λd=>(g ψ).bind λds=>Ga (d::ds)
abbrev tupV (g:FL):FV:=λψ=>(g ψ).bind λds=>Ga (.tuple ds)
abbrev lstV (g:FL):FV:=λψ=>(g ψ).bind λds=>Ga (.list ds)
abbrev callV (fm:List D->Option D)(g:FL):FV:=λψ=>(g ψ).bind fm
abbrev callO (fm:List D->Option (List D))(g:FL):FL:=λψ=>(g ψ).bind fm
abbrev shV (f:FV):FL:=λψ=>(f ψ).bind toL
abbrev seqI (f:FV):FL:=λψ=>(f ψ).bind toS
abbrev un1L (op:D->Option (List D))(f:FV):FL:=λψ=>(f ψ).bind op
abbrev binL (op:D->D->Option (List D))(f g:FV):FL:=λψ=>(f ψ).bind λx=>(g ψ).bind λy=>op x y
def dIsT (T:String)(d:D):Option D:=Ga (.bool (isT T d))
def dLenL (xs:List D):Option D:=Ga (.int xs.length)
def dTupL (xs:List D):Option D:=Ga (.tuple xs)
abbrev nxS:FS:=λψ=>Ga (.nx ψ)
abbrev seqS (g k:FS):FS:=λψ=>thenD (g ψ) k
abbrev retS (f:FV):FS:=λψ=>(f ψ).bind λd=>Ga (.rt d)
abbrev retO (f:FL):FS:=λψ=>(f ψ).bind λd=>Ga (.ro d)
abbrev ifS (c:FB)(g k:FS):FS:=λψ=>(c (frz ψ)).bind λt=>if t then g ψ else k ψ
abbrev setS (i:Nat)(f:FV):FS:=λψ=>(f ψ).bind λd=>Ga (.nx (ψ.set i (.val d)))
abbrev setO (i:Nat)(f:FL):FS:=λψ=>(f ψ).bind λd=>Ga (.nx (ψ.set i (.own d)))
abbrev fixS (i:Nat)(g:FS):FS:=λψ=>(g ψ).bind λo=>Ga (frzO i o)
abbrev frzS (i:Nat)(g:FS):FS:=λψ=>g (frzAt i ψ)
abbrev appS (i:Nat)(f:FV):FS:=λψ=>(go i ψ).bind λds=>(f ψ).bind λd=>if ds.length<1000000 then Ga (.nx (ψ.set i (.own (ds++[d])))) else Gb
abbrev forS (f:FL)(t:FT)(g:FS):FS:=λψ=>(f ψ).bind λds=>forD t g ds ψ
abbrev asgS (f:FV)(t:FT):FS:=λψ=>(f ψ).bind λd=>(t d ψ).bind λenv1=>Ga (.nx env1)
abbrev tgN (i:Nat):FT:=λd ψ=>Ga (ψ.set i (.val d))
abbrev FTs:=List D->En->Option En
abbrev tgNil:FTs:=λds ψ=>match ds with|[]=>Ga ψ|_=>Gb
abbrev tgCons (t:FT)(u:FTs):FTs:=λds ψ=>match ds with|d::r=>(t d ψ).bind λenv1=>u r env1|[]=>Gb
abbrev tgT (u:FTs):FT:=λd ψ=>(toT d).bind λds=>u ds ψ
section
variable {X:Cx}{pos:Pos}
structure PTl (X:Cx)(es:List Expr)(t:FTs):Prop where
 p:PTgs X es t
 len:∀ ds ψ env',t ds ψ=Ga env'->ds.length=es.length
theorem zm1:PTl X [] tgNil:=⟨zu4,λds ψ env' h=>by cases ds with|nil=>rfl|cons _ _=>cases h⟩
theorem zeN {e:Expr}{es:List Expr}{t:FT}{u:FTs}(h1:PTg X e t)(h2:PTl X es u)(hs:(assignEach (e::es) X.env).map (·.2)=assign e X.env::(assignEach es X.env).map (·.2):=by rfl):PTl X (e::es) (tgCons t u) :=
 ⟨zr1 h1 h2.p hs,λds ψ env' h=>by
  cases ds with
  | nil=>cases h
  | cons d r =>
   obtain⟨e1,_,x2⟩:=bind_some (show(t d ψ).bind (λenv1=>u r env1)=Ga env' from h);exact congrArg uC (h2.len r e1 env' x2)⟩
theorem zm2 {es:List Expr}{k:Nat}{t:FTs}(hc:X.calm=true)(h:PTl X es t)(hn:(assignEach es X.env).length=es.length:=by rfl)(hst:(assignEach es X.env).findIdx? (·.1)=Gb:=by rfl):PTg X (.Tuple es k pos) (tgT t):=zxZ hc h.p h.len hn hst
theorem zaY (i:Nat){x:Str}(hN:X.N.Nodup)(hi:X.N[i]?=Ga x:=by rfl)(hx:Loc X.env.scope x:=by first|exact kR rfl|exact kc rfl)(hf:X.fn x=true\/X.env.scope.names.lookup x=Ga .local:=by first|exact .inl rfl|exact .inr rfl):PTg X (.Name x pos) (tgN i):=ziN i hN hi hx hf
end
structure Fn (K:ja)(mg:Str->Option Gg)(x:Str)(st:Stmt)(ps:List Str)(a:Gj)(fd:Gi):Prop where
 F:Fun K x x st a fd
 b:Binds K fd ps []
 m:mg x=Ga (.ref a)
theorem zx2 {K:ja}{mg:Str->Option Gg}{h:Heap}{x:Str}{st:Stmt}{ps:List Str}{f:Gj}{oc:Gg}{od an:Option Gj}{osl:Array (Option Gg)}{kV doc pm cdv ct:Gg}(X:K.In h)(G:h.Ns mainGlobals mg)
  (a:kT K mainGlobals x=Ga (Ga (.ref f))) (l:K.lookup f=Ga ⟨oc,od,.func (uc x x (defArgs st) (defBody st) (defScope st) .none kV doc pm an cdv ct),osl⟩) (c:vD K cdv x=true) (k:uq K (.ref f)=true)
  (hb:∀ (kV doc pm:Gg) (an:Option Gj) (cdv ct:Gg) (us:List Gg),us.length=ps.length->bindArgs (uc x x (defArgs st) (defBody st) (defScope st) .none kV doc pm an cdv ct) ⟨us,[]⟩=pure (ps.zip us)) :
  Fn K mg x st ps f (uc x x (defArgs st) (defBody st) (defScope st) .none kV doc pm an cdv ct):=by
 have F:=fun_mk (st:=st) l c k;exact⟨F,F.binds hb,PySem.W.mg_of X G a⟩
theorem zbG {k:Nat}{A:Around}(r:Room k A):A.units+100<cLine:=by have:=r.un;omega
end T3
namespace T3
open PySem PySem.Spec PyProof.Rows L2
def outV:Option Out->Option D
 | some (.rt d)=>Ga d
 | some (.ro xs)=>Ga (.list xs)
 | _=>Gb
def outO:Option Out->Option (List D)
 | some (.ro xs)=>Ga xs
 | _=>Gb
def runV (np n:Nat)(g:FS)(ds:List D):Option D:=if ds.length=np then outV (g (startE n ds)) else Gb
def runO (np n:Nat)(g:FS)(ds:List D):Option (List D):=if ds.length=np then outO (g (startE n ds)) else Gb
section
variable {P:Program}{w:World}{K:ja}{mg:Str->Option Gg}{base:Heap}{x qual:Str}{st:Stmt}{f:Gj}{fd:Gi}{N ps:List Str}{k:Nat}{g:FS}
theorem okV (F:Fun K x qual st f fd)(S:FnScope N ps (defScope st))
  (hb:∀ (cdv:Gg) (A:Around) (outer:List Env) (s:Gh) (H:Hp) (E:XK),Room k (A.deeper (envOfC qual (defScope st) s.heap.objs.size f cdv))->PSts (cxOf CX0 P w K mg base N qual (defScope st) f cdv A outer s H E).nox (defBody st) g) :
  FnOk P w K mg base CX0 (k+1) f fd ps (spV K (runV ps.length N.length g)):=by
 refine fnV F S (λds d h=>?_) (λcdv A outer s H E hr=>⟨g,hb cdv A outer s H E hr,λds d h=>?_⟩)
 .unfold runV at h;split at h
  .assumption
  .cases h
 .unfold runV at h;split at h
  .unfold outV at h;split at h
   .rename_i e;cases h;exact .inl e
   .rename_i e;cases h;exact .inr ⟨_,rfl,e⟩
   .cases h
  .cases h
theorem okO (F:Fun K x qual st f fd)(S:FnScope N ps (defScope st))
  (hb:∀ (cdv:Gg) (A:Around) (outer:List Env) (s:Gh) (H:Hp) (E:XK),Room k (A.deeper (envOfC qual (defScope st) s.heap.objs.size f cdv))->PSts (cxOf CX0 P w K mg base N qual (defScope st) f cdv A outer s H E).nox (defBody st) g) :
  FnOk P w K mg base CX0 (k+1) f fd ps (spO K (runO ps.length N.length g)):=by
 refine fnO F S (λds d h=>?_) (λcdv A outer s H E hr=>⟨g,hb cdv A outer s H E hr,λds d h=>?_⟩)
 .unfold runO at h;split at h
  .assumption
  .cases h
 .unfold runO at h;split at h
  .unfold outO at h;split at h
   .rename_i e;cases h;exact e
   .cases h
  .cases h
end
theorem zvA {K:ja}{fm:List D->Option D}{H:Hp}{a:Gj}{ns:List Int}(hS:SqL K H a (ns.map V.int))(h:fm [.list (ns.map jb)]=Ga (.bool true)):spV K fm [.ref a] H (λv _=>v=.bl true) λ_ _ _=>False :=
 ⟨H,[.list (ns.map jb)],.bool true,.refl _,.cons (.lst hS (Reps.ints ns)) .nil,h,λv H' F' _ _ _ _ r=>by cases r;rfl⟩
end T3
namespace T3
open PySem
theorem zr4 (d:List D):outO (Ga (.ro d))=Ga d:=rfl
theorem zaP {g k:FS}{ψ e:En}(h:g ψ=Ga (.nx e)):seqS g k ψ=k e:=by show thenD (g ψ) k=_;rw[h];rfl
theorem zeF {g k:FS}{ψ:En}{d:D}(h:g ψ=Ga (.rt d)):seqS g k ψ=Ga (.rt d):=by show thenD (g ψ) k=_;rw[h];rfl
theorem if_t {c:FB}{g k:FS}{ψ:En}(h:c (frz ψ)=Ga true):ifS c g k ψ=g ψ:=by show(c (frz ψ)).bind _=_;rw[h];rfl
theorem if_f {c:FB}{g k:FS}{ψ:En}(h:c (frz ψ)=Ga false):ifS c g k ψ=k ψ:=by show(c (frz ψ)).bind _=_;rw[h];rfl
theorem zfV {f:FV}{ψ:En}{d:D}(h:f ψ=Ga d):retS f ψ=Ga (.rt d):=by show(f ψ).bind _=_;rw[h];rfl
theorem zx3 {f:FL}{ψ:En}{d:List D}(h:f ψ=Ga d):retO f ψ=Ga (.ro d):=by show(f ψ).bind _=_;rw[h];rfl
theorem zeX {i:Nat}{f:FV}{ψ:En}{d:D}(h:f ψ=Ga d):setS i f ψ=Ga (.nx (ψ.set i (.val d))):=by show(f ψ).bind _=_;rw[h];rfl
theorem zr5 {i:Nat}{f:FL}{ψ:En}{d:List D}(h:f ψ=Ga d):setO i f ψ=Ga (.nx (ψ.set i (.own d))):=by show(f ψ).bind _=_;rw[h];rfl
theorem zx4 {i:Nat}{g:FS}{ψ e:En}(h:g ψ=Ga (.nx e)):fixS i g ψ=Ga (.nx (frzAt i e)):=by show(g ψ).bind _=_;rw[h];rfl
theorem zaU {op:D->D->Option D}{f g:FV}{ψ:En}{a b:D}(h1:f ψ=Ga a)(h2:g ψ=Ga b):bin op f g ψ=op a b:=by show(f ψ).bind _=_;rw[h1];show(g ψ).bind _=_;rw[h2];rfl
theorem un_v {op:D->Option D}{f:FV}{ψ:En}{a:D}(h1:f ψ=Ga a):un op f ψ=op a:=by show(f ψ).bind _=_;rw[h1];rfl
theorem zvB {op:List D->Option D}{f:FL}{ψ:En}{a:List D}(h1:f ψ=Ga a):unL op f ψ=op a:=by show(f ψ).bind _=_;rw[h1];rfl
theorem zb6 {fm:List D->Option D}{g:FL}{ψ:En}{ds:List D}(h:g ψ=Ga ds):callV fm g ψ=fm ds:=by show(g ψ).bind _=_;rw[h];rfl
theorem zvC {fm:List D->Option (List D)}{g:FL}{ψ:En}{ds:List D}(h:g ψ=Ga ds):callO fm g ψ=fm ds:=by show(g ψ).bind _=_;rw[h];rfl
theorem zfP {f:FV}{g:FL}{ψ:En}{d:D}{ds:List D}(h1:f ψ=Ga d)(h2:g ψ=Ga ds):consL f g ψ=Ga (d::ds):=by show(f ψ).bind _=_;rw[h1];show(g ψ).bind _=_;rw[h2];rfl
theorem zr6 {g:FL}{ψ:En}{ds:List D}(h:g ψ=Ga ds):lstV g ψ=Ga (.list ds):=by show(g ψ).bind _=_;rw[h];rfl
theorem zvD {g:FL}{ψ:En}{ds:List D}(h:g ψ=Ga ds):tupV g ψ=Ga (.tuple ds):=by show(g ψ).bind _=_;rw[h];rfl
theorem zx5 {f:FV}{ψ:En}{d:D}{ds:List D}(h:f ψ=Ga d)(h2:toS d=Ga ds):seqI f ψ=Ga ds:=by show(f ψ).bind _=_;rw[h];exact h2
theorem zjR {op:D->Option (List D)}{f:FV}{ψ:En}{a:D}(h1:f ψ=Ga a):un1L op f ψ=op a:=by show(f ψ).bind _=_;rw[h1];rfl
theorem zvE {op:D->D->Option (List D)}{f g:FV}{ψ:En}{a b:D}(h1:f ψ=Ga a)(h2:g ψ=Ga b):binL op f g ψ=op a b:=by show(f ψ).bind _=_;rw[h1];show(g ψ).bind _=_;rw[h2];rfl
theorem zf8 {f:FL}{t:FT}{g:FS}{ψ:En}{ds:List D}(h:f ψ=Ga ds):forS f t g ψ=forD t g ds ψ:=by show(f ψ).bind _=_;rw[h];rfl
theorem ziR {f:FV}{ψ:En}{d:D}{b:Bool}(h:f ψ=Ga d)(h2:tru d=Ga b):tst f ψ=Ga b:=by show(f ψ).bind _=_;rw[h];exact h2
theorem zcD {op:D->D->Option D}{f g:FV}{ψ:En}{x y:D}{b:Bool}(h1:f ψ=Ga x)(h2:g ψ=Ga y)(h3:op x y=Ga (.bool b)):cmpB op f g ψ=Ga b:=by
 show((f ψ).bind _).bind _=_;rw[h1];show((g ψ).bind _).bind _=_;rw[h2];show(op x y).bind _=_;rw[h3];rfl
theorem zvF {f:FB}{ψ:En}{b:Bool}(h:f ψ=Ga b):notB f ψ=Ga (!b):=by show(f ψ).bind _=_;rw[h];rfl
theorem or_t {f g:FB}{ψ:En}(h:f ψ=Ga true):orB f g ψ=Ga true:=by show(f ψ).bind _=_;rw[h];rfl
theorem or_f {f g:FB}{ψ:En}(h:f ψ=Ga false):orB f g ψ=g ψ:=by show(f ψ).bind _=_;rw[h];rfl
theorem zjS {f g:FB}{ψ:En}(h:f ψ=Ga true):andB f g ψ=g ψ:=by show(f ψ).bind _=_;rw[h];rfl
theorem zpH {f g:FB}{ψ:En}(h:f ψ=Ga false):andB f g ψ=Ga false:=by show(f ψ).bind _=_;rw[h];rfl
theorem zpI {i:Nat}{f:FV}{ψ:En}{ds:List D}{d:D}(h1:go i ψ=Ga ds)(h2:f ψ=Ga d)(hz:ds.length<1000000):appS i f ψ=Ga (.nx (ψ.set i (.own (ds++[d])))):=by
 show(go i ψ).bind _=_;rw[h1];show(f ψ).bind _=_;rw[h2];exact Ge hz
theorem zeY {fi:FL}{fc:FB}{fe:FV}{ix:List Nat}{ψ:En}{ds:List D}(h:fi ψ=Ga ds)(hz:ds.length<=1000000):compF fi fc fe ix ψ=compD fc fe (prjE ix ψ) ds:=by
 show(fi ψ).bind _=_;rw[h];exact Ge hz
theorem zeZ {fe:FV}{base:En}{F:D->D}:∀ {ds:List D},(∀ d∈ds,fe (.val d::base)=Ga (F d))->compD (λ_=>Ga true) fe base ds=Ga (ds.map F)
 | [],_=>rfl
 | x::r,h=>by
  unfold compD;rw[jf,Ge rfl,h x jn,jf,zeZ λd hd=>h d (jm _ hd)];rfl
theorem zf9 {fc:FB}{fe:FV}{base:En}{p:D->Bool}{F:D->D}:∀ {ds:List D},(∀ d∈ds,fc (.val d::base)=Ga (p d))->(∀ d∈ds,p d=true->fe (.val d::base)=Ga (F d))->compD fc fe base ds=Ga ((ds.filter p).map F)
 | [],_,_=>rfl
 | x::r,h1,h2=>by
  have ih:=zf9 (fc:=fc) (fe:=fe) (base:=base) (p:=p) (F:=F) (ds:=r) (λd hd=>h1 d (jm _ hd)) (λd hd=>h2 d (jm _ hd));unfold compD;rw[h1 x jn,jf];cases hp:p x with
  | true=>rw[Ge rfl,h2 x jn hp,jf,ih,ua hp];rfl
  | false=>rw[Gf jx,ih,ub (by rw[hp];exact jx)]
theorem zhQ (a b:Int):jV (.int a) (.int b)=(a==b):=by simp only[jV]
theorem zjT (a b:Int):dNe (.int a) (.int b)=Ga (.bool (!(a==b))):=by
 unfold dNe;have:okEq (.int a) (.int b)=true:=rfl;rw[Ge this,zhQ]
theorem zb0 (a b:Int):dEq (.int a) (.int b)=Ga (.bool (a==b)):=by
 unfold dEq;have:okEq (.int a) (.int b)=true:=rfl;rw[Ge this,zhQ]
theorem zkX {d:D}(h:d.canLay0=true)(hd:d.depth<=100):dNe d d=Ga (.bool false):=by
 unfold dNe;have:okEq d d=true:=by unfold okEq;rw[h,Nat.min_self,Gc hd];rfl
 rw[Ge this,SeqAt.eqv_refl d h];rfl
theorem lay_all:∀ {xs:List D},(∀ x∈xs,x.canLay0=true)->jZ xs=true
 | [],_=>rfl
 | y::r,h=>by rw[jZ,h y jn,lay_all λx hx=>h x (jm _ hx)];rfl
theorem zdN {n:Nat}:∀ {xs:List D},(∀ x∈xs,x.depth<=n)->jU xs<=n
 | [],_=>jY _
 | y::r,h=>by rw[jU];exact Nat.max_le.mpr ⟨h y jn,zdN λx hx=>h x (jm _ hx)⟩
theorem zpJ (ns:List Int):jZ (ns.map jb)=true:=lay_all λx hx=>by obtain⟨n,_,rfl⟩:=jr.mp hx;rfl
theorem zlW (ns:List Int):jU (ns.map jb)<=0:=zdN λx hx=>by obtain⟨n,_,rfl⟩:=jr.mp hx;exact jo _
theorem zpK (a:Int)(ns:List Int):dIn (.int a) (.list (ns.map jb))=Ga (.bool (ns.contains a)):=by
 have h0:=zlW ns;have ok:okIn (.int a) (ns.map jb)=true:=by
  unfold okIn;rw[zpJ];have:min (jU (ns.map jb)) (qB (.int a))<=90:=by omega
  rw[Gc this];rfl
 show(if okIn (.int a) (ns.map jb)=true then Ga (uJ ((ns.map jb).any λy=>jV y (.int a))) else Gb)=_;rw[Ge ok,List.any_map]
 congr 2
 rw[List.contains_eq_any_beq]
 congr 1
 funext x
 show jV (.int x) (.int a)=(a==x);rw[zhQ];rw[kS,beq_iff_eq,beq_iff_eq];exact eq_comm
end T3
namespace T3
open PySem PySem.Spec PyProof.Rows L2
def runK {α:Type}(lt:Nat->Nat->Option Bool):qC α->Option α
 | .ret a=>Ga a
 | .ask i j k=>(lt i j).bind λb=>runK lt (k b)
theorem zm3 {α:Type}{lt:Nat->Nat->Option Bool}{cmp:Nat->Nat->(Bool->Gh->Prop)->Gh->Prop}{s:Gh}(hc:∀ i j b C,lt i j=Ga b->C b s->cmp i j C s){G:α->Gh->Prop} :
  ∀ {t:qC α} {a:α},runK lt t=Ga a->G a s->t.kasWp cmp G s
 | .ret x,a,e,g=>by cases e;exact g
 | .ask i j k,a,e,g=>by
  obtain⟨b,e1,e2⟩:=bind_some (show(lt i j).bind (λb=>runK lt (k b))=Ga a from e);exact hc i j b _ e1 (zm3 hc e2 g)
section
variable {prog:Program}{w:World}{A:Around}{E:Gg->Gh->Prop}{s:Gh}{vs:List Gg}
theorem zr7 {a:Gj}{n:Nat}{P:JM->Gh->Prop}{lt:Nat->Nat->Option Bool}{p:Array Nat}(ho:s.heap.get? a=Ga (seqObj "list" vs.toArray n))(h2:2<=vs.length)(h64:vs.length<64)
  (hp:runK lt (qw vs.length)=Ga p)
  (hk:∀ s1:Gh,(∀ b o,b≠a->s.heap.get? b=Ga o->s1.heap.get? b=Ga o)->∃ κ,(∀ Q:SortKind->Gh->Prop,Q κ s1->wpAny (model prog w) A (keyKind' vs.toArray) Q (λ_ _=>False) s1) /\
   ∀ i j b (C:Bool->Gh->Prop),lt i j=Ga b->C b s1->v4 prog w A κ vs i j C s1)
  (h:∀ h' c,(∀ b o,b≠a->s.heap.get? b=Ga o->h'.get? b=Ga o)->h'.get? a=Ga (seqObj "list" (vG (p.toList.map λi=>vs.getD i jT)) c)->P (.done (.ret .none)) { s with heap:=h' }) :
  wpAny (model prog w) A (Builtin.«list.sort» ⟨[.ref a],[]⟩) P E s:=by
 have s1:=jP s.heap a (j3 λ_=>(#[]:Array Gg));obtain⟨e1,ho1⟩:∃ e1,(s.heap.update a (j3 λ_=>(#[]:Array Gg))).get? a=Ga (seqObj "list" #[] e1):=⟨_,get?_update_seq ho λ_=>#[]⟩;generalize hh1:s.heap.update a (j3 λ_=>(#[]:Array Gg))=h1 at s1 ho1;have sl:vs.length<=sizeLine:=by rw[sizeLine_eq];omega
 rw[list_sort_plain];refine wpAny_bind (listItems_at ho rfl (wpAny_bind (listUpdate_at ho rfl ?_ (by rw[jy];exact sl) (jY _))));rw[hh1];refine wpAny_bind (seqEpoch_at ho1 rfl (wpAny_bind (wpAny_newTuple (wpAny_bind (wpAny_newList (wpAny_holding ?_) (jY _))) sl)));generalize hh3:(h1.push { cls:=.type "tuple",data:=.seq vs.toArray }).push { cls:=.type "list",data:=.seq ([]:List Gg).toArray }=h3;have k3:∀ b o,h1.get? b=Ga o->h3.get? b=Ga o:=λb o e=>by rw[<- hh3];exact jg _ (jg _ e)
 have keep:∀ b o,b≠a->s.heap.get? b=Ga o->h3.get? b=Ga o:=λb o nb e=>k3 b o (s1.extBut b o nb e);dsimp only;have n2:¬vs.toArray.size<2:=by rw[jy];omega
 rw[Gf n2,Gf n2];obtain⟨κ,hkind,hask⟩:=hk { s with heap:=h3 } keep;refine wpAny_bind (wpAny_mono (hkind (λκ' s'=>κ'=κ/\s'={ s with heap:=h3 }) ⟨rfl,rfl⟩) (λκ' s' ⟨x1,x2⟩=>?_) λ_ _ z=>z.elim);subst x1 x2;refine wpAny_bind (wpAny_mono (PySem.W.kat_run (Q:=λst' s'=>arrOf st'=p.map (PySem.W.kas_item (vs.toArray.zip vs.toArray))/\failedOf st'=Gb/\p.size=vs.length/\s'={ s with heap:=h3 }) (G:=λp' s'=>p'=p/\s'={ s with heap:=h3 })
  rfl h2 h64 (λp' st' s' a1 a2 a3 a4=>⟨by rw[<- a4.1];exact a2,a3,by rw[<- a4.1];exact a1,a4.2⟩) (zm3 (λi j b C e c=>hask i j b C e c) hp ⟨rfl,rfl⟩)) ?_ λ_ _ e=>e)
 rintro⟨⟨⟩,st'⟩ s' ⟨har,hf,hsz,rfl⟩;dsimp only;rw[PySem.W.kat_snds rfl har];have ho3:h3.get? a=Ga (seqObj "list" #[] e1):=k3 _ _ ho1;have hz:(vG (p.toList.map λi=>vs.getD i jT)).size<=sizeLine:=by rw[jy,jd,jt,hsz];exact sl
 refine wpAny_bind (seqEpoch_at (s:={ s with heap:=h3 }) ho3 rfl (wpAny_bind (listUpdate_at (s:={ s with heap:=h3 }) ho3 rfl ?_ (jY _) (Jd hz))));rw[hf];simp only[bne_self_eq_false,kQ,if_false];have s4:=jP h3 a (j3 λ_=>vG (p.toList.map λi=>vs.getD i jT));obtain⟨c,hc⟩:∃ c,(h3.update a (j3 λ_=>vG (p.toList.map λi=>vs.getD i jT))).get? a=Ga (seqObj "list" (vG (p.toList.map λi=>vs.getD i jT)) c):=⟨_,get?_update_seq ho3 λ_=>_⟩;exact wpAny_pure (h _ c (λb o nb e=>s4.extBut b o nb (keep b o nb e)) hc)
theorem zlX {a:Gj}{n:Nat}{P:JM->Gh->Prop}(ho:s.heap.get? a=Ga (seqObj "list" vs.toArray n))(h2:vs.length<2)
  (h:∀ h' c,(∀ b o,b≠a->s.heap.get? b=Ga o->h'.get? b=Ga o)->h'.get? a=Ga (seqObj "list" vs.toArray c)->P (.done (.ret .none)) { s with heap:=h' }) :
  wpAny (model prog w) A (Builtin.«list.sort» ⟨[.ref a],[]⟩) P E s:=by
 have s1:=jP s.heap a (j3 λ_=>(#[]:Array Gg));obtain⟨e1,ho1⟩:∃ e1,(s.heap.update a (j3 λ_=>(#[]:Array Gg))).get? a=Ga (seqObj "list" #[] e1):=⟨_,get?_update_seq ho λ_=>#[]⟩;generalize hh1:s.heap.update a (j3 λ_=>(#[]:Array Gg))=h1 at s1 ho1;have sl:vs.length<=sizeLine:=by rw[sizeLine_eq];omega
 rw[list_sort_plain];refine wpAny_bind (listItems_at ho rfl (wpAny_bind (listUpdate_at ho rfl ?_ (by rw[jy];exact sl) (jY _))));rw[hh1];refine wpAny_bind (seqEpoch_at ho1 rfl (wpAny_bind (wpAny_newTuple (wpAny_bind (wpAny_newList (wpAny_holding ?_) (jY _))) sl)));generalize hh3:(h1.push { cls:=.type "tuple",data:=.seq vs.toArray }).push { cls:=.type "list",data:=.seq ([]:List Gg).toArray }=h3;have k3:∀ b o,h1.get? b=Ga o->h3.get? b=Ga o:=λb o e=>by rw[<- hh3];exact jg _ (jg _ e)
 have keep:∀ b o,b≠a->s.heap.get? b=Ga o->h3.get? b=Ga o:=λb o nb e=>k3 b o (s1.extBut b o nb e);dsimp only;have n2:vs.toArray.size<2:=by rw[jy];omega
 rw[Ge n2,Ge n2];refine wpAny_bind (wpAny_pure ?_);rw[StateT.run_pure];refine wpAny_bind (wpAny_pure ?_);dsimp only;have hout:(arrOf (SortSt.mk' general' (vs.toArray.zip vs.toArray) #[] 7 Gb)).map (·.2)=vs.toArray:=by
  show(vs.toArray.zip vs.toArray).map (·.2)=vs.toArray;apply Array.toList_inj.mp;rw[Jn,Array.toList_zip];exact List.map_snd_zip (jo _)
 rw[hout];have ho3:h3.get? a=Ga (seqObj "list" #[] e1):=k3 _ _ ho1;refine wpAny_bind (seqEpoch_at (s:={ s with heap:=h3 }) ho3 rfl (wpAny_bind (listUpdate_at (s:={ s with heap:=h3 }) ho3 rfl ?_ (jY _) (Jd (by rw[jy];exact sl)))));simp only[bne_self_eq_false,kQ,if_false];have s4:=jP h3 a (j3 λ_=>vs.toArray);obtain⟨c,hc⟩:∃ c,(h3.update a (j3 λ_=>vs.toArray)).get? a=Ga (seqObj "list" vs.toArray c):=⟨_,get?_update_seq ho3 λ_=>_⟩;exact wpAny_pure (h _ c (λb o nb e=>s4.extBut b o nb (keep b o nb e)) hc)
theorem ziS {l:Gj}{out:List Gg}{Q:Gg->Gh->Prop}(hl:s.heap.IsList l vs.toArray)(hz:vs.length<64)
  (hs:∀ (s1:Gh) (n:Nat) (P:JM->Gh->Prop) (E':Gg->Gh->Prop),(∀ b o,s.heap.get? b=Ga o->s1.heap.get? b=Ga o)->s1.heap.get? (s.heap.objs.size+1)=Ga (seqObj "list" vs.toArray n) ->
   (∀ h' c,(∀ b o,b≠s.heap.objs.size+1->s1.heap.get? b=Ga o->h'.get? b=Ga o)->h'.get? (s.heap.objs.size+1)=Ga (seqObj "list" out.toArray c)->P (.done (.ret .none)) { s1 with heap:=h' }) ->
   wpAny (model prog w) A.in1.in1 (Builtin.«list.sort» ⟨[.ref (s.heap.objs.size+1)],[]⟩) P E' s1)
  (h:∀ h' c,(∀ b o,s.heap.get? b=Ga o->h'.get? b=Ga o)->h'.get? (s.heap.objs.size+1)=Ga (seqObj "list" out.toArray c)->Q (.ref (s.heap.objs.size+1)) { s with heap:=h' }) :
  wpAny (model prog w) A (call (.builtin "sorted") [.ref l]) Q E s:=by
 have sl:vs.length<=sizeLine:=by rw[sizeLine_eq];omega
 refine qg kind_sorted plain_sorted entry_sorted (args_sorted1 _) ?_;unfold Builtin.«sorted»;refine wpAny_bind (m:=checkCount "sorted" 1 1 _) (wpAny_pure (wpAny_bind (collect_list hl (wpAny_bind (wpAny_newList ?_ sl)) sl)));generalize hh1:(s.heap.push (seqObj "list" #[] 0)).update s.heap.objs.size (j3 (·++vs.toArray))=h1;have n1:h1.objs.size=s.heap.objs.size+1:=by rw[<- hh1,Heap.size_update,size_push']
 have k1:∀ b o,s.heap.get? b=Ga o->h1.get? b=Ga o:=λb o q=>by
  have hlt:b<s.heap.objs.size:=jp q;rw[<- hh1,qR _ _ _ _ (jC hlt),Je _ _ _ (jC hlt)];exact q
 show wpAny _ _ _ _ _ { s with heap:=h1.push (seqObj "list" vs.toArray 0) };dsimp only;rw[n1];have hoL:(h1.push (seqObj "list" vs.toArray 0)).get? (s.heap.objs.size+1)=Ga (seqObj "list" vs.toArray 0):=by rw[<- n1];exact jv _ rfl
 have keep:∀ b o,s.heap.get? b=Ga o->(h1.push (seqObj "list" vs.toArray 0)).get? b=Ga o:=λb o q=>jg _ (k1 b o q);refine wpAny_bind (wpAny_holding (wpAny_call_entry slot_list_sort ⟨_,hoL,rfl⟩ entry_list_sort ?_ (args_list_sort _)));refine hs { s with heap:=h1.push (seqObj "list" vs.toArray 0) } 0 _ _ keep hoL λh' c kk hc=>⟨_,rfl,wpAny_pure ⟨_,rfl,h h' c (λb o e=>kk b o (jC (vH (jp e))) (keep b o e)) hc⟩⟩
end
end T3
namespace T3
open PySem PySem.Spec PyProof.Rows L2
def lexI:List Int->List Int->Bool
 | [],[]=>false
 | [],_::_=>true
 | _::_,[]=>false
 | x::xs,y::ys=>if x==y then lexI xs ys else decide (x<y)
def ltD:D->D->Option Bool
 | .int i,.int j=>Ga (decide (i<j))
 | .tuple xs,.tuple ys=>(intsD xs).bind λis=>(intsD ys).bind λjs=>Ga (lexI is js)
 | _,_=>Gb
def isI:D->Bool
 | .int _=>true
 | _=>false
def isTI:D->Bool
 | .tuple (x::xs)=>(intsD (x::xs)).isSome
 | _=>false
def okSort (ds:List D):Bool:=ds.all isI||ds.all isTI
def ltAt (ds:List D)(i j:Nat):Option Bool:=(ds[i]?).bind λa=>(ds[j]?).bind λb=>ltD a b
def sortD (ds:List D):Option (List D):=if ds.length<2 then Ga ds else if (decide (ds.length<64)&&okSort ds)=true then(runK (ltAt ds) (qw ds.length)).bind λp=>(if p.size<=64 then Ga (p.toList.map λi=>ds.getD i .none) else Gb) else Gb
section
variable {prog:Program}{w:World}{A:Around}{E:Gg->Gh->Prop}{s:Gh}
theorem zrC {b fin:Bool}{Q:Bool->Gh->Prop}:∀ {is js:List Int} {us ws:List Gg} {i:Nat},IntsAre us is->IntsAre ws js->(i=0->b=true)->fin=decide (is.length<js.length)->Q (lexI is js) s->PySem.W.KatLex prog w A b fin Q (us.zip ws) i s
 | [],[],_,_,i,.nil,.nil,_,hf,q=>by
  rw[hf];exact q
 | [],y::ys,_,_,i,.nil,.cons _ _ _,_,hf,q=>by
  have e:decide (([]:List Int).length<(y::ys).length)=true:=Gc (Nat.succ_pos _);rw[hf,e];exact q
 | _::_,[],_,_,i,.cons _ _ _,.nil,_,hf,q=>by
  rw[hf];exact q
 | x::is,y::js,_,_,i,.cons _ t h1,.cons _ u h2,hb,hf,q=>by
  show wpAny _ _ (eqBool (.int x t) (.int y u)) _ _ s;refine wpAny_eqBool_int ?_;have q':Q (if (x==y)=true then lexI is js else decide (x<y)) s:=q;cases hxy:(x==y) with
  | true =>
   rw[hxy,Ge rfl] at q';rw[Ge rfl];exact zrC (i:=i+1) h1 h2 (λz=>absurd z (Nat.succ_ne_zero _)) (by rw[hf];simp only[ul,Nat.add_lt_add_iff_right]) q'
  | false =>
   rw[hxy,Gf jx] at q';rw[Gf jx];by_cases hi:i=0
   .subst hi;rw[hb rfl];exact oneLt_int q'
   .have e:(b&&i==0)=false:=by rw[beq_eq_false_iff_ne.mpr hi,Bool.and_false]
    rw[e];exact PySem.W.kat_one _ _ (lt_int q')
end
section
variable {X:Cx}{ω:List (Gj×Obj)}{σ:St}{F H:Hp}{s:Gh}
theorem zfQ:∀ {is:List Int} {xs:List V} {us:List Gg},Reps X.K F (is.map jb) xs->Vals xs us->IntsAre us is
 | [],_,_,.nil,r=>by cases r;exact .nil
 | i::is,_,_,.cons h t,r=>by
  cases r with
  | cons r1 r2 =>
   cases h;obtain⟨tk,rfl⟩:=r1;exact .cons _ _ (zfQ t r2)
theorem tupI {is:List Int}{v:V}{u:Gg}(I:Inv X ω σ H s)(g:Same F H)(r:Rep X.K F (.tuple (is.map jb)) v)(ru:RelV v u):∃ a o its n,u=.ref a/\s.heap.get? a=Ga o/\o.cls=.type "tuple"/\o.data=.seq its.toArray n/\IntsAre its is:=by
 cases r with
 | tup h q =>
  cases ru;obtain⟨its,rv,⟨o,e,c,n,d⟩,_⟩:=I.tuple (seqT g h);exact⟨_,o,its,n,rfl,e,c,d,zfQ q rv⟩
theorem zgA {d:D}(h:isTI d=true):∃ i is,d=.tuple ((i::is).map jb):=by
 cases d with
 | tuple xs =>
  cases xs with
  | nil=>cases h
  | cons x xs =>
   have h':(intsD (x::xs)).isSome=true:=h;obtain⟨is,e⟩:=qm.mp h';have e2:=zd4 e;cases is with
   | nil=>cases e2
   | cons i is=>exact⟨i,is,by rw[e2]⟩
 | _=>cases h
theorem zhR {d:D}(h:isI d=true):∃ i,d=.int i:=by cases d<;>first|exact⟨_,rfl⟩|cases h
theorem zc2:∀ is:List Int,intsD (is.map jb)=Ga is
 | []=>rfl
 | i::is=>by
  show(intsD (is.map jb)).bind (λr=>Ga (i::r))=_;rw[zc2 is];rfl
theorem zm4 (is js:List Int):ltD (.tuple (is.map jb)) (.tuple (js.map jb))=Ga (lexI is js):=by
 show(intsD _).bind _=_;rw[zc2];show(intsD _).bind _=_;rw[zc2];rfl
theorem vget {xs:List V}{its:List Gg}{ds:List D}(rv:Vals xs its)(rr:Reps X.K F ds xs){i:Nat}{d:D}(e:ds[i]?=Ga d):∃ v u,Rep X.K F d v/\RelV v u/\its.getD i jT=u:=by
 obtain⟨v,e1,r1⟩:=rr.get e;obtain⟨u,e2,r2⟩:=rv.get e1;exact⟨v,u,r1,r2,by rw[ji,e2];rfl⟩
theorem zm5 {A:Around}{xs:List V}{its:List Gg}{ds:List D}(I:Inv X ω σ H s)(g:Same F H)(rv:Vals xs its)(rr:Reps X.K F ds xs)(h2:2<=its.length)(ok:okSort ds=true){s1:Gh}(k:∀ b o,s.heap.get? b=Ga o->s1.heap.get? b=Ga o) :
  ∃ κ,(∀ Q:SortKind->Gh->Prop,Q κ s1->wpAny (model X.prog X.w) A (keyKind' its.toArray) Q (λ_ _=>False) s1)/\∀ i j b (C:Bool->Gh->Prop),ltAt ds i j=Ga b->C b s1->v4 X.prog X.w A κ its i j C s1:=by
 have hlen:ds.length=its.length:=rr.length.trans rv.length;have look:∀ (i j:Nat) (b:Bool),ltAt ds i j=Ga b->∃ d e,ds[i]?=Ga d/\ds[j]?=Ga e/\ltD d e=Ga b:=λi j b h=>by
  obtain⟨d,e1,h⟩:=bind_some h;obtain⟨e,e2,h⟩:=bind_some h;exact⟨d,e,e1,e2,h⟩
 unfold okSort at ok;rw[u4] at ok;rcases ok with ok|ok
 .have ai:∀ (i:Nat) (d:D),ds[i]?=Ga d->∃ n,d=jb n:=λi d e=>zhR (kB.mp ok d (jL e));have av:∀ v∈its,∃ n t,v=uO n t:=λv hv=>by
   obtain⟨i,hi⟩:=List.mem_iff_getElem?.mp hv;have hl:i<ds.length:=by rw[hlen];exact(je.mp hi).1
   obtain⟨n,hn⟩:=ai i _ (jc hl);obtain⟨v',u,r1,r2,e⟩:=vget rv rr (jc hl);rw[hn] at r1;cases r1;obtain⟨t,rfl⟩:=r2;rw[ji,hi] at e;exact⟨n,t,e⟩
  refine⟨oneType',λQ q=>PySem.W.kas_kind (T:=.type "int") h2 (λv hv=>?_) (by decide) (by decide) q,λi j b C e c=>?_⟩
  .obtain⟨n,t,rfl⟩:=av v hv;exact qG rfl
  .obtain⟨d,d2,e1,e2,e3⟩:=look i j b e;obtain⟨n,rfl⟩:=ai i d e1;obtain⟨m,rfl⟩:=ai j d2 e2;obtain⟨v1,u1,r1,r2,x1⟩:=vget rv rr e1;obtain⟨v2,u2,r3,r4,x2⟩:=vget rv rr e2;cases r1;cases r3;obtain⟨t,rfl⟩:=r2;obtain⟨t2,rfl⟩:=r4;unfold v4;rw[x1,x2];cases e3;exact PySem.W.kat_lt_int c
 .have ai:∀ (i:Nat) (d:D),ds[i]?=Ga d->∃ n is,d=kH ((n::is).map jb):=λi d e=>zgA (kB.mp ok d (jL e));have tup:∀ (i:Nat) (d:D),ds[i]?=Ga d->∃ n is a o us k,d=kH ((n::is).map jb)/\its.getD i jT=uk a/\s1.heap.get? a=Ga o/\o.cls=.type "tuple"/\o.data=.seq us k/\IntsAre us.toList (n::is):=λi d e=>by
   obtain⟨n,is,rfl⟩:=ai i d e;obtain⟨v,u,r1,r2,x1⟩:=vget rv rr e;obtain⟨a,o,us,kk,rfl,e1,c,dd,hi⟩:=tupI I g r1 r2;exact⟨n,is,a,o,us.toArray,kk,rfl,x1,k a o e1,c,dd,by simpa using hi⟩
  have kt:∀ (ws:List Gg) (es:List D),(∀ (i:Nat) v,ws[i]?=Ga v->∃ n is a o us kk,v=uk a/\s1.heap.get? a=Ga o/\o.cls=.type "tuple"/\o.data=.seq us kk/\IntsAre us.toList (n::is))->∃ fs,PySem.W.KatTups s1.heap ws fs/\fs.length=ws.length/\∀ v∈fs,∃ n t,v=uO n t:=by
   intro ws es;induction ws with
   | nil=>intro _;exact⟨[],.nil,rfl,λv hv=>by simp at hv⟩
   | cons v r ih =>
    intro hall;obtain⟨n,is,a,o,us,kk,rfl,e1,c,dd,hi⟩:=hall 0 v rfl;obtain⟨fs,h1,h2,h3⟩:=ih λi v e=>hall (i+1) v (by simpa using e);cases hu:us.toList with
    | nil=>rw[hu] at hi;cases hi
    | cons f fr =>
     rw[hu] at hi;cases hi with
     | cons _ t hi' =>
      have hf:us[0]?=Ga (uO n t):=by rw[<- j5,hu];rfl
      refine⟨uO n t::fs,.cons e1 c dd hf h1,by rw[ul,ul,h2],λv hv=>?_⟩;rcases ju.mp hv with rfl|hv
      .exact⟨n,t,rfl⟩
      .exact h3 v hv
  obtain⟨fs,t1,t2,t3⟩:=kt its ds λi v e=>by
   have hl:i<ds.length:=by rw[hlen];exact(je.mp e).1
   obtain⟨n,is,a,o,us,kk,_,x1,x2⟩:=tup i _ (jc hl);rw[ji,e] at x1;exact⟨n,is,a,o,us,kk,x1,x2⟩
  refine⟨tuples' true,λQ q=>PySem.W.kat_kind (T:=.type "int") t1 (by omega) (λv hv=>?_) (by decide) q,λi j b C e c=>?_⟩
  .obtain⟨n,t,rfl⟩:=t3 v hv;exact qG rfl
  .obtain⟨d,d2,e1,e2,e3⟩:=look i j b e;obtain⟨n,is,a,o,us,kk,rfl,x1,y1,_,z1,w1⟩:=tup i d e1;obtain⟨n',is',a',o',us',kk',rfl,x2,y2,_,z2,w2⟩:=tup j d2 e2;unfold v4;rw[x1,x2];rw[zm4] at e3;cases e3;refine PySem.W.kat_lt y1 z1 y2 z2 (zrC w1 w2 (λ_=>rfl) ?_ c);have l1:=w1.length;have l2:=w2.length;rw[jt] at l1 l2;rw[l1,l2]
theorem zlY:CallR X (.builtin "sorted") (λvs H Q=>∃ F ds rs p xs,vs=[.ref p]/\Same F H/\SqL X.K H p xs/\Reps X.K F ds xs/\sortD ds=Ga rs/\∀ a ys,H a=Gb->Reps X.K F rs ys->Q (.ref a) (upd H a (.lst ys))):=by
 intro ω s σ H vs us Q I r h;obtain⟨F,ds,rs,p,xs,rfl,g,hl,rr,e,q⟩:=h;obtain⟨u,rfl,ru⟩:=vals1 r;cases ru;obtain⟨its,rv,pl,hz⟩:=I.list hl;have hlen:ds.length=its.length:=rr.length.trans rv.length;have hn:H (s.heap.objs.size+1)=Gb:=I.hok.fresh (vV _);have fin:∀ (out:List Gg) (ys:List V) (h':Heap) (c:Nat),Vals ys out->out.length<=sizeLine->Reps X.K F rs ys->(∀ b o,s.heap.get? b=Ga o->h'.get? b=Ga o)->h'.get? (s.heap.objs.size+1)=Ga (seqObj "list" out.toArray c) ->
   EP X ω σ Q (.ref (s.heap.objs.size+1)) { s with heap:=h' }:=λout ys h' c rvo hz2 rro k hc =>
  ⟨.ref _,_,I.laid (t':=s.toks) (o:=.lst ys) k (vV _) ⟨by rw[rvo.length];exact hz2,out,c,rvo,hc⟩,rfl,q _ ys hn rro⟩
 unfold sortD at e;split at e
 .rename_i hs;cases e;refine ziS (out:=its) pl.isList (by omega) (λs1 n P E' k ho hP=>zlX ho (by omega) λh' c kk hc=>hP h' c kk hc) λh' c k hc=>fin its xs h' c rv (by rw[sizeLine_eq];omega) rr k hc
 .rename_i hs;split at e
  .rename_i ok;rw[jE,decide_eq_true_eq] at ok;obtain⟨pm,e1,e2⟩:=bind_some e;split at e2;rotate_left
   .cases e2
   rename_i hpm;cases e2;have h2:2<=its.length:=by omega
   rw[hlen] at e1;refine ziS (out:=pm.toList.map λi=>its.getD i jT) pl.isList (by omega) (λs1 n P E' k ho hP=>zr7 ho h2 (by omega) e1 (λs2 k2=>zm5 I g rv rr h2 ok.2 λb o eb=>k2 b o (jC (vH (jp eb))) (k b o eb)) λh' c kk hc=>hP h' c kk hc) λh' c k hc=>?_;refine fin _ (pm.toList.map λi=>xs.getD i .non) h' c ?_ ?_ ?_ k hc
   .have:∀ l:List Nat,Vals (l.map λi=>xs.getD i V.non) (l.map λi=>its.getD i jT):=λl=>by
     induction l with
     | nil=>exact .nil
     | cons i l ih =>
      refine .cons ?_ ih;dsimp only;rw[ji,ji];cases hx:xs[i]? with
      | none=>rw[rv.none_of hx];rfl
      | some v=>obtain⟨u,e,r⟩:=rv.get hx;rw[e];exact r
    exact this _
   .rw[jd,jt,sizeLine_eq];omega
   .have:∀ l:List Nat,Reps X.K F (l.map λi=>ds.getD i .none) (l.map λi=>xs.getD i V.non):=λl=>by
     induction l with
     | nil=>exact .nil
     | cons i l ih =>
      refine .cons ?_ ih;dsimp only;rw[ji,ji];cases hx:ds[i]? with
      | none =>
       have:xs[i]?=Gb:=kr (by rw[<- rr.length];exact va.mp hx);rw[this];exact .non
      | some d=>obtain⟨v,e,r⟩:=rr.get hx;rw[e];exact r
    exact this _
  .cases e
theorem zkY {e:Expr}{f:FL}{p pos:Pos}(hg:Gl X "sorted")(hm:X.mg "sorted"=Gb)(ha:PSh X e f)(hs:starEach [e] X.env=[(false,eval e X.env)]:=by rfl):PO X (.Call (.Name "sorted" p) [e] [] pos) (λψ=>(f ψ).bind sortD):=by
 refine zaN (cB1 zlY hg hm boot_sorted ha (hs:=hs)) λσ H Q=>?_;rintro⟨H0,F,ψ,rs,r,e,q⟩;obtain⟨ds,e1,e⟩:=bind_some e;refine⟨H0,F,ψ,ds,r,e1,λp xs H1 F1 g1 f1 fh1 n1 hl rr=>⟨F1,ds,rs,p,xs,rfl,fh1,hl,rr,e,λa ys ha ry=>?_⟩⟩;have s2:Same H1 (upd H1 a (.lst ys)):=Same.new ha;exact q a ys _ F1 (g1.trans s2) f1 (fh1.trans s2) n1 (g1.free ha) (fh1.free ha) upd_same ry
end
end T3
namespace T3
open PySem PySem.Spec PyProof.Rows L2
section
variable {X:Cx}{pos:Pos}
def dMin2:D->D->Option D:=dI0 λi j=>.int (if j<i then j else i)
def dMax2:D->D->Option D:=dI0 λi j=>.int (if j>i then j else i)
theorem cB2 {a b:Expr}{f g:FV}{p:Pos}{x:Str}{id:String}{op:Int->Int->Int}(hc:CallR X (.builtin id) (λxs H Q=>∃ i j,xs=[.int i,.int j]/\Q (.int (op i j)) H))(hg:Gl X x)(hm:X.mg x=Gb)(hv:bootBuiltins x=Ga (.builtin id))(ha:PV X a f)(hb:PV X b g)
  (hn:x≠"__name__":=by decide) (hdb:(x==("__debug__":Str))=false:=by decide) (hs:starEach [a,b] X.env=(false,eval a X.env)::starEach [b] X.env:=by rfl) (hs2:starEach [b] X.env=[(false,eval b X.env)]:=by rfl) :
  PV X (.Call (.Name x p) [a,b] [] pos) (λψ=>(f ψ).bind λx=>(g ψ).bind λy=>dI0 (λi j=>.int (op i j)) x y):=by
 refine zaN (pe_callB hc hg hm hv (pa_cons ha (pa_cons hb pa_nil hs2) hs) hn hdb hs (by rw[hs2];rfl)) λσ H Q=>?_;rintro⟨H0,F,ψ,d,r,e,q⟩;obtain⟨d1,e1,e3⟩:=bind_some e;obtain⟨d2,e2,e4⟩:=bind_some e3;clear e e3;refine⟨H0,F,ψ,d1,r,e1,λv H1 F1 g1 f1 fh1 n1 rv=>⟨H0,F1,ψ,d2,r.grow g1 f1 fh1 n1,e2,λv2 H2 F2 g2 f2 fh2 n2 rv2=>?_⟩⟩;cases rv<;>first|(cases e4;done)|skip
 cases rv2<;>first|(cases e4;done)|skip
 cases e4;exact⟨_,_,rfl,q _ H2 F2 (g1.trans g2) (f1.trans f2) fh2 (n1.trans n2 g1) (.int _)⟩
theorem zrD {a b:Expr}{f g:FV}{p:Pos}(hc:X.calm=true)(hg:Gl X "min")(hm:X.mg "min"=Gb)(ha:PV X a f)(hb:PV X b g)(hs:starEach [a,b] X.env=(false,eval a X.env)::starEach [b] X.env:=by rfl)(hs2:starEach [b] X.env=[(false,eval b X.env)]:=by rfl) :
  PV X (.Call (.Name "min" p) [a,b] [] pos) (λψ=>(f ψ).bind λx=>(g ψ).bind λy=>dMin2 x y):=cB2 (call_min2 hc) hg hm boot_min ha hb (hs:=hs) (hs2:=hs2)
theorem zvG {a b:Expr}{f g:FV}{p:Pos}(hc:X.calm=true)(hg:Gl X "max")(hm:X.mg "max"=Gb)(ha:PV X a f)(hb:PV X b g)(hs:starEach [a,b] X.env=(false,eval a X.env)::starEach [b] X.env:=by rfl)(hs2:starEach [b] X.env=[(false,eval b X.env)]:=by rfl) :
  PV X (.Call (.Name "max" p) [a,b] [] pos) (λψ=>(f ψ).bind λx=>(g ψ).bind λy=>dMax2 x y):=cB2 (call_max2 hc) hg hm boot_max ha hb (hs:=hs) (hs2:=hs2)
def repD (xs:List D):D->Option (List D)
 | .int k=>if 0<=k/\k<1000000/\xs.length*k.toNat<=1000000 then Ga (jF k.toNat xs).flatten else Gb
 | _=>Gb
theorem Reps.rep {K:ja}{F:Hp}{ds:List D}{xs:List V}(r:Reps K F ds xs):∀ n,Reps K F (jF n ds).flatten (jF n xs).flatten
 | 0=>.nil
 | n+1=>by rw[kX,kX,uv,uv];exact r.append (r.rep n)
theorem zx6 {a b:Expr}{f:FL}{g:FV}(ha:PO X a f)(hb:PV X b g):PO X (.BinOp a .Mult b pos) (λψ=>(f ψ).bind λxs=>(g ψ).bind λy=>repD xs y):=by
 refine zaN (pe_op op_rep ha hb) λσ H Q=>?_;rintro⟨H0,F,ψ,rs,r,e,q⟩;obtain⟨ds,e1,e3⟩:=bind_some e;obtain⟨d2,e2,e4⟩:=bind_some e3;clear e e3;refine⟨H0,F,ψ,ds,r,e1,λl xs H1 F1 g1 f1 fh1 n1 ha fa ha' rr=>⟨H0,F1,ψ,d2,r.grow g1 f1 fh1 n1,e2,λv2 H2 F2 g2 f2 fh2 n2 rv2=>?_⟩⟩;cases rv2<;>first|(cases e4;done)|skip
 rename_i k;unfold repD at e4;dsimp only at e4;split at e4
 .rename_i c;cases e4;refine⟨l,k,xs,rfl,rfl,g2 _ _ ha',by omega,by omega,?_,λp hp=>?_⟩
  .rw[<- rr.length,sizeLine_eq];omega
  .have s2:Same H2 (upd H2 p (.lst (jF k.toNat xs).flatten)):=Same.new hp;exact q p _ _ F2 ((g1.trans g2).trans s2) (f1.trans f2) (fh2.trans s2) (n1.trans n2 g1) ((g1.trans g2).free hp) (fh2.free hp) upd_same ((rr.mono f2).rep _)
 .cases e4
def stoL (ds:List D):D->D->Option (List D)
 | .int k,v=>(ixN ds.length k).bind λj=>Ga (ds.set j v)
 | _,_=>Gb
theorem zm6 (i:Nat){x:Str}{ie e:Expr}{fi f:FV}{p p2:Pos}(hi:PV X ie fi)(h:PV X e f)(hN:X.N[i]?=Ga x:=by rfl)(hv:Vis X.env.scope x:=by first|exact kR rfl|exact kc (kR rfl)|exact kc (kc rfl))
  (hd:(x==("__debug__":Str))=false:=by decide) (hcd:(x==("__classdict__":Str))=false:=by decide)
  (hs:swapsWithSole [.Subscript (.Name x p) ie p2] e pos.line X.env=pure false:=by rfl) (hw:swappedStores [.Subscript (.Name x p) ie p2] e X.env=pure Gb:=by rfl)
  (h1:(assignEach [.Subscript (.Name x p) ie p2] X.env).map (·.2)=[assign (.Subscript (.Name x p) ie p2) X.env]:=by rfl)
  (ha:∀ v,assign (.Subscript (.Name x p) ie p2) X.env v=(do
   let ov <- holding [v] (eval (.Name x p) X.env)
   let iv <- holding [v,ov] (eval ie X.env)
   standAt p2
   holding [v,ov,iv] (setItem ov iv v)
   release [v,ov,iv] []):=by intro _;rfl) :
  PSt X (.Assign [.Subscript (.Name x p) ie p2] e pos) (λψ=>(f ψ).bind λv=>(go i ψ).bind λds=>(fi ψ).bind λk=>(stoL ds k v).bind λes=>Ga (.nx (ψ.set i (.own es)))):=by
 refine zbL (ps_asg h (pg_sub (pe_var (pos:=p) hN hv hd hcd) hi set_list ha) hs hw h1) λE σ H=>?_;rintro⟨H0,F,ψ,o,r,e,p⟩;obtain⟨dv,e1,e5⟩:=bind_some e;obtain⟨ds,e2,e6⟩:=bind_some e5;obtain⟨dk,e3,e7⟩:=bind_some e6;obtain⟨es,e4,e8⟩:=bind_some e7;cases e8;clear e e5 e6 e7;unfold go at e2;split at e2;rotate_left
 .cases e2
 rename_i ds' z;cases e2;refine⟨H0,F,ψ,dv,r,e1,λv H1 F1 g1 f1 fh1 n1 rv=>?_⟩;have r1:=r.grow g1 f1 fh1 n1;obtain⟨u,x3,a,xs,x4,ha1,fa,h0a,rr⟩:=r1.sl i _ z;subst x4;refine⟨.ref a,x3,H0,F1,ψ,dk,r1,e3,λvk H2 F2 g2 f2 fh2 n2 rk=>?_⟩;have r2:=r1.grow g2 f2 fh2 n2;cases rk<;>first|(cases e4;done)|skip
 rename_i k;obtain⟨j,y1,y2⟩:=bind_some (show(ixN ds.length k).bind (λj=>Ga (ds.set j dv))=Ga es from e4);cases y2;refine⟨a,xs,k,j,rfl,rfl,g2 _ _ ha1,by rw[<- rr.length];exact y1,?_⟩;exact p σ _ F2 (f1.trans f2) ((n1.trans n2 g1).dn r.h0) (r2.chg z x3 ((rr.mono f2).set (rv.mono f2) j))
def whileD (c:FB)(g:FS):Nat->FS
 | 0,_=>Gb
 | n+1,ψ=>(c (frz ψ)).bind λb=>if b then(g ψ).bind λo=>match o with
   | .nx e=>whileD c g n e
   | .ct e=>whileD c g n e
   | .bk e=>Ga (.nx e)
   | .rt d=>Ga (.rt d)
   | .ro ds=>Ga (.ro ds)
   | .rm a kvs=>Ga (.rm a kvs)
   | .rc d e=>Ga (.rc d e)
  else Ga (.nx ψ)
theorem zm7 (n:Nat){c:Expr}{body:List Stmt}{fc:FB}{g:FS}(hp:PassesOwn (model X.prog X.w) X.A X.env X.xe)(hc:PB X c fc)(hb:PSts X body g):PSt X (.While c body [] pos) (whileD fc g n):=by
 refine zbL (ps_while hp hc hb) λE σ H=>?_;rintro⟨H0,F,ψ,o,r,e,p⟩;refine⟨λm σ H=>∃ F2 ψ,RS X.K H0 F2 H ψ σ/\Same F F2/\New F F2 H0/\whileD fc g m ψ=Ga o,⟨n,F,ψ,r,.refl _,.refl _ _,e⟩,?_⟩;rintro m σ' H' ⟨F2,env2,r2,f2,n2,e2⟩;cases m with
 | zero=>cases e2
 | succ m =>
  obtain⟨b,x1,x2⟩:=bind_some (show(fc (frz env2)).bind _=Ga o from e2);refine⟨H0,H',frz env2,b,r2.frz,x1,λH3 g3=>?_⟩;have r3:=r2.later g3;have p2:=p.mono f2 n2;cases b with
  | false =>
   cases x2;exact iteF (p2 σ' H3 F2 (.refl _) (.refl _ _) r3)
  | true =>
   obtain⟨o1,x3,x4⟩:=bind_some (show(g env2).bind _=Ga o from x2);refine iteT ⟨λσ4 H4=>∃ F4 ψ,RS X.K H0 F4 H4 ψ σ4/\Same F F4/\New F F4 H0/\whileD fc g m ψ=Ga o,λσ4 H4 h4=>⟨m,vN _,h4⟩,H0,F2,env2,o1,r3,x3,?_⟩;cases o1 with
   | nx e5=>exact λσ6 H6 F6 f6 n6 r6=>⟨F6,e5,r6,f2.trans f6,n2.up n6,x4⟩
   | ct e5=>exact λσ6 H6 F6 f6 n6 r6=>⟨F6,e5,r6,f2.trans f6,n2.up n6,x4⟩
   | bk e5=>cases x4;exact p2
   | rt d=>cases x4;exact p2
   | ro d=>cases x4;exact p2
   | rm a d=>cases x4;exact p2
   | rc a d=>cases x4;exact p2
end
abbrev repL (f:FL)(g:FV):FL:=λψ=>(f ψ).bind λxs=>(g ψ).bind λy=>repD xs y
abbrev stoS (i:Nat)(fi f:FV):FS:=λψ=>(f ψ).bind λv=>(go i ψ).bind λds=>(fi ψ).bind λk=>(stoL ds k v).bind λes=>Ga (.nx (ψ.set i (.own es)))
abbrev sortL (f:FL):FL:=λψ=>(f ψ).bind sortD
abbrev ixS (f:FL)(g:FV):FV:=λψ=>(f ψ).bind λx=>(g ψ).bind λy=>dIxL x y
end T3
namespace T3
open PySem PySem.Spec PyProof.Rows L2
section
variable {X:Cx}{tg:Expr}{pos:Pos}
end
end T3
namespace T3
open PySem L2
def chkK (n:Nat):qC (Array Nat)->Bool
 | .ret p=>p.toList.isPerm (jk n)
 | .ask i j k=>decide (i<n)&&decide (j<n)&&chkK n (k true)&&chkK n (k false)
theorem zpL:∀ n<7,chkK n (qw n)=true:=by decide +kernel
theorem ziT {n:Nat}{lt:Nat->Nat->Option Bool}(hl:∀ i j,i<n->j<n->∃ b,lt i j=Ga b):∀ {t:qC (Array Nat)},chkK n t=true->∃ p,runK lt t=Ga p/\p.toList.Perm (jk n)
 | .ret p,h=>⟨p,rfl,Jz.mp h⟩
 | .ask i j k,h=>by
  unfold chkK at h;rw[jE,jE,jE,decide_eq_true_eq,decide_eq_true_eq] at h;obtain⟨⟨⟨h1,h2⟩,h3⟩,h4⟩:=h;obtain⟨b,e⟩:=hl i j h1 h2;obtain⟨p,q1,q2⟩:=ziT hl (t:=k b) (by cases b;exact h4;exact h3);refine⟨p,?_,q2⟩;show(lt i j).bind _=_;rw[e];exact q1
theorem zlZ (ds:List D):(jk ds.length).map (λi=>ds.getD i .none)=ds:=by
 apply Jo
 .rw[jd,jz]
 .intro i h1 h2;rw[Jp,qc,ji,jc h2];rfl
theorem zvH {a b:D}{ds:List D}(ok:okSort ds=true)(ha:a∈ds)(hb:b∈ds):∃ c,ltD a b=Ga c:=by
 unfold okSort at ok;rw[u4,kB,kB] at ok;rcases ok with ok|ok
 .obtain⟨i,rfl⟩:=zhR (ok a ha);obtain⟨j,rfl⟩:=zhR (ok b hb);exact⟨_,rfl⟩
 .obtain⟨i,is,rfl⟩:=zgA (ok a ha);obtain⟨j,js,rfl⟩:=zgA (ok b hb);exact⟨_,zm4 _ _⟩
theorem zm8 {ds:List D}(hl:ds.length<7)(ok:okSort ds=true):∃ rs,sortD ds=Ga rs/\rs.Perm ds:=by
 unfold sortD;by_cases h2:ds.length<2
 .rw[Ge h2];exact⟨ds,rfl,.refl _⟩
 .rw[Gf h2,Ge (by rw[ok,Gc (by omega)];rfl)];obtain⟨p,e,hp⟩:=ziT (n:=ds.length) (lt:=ltAt ds) (λi j hi hj=>by
   unfold ltAt;rw[jc hi,jc hj];exact zvH ok (kU hi) (kU hj)) (zpL _ hl)
  rw[e,jf];have hz:p.size<=64:=by have:=hp.length_eq;rw[jz,jt] at this;omega
  rw[Ge hz];refine⟨_,rfl,?_⟩;have:=hp.map (λi=>ds.getD i .none);rw[zlZ] at this;exact this
theorem zc3 {xs:List D}{j:Nat}{v:D}(h:xs[j]?=Ga v):atI xs (j:Int)=Ga v:=atI_nat h
theorem zbO {n:Nat}(h:n<1000000):rng1 (.int (n:Int))=Ga (rngD 0 n):=by
 unfold rng1;dsimp only;rw[Ge (by constructor<;>omega),jD]
theorem zbC (n:Nat):rngD 0 n=(jk n).map λ(k:Nat)=>jb (k:Int):=by
 unfold rngD;apply jQ;intro k _;rw[Int.zero_add]
theorem zf4 (lo:Int)(n:Nat):(rngD lo n).length=n:=by unfold rngD;rw[jd,jz]
theorem zb1 {i j:Int}(h:0<j):dMod (.int i) (.int j)=Ga (.int (i%j)):=by
 show(if decide (0<j) then _ else _)=_;rw[Ge (Gc h)]
theorem zd9 {i j:Int}(h:0<j)(h2:j<1073741824):dDiv (.int i) (.int j)=Ga (.int (i/j)):=by
 show(if decide (0<j)&&decide (j<1073741824) then _ else _)=_;rw[Gc h,Gc h2];rfl
theorem zm9 {i j:Int}(h:cMul i j=true):dMul (.int i) (.int j)=Ga (.int (i*j)):=by
 show(if cMul i j then _ else _)=_;rw[Ge h]
end T3
namespace T3
open PySem PySem.Spec PyProof.Rows L2
def cutD (xs:List D)(lo hi:Option Int):List D:=(xs.drop (HT.sIx xs.length 0 lo)).take (HT.sIx xs.length xs.length hi-HT.sIx xs.length 0 lo)
theorem Reps.cut {K:ja}{F:Hp}{ds:List D}{xs:List V}(r:Reps K F ds xs)(lo hi:Option Int):Reps K F (cutD ds lo hi) (cutV xs lo hi):=by
 unfold cutD cutV;rw[r.length];exact(r.drop _).take _
section
variable {X:Cx}{pos p2:Pos}
end
end T3
namespace T3
open PySem PySem.Spec PyProof.Rows L2
def Ite (K:ja)(l:Gj):It :=
 ⟨λi H=>∃ xs x,SqL K H l xs/\xs[i]?=Ga x,
   λi H v H'=>∃ T x,v=.ref T/\H T=Gb/\H'=upd H T (.tup [.int i,x])/\∀ xs,SqL K H l xs->xs[i]?=Ga x,
   λi H=>∃ xs,SqL K H l xs/\xs[i]?=Gb⟩
theorem znA {P:Program}{w:World}{K:ja}{elts:List Expr}{x1:Nat}{pos:Pos}(l e it:Gj)(D:e≠it) :
  Turn P w K (.Tuple elts x1 pos) (Ite K l) [e,it] e (λi h=>(∃ old,IsEnum h e it (i:Nat) old)/\h.IsListIter it l i) where
 mem:=by simp
 obj:=λi h st b hb=>by
  obtain⟨⟨old,he⟩,s1⟩:=st;simp only[ju,ki,or_false] at hb;rcases hb with rfl|rfl
  .exact⟨_,he,λv q=>by cases q⟩
  .obtain⟨o,e,_,d⟩:=s1;exact⟨o,e,λv q=>by rw[d] at q;cases q⟩
 keep:=λi h h' st k=>by
  obtain⟨⟨old,he⟩,s1⟩:=st;exact⟨⟨old,k e (by simp) _ he⟩,s1.at λo e=>k it (by simp) o e⟩
 item:=by
  intro X hP hw hK hc i ω s σ H E I hf st hg;subst hP hw hK;obtain⟨⟨old,he⟩,s1⟩:=st;obtain⟨xs,x,q1,ex⟩:=hg;obtain⟨its,r1,o1,ol1,e1⟩:=zlV (t:=false) I q1;obtain⟨u1,eu1,ru1⟩:=r1.get ex;refine wpAny_pyNext_enum_item he s1 (o1:s.heap.IsList l its.toArray) (by simpa using eu1) D λh' e' s1' pT hn kk=>?_;have hT:H s.heap.objs.size=Gb:=I.fresh;have hch:∀ b∈[e,it],FpOk X ω H b:=hf;have kk':∀ b o,b∉[e,it]->s.heap.get? b=Ga o->h'.get? b=Ga o:=λb o hb q=>kk b o (λz=>hb (by simp[z])) (λz=>hb (by simp[z])) q;have nch:∀ b u,H b=Ga u->b∉[e,it]:=λb u q z=>by rw[(hch b z).1] at q;cases q
  have nT:∀ b o,s.heap.get? b=Ga o->b≠s.heap.objs.size:=λb o q=>jC (jp q);have nTu:∀ b u,H b=Ga u->b≠s.heap.objs.size:=λb u q z=>by rw[z,hT] at q;cases q
  have I1:Inv X ω σ (upd H s.heap.objs.size (.tup [.int i,x])) { s with heap:=h',toks:=s.toks+1 }:=by
   refine I.step (g':=s.gens) (d':=s.drawn) (ch:=[e,it]) (λb hb=>?_) (λb o _ _ hc q _=>kk' b o hc q) (λb o _ _ hc q _=>⟨o.slots,kk' b o hc q⟩) (λb o _ q n=>by rw[upd_ne (nT b o q)];exact n) (λb o hc q=>⟨o,kk' b o hc q⟩) (λb ts q=>by rw[upd_ne (nTu b _ q)];exact q) (λb _ _ q=>by rw[upd_ne (nTu b _ q)];exact q)
    (λb ps q=>⟨#[],by rw[upd_ne (nTu b _ q),q];simp⟩) (λm hm=>?_) (λb u q=>?_) I.bare
   .obtain⟨_,f1,_,f3,f4,f5⟩:=hch b hb;exact⟨f3,f1,f4,f5⟩
   .obtain⟨o,es,ep,ho,r⟩:=hm;exact⟨o,es,ep,kk' _ o (λq=>(hch _ q).2.1 rfl) ho,r⟩
   .by_cases hb:b=s.heap.objs.size
    .subst hb;rw[upd_same] at q;cases q;exact⟨(by show 2<=sizeLine;decide),[.int i s.toks,u1],.cons ⟨_,rfl⟩ (.cons ru1 .nil),⟨_,pT,rfl,_,rfl⟩⟩
    .rw[upd_ne hb] at q;refine(I.hok b u q).stay (λc v hc z=>kk' c v ?_ z) (λc z=>by rw[upd_ne (nTu c _ z)];exact z) λc ts z=>by rw[upd_ne (nTu c _ z)];exact z
     rcases hc with z|z
     .rw[z];exact nch b u q
     .exact nch c _ z
  refine⟨.ref s.heap.objs.size,rfl,?_⟩;refine wpAny_letOwnedTupleGo_enum e' λh2 z2 b2=>?_;have fe:FpOk X ω (upd H s.heap.objs.size (.tup [.int i,x])) e:=by
   obtain⟨f0,f1⟩:=hf e (by simp);exact⟨by rw[upd_ne (nT e _ he)];exact f0,f1⟩
  have I2:=zf3 (h':=h2) (ch:=[e]) I1 (λb hb=>by cases jh.mp hb;exact fe) (λb o hb q=>b2.extBut b o (λz=>hb (by simp[z])) q) (s.toks+1);have kz:∀ b o,b≠e->h'.get? b=Ga o->h2.get? b=Ga o:=λb o hb q=>b2.extBut b o hb q;refine⟨.ref s.heap.objs.size,_,I2,rfl,⟨s.heap.objs.size,x,rfl,hT,rfl,λxs' p1=>?_⟩,⟨⟨_,z2⟩,?_⟩,λb hb=>?_⟩
  .rw[zkW (t:=false) I p1 q1];exact ex
  .exact s1'.at λo q=>kz _ o (λz=>D z.symm) q
  .rw[upd_ne]
   .exact(hf b hb).1
   .simp only[ju,ki,or_false] at hb;rcases hb with rfl|rfl
    .exact nT _ _ he
    .obtain⟨o,q,_⟩:=s1;exact nT _ _ q
 done:=by
  intro X hP hw hK hc i ω s σ H E I hf st hg;subst hP hw hK;obtain⟨⟨old,he⟩,s1⟩:=st;obtain⟨xs,q1,ex⟩:=hg;obtain⟨its,r1,o1,ol1,e1⟩:=zlV (t:=false) I q1;have hh:X.A.handled=Gb:=I.ok.hd hc;have ex':its[i]?=Gb:=r1.none_of ex;refine wpAny_pyNext_enum_end hh he s1 (o1:s.heap.IsList l its.toArray) (by simpa using ex') λh' kk=>⟨rfl,?_⟩;exact zf3 (ch:=[it]) I (λb hb=>hf b (by simp only[ju,ki,or_false] at hb ⊢;exact kc hb)) (λb o hb q=>kk b o (λz=>hb (by simp[z])) q) s.toks
 self:=λ_ _ _ _ _ st h=>by obtain⟨⟨old,he⟩,_⟩:=st;exact wpAny_pyIter_enum he h
def enuD:D->Option (List D)
 | .list xs=>Ga ((jk xs.length).map λ(i:Nat)=>kH [.int (i:Int),xs.getD i .none])
 | _=>Gb
theorem zjU {K:ja}{F:Hp}{l:Gj}{xs:List V}{ds:List D}(h1:SqL K F l xs)(r1:Reps K F ds xs):Yields K (Ite K l) F ((jk ds.length).map λ(i:Nat)=>kH [.int (i:Int),ds.getD i .none]):=by
 intro H g i;have e1:=r1.length;refine⟨λhi=>⟨xs,g.seq h1,kr (by rw[jd,jz] at hi;omega)⟩,λd hd=>?_⟩;have hi:i<ds.length:=by have:=(je.mp hd).1;rw[jd,jz] at this;exact this
 obtain⟨v1,x1,x2⟩:=r1.get (jc hi);have ed:d=.tuple [.int (i:Int),ds[i]]:=by
  rw[jq,uj hi,v6,ji,jc hi] at hd;exact(jw hd).symm
 subst ed;refine⟨⟨xs,v1,g.seq h1,x1⟩,λx H' y=>?_⟩;obtain⟨T,a,rfl,hT,rfl,q⟩:=y;have q1:=q xs (g.seq h1);rw[x1] at q1;cases q1;obtain⟨s1,s2,s3,s4⟩:=grow1 (o:=.tup [.int i,v1]) g hT;exact⟨s1,_,s2,s3,s4,.tup (SqT.of upd_same) (.cons (.int _) (.cons (x2.mono s2) .nil))⟩
section
variable {X:Cx}{pos:Pos}
theorem zvI {a:Expr}{f:FV}{p p4:Pos}{elts:List Expr}{x1:Nat}(hg:Gl X "enumerate")(hm:X.mg "enumerate"=Gb)(ha:PV X a f)(hs:starEach [a] X.env=[(false,eval a X.env)]:=by rfl) :
  PIt X (.Tuple elts x1 p4) (.Call (.Name "enumerate" p) [a] [] pos) (λψ=>(f ψ).bind enuD):=by
 intro ω s σ H R I h;obtain⟨H0,F,ψ,ds,r,e0,q⟩:=h;obtain⟨d1,e1,e⟩:=bind_some e0;clear e0;refine Call_ (ld_blt I hg hm boot_enumerate (PyProof.Rows.callWith_type1 (thn (pa_cons ha pa_nil hs pos ω s σ H (λvs H2=>∃ l xs,vs=[.ref l]/\SqL X.K H2 l xs/\R (Ite X.K l) H2) I
  ⟨H0,F,ψ,d1,r,e1,λv H1 F1 g1 f1 fh1 n1 rv=>?_⟩) λus s1 ⟨vs,H2,I2,rvs,l,xs,ev,h1,hR⟩=>?_) hs (by rfl)))
 .cases rv<;>first|(cases e;done)|skip
  rename_i p1 xs ds1 h1 rr1;cases e;exact⟨p1,xs,rfl,fh1.seq h1,q _ H1 F1 g1 f1 fh1 n1 λF3 f3=>zjU (f3.seq h1) (rr1.mono f3)⟩
 .subst ev;cases rvs with
  | cons r1 r2 =>
   cases r2;cases r1;obtain⟨its,r1,o1,_⟩:=zlV (t:=false) I2 h1;refine call_enumerate_list (o1:s1.heap.IsList l its.toArray) λh' a1 a2 a3 a4=>?_;refine wpAny_pyIter_enum a1 ⟨_,[s1.heap.objs.size+1,s1.heap.objs.size],_,_,H2,rfl,I2.kept (t':=s1.toks) a4,znA l _ _ (show(s1.heap.objs.size+1:Nat)≠s1.heap.objs.size by omega),⟨⟨_,a1⟩,a2⟩,λb hb=>?_,hR⟩;have hb':s1.heap.objs.size<=b:=by
    simp only[ju,ki,or_false] at hb;rcases hb with rfl|rfl<;>first|exact jo _|exact Jq _ _
   exact I2.fpOk hb' (I2.hok.fresh hb')
end
end T3
namespace T3
open PySem PySem.Spec PyProof.Rows L2
section
variable {X:Cx}{pos:Pos}
def dShl:D->D->Option D:=dI (λi j=>decide (0<=j)&&decide (j<=1000000)&&decide (i.natAbs<2^64)) λi j=>.int (i*2^j.toNat)
def dShr:D->D->Option D:=dI (λ_ j=>decide (0<=j)) λi j=>.int (i/2^j.toNat)
theorem zr8 {a b:Expr}{f g:FV}(ha:PV X a f)(hb:PV X b g):PV X (.BinOp a .LShift b pos) (bin dShl f g) :=
 v_op op_shl (r2_I (λi j h=>by simpa [CPow,and_assoc] using h) λ_ _ _=>.int _) ha hb
theorem zr9 {a b:Expr}{f g:FV}(ha:PV X a f)(hb:PV X b g):PV X (.BinOp a .RShift b pos) (bin dShr f g) :=
 v_op op_shr (r2_I (λi j h=>by simpa using h) λ_ _ _=>.int _) ha hb
abbrev sL1 (f:FV):FL:=λψ=>(f ψ).bind toS
theorem znB {e:Expr}{f:FV}{p:Pos}(hg:Gl X "list")(hm:X.mg "list"=Gb)(ha:PV X e f)(hs:starEach [e] X.env=[(false,eval e X.env)]:=by rfl):PO X (.Call (.Name "list" p) [e] [] pos) (sL1 f):=by
 refine zaN (cT1 call_list_of hg hm boot_list ha (hs:=hs)) λσ H Q=>?_;rintro⟨H0,F,ψ,ds,r,e,q⟩;obtain⟨d',e1,e⟩:=bind_some e;refine⟨H0,F,ψ,_,r,e1,λv H1 F1 g1 f1 fh1 n1 rv=>?_⟩;cases rv<;>first|(cases e;done)|skip
 .rename_i p xs ds' h1 rr;cases e;refine⟨p,xs,rfl,.inr (seqT fh1 h1),λl hl'=>?_⟩;have s2:Same H1 (upd H1 l (.lst xs)):=Same.new hl';exact q l xs _ F1 (g1.trans s2) f1 (fh1.trans s2) n1 (g1.free hl') (fh1.free hl') upd_same rr
 .rename_i p xs ds' h1 rr;cases e;refine⟨p,xs,rfl,.inl (fh1.seq h1),λl hl'=>?_⟩;have s2:Same H1 (upd H1 l (.lst xs)):=Same.new hl';exact q l xs _ F1 (g1.trans s2) f1 (fh1.trans s2) n1 (g1.free hl') (fh1.free hl') upd_same rr
end
section
variable {X:Cx}{tg:Expr}{pos:Pos}
end
section
variable {prog:Program}{w:World}{A:Around}{E:Gg->Gh->Prop}{s:Gh}
end
section
variable {X:Cx}{pos:Pos}
theorem zhS:∀ (xs:List V) (us:List Gg),xs.length=us.length->(∀ (i:Nat) (x:V) (u:Gg),xs[i]?=Ga x->us[i]?=Ga u->RelV x u)->Vals xs us
 | [],[],_,_=>.nil
 | [],_::_,h,_=>by cases h
 | _::_,[],h,_=>by cases h
 | x::xs,u::us,h,r=>.cons (r 0 x u rfl rfl) (zhS xs us (Nat.succ.inj h) λi y z e1 e2=>r (i+1) y z e1 e2)
end
end T3
namespace T3
open PySem PySem.Spec PyProof.Rows L2
section
variable {X:Cx}{ω:List (Gj×Obj)}{σ:St}{F H:Hp}{s:Gh}{a:Gj}{ks:List D}{as:List Gj}{ep:Nat}
end
section
variable {X:Cx}{pos:Pos}
def isTup:D->Bool
 | .tuple _=>true
 | _=>false
theorem zl0 {d:D}(h:isTup d=true):∃ xs,d=.tuple xs:=by cases d<;>first|exact⟨_,rfl⟩|cases h
end
section
variable {prog:Program}{w:World}{A:Around}{E:Gg->Gh->Prop}{s:Gh}
theorem zjV:typeLookup (.type "dict") "__len__"=pure (Ga (.builtin "dict.__len__")):=by rw[typeLookup_type,builtinLookup_eq_fast];kernel_rfl
theorem znC {x:Gj}{Q:Bool->Gh->Prop}(hT:s.TypeIs (.ref x) "dict")(hQ:Q false s):wpAny (model prog w) A (uz (.ref x)) Q E s:=by
 unfold uz;refine wpAny_bind (wpAny_specialOf hT zjV ?_);generalize hid:("dict.__len__":String)=id0
 wp_delta
 rw[show splitId id0=Ga ("dict","__len__") from by subst hid;decide +kernel];subst hid;refine wpAny_bind (wpAny_isInstance (T:="dict") (b:=true) hT (by rw[isSubtype_type];kernel_rfl) ?_);refine wpAny_ite_split (λz=>absurd z (by decide)) λ_=>?_;refine wpAny_ite_split (λ_=>?_) λz=>absurd (by decide +kernel) z;exact wpAny_bind (wpAny_typeOf hT (wpAny_pure hQ))
end
section
variable {X:Cx}{pos:Pos}
end
end T3
namespace T3
open PySem PySem.Spec PyProof.Rows L2
section
variable {X:Cx}{pos:Pos}
end
end T3
namespace T3
open PySem PySem.Spec PyProof.Rows L2
theorem zpM {a:Gj}{ws:List (Int×V)}{ep:Nat}:∀ h1 h2:Heap,DiP a ws ep h1->(∀ o,h1.get? a=Ga o->h2.get? a=Ga o)->DiP a ws ep h2:=by
 rintro h1 h2 ⟨o,es,ho,r⟩ k;exact⟨o,es,k _ ho,r⟩
theorem znD {P:Program}{w:World}{H:Hp}{h:Heap}{a:Gj}{ws:List (Int×V)}{ep:Nat}(p:DiP a ws ep h):ObjOk P w H h a (.ext (DiP a ws ep)):=by
 obtain⟨o,es,ho,r⟩:=id p;exact⟨p,⟨o,ho⟩,zpM⟩
theorem znE {P:Program}{w:World}{H:Hp}{h:Heap}{a:Gj}{ws:List (Int×V)}{ep:Nat}(ok:HOk P w H h)(e:H a=Ga (.ext (DiP a ws ep))):DiP a ws ep h:=(show ObjOk P w H h a (.ext _) from ok a _ e).1
theorem IntEs.pairs {P:Program}{w:World}:∀ {ws:List (Int×V)} {es:List DictEntry},IntEs ws es->∃ vs:List (Int×Gg),KV ws vs/\Pairs (intKind P w) es vs
 | _,_,.nil=>⟨[],.nil,.nil⟩
 | _,_,.cons (k:=k) (e:=e) hk hh hv t=>by
  obtain⟨vs,h1,h2⟩:=t.pairs (P:=P) (w:=w);exact⟨(k,e.val)::vs,.cons ⟨rfl,hv⟩ h1,.cons hk rfl h2⟩
theorem IntEs.keys {P:Program}{w:World}:∀ {ws:List (Int×V)} {es:List DictEntry},IntEs ws es->∀ e∈es,∃ k,(intKind P w).is k e.key=true/\e.hash=(intKind P w).hash k
 | _,_,.nil,e,h=>by cases h
 | _,_,.cons (k:=k) hk hh hv t,e,h=>by
  rcases ju.mp h with rfl|h
  .exact⟨k,hk,hh⟩
  .exact t.keys e h
theorem zhT {P:Program}{w:World}:∀ {ws:List (Int×V)} {vs:List (Int×Gg)} {es:List DictEntry},KV ws vs->Pairs (intKind P w) es vs->(∀ e∈es,∃ k,(intKind P w).is k e.key=true/\e.hash=(intKind P w).hash k)->IntEs ws es
 | _,_,_,.nil,.nil,_=>.nil
 | (k,v)::ws,kv::vs,e::es,.cons a t,.cons h1 h2 t2,hk=>by
  obtain⟨k',z1,z2⟩:=hk e jn;have ek:k'=kv.1:=(intKind P w).inj _ _ _ z1 h1;have e0:k=kv.1:=a.1;refine .cons ?_ ?_ ?_ (zhT t t2 λe h=>hk e (jm _ h))
  .rw[e0];exact h1
  .rw[z2,ek,e0];rfl
  .rw[h2];exact a.2
theorem znF {κ:Type}:∀ {ws:List (κ×V)} {vs:List (κ×Gg)},KV ws vs->vs.map (·.1)=ws.map (·.1)
 | _,_,.nil=>rfl
 | _,_,.cons h t=>by
  rw[jR,jR,znF t];exact congrArg (·::_) h.1.symm
theorem RepKV.fst {K:ja}{F:Hp}:∀ {l:List (Int×D)} {m:List (Int×V)},RepKV K F l m->m.map (·.1)=l.map (·.1)
 | _,_,.nil=>rfl
 | _,_,.cons h t=>congrArg (_::·) t.fst
def putD (kvs:List (Int×D))(k:Int)(d:D):List (Int×D) :=
 if (kvs.any λkv=>decide (kv.1=k))=true then kvs.map (λkv=>if kv.1=k then(kv.1,d) else kv) else kvs++[(k,d)]
theorem RepKV.anyk {K:ja}{F:Hp}(k:Int):∀ {l:List (Int×D)} {m:List (Int×V)},RepKV K F l m->(m.any λkv=>decide (kv.1=k))=(l.any λkv=>decide (kv.1=k))
 | _,_,.nil=>rfl
 | _,_,.cons h t=>by rw[vi,vi,t.anyk k]
theorem RepKV.mapk {K:ja}{F:Hp}{k:Int}{d:D}{v:V}(q:Rep K F d v):∀ {l:List (Int×D)} {m:List (Int×V)},RepKV K F l m->RepKV K F (l.map λkv=>if kv.1=k then(kv.1,d) else kv) (m.map λkv=>if kv.1=k then(kv.1,v) else kv)
 | _,_,.nil=>.nil
 | (j,e)::_,(_,u)::_,.cons h t=>by
  rw[jR,jR];by_cases c:j=k
  .rw[Ge c,Ge c];exact .cons q (t.mapk q)
  .rw[Gf c,Gf c];exact .cons h (t.mapk q)
theorem RepKV.app {K:ja}{F:Hp}:∀ {l l2:List (Int×D)} {m m2:List (Int×V)},RepKV K F l m->RepKV K F l2 m2->RepKV K F (l++l2) (m++m2)
 | _,_,_,_,.nil,q=>q
 | _,_,_,_,.cons h t,q=>.cons h (t.app q)
theorem RepKV.put {K:ja}{F:Hp}{k:Int}{d:D}{v:V}{l:List (Int×D)}{m:List (Int×V)}(r:RepKV K F l m)(q:Rep K F d v):RepKV K F (putD l k d) (putK m k v):=by
 unfold putD putK;rw[r.anyk k];split
 .exact r.mapk q
 .exact r.app (.cons q .nil)
theorem zhU (kvs:List (Int×D))(k:Int)(d:D):(kvs.map λkv=>if kv.1=k then(kv.1,d) else kv).map (·.1)=kvs.map (·.1):=by
 rw[ka];refine jQ λx _=>?_;show(if x.1=k then(x.1,d) else x).1=x.1;split<;>rfl
theorem zsA {kvs:List (Int×D)}{k:Int}{d:D}(ok:KvOk kvs)(hl:kvs.length<1000000):KvOk (putD kvs k d):=by
 unfold putD;split
 .exact⟨by rw[zhU];exact ok.nd,by rw[jd];exact ok.len⟩
 .rename_i c;refine⟨?_,by rw[jB];exact hl⟩;rw[jO,ky];refine⟨ok.nd,jH.mpr ⟨by simp,j6⟩,λx hx y hy=>?_⟩;rw[jh.mp hy];rintro rfl;obtain⟨p,h1,h2⟩:=jr.mp hx;exact c (uP.mpr ⟨p,h1,Gc h2⟩)
section
variable {X:Cx}{ω:List (Gj×Obj)}{σ:St}{F H:Hp}{s:Gh}{a:Gj}{kvs:List (Int×D)}{ws:List (Int×V)}{ep:Nat}
theorem diH (I:Inv X ω σ H s)(e:H a=Ga (.ext (DiP a ws ep)))(nd:(ws.map (·.1)).Nodup):∃ vs:List (Int×Gg),KV ws vs/\s.heap.DictOf (intKind X.prog X.w) a vs:=by
 obtain⟨o,es,ho,hc,hd,he⟩:=znE I.hok e;obtain⟨vs,h1,h2⟩:=he.pairs (P:=X.prog) (w:=X.w);exact⟨vs,h1,o,es,ep,ho,hc,hd,λe h=>he.keys e (uH.mpr h),h2,by rw[znF h1];exact nd⟩
theorem zvJ {k:Int}{v:V}{u r:Gg}{A:Around}{E:Gg->Gh->Prop}{Q:Unit->Gh->Prop}(I:Inv X ω σ H s)(e:H a=Ga (.ext (DiP a ws ep)))(nd:(ws.map (·.1)).Nodup)(hz:ws.length<=1000000)(ru:RelV (.int k) u)(rv:RelV v r)
  (h:∀ s' ep',Inv X ω σ (upd H a (.ext (DiP a (putK ws k v) ep'))) s'->Q () s'):wpAny (model X.prog X.w) A (setItem (.ref a) u r) Q E s:=by
 obtain⟨vs,rel,dd⟩:=diH I e nd;obtain⟨t,rfl⟩:=ru;have hz':vs.length<=sizeLine:=by rw[<- rel.length,sizeLine_eq];exact j9 hz (by decide)
 refine wpAny_setItem_pairs (knd:=intKind X.prog X.w) (hsz:=hz') (k:=k) (show vT k (.int k t)=true by simp[vT]) dd λh' dd' hs=>?_;obtain⟨o',es',ep',ho,hc,hd,hk,hp,_⟩:=dd';refine h _ ep' (d_write I (by rw[e];trivial) hs ⟨o',ho⟩ (znD ⟨o',es',ho,hc,hd,?_⟩));exact zhT (rel.put k rv) hp λe h=>hk e (uH.mp h)
end
end T3
namespace T3
open PySem PySem.Spec PyProof.Rows L2
theorem RepKV.length {K:ja}{F:Hp}:∀ {l:List (Int×D)} {m:List (Int×V)},RepKV K F l m->l.length=m.length
 | _,_,.nil=>rfl
 | _,_,.cons _ t=>congrArg uC t.length
theorem RepKV.nd {K:ja}{F:Hp}{l:List (Int×D)}{m:List (Int×V)}(r:RepKV K F l m)(ok:KvOk l):(m.map (·.1)).Nodup:=by rw[r.fst];exact ok.nd
theorem RepKV.le {K:ja}{F:Hp}{l:List (Int×D)}{m:List (Int×V)}(r:RepKV K F l m)(ok:KvOk l):m.length<=1000000:=by rw[<- r.length];exact ok.len
section
variable {X:Cx}{pos:Pos}
theorem zkZ:PE X (.Dict [] [] pos) (λσ H Q=>∀ p,H p=Gb->(p==sysModules)=false->Q (.ref p) (upd H p (.ext (DiP p [] 0)))):=λω s σ H Q I h =>
 wpAny_Dict_empty ⟨.ref s.heap.objs.size,_,I.laid (a:=s.heap.objs.size) (o:=.ext (DiP s.heap.objs.size [] 0)) (t':=s.toks) (λ_ _ q=>jg _ q) (jo _) (znD ⟨_,#[],jv _ rfl,⟨rfl,rfl,rfl⟩,rfl,.nil⟩),rfl,
  h _ (I.hok.fresh (jo _)) (beq_eq_false_iff_ne.mpr (kY (jC I.big)))⟩
abbrev newI (i:Nat):FS:=λψ=>Ga (.nx (ψ.set i (.dki Gb [])))
theorem zsB (i:Nat){x:Str}{p pos':Pos}(hN:X.N.Nodup)(hi:X.N[i]?=Ga x:=by rfl)(hx:Loc X.env.scope x:=by first|exact kR rfl|exact kc rfl)
  (hs:swapsWith (.Dict [] [] p) (Ga (.Name x pos')) pos.line X.env=pure false:=by rfl) (hf:X.fn x=true\/X.env.scope.names.lookup x=Ga .local:=by first|exact .inl rfl|exact .inr rfl) :
  PSt X (.Assign [.Name x pos'] (.Dict [] [] p) pos) (newI i):=by
 intro ω s σ H D I hw;refine ps_set hN hi hx zkZ hs hf ω s σ H D I ?_;obtain⟨H0,F,ψ,o,r,e,p⟩:=hw;cases e;have hl:i<σ.length:=by rw[I.len];exact(je.mp hi).1
 intro a ha sm;have g:Same H (upd H a (.ext (DiP a [] 0))):=Same.new ha;exact p _ _ F (.refl _) (.refl _ _) ((r.later g).putG hl ⟨a,[],0,rfl,upd_same,r.fh.free ha,r.h0.free ha,.nil,sm,⟨j6,jY _⟩,λ_ z=>by cases z⟩ λj s o _ ej=>r.ne_free ha j s o ej)
def sIPut (td ty tv:TE):TS:=λD σ H=>tv σ H λv H1=>td σ H1 λx H2=>ty σ H2 λy H3=>∃ (a:Gj) (ws:List (Int×V)) (ep:Nat) (k:Int),x=.ref a/\y=.int k/\H3 a=Ga (.ext (DiP a ws ep))/\(ws.map (·.1)).Nodup/\ws.length<=1000000 /\
 ∀ ep',D.nx σ (upd H3 a (.ext (DiP a (putK ws k v) ep')))
theorem zsC {o i value:Expr}{pos':Pos}{td ty tv:TE}(ho:PE X o td)(hi:PE X i ty)(hv:PE X value tv)(hs:swapsWith value (Ga (.Subscript o i pos')) pos.line X.env=pure false) :
  PS X (.Assign [.Subscript o i pos'] value pos) (sIPut td ty tv):=by
 intro ω s σ H D I h;refine wpAny_Assign_Subscript (thn (hv ω s σ H _ I h) λr s1 ⟨v,H1,I1,rv,q1⟩=>thn (ho ω s1 σ H1 _ I1 q1) λu s2 ⟨x,H2,I2,rx,q2⟩=>thn (hi ω s2 σ H2 _ I2 q2) λiv s3 ⟨y,H3,I3,ry,a,ws,ep,k,ex,ey,g,nd,hz,q3⟩=>?_) hs;subst ex ey;obtain rfl:u=uk a:=rx;exact zvJ I3 g nd hz ry rv λs4 ep' I4=>⟨σ,_,I4,q3 ep'⟩
def setI (i:Nat)(f g:FV):FS:=λψ=>(g ψ).bind λv=>(f ψ).bind λk=>match ψ[i]?,k with
 | some (.dki oa kvs),.int n=>if kvs.length<1000000 then Ga (.nx (ψ.set i (.dki oa (putD kvs n v)))) else Gb
 | _,_=>Gb
theorem zsD (i:Nat){x:Str}{ke value:Expr}{f g:FV}{p p2:Pos}(hk:PV X ke f)(hval:PV X value g)(hN:X.N[i]?=Ga x:=by rfl)(hv:Vis X.env.scope x:=by first|exact kR rfl|exact kc (kR rfl)|exact kc (kc rfl))
  (hd:(x==("__debug__":Str))=false:=by decide) (hcd:(x==("__classdict__":Str))=false:=by decide)
  (hs:swapsWith value (Ga (.Subscript (.Name x p) ke p2)) pos.line X.env=pure false:=by rfl) :
  PSt X (.Assign [.Subscript (.Name x p) ke p2] value pos) (setI i f g):=by
 refine zbL (zsC (pe_var (pos:=p) hN hv hd hcd) hk hval hs) λE σ H=>?_;rintro⟨H0,F,ψ,o,r,e,p⟩;obtain⟨v,e0,e⟩:=bind_some e;obtain⟨k,e1,e2⟩:=bind_some e;clear e;split at e2;rotate_left
 .cases e2
 rename_i oa kvs n z;split at e2;rotate_left
 .cases e2
 rename_i c;cases e2;refine⟨H0,F,ψ,v,r,e0,λvv H1 F1 g1 f1 fh1 n1 rv=>?_⟩;have r1:=r.grow g1 f1 fh1 n1;obtain⟨u,x3,a,ws,ep,x4,ha1,fa,h0a,rr,sm,ok,ho⟩:=r1.sl i _ z;subst x4;refine⟨.ref a,x3,H0,F1,ψ,.int n,r1,e1,λkk H2 F2 g2 f2 fh2 n2 rk=>?_⟩;cases rk;have r2:=r1.grow g2 f2 fh2 n2;obtain⟨u,x5,a',ws',ep',x6,ha2,fa2,h0a2,rr2,sm2,ok2,ho2⟩:=r2.sl i _ z;subst x6;rw[x3] at x5;cases x5;refine⟨a,ws',ep',n,rfl,rfl,ha2,rr2.nd ok2,rr2.le ok2,λep2=>?_⟩;exact p σ _ F2 (f1.trans f2) (((n1.dn r.h0).up (n2.dn r1.h0))) (r2.chgG z rfl x3 ⟨a,_,ep2,rfl,upd_same,fa2,h0a2,rr2.put (rv.mono f2),sm2,zsA ok2 c,ho2⟩)
theorem IntEs.length:∀ {ws:List (Int×V)} {es:List DictEntry},IntEs ws es->es.length=ws.length
 | _,_,.nil=>rfl
 | _,_,.cons _ _ _ t=>congrArg uC t.length
theorem IntEs.get:∀ {ws:List (Int×V)} {es:List DictEntry} {i:Nat} {k:Int},IntEs ws es->(ws.map (·.1))[i]?=Ga k->∃ e t,es[i]?=Ga e/\e.key=.int k t
 | _,_,i,_,.nil,h=>by simp at h
 | _,_,0,_,.cons hk _ _ _,h=>by
  cases h;obtain⟨t,z⟩:=qY hk;exact⟨_,t,rfl,z⟩
 | _,_,i+1,k,.cons _ _ _ t,h=>t.get (i:=i) (k:=k) h
theorem zpN {h:Heap}{d:Gj}{ws:List (Int×V)}{ep:Nat}(p:DiP d ws ep h):∃ es,DRaw h d es ep/\IntEs ws es.toList:=by
 obtain⟨o,es,ho,hc,hd,he⟩:=p;exact⟨es,⟨o,ho,hc,hd⟩,he⟩
def ofE:List (D×D)->Option (List (Int×D))
 | []=>Ga []
 | (.int k,d)::r=>(ofE r).bind λl=>Ga ((k,d)::l)
 | _=>Gb
def kvI:D->Option (List (Int×D))
 | .dict ((.none,.none)::l)=>ofE l
 | _=>Gb
theorem znG:∀ kvs:List (Int×D),ofE (kvs.map λp=>(jb p.1,p.2))=Ga kvs
 | []=>rfl
 | (k,d)::r=>by
  show(ofE (r.map λp=>(jb p.1,p.2))).bind _=_;rw[znG r];rfl
theorem zjW (kvs:List (Int×D)):kvI (diD kvs)=Ga kvs:=znG kvs
theorem Rep.int_dict {K:ja}{F:Hp}{d:D}{v:V}{kvs:List (Int×D)}(r:Rep K F d v)(e:kvI d=Ga kvs):∃ a ws ep,v=.ref a/\(a==sysModules)=false/\F a=Ga (.ext (DiP a ws ep))/\KvOk kvs/\RepKV K F kvs ws:=by
 cases r with
 | @dci a kvs' ws ep hs h ok r =>
  have e':kvI (diD kvs')=Ga kvs:=e;rw[zjW] at e';cases e';exact⟨a,ws,ep,rfl,hs,h,ok,r⟩
 | @dic a ks as ep hs h ok r =>
  cases ks with
  | nil=>cases e
  | cons k r=>cases k<;>cases e
 | _=>cases e
def keysI (d:D):Option (List D):=(kvI d).bind λkvs=>Ga (kvs.map λp=>.int p.1)
def atK (kvs:List (Int×D))(k:Int):Option D:=(kvs.find? λp=>decide (p.1=k)).map (·.2)
theorem RepKV.at {K:ja}{F:Hp}(k:Int):∀ {l:List (Int×D)} {m:List (Int×V)},RepKV K F l m->(atK l k=Gb/\valV m k=Gb)\/∃ d v,atK l k=Ga d/\valV m k=Ga v/\Rep K F d v
 | _,_,.nil=>.inl ⟨rfl,rfl⟩
 | (j,d)::l,(_,v)::m,.cons h t=>by
  unfold atK valV;by_cases c:j=k
  .exact .inr ⟨d,v,by rw[kA (p:=λ(p:Int×D)=>decide (p.1=k)) (Gc c)];rfl,by rw[kA (p:=λ(kv:Int×V)=>decide (kv.1=k)) (Gc c)];rfl,h⟩
  .rw[kI (p:=λ(p:Int×D)=>decide (p.1=k)) (by simpa using c),kI (p:=λ(kv:Int×V)=>decide (kv.1=k)) (by simpa using c)];exact t.at k
def dIxI (d:D):D->Option D
 | .int k=>(kvI d).bind λkvs=>atK kvs k
 | _=>Gb
def dInI (k d:D):Option D:=match k with
 | .int k=>(kvI d).bind λkvs=>Ga (.bool (atK kvs k).isSome)
 | _=>Gb
theorem zhV {k:Int}{u:Gg}(r:RelV (.int k) u):(intKind X.prog X.w).is k u=true:=by
 obtain⟨t,rfl⟩:=r;show vT k (.int k t)=true;simp[vT]
theorem zvK {a b:Expr}{f g:FV}(ha:PV X a f)(hb:PV X b g)(hs:NoSl b:=by exact λ_ _=>rfl):PV X (.Subscript a b pos) (bin dIxI f g):=by
 intro ω s σ H Q I hw;obtain⟨H0,F,ψ,d,r,e,q⟩:=hw;obtain⟨x,e1,e⟩:=bind_some e;obtain⟨y,e2,e⟩:=bind_some e;obtain⟨k,rfl⟩:∃ k:Int,y=.int k:=by cases y<;>first|(cases e;done)|exact⟨_,rfl⟩
 refine subD_of PySem.F.slot_dict_getitem.lookup hs (thn (ha ω s σ H (λv H1=>∃ F1,Same H H1/\Same F F1/\Same F1 H1/\New F F1 H/\Rep X.K F1 x v) I ⟨H0,F,ψ,x,r,e1,λv H1 F1 g1 f1 fh1 n1 rv=>⟨F1,g1,f1,fh1,n1,rv⟩⟩) λu s1 ⟨v,H1,I1,rx,F1,g1,f1,fh1,n1,rv⟩=>?_);refine thn (hb ω s1 σ H1 (λv2 H2=>∃ F2,Same H1 H2/\Same F1 F2/\Same F2 H2/\New F1 F2 H1/\Rep X.K F2 (.int k) v2) I1 ⟨H0,F1,ψ,.int k,r.grow g1 f1 fh1 n1,e2,λv2 H2 F2 g2 f2 fh2 n2 rv2=>⟨F2,g2,f2,fh2,n2,rv2⟩⟩) λu2 s2 ⟨v2,H2,I2,rx2,F2,g2,f2,fh2,n2,rv2⟩=>?_;cases rv2;obtain⟨kvs,e3,e4⟩:=bind_some (show(kvI x).bind (λkvs=>atK kvs k)=Ga d from e);obtain⟨a,ws,ep,rfl,sm,fa,ok,rr⟩:=(rv.mono f2).int_dict e3;cases rx;obtain⟨vs,rel,dd⟩:=diH I2 (fh2 _ _ fa) (rr.nd ok);rcases rr.at k with ⟨z1,z2⟩|⟨d',v',z1,z2,z3⟩
 .rw[z1] at e4;cases e4
 .rw[z1] at e4;cases e4;obtain⟨w',hw,rw'⟩:=RelO.some_of (v:=v') (o:=valueAt vs k) (by rw[<- z2];exact rel.val k);exact⟨dd.typeIs,wpAny_getItem_of (zhV rx2) dd.mapOf hw ⟨v',H2,I2.tok _,rw',q v' H2 F2 (g1.trans g2) (f1.trans f2) fh2 (n1.trans n2 g1) z3⟩⟩
theorem zsE:∀ a b d,dInI a b=Ga d->∃ k,d=.bool k:=λa b d h=>by
 unfold dInI at h;split at h
 .obtain⟨kvs,_,h⟩:=bind_some h;cases h;exact⟨_,rfl⟩
 .cases h
theorem znH {K:ja}{F:Hp}{k:Int}{l:List (Int×D)}{m:List (Int×V)}{vs:List (Int×Gg)}(rr:RepKV K F l m)(rel:KV m vs):(valueAt vs k).isSome=(atK l k).isSome:=by
 rw[<- (rel.val k).isSome_eq];rcases rr.at k with ⟨z1,z2⟩|⟨d',v',z1,z2,z3⟩<;>rw[z1,z2]<;>rfl
theorem zvL:OpR X (compareOp .In) (rEqD X.K dInI):=by
 intro ω s σ H x y v u Q I rx ry h;obtain⟨F,k,b,d,g,ra,rb,e,q⟩:=h;cases ra<;>first|(cases e;done)|skip
 rename_i k;obtain⟨kvs,e3,e4⟩:=bind_some (show(kvI b).bind (λkvs=>Ga (uJ (atK kvs k).isSome))=Ga d from e);cases e4;obtain⟨a,ws,ep,rfl,sm,fa,ok,rr⟩:=rb.int_dict e3;cases ry;obtain⟨vs,rel,dd⟩:=diH I (g _ _ fa) (rr.nd ok);refine wpAny_in_of (zhV rx) sm dd.mapOf ?_;rw[znH rr rel];exact⟨.bl _,H,I.tok _,rfl,q _ rfl⟩
theorem zx7 {a b:Expr}{f g:FV}(ha:PV X a f)(hb:PV X b g)(hm:behindInMarks .In b=false:=by first|rfl|with_unfolding_all rfl):PB X (.Compare a [.In] [b] pos) (cmpB dInI f g):=zgW zvL (zeE zsE) ha hb hm
end
end T3
namespace T3
open PySem PySem.Spec PyProof.Rows L2
section
variable {P:Program}{w:World}{K:ja}{mg:Str->Option Gg}{base:Heap}{x qual:Str}{st:Stmt}{f:Gj}{fd:Gi}{N ps:List Str}{k:Nat}{g:FS}
end
section
variable {X:Cx}{pos:Pos}
variable {k:Nat}{f:Gj}{fd:Gi}{ps:List Str}{x:Str}{p pc:Pos}{e:Expr}{es:List Expr}{g:FL}
end
end T3
namespace T3
open PySem PySem.Spec PyProof.Rows L2
section
variable {prog:Program}{w:World}{A:Around}{E:Gg->Gh->Prop}{s:Gh}
theorem zl1 {e it l:Gj}{i:Nat}{items:Array Gg}{x old:Gg}{Q:Option Gg->Gh->Prop}
  (he:IsEnum s.heap e it i old) (hit:s.heap.IsTupleIter it l i) (hl:s.heap.IsTuple l items) (hx:items[i]?=Ga x) (hne:e≠it)
  (hQ:∀ h',IsEnumOut h' e it ((i:Int)+1) x s.heap.objs.size->h'.IsTupleIter it l (i+1) ->
   h'.get? s.heap.objs.size=Ga { cls:=.type "tuple",data:=.seq #[.int i s.toks,x] }->h'.objs.size=s.heap.objs.size+1 ->
   (∀ b o,b≠e->b≠it->s.heap.get? b=Ga o->h'.get? b=Ga o)->Q (Ga (.ref s.heap.objs.size)) { s with heap:=h',toks:=s.toks+1 }) :
  wpAny (model prog w) A (pyNext (.ref e)) Q E s:=by
 have hT:s.TypeIs (.ref e) "enumerate":=⟨_,he,rfl⟩;unfold pyNext;refine wpAny_bind (wpAny_attempt (wpAny_callSpecial?_slot (name:=uV "__next__") hT F.slot_enumerate_next
  (wpAny_call_entry F.slot_enumerate_next hT F.entry_enumerate_next ?_ (F.args_enumerate_next_1 _))))
 obtain⟨hp,g,d,tk,os⟩:=s;show wpAny _ _ (field (.ref e) 2 >>= _) _ _ _;refine wpAny_bind (wpAny_field he rfl (x:=.ref it) rfl ?_);refine wpAny_bind (zlT hit hl hx λh1 it1 b1=>?_);replace b1:kw it hp h1:=b1;have e1:IsEnum h1 e it i old:=(b1.2 e hne).trans he;show wpAny _ _ (field (.ref e) 3 >>= _) _ _ ⟨h1,g,d,tk,os⟩;refine wpAny_bind (wpAny_field e1 rfl (x:=rawInt i) rfl ?_);show wpAny _ _ (field (.ref e) 4 >>= _) _ _ ⟨h1,g,d,tk,os⟩;refine wpAny_bind (wpAny_field e1 rfl (x:=.none) rfl ?_);show wpAny _ _ (mkInt i >>= _) _ _ ⟨h1,g,d,tk,os⟩;refine wpAny_bind (wpAny_mkInt ?_);show wpAny _ _ (setField (.ref e) 3 (rawInt ((i:Int)+1)) >>= _) _ _ ⟨h1,g,d,tk+1,os⟩;refine wpAny_bind (wpAny_setField_rec e1 (by simp) λh2 e2 b2=>?_);replace b2:kw e h1 h2:=b2;replace e2:IsEnum h2 e it ((i:Int)+1) old:=e2;show wpAny _ _ (setField (.ref e) 4 .none >>= _) _ _ ⟨h2,g,d,tk+1,os⟩;refine wpAny_bind (wpAny_setField_rec e2 (by simp) λh3 e3 b3=>?_);replace b3:kw e h2 h3:=b3;replace e3:IsEnum h3 e it ((i:Int)+1) old:=e3;show wpAny _ _ (newTuple [.int i tk,x] >>= _) _ _ ⟨h3,g,d,tk+1,os⟩;refine wpAny_bind (wpAny_newTuple ?_);have e4:IsEnum (h3.push { cls:=.type "tuple",data:=.seq #[.int i tk,x] }) e it ((i:Int)+1) old:=jg _ e3;generalize hh4:h3.push { cls:=.type "tuple",data:=.seq #[.int i tk,x] }=h4 at e4;have sz:h3.objs.size=hp.objs.size:=by rw[b3.1,b2.1,b1.1]
 have el:e<hp.objs.size:=jp he;have t4:h4.get? hp.objs.size=Ga { cls:=.type "tuple",data:=.seq #[.int i tk,x] }:=by rw[<- hh4,<- sz];exact jv _ rfl
 have z4:h4.objs.size=hp.objs.size+1:=by rw[<- hh4,u9,sz]
 have k4:∀ b o,b≠e->b≠it->hp.get? b=Ga o->h4.get? b=Ga o:=λb o x1 x2 hb=>by
  rw[<- hh4];exact jg _ (b3.extBut b o x1 (b2.extBut b o x1 (b1.extBut b o x2 hb)))
 have it4:h4.IsTupleIter it l (i+1):=by
  rw[<- hh4];obtain⟨o,ho,r⟩:=(it1.extBut b2.extBut (kY hne)).extBut b3.extBut (kY hne);exact⟨o,jg _ ho,r⟩
 show wpAny _ _ (vm (.ref e) >>= _) _ _ ⟨h4,g,d,tk+1,os⟩;rw[sz];clear hh4 e3 b3 e2 b2 e1 b1 it1 sz h3 h2 h1;refine wpAny_bind ?_;unfold vm;refine wpAny_bind (wpAny_field e4 rfl (x:=.none) rfl (wpAny_pure ?_));simp only[if_true];refine wpAny_bind (wpAny_rule ?_);refine wpAny_bind (wpAny_field e4 rfl (x:=old) rfl ?_);refine wpAny_bind (wpAny_setField_rec e4 (by simp) λh5 e5 b5=>?_);replace b5:kw e h4 h5:=b5;replace e5:IsEnum h5 e it ((i:Int)+1) x:=e5;show wpAny _ _ (vf (.ref e) (.ref hp.objs.size) >>= _) _ _ ⟨h5,g,d,tk+1,os⟩;refine wpAny_bind ?_;unfold vf;refine wpAny_bind (wpAny_setField_rec e5 (by simp) λh6 e6 b6=>?_);replace b6:kw e h5 h6:=b6;replace e6:IsEnumOut h6 e it ((i:Int)+1) x hp.objs.size:=e6;refine wpAny_setField_rec e6 (by simp) λh7 e7 b7=>?_;replace b7:kw e h6 h7:=b7;replace e7:IsEnumOut h7 e it ((i:Int)+1) x hp.objs.size:=e7;refine wpAny_bind (wpAny_letGo (wpAny_pure ⟨_,rfl,wpAny_pure (hQ h7 e7 ?_ ?_ ?_ ?_)⟩))
 .exact((it4.extBut b5.extBut (kY hne)).extBut b6.extBut (kY hne)).extBut b7.extBut (kY hne)
 .exact b7.extBut _ _ (kZ el) (b6.extBut _ _ (kZ el) (b5.extBut _ _ (kZ el) t4))
 .rw[b7.1,b6.1,b5.1,z4]
 .exact λb o x1 x2 hb=>b7.extBut b o x1 (b6.extBut b o x1 (b5.extBut b o x1 (k4 b o x1 x2 hb)))
theorem znI {e it l:Gj}{i:Nat}{items:Array Gg}{old:Gg}{Q:Option Gg->Gh->Prop}(hh:A.handled=Gb)
  (he:IsEnum s.heap e it i old) (hit:s.heap.IsTupleIter it l i) (hl:s.heap.IsTuple l items) (hx:items[i]?=Gb)
  (hQ:∀ h',qM it s.heap h'->Q Gb { s with heap:=h' }):wpAny (model prog w) A (pyNext (.ref e)) Q E s:=by
 have hT:s.TypeIs (.ref e) "enumerate":=⟨_,he,rfl⟩;unfold pyNext;refine wpAny_bind (wpAny_attempt (wpAny_callSpecial?_slot (name:=uV "__next__") hT F.slot_enumerate_next
  (wpAny_call_entry F.slot_enumerate_next hT F.entry_enumerate_next ?_ (F.args_enumerate_next_1 _))))
 show wpAny _ _ (field (.ref e) 2 >>= _) _ _ _;refine wpAny_bind (wpAny_field he rfl (x:=.ref it) rfl ?_);refine wpAny_bind (zlU hh hit hl hx λh' x he' hx'=>?_);obtain⟨o,ho,hc⟩:=hx';refine wpAny_bind (wpAny_isInstance (T:="StopIteration") (b:=true) ⟨o,ho,hc⟩ isSubtype_stop ?_);exact wpAny_pure (hQ _ he')
open AutoSeq1 (wpAny_loadPart') in
theorem znJ (l:Gj)(items:Array Gg)(n:Nat)(dct:Option Gj)(sl:Array (Option Gg)) :
  Meets (Builtin.«enumerate.__new__» ⟨[.type "enumerate",.ref l],[]⟩) (λ_ R s=>s.heap.get? l=Ga { cls:=.type "tuple",dict:=dct,data:=.seq items n,slots:=sl } /\
   R (.ok (.ret (.ref (s.heap.push { cls:=.type "tuple_iterator",data:=.fields #[.ref l,.int 0 0] }).objs.size)))
    { s with heap:=(s.heap.push { cls:=.type "tuple_iterator",data:=.fields #[.ref l,.int 0 0] }).push { cls:=.type "enumerate",data:=.fields #[.none,.bool false,.ref s.heap.objs.size,rawInt 0,.none,.none] } }) :=
 .of_wp λprog w A R s h=>by
  obtain⟨hp,g,d,tk,os⟩:=s;obtain⟨hl,h⟩:=h;have hsub:=sub_enumerate;have hL:Heap.IsTuple (Shared.heap ⟨hp,g,d,tk,os⟩) l items:=⟨_,hl,rfl,n,rfl⟩
  wp_walk using wpAny_loadPart' hl
  refine wpAny_stack_any λst=>wpAny_pure ?_;split
  .rename_i c _ _ _ _ _;cases(c==uB "enumerate")
   .wp_walk using wpAny_loadPart' hl,wpAny_pyIter_tuple hL
    exact⟨_,rfl,h⟩
   .wp_walk using wpAny_loadPart' hl,wpAny_pyIter_tuple hL
    exact⟨_,rfl,h⟩
  .wp_walk using wpAny_loadPart' hl,wpAny_pyIter_tuple hL
   exact⟨_,rfl,h⟩
theorem zl2 {l:Gj}{items:Array Gg}{Q:Gg->Gh->Prop}(hL:s.heap.IsTuple l items)
  (h:∀ h',IsEnum h' (s.heap.objs.size+1) s.heap.objs.size 0 .none->h'.IsTupleIter s.heap.objs.size l 0->h'.objs.size=s.heap.objs.size+2 ->
   (∀ b o,s.heap.get? b=Ga o->h'.get? b=Ga o)->Q (.ref (s.heap.objs.size+1)) { s with heap:=h' }) :
  wpAny (model prog w) A (call (.type "enumerate") [.ref l]) Q E s:=by
 obtain⟨⟨c,dct,dt,sl⟩,hl,hc,n,hd⟩:=hL;replace hc:c=.type "tuple":=hc;replace hd:dt=.seq items n:=hd;subst hc hd;refine callType_new F.called_enumerate (by decide) (F.typeCall_enumerate_1 _) (F.newCall_enumerate_1 _) (λobj=>F.args_object_init_2 obj _) F.entry_enumerate_new
  (znJ l items n dct sl) ⟨hl,?_⟩
 have hz:(s.heap.push { cls:=.type "tuple_iterator",data:=.fields #[.ref l,.int 0 0] }).objs.size=s.heap.objs.size+1:=u9 ..;show _/\_;rw[hz];have he:IsEnum ((s.heap.push { cls:=.type "tuple_iterator",data:=.fields #[.ref l,.int 0 0] }).push
   { cls:=.type "enumerate",data:=.fields #[.none,.bool false,.ref s.heap.objs.size,rawInt 0,.none,.none] }) (s.heap.objs.size+1) s.heap.objs.size 0 .none:=by
  have:=jv (s.heap.push { cls:=.type "tuple_iterator",data:=.fields #[.ref l,.int 0 0] })
   (o:={ cls:=.type "enumerate",data:=.fields #[.none,.bool false,.ref s.heap.objs.size,rawInt 0,.none,.none] }) rfl
  rw[hz] at this;exact this
 refine⟨⟨_,he,rfl⟩,h _ he ⟨_,jg _ (jv _ rfl),rfl,rfl⟩ (by rw[u9,hz]) λb o x=>jg _ (jg _ x)⟩
end
def IteT (K:ja)(l:Gj):It :=
 ⟨λi H=>∃ xs x,SqT K H l xs/\xs[i]?=Ga x,
   λi H v H'=>∃ T x,v=.ref T/\H T=Gb/\H'=upd H T (.tup [.int i,x])/\∀ xs,SqT K H l xs->xs[i]?=Ga x,
   λi H=>∃ xs,SqT K H l xs/\xs[i]?=Gb⟩
theorem zl3 {P:Program}{w:World}{K:ja}{elts:List Expr}{x1:Nat}{pos:Pos}(l e it:Gj)(D:e≠it) :
  Turn P w K (.Tuple elts x1 pos) (IteT K l) [e,it] e (λi h=>(∃ old,IsEnum h e it (i:Nat) old)/\h.IsTupleIter it l i) where
 mem:=by simp
 obj:=λi h st b hb=>by
  obtain⟨⟨old,he⟩,s1⟩:=st;simp only[ju,ki,or_false] at hb;rcases hb with rfl|rfl
  .exact⟨_,he,λv q=>by cases q⟩
  .obtain⟨o,e,_,d⟩:=s1;exact⟨o,e,λv q=>by rw[d] at q;cases q⟩
 keep:=λi h h' st k=>by
  obtain⟨⟨old,he⟩,s1⟩:=st;exact⟨⟨old,k e (by simp) _ he⟩,s1.at λo e=>k it (by simp) o e⟩
 item:=by
  intro X hP hw hK hc i ω s σ H E I hf st hg;subst hP hw hK;obtain⟨⟨old,he⟩,s1⟩:=st;obtain⟨xs,x,q1,ex⟩:=hg;obtain⟨its,r1,o1,ol1,e1⟩:=zlV (t:=true) I q1;obtain⟨u1,eu1,ru1⟩:=r1.get ex;refine zl1 he s1 (o1:s.heap.IsTuple l its.toArray) (by simpa using eu1) D λh' e' s1' pT hn kk=>?_;have hT:H s.heap.objs.size=Gb:=I.fresh;have hch:∀ b∈[e,it],FpOk X ω H b:=hf;have kk':∀ b o,b∉[e,it]->s.heap.get? b=Ga o->h'.get? b=Ga o:=λb o hb q=>kk b o (λz=>hb (by simp[z])) (λz=>hb (by simp[z])) q;have nch:∀ b u,H b=Ga u->b∉[e,it]:=λb u q z=>by rw[(hch b z).1] at q;cases q
  have nT:∀ b o,s.heap.get? b=Ga o->b≠s.heap.objs.size:=λb o q=>jC (jp q);have nTu:∀ b u,H b=Ga u->b≠s.heap.objs.size:=λb u q z=>by rw[z,hT] at q;cases q
  have I1:Inv X ω σ (upd H s.heap.objs.size (.tup [.int i,x])) { s with heap:=h',toks:=s.toks+1 }:=by
   refine I.step (g':=s.gens) (d':=s.drawn) (ch:=[e,it]) (λb hb=>?_) (λb o _ _ hc q _=>kk' b o hc q) (λb o _ _ hc q _=>⟨o.slots,kk' b o hc q⟩) (λb o _ q n=>by rw[upd_ne (nT b o q)];exact n) (λb o hc q=>⟨o,kk' b o hc q⟩) (λb ts q=>by rw[upd_ne (nTu b _ q)];exact q) (λb _ _ q=>by rw[upd_ne (nTu b _ q)];exact q)
    (λb ps q=>⟨#[],by rw[upd_ne (nTu b _ q),q];simp⟩) (λm hm=>?_) (λb u q=>?_) I.bare
   .obtain⟨_,f1,_,f3,f4,f5⟩:=hch b hb;exact⟨f3,f1,f4,f5⟩
   .obtain⟨o,es,ep,ho,r⟩:=hm;exact⟨o,es,ep,kk' _ o (λq=>(hch _ q).2.1 rfl) ho,r⟩
   .by_cases hb:b=s.heap.objs.size
    .subst hb;rw[upd_same] at q;cases q;exact⟨(by show 2<=sizeLine;decide),[.int i s.toks,u1],.cons ⟨_,rfl⟩ (.cons ru1 .nil),⟨_,pT,rfl,_,rfl⟩⟩
    .rw[upd_ne hb] at q;refine(I.hok b u q).stay (λc v hc z=>kk' c v ?_ z) (λc z=>by rw[upd_ne (nTu c _ z)];exact z) λc ts z=>by rw[upd_ne (nTu c _ z)];exact z
     rcases hc with z|z
     .rw[z];exact nch b u q
     .exact nch c _ z
  refine⟨.ref s.heap.objs.size,rfl,?_⟩;refine wpAny_letOwnedTupleGo_enum e' λh2 z2 b2=>?_;have fe:FpOk X ω (upd H s.heap.objs.size (.tup [.int i,x])) e:=by
   obtain⟨f0,f1⟩:=hf e (by simp);exact⟨by rw[upd_ne (nT e _ he)];exact f0,f1⟩
  have I2:=zf3 (h':=h2) (ch:=[e]) I1 (λb hb=>by cases jh.mp hb;exact fe) (λb o hb q=>b2.extBut b o (λz=>hb (by simp[z])) q) (s.toks+1);have kz:∀ b o,b≠e->h'.get? b=Ga o->h2.get? b=Ga o:=λb o hb q=>b2.extBut b o hb q;refine⟨.ref s.heap.objs.size,_,I2,rfl,⟨s.heap.objs.size,x,rfl,hT,rfl,λxs' p1=>?_⟩,⟨⟨_,z2⟩,?_⟩,λb hb=>?_⟩
  .rw[zkW (t:=true) I p1 q1];exact ex
  .exact s1'.at λo q=>kz _ o (λz=>D z.symm) q
  .rw[upd_ne]
   .exact(hf b hb).1
   .simp only[ju,ki,or_false] at hb;rcases hb with rfl|rfl
    .exact nT _ _ he
    .obtain⟨o,q,_⟩:=s1;exact nT _ _ q
 done:=by
  intro X hP hw hK hc i ω s σ H E I hf st hg;subst hP hw hK;obtain⟨⟨old,he⟩,s1⟩:=st;obtain⟨xs,q1,ex⟩:=hg;obtain⟨its,r1,o1,ol1,e1⟩:=zlV (t:=true) I q1;have hh:X.A.handled=Gb:=I.ok.hd hc;have ex':its[i]?=Gb:=r1.none_of ex;refine znI hh he s1 (o1:s.heap.IsTuple l its.toArray) (by simpa using ex') λh' kk=>⟨rfl,?_⟩;exact zf3 (ch:=[it]) I (λb hb=>hf b (by simp only[ju,ki,or_false] at hb ⊢;exact kc hb)) (λb o hb q=>kk b o (λz=>hb (by simp[z])) q) s.toks
 self:=λ_ _ _ _ _ st h=>by obtain⟨⟨old,he⟩,_⟩:=st;exact wpAny_pyIter_enum he h
def enuT:D->Option (List D)
 | .tuple xs=>Ga ((jk xs.length).map λ(i:Nat)=>kH [.int (i:Int),xs.getD i .none])
 | _=>Gb
theorem ziU {K:ja}{F:Hp}{l:Gj}{xs:List V}{ds:List D}(h1:SqT K F l xs)(r1:Reps K F ds xs):Yields K (IteT K l) F ((jk ds.length).map λ(i:Nat)=>kH [.int (i:Int),ds.getD i .none]):=by
 intro H g i;have e1:=r1.length;refine⟨λhi=>⟨xs,seqT g h1,kr (by rw[jd,jz] at hi;omega)⟩,λd hd=>?_⟩;have hi:i<ds.length:=by have:=(je.mp hd).1;rw[jd,jz] at this;exact this
 obtain⟨v1,x1,x2⟩:=r1.get (jc hi);have ed:d=.tuple [.int (i:Int),ds[i]]:=by
  rw[jq,uj hi,v6,ji,jc hi] at hd;exact(jw hd).symm
 subst ed;refine⟨⟨xs,v1,seqT g h1,x1⟩,λx H' y=>?_⟩;obtain⟨T,a,rfl,hT,rfl,q⟩:=y;have q1:=q xs (seqT g h1);rw[x1] at q1;cases q1;obtain⟨s1,s2,s3,s4⟩:=grow1 (o:=.tup [.int i,v1]) g hT;exact⟨s1,_,s2,s3,s4,.tup (SqT.of upd_same) (.cons (.int _) (.cons (x2.mono s2) .nil))⟩
section
variable {X:Cx}{pos:Pos}
theorem zsF {a:Expr}{f:FV}{p p4:Pos}{elts:List Expr}{x1:Nat}(hg:Gl X "enumerate")(hm:X.mg "enumerate"=Gb)(ha:PV X a f)(hs:starEach [a] X.env=[(false,eval a X.env)]:=by rfl) :
  PIt X (.Tuple elts x1 p4) (.Call (.Name "enumerate" p) [a] [] pos) (λψ=>(f ψ).bind enuT):=by
 intro ω s σ H R I h;obtain⟨H0,F,ψ,ds,r,e0,q⟩:=h;obtain⟨d1,e1,e⟩:=bind_some e0;clear e0;refine Call_ (ld_blt I hg hm boot_enumerate (PyProof.Rows.callWith_type1 (thn (pa_cons ha pa_nil hs pos ω s σ H (λvs H2=>∃ l xs,vs=[.ref l]/\SqT X.K H2 l xs/\R (IteT X.K l) H2) I
  ⟨H0,F,ψ,d1,r,e1,λv H1 F1 g1 f1 fh1 n1 rv=>?_⟩) λus s1 ⟨vs,H2,I2,rvs,l,xs,ev,h1,hR⟩=>?_) hs (by rfl)))
 .cases rv<;>first|(cases e;done)|skip
  rename_i p1 xs ds1 h1 rr1;cases e;exact⟨p1,xs,rfl,seqT fh1 h1,q _ H1 F1 g1 f1 fh1 n1 λF3 f3=>ziU (seqT f3 h1) (rr1.mono f3)⟩
 .subst ev;cases rvs with
  | cons r1 r2 =>
   cases r2;cases r1;obtain⟨its,r1,o1,_⟩:=zlV (t:=true) I2 h1;refine zl2 (o1:s1.heap.IsTuple l its.toArray) λh' a1 a2 a3 a4=>?_;refine wpAny_pyIter_enum a1 ⟨_,[s1.heap.objs.size+1,s1.heap.objs.size],_,_,H2,rfl,I2.kept (t':=s1.toks) a4,zl3 l _ _ (show(s1.heap.objs.size+1:Nat)≠s1.heap.objs.size by omega),⟨⟨_,a1⟩,a2⟩,λb hb=>?_,hR⟩;have hb':s1.heap.objs.size<=b:=by
    simp only[ju,ki,or_false] at hb;rcases hb with rfl|rfl<;>first|exact jo _|exact Jq _ _
   exact I2.fpOk hb' (I2.hok.fresh hb')
end
end T3
namespace T3
open PySem PySem.Spec PyProof.Rows L2
def prj2 (ix:List Nat)(σ:St):St:=Gb::prj ix σ
section
variable {prog:Program}{w:World}{A:Around}{R:Result->Gh->Prop}{s:Gh}
theorem compLoopG {elt target iter:Expr}{ifs:List Expr}{scope:Scope}{pos:Pos}{it acc:Gg}{ψ:Env}(I:Nat->Gh->Prop)
  (turn:∀ n s,I n s->wpAny (model prog w) A (pyNext it) (λr s1=>match r with
   | none=>R (.ok .next) s1
   | some v=>wpAny (model prog w) A (letOwnedTupleGo target it v) (λ_ s2=>wpAny (model prog w) A (assign target ψ v) (λ_ s3 =>
     wpAny (model prog w) A (forIn ifs true λc r=>if r=true then do let ok <- isTrue c ψ (eval c ψ);pure (ForInStep.yield ok) else pure (ForInStep.yield r)) (λok s4 =>
      if ok=true then wpAny (model prog w) A (eval elt ψ) (λx s5 =>
       wpAny (model prog w) A (call (.builtin "list.append") [acc,x]) (λ_ s6=>∃ m,m<n/\I m s6) (notedBy (model prog w) A ψ λe s'=>R (.error e) s') s5) (notedBy (model prog w) A ψ λe s'=>R (.error e) s') s4
      else ∃ m,m<n/\I m s4) (notedBy (model prog w) A ψ λe s'=>R (.error e) s') s3) (notedBy (model prog w) A ψ λe s'=>R (.error e) s') s2) (notedBy (model prog w) A ψ λe s'=>R (.error e) s') s1) (notedBy (model prog w) A ψ λe s'=>R (.error e) s') s)
  (n:Nat) (h:I n s):codeAny (model prog w) A (.compLoop (.ListComp elt [⟨target,iter,ifs,0⟩] scope pos) 0 it acc ψ) R s:=by
 refine codeAny_loop rfl I (λn s hI=>?_) n h;show wpAny _ A ((compTurn (.ListComp elt [⟨target,iter,ifs,0⟩] scope pos) 0 it acc ψ).onRaise (λx=>do noteFrame x ψ;theTreesLotGoes x)) _ _ s;refine wpAny_noted ?_;rw[compTurn_list];refine wpAny_bind (wpAny_standAt (wpAny_bind (wpAny_mono (turn n s hI) (λr s1 h1=>?_) λ_ _ z=>z)));cases r with
 | none=>exact wpAny_pure h1
 | some v =>
  refine wpAny_bind (wpAny_mono h1 (λ_ s2 h2=>wpAny_bind (wpAny_mono h2 (λ_ s3 h3=>wpAny_bind (wpAny_mono h3 (λok s4 h4=>?_) λ_ _ z=>z)) λ_ _ z=>z)) λ_ _ z=>z);cases ok with
  | false=>exact wpAny_pure ⟨rfl,h4⟩
  | true=>exact wpAny_bind (wpAny_bind (wpAny_mono h4 (λx s5 h5=>wpAny_bind (wpAny_mono h5 (λ_ s6 h6=>wpAny_pure (wpAny_pure ⟨rfl,h6⟩)) λ_ _ z=>z)) λ_ _ z=>z))
end
section
variable {X:Cx}{ω:List (Gj×Obj)}{σ:St}{H2:Hp}{s2:Gh}{elt iter tg:Expr}{x xb:Str}{px pos:Pos}{ifs:List Expr}{scope:Scope}{cl:List (Str×Gj)}{fr:List Str}{ix:List Nat}
theorem zl4 {E:Gg->Gh->Prop}(S:CompSc X.N X.env.scope scope x fr ix)(hl1:∀ x c,cl.lookup x=Ga c->X.env.cells.lookup x=Ga c)(hl2:∀ x,(x,jS)∈scope.names->∃ c,cl.lookup x=Ga c)
  {it:Gj} {fp:List Gj} {tn:Nat->Heap->Prop} {J:It} (I:Inv X ω σ H2 s2) (T:Turn X.prog X.w X.K tg J fp it tn) (st:tn 0 s2.heap) (hf:∀ b∈fp,FpOk X ω H2 b) (hc:X.calm=true)
  {Qv:Gj->Hp->Prop} {g:TG} {tc:TT} {te:TE}
  (hblk:∀ C s H,PG (cxComp X scope cl C (x::xb::fr) s H fp ω) tg g/\PIf (cxComp X scope cl C (x::xb::fr) s H fp ω) ifs tc/\PE (cxComp X scope cl C (x::xb::fr) s H fp ω) elt te)
  (hW:∀ D0,H2 D0=Gb->CompW J g tc te D0 (prj2 ix σ) (upd H2 D0 (.lst [])) (Qv D0))
  {RR:Gg->Gj->Result->Gh->Prop}
  (hRR:∀ D0 C s' H',Inv X ω σ H' s'->s2.heap.objs.size<=C->(∃ m,s'.heap.Ns C m)->H' C=Gb->Qv D0 H'->RR (.ref D0) C (.ok .next) s') :
  wpAny (model X.prog X.w) X.A (newList []) (λacc s3=>wpAny (model X.prog X.w) X.A (newFunctionEnv scope X.env.globals cl [] X.env.qual Gb .none (Ga X.env)) (λcenv s4 =>
   codeAny (model X.prog X.w) X.A (.compStart (.ListComp elt [⟨tg,iter,ifs,0⟩] scope pos) 0 (.ref it) acc { cenv with scope:=relabel scope X.env }) (RR acc cenv.locals) s4) E s3) E s2:=by
 have hD0:H2 s2.heap.objs.size=Gb:=I.fresh;obtain⟨W,⟨m0,w0⟩,turn⟩:=hW s2.heap.objs.size hD0;have I3:=I.lnew (t':=s2.toks) (ys:=[]) (its:=[]) .nil (jY _);refine wpAny_newList (wpAny_newFunctionEnv S.nocell (by intro y hy;simp at hy) (λh1 hns hsb=>?_) S.kind);dsimp only at hns hsb ⊢;generalize hHp:s2.heap.push { cls:=.type "list",dict:=Gb,data:=.seq ([]:List Gg).toArray }=P2 at hns hsb I3 ⊢;have hC:P2.objs.size=s2.heap.objs.size+1:=by rw[<- hHp,u9]
 have keep:∀ b o,P2.get? b=Ga o->h1.get? b=Ga o:=λb o e=>hsb.extBut b o (jC (jp e)) (jg _ e);have neC:∀ b o,P2.get? b=Ga o->b≠P2.objs.size:=λb o e=>jC (jp e);have keep2:∀ b o,s2.heap.get? b=Ga o->P2.get? b=Ga o:=λb o e=>by rw[<- hHp];exact jg _ e
 have fpo:∀ b∈fp,∃ o,s2.heap.get? b=Ga o/\∀ v,o.data≠.cell v:=λb hb=>T.obj 0 _ st b hb;have fpC:∀ b∈fp,b≠P2.objs.size:=λb hb=>by obtain⟨o,e,_⟩:=fpo b hb;exact neC b o (keep2 b o e)
 have fpD:∀ b∈fp,b≠s2.heap.objs.size:=λb hb=>by obtain⟨o,e,_⟩:=fpo b hb;exact jC (jp e)
 have fpS:∀ b∈fp,b∉frs X.stack:=λb hb z=>by
  obtain⟨_,f1,f2,_⟩:=hf b hb;rcases ju.mp (I.stkSub b z) with q|q
  .exact f1 q
  .exact f2 q
 have cellK:∀ x c,cl.lookup x=Ga c->∃ v,P2.IsCell c v:=λx c e=>by
  obtain⟨v,o,ho,hd⟩:=I.cell x c (hl1 x c e);exact⟨v,o,keep2 c o ho,hd⟩
 have okB:(cxComp X scope cl P2.objs.size (x::xb::fr) { s2 with heap:=P2 } (upd H2 s2.heap.objs.size (.lst [])) fp ω).Ok:=by
  refine⟨I.ok.mod,by show(relabel scope X.env).kind=_;exact S.kind,I.ok.glob,I.ok.blt,jo _,λy z c e1 e2=>?_,λy hy=>?_,λy c hfn _=>?_,I.ok.hd,I.ok.frames,.inl rfl,λb hb=>⟨fpC b hb,λy c e=>?_⟩,λb o e=>?_,?_,λb o e hb=>?_,fpS,I3.stack,I3.stkFree⟩
  .exact I.ok.inj y z c (hl1 y c e1) (hl1 z c e2)
  .
   have hy':(relabel scope X.env).names.lookup y=Ga .cell\/(relabel scope X.env).names.lookup y=Ga .free:=hy;have mem:(y,jS)∈scope.names:=by
    have hfind:∀ (names:List (Str×NameKind)),(∀ z∈names,z.2≠.cell)->((names.map λ(n,k)=>if (k==jS&&X.env.scope.kind==.function&&X.env.kindOf n==Ga .cell) then(n,uM) else(n,k)).lookup y=Ga .cell \/
      (names.map λ(n,k)=>if (k==jS&&X.env.scope.kind==.function&&X.env.kindOf n==Ga .cell) then(n,uM) else(n,k)).lookup y=Ga .free)->(y,jS)∈names:=by
     intro names;induction names with
     | nil=>intro _ h;simp at h
     | cons p r ih =>
      obtain⟨n,k⟩:=p;intro hn h;have ih':=ih (λz hz=>hn z (jm _ hz));have hk:k≠.cell:=hn (n,k) jn;rw[jR] at h;dsimp only at h;by_cases hcnd:(k==jS&&X.env.scope.kind==.function&&X.env.kindOf n==Ga .cell)=true
      .rw[Ge hcnd] at h;have hkf:k=.free:=by simp only[jE,beq_iff_eq] at hcnd;exact hcnd.1.1
       cases hx:y==n with
       | true=>rw[beq_iff_eq.mp hx,hkf];exact jn
       | false =>
        rw[j7,hx] at h;exact jm _ (ih' h)
      .rw[Gf hcnd] at h;cases hx:y==n with
       | true =>
        rw[j7,hx] at h;rcases h with h|h
        .exact absurd (jw h) hk
        .rw[beq_iff_eq.mp hx,<- jw h];exact jn
       | false =>
        rw[j7,hx] at h;exact jm _ (ih' h)
    exact hfind scope.names S.nocell hy'
   exact hl2 y mem
  .cases hfn
  .obtain⟨_,_,_,_,f4,_⟩:=hf b hb;exact f4 y c (hl1 y c e)
  .obtain⟨e1,e2⟩:=I3.bs b o e;exact⟨e1,e2⟩
  .exact j9 I.ok.bsz I3.sz
  .obtain⟨_,_,_,f3,_⟩:=hf b hb;rcases f3 with z|z
   .exact I.ok.noex b o e z
   .exact absurd (jA (jp e) (j9 I.ok.bsz z)) (kK _)
 have i4:Inv (cxComp X scope cl P2.objs.size (x::xb::fr) { s2 with heap:=P2 } (upd H2 s2.heap.objs.size (.lst [])) fp ω) [] (prj2 ix σ) (upd H2 s2.heap.objs.size (.lst [])) { s2 with heap:=h1,toks:=s2.toks+([]:List (Str×Gg)).length }:=by
  refine⟨okB,rfl,I.bare,Un.kept keep,⟨_,hns,λi y v e1 e2 e3=>?_⟩,λy c e=>?_,?_,λy c e=>?_,λp hp=>?_,I3.hok.kept keep,?_⟩
  .cases i with
   | zero=>simp[prj2,prj] at e2
   | succ j' =>
     cases j' with
     | zero=>simp[prj2,prj] at e2
     | succ j =>
    have e1':fr[j]?=Ga y:=by simpa [cxComp] using e1
    have hj:j<ix.length:=by rw[<- S.len];exact(je.mp e1').1
    have eix:ix[j]?=Ga ix[j]:=jc hj;have e2':(σ[ix[j]]?).join=Ga v:=by simpa [prj2,prj,eix] using e2
    have e2'':σ[ix[j]]?=Ga (Ga v):=by
     cases z:σ[ix[j]]? with
     | none=>rw[z] at e2';cases e2'
     | some w=>rw[z] at e2';cases e2';rfl
    have hN:=S.at_ j ix[j] y eix e1';have hfree:=S.free y (jL e1');have hmem:(y,jS)∈scope.names:=ui hfree;have hout:=S.outs _ hmem rfl;obtain⟨m,hn,hl⟩:=I.loc;obtain⟨u,ru,lk⟩:=hl ix[j] y v hN e2'' (hout.elim (λz=>.inr (.inl z)) λz=>.inr (.inr z));refine⟨u,ru,.inr ?_⟩;rcases lk with ⟨k,_⟩|⟨k,c,ec,hcell⟩
    .exfalso;have k':X.env.scope.names.lookup y=Ga .local:=k;rcases hout with z|z
     .rw[z] at k';cases k'
     .rw[z] at k';cases k'
    .obtain⟨c',ec'⟩:=hl2 y hmem;have:c'=c:=by have:=hl1 y c' ec';rw[ec] at this;cases this;rfl
     subst this;obtain⟨o,ho,hd⟩:=hcell;exact⟨zdM (ψ:=X.env) hfree,c',ec',o,keep _ o (keep2 _ o ho),hd⟩
  .obtain⟨v,o,ho,hd⟩:=cellK y c e;exact⟨v,o,keep _ o ho,hd⟩
  .show upd H2 s2.heap.objs.size (.lst []) P2.objs.size=Gb;exact I3.hok.fresh (jo _)
  .exact I3.freeC y c (hl1 y c e)
  .have hp':p∈X.pn++ω:=by simpa [cxComp] using hp
   obtain⟨e,n,ne,nf,d⟩:=I3.pin p hp';refine⟨keep _ _ e,n,neC _ _ e,λz=>?_,d⟩;rcases ju.mp (I.stkSub _ z) with q|q
   .exact ne q
   .exact nf q
  .simp[prj2,prj,cxComp,S.len]
 obtain⟨hg,hif,he⟩:=hblk P2.objs.size { s2 with heap:=P2 } (upd H2 s2.heap.objs.size (.lst []));generalize hX':cxComp X scope cl P2.objs.size (x::xb::fr) { s2 with heap:=P2 } (upd H2 s2.heap.objs.size (.lst [])) fp ω=X' at okB i4 hg hif he;have xA:X'.A=X.A:=by rw[<- hX'];rfl
 have xP:X'.prog=X.prog:=by rw[<- hX'];rfl
 have xw:X'.w=X.w:=by rw[<- hX'];rfl
 have xK:X'.K=X.K:=by rw[<- hX'];rfl
 have xc:X'.calm=true:=by rw[<- hX'];exact hc
 have xe:X'.env=compEnvC scope cl P2.objs.size X.env:=by rw[<- hX'];rfl
 have xx:∀ v s,X'.xe v s->False:=by rw[<- hX'];exact λ_ _ z=>z
 have stat:∀ {H':Hp},(∀ b∈fp,H' b=Gb)->∀ b∈fp,FpOk X' [] H' b:=λhn b hb=>by
  obtain⟨_,f1,f2,f3,f4,f5⟩:=hf b hb;refine⟨hn b hb,?_,?_,?_,?_,?_⟩
  .rw[xe];exact fpC b hb
  .rw[<- hX'];exact fpS b hb
  .rw[<- hX'];exact .inl hb
  .rw[<- hX'];exact λy c e=>f4 y c (hl1 y c e)
  .rw[<- hX'];intro p hp;exact f5 p (by simpa [cxComp] using hp)
 have st1:tn 0 h1:=T.keep 0 _ _ st λb hb o e=>keep b o (keep2 b o e);have fr0:∀ b∈fp,upd H2 s2.heap.objs.size (.lst []) b=Gb:=λb hb=>by rw[upd_ne (fpD b hb)];exact(hf b hb).1
 have loop:∀ s4:Gh,s4={ s2 with heap:=h1,toks:=s2.toks+([]:List (Str×Gg)).length } ->
   codeAny (model X.prog X.w) X.A (.compLoop (.ListComp elt [⟨tg,iter,ifs,0⟩] scope pos) 0 (.ref it) (.ref s2.heap.objs.size) (compEnvC scope cl P2.objs.size X.env)) (RR (.ref s2.heap.objs.size) P2.objs.size) s4:=by
  rintro s4 rfl;refine compLoopG (λn s'=>∃ i σ' H',Inv X' [] σ' H' s'/\tn i s'.heap/\(∀ b∈fp,H' b=Gb)/\W i n σ' H') ?_ m0 ⟨0,_,_,i4,st1,fr0,w0⟩;rintro n s5 ⟨i,σ5,H5,I5,st5,fr5,w5⟩;rcases turn i n σ5 H5 w5 with ⟨stop,qn⟩|⟨go,N,hN,step⟩
  .have dn:=T.done X' xP xw xK xc i [] s5 σ5 H5 (λ_ _=>False) I5 (stat fr5) st5 stop;rw[xA] at dn;refine wpAny_mono dn (λr s6 ⟨hr,I6⟩=>?_) λ_ _ z=>z.elim;subst hr;have base6:Un (frs X.stack) fp (upd H2 s2.heap.objs.size (.lst [])) H5 P2 s6.heap:=by have:=I6.base;rw[<- hX'] at this;exact this
   have os6:s6.os=s2.os:=by have:=I6.os;rw[<- hX'] at this;exact this
   have hok6:HOk X.prog X.w H5 s6.heap:=by have:=I6.hok;rw[xP,xw] at this;exact this
   have I7:Inv X ω σ H5 s6:=Inv.call' (s:={ s2 with heap:=P2,toks:=s2.toks }) I3 os6 base6 hok6 I6.bare λb hb=>by
    obtain⟨_,f1,_,f3,f4,f5⟩:=hf b hb;exact⟨f3,f1,f4,f5⟩
   refine hRR _ _ s6 H5 I7 (by rw[hC];exact vV _) ?_ ?_ qn
   .obtain⟨m,hm,_⟩:=I6.loc;rw[xe] at hm;exact⟨m,hm⟩
   .have:=I6.free;rw[xe] at this;exact this
  .have itm:=T.item X' xP xw xK xc i [] s5 σ5 H5 (λ_ _=>False) I5 (stat fr5) st5 go;rw[xA] at itm;refine wpAny_mono itm (λr s6 ⟨u,hr,h6⟩=>?_) λ_ _ z=>z.elim;subst hr;refine wpAny_mono h6 (λ_ s7 ⟨xv,H7,I7,r7,y7,st7,fr7⟩=>?_) λ_ _ z=>z.elim;have I7':=I7.pinned (stat fr7) (T.obj _ _ st7);have stepx:=step xv H7 y7;have asg:=hg _ s7 σ5 H7 xv u _ I7' r7 stepx;rw[xA,xP,xw,xe] at asg;refine wpAny_mono asg (λ_ s8 ⟨σ8,H8,I8,q8⟩=>?_) λ_ _ z=>(xx _ _ z).elim;have again:∀ {H9:Hp} {s9:Gh},Inv X' ([]++pinsAt fp s7.heap) σ8 H9 s9->N σ8 H9->∃ m,m<n/\∃ i σ' H',Inv X' [] σ' H' s9/\tn i s9.heap/\(∀ b∈fp,H' b=Gb)/\W i m σ' H':=λ{H9 s9} I9 n9=>by
    obtain⟨m',hm,w9⟩:=hN σ8 H9 n9;refine⟨m',hm,i+1,σ8,H9,I9.unpinned,T.keep _ _ _ st7 λb hb o e=>(I9.pin (b,o) (jJ _ (jJ _ (mem_pinsAt hb e)))).1,λb hb=>?_,w9⟩;obtain⟨o,e,d⟩:=T.obj _ _ st7 b hb;exact(I9.pin (b,o) (jJ _ (jJ _ (mem_pinsAt hb e)))).2.1
   have fin:∀ (ok:Bool) (H9:Hp) (s9:Gh),Inv X' ([]++pinsAt fp s7.heap) σ8 H9 s9->(if ok=true then te σ8 H9 λy H4=>∃ ys,H4 s2.heap.objs.size=Ga (.lst ys)/\ys.length<sizeLine/\N σ8 (upd H4 s2.heap.objs.size (.lst (ys++[y]))) else N σ8 H9) ->
     if ok=true then wpAny (model X.prog X.w) X.A (eval elt (compEnvC scope cl P2.objs.size X.env)) (λxv s10=>wpAny (model X.prog X.w) X.A (call (.builtin "list.append") [.ref s2.heap.objs.size,xv]) (λ_ s11=>∃ m,m<n/\∃ i σ' H',Inv X' [] σ' H' s11/\tn i s11.heap/\(∀ b∈fp,H' b=Gb)/\W i m σ' H')
      (notedBy (model X.prog X.w) X.A (compEnvC scope cl P2.objs.size X.env) λe s'=>RR (.ref s2.heap.objs.size) P2.objs.size (.error e) s') s10) (notedBy (model X.prog X.w) X.A (compEnvC scope cl P2.objs.size X.env) λe s'=>RR (.ref s2.heap.objs.size) P2.objs.size (.error e) s') s9
     else ∃ m,m<n/\∃ i σ' H',Inv X' [] σ' H' s9/\tn i s9.heap/\(∀ b∈fp,H' b=Gb)/\W i m σ' H':=by
    intro ok H9 s9 I9 q9;cases ok with
    | false =>
     rw[Gf jx] at q9 ⊢;exact again I9 q9
    | true =>
     rw[Ge rfl] at q9 ⊢;have ev:=he _ s9 σ8 H9 _ I9 q9;rw[xA,xP,xw,xe] at ev;refine wpAny_mono ev (λu s10 ⟨y,H10,I10,r10,ys,hys,hz,q10⟩=>?_) λ_ _ z=>(xx _ _ z).elim;have ap:=mt_append (X:=X') _ s10 σ8 H10 (.ref s2.heap.objs.size) [y] (.ref s2.heap.objs.size) [u] (λ_ H'=>N σ8 H') I10 rfl (.cons r10 .nil) ⟨_,ys,y,rfl,rfl,hys,hz,q10⟩;rw[xA,xP,xw] at ap;refine wpAny_mono ap (λ_ s11 ⟨_,H11,I11,_,q11⟩=>again I11 q11) λ_ _ z=>(xx _ _ z).elim
   match ifs,hif with
   | [],hif=>exact wpAny_tests_nil (by
     have hif':tc=λ_ H Q=>Q true H:=hif;rw[hif'] at q8;exact fin true H8 s8 I8 q8)
   | [c],hif =>
    have tst:=(show PT X' c tc from hif) _ s8 σ8 H8 _ I8 q8;rw[xA,xP,xw,xe] at tst;exact wpAny_tests_one (wpAny_mono tst (λok s9 ⟨H9,I9,q9⟩=>fin ok H9 s9 I9 q9) λ_ _ z=>(xx _ _ z).elim)
   | _::_::_,hif=>exact hif.elim
 exact codeAny_compStart_list (loop _ rfl) (T.self _ 0 _ _ _ st1 (loop _ rfl))
end
def lift2 {α:Type}(f:En->Option α):En->Option α
 | .val (.tuple [a,b])::base=>f (.val a::.val b::base)
 | _=>Gb
theorem zl5 {α:Type}{f:En->Option α}{d:D}{base:En}{r:α}(h:lift2 f (.val d::base)=Ga r):∃ a b,d=.tuple [a,b]/\f (.val a::.val b::base)=Ga r:=by
 unfold lift2 at h;split at h
 .rename_i z;cases z;exact⟨_,_,rfl,h⟩
 .cases h
abbrev tg2:FT:=tgT (tgCons (tgN 0) (tgCons (tgN 1) tgNil))
theorem RS.pushNo {K:ja}{H0 F H:Hp}{ψ:En}{σ:St}(r:RS K H0 F H ψ σ):RS K H0 F H (.no::ψ) (Gb::σ):=by
 refine⟨r.h0,r.fh,λi s e=>?_,λi j a s t o1 o2 e1 e2 e3 e4=>?_⟩
 .cases i with
  | zero=>cases e;exact⟨Gb,rfl,trivial⟩
  | succ j=>exact r.sl j s e
 .cases i with
  | zero=>cases e1;cases o1
  | succ i' =>
   cases j with
   | zero=>cases e2;cases o2
   | succ j'=>exact congrArg uC (r.ap i' j' a s t o1 o2 e1 e2 e3 e4)
theorem zjX {K:ja}{J:It}{H0 F1 H1:Hp}{ψ:En}{σ:St}{ds rs:List D}{fc:FB}{fe:FV}{ix:List Nat}{tc:TT}{D0:Gj}{Qv:Hp->Prop}{g:TG}
  (hg:∀ v σ H Q,tG K tg2 v σ H Q->g v σ H Q)
  (htc:∀ σ H Q,tT K fc σ H Q->tc σ H Q) (nd:ix.Nodup) (r:RS K H0 F1 H1 ψ σ) (Y:∀ F2,Same F1 F2->Yields K J F2 ds) (e:compD (lift2 fc) (lift2 fe) (prjE ix ψ) ds=Ga rs) (hz:ds.length<=1000000) (hD:H1 D0=Gb)
  (q:∀ xs H' F',Same H1 H'->Same F1 F'->Same F' H'->New F1 F' H1->F' D0=Gb->H' D0=Ga (.lst xs)->Reps K F' rs xs->Qv H') :
  CompW J g tc (tV K fe) D0 (prj2 ix σ) (upd H1 D0 (.lst [])) Qv:=by
 have fD:F1 D0=Gb:=r.fh.free hD;have h0D:H0 D0=Gb:=r.h0.free hD;have g0:Same H1 (upd H1 D0 (.lst [])):=Same.new hD;refine⟨λi m σ' H'=>i+m=ds.length/\∃ F2 sx sy don ys rest,RS K (upd H0 D0 (.lst ys)) F2 H' (sx::sy::prjE ix ψ) σ'/\Same F1 F2/\New F1 F2 H1/\Same H1 H'/\F2 D0=Gb/\H' D0=Ga (.lst ys)/\Reps K F2 don ys/\don.length<=i /\
  compD (lift2 fc) (lift2 fe) (prjE ix ψ) (ds.drop i)=Ga rest/\rs=don++rest,⟨ds.length,by omega,F1,.no,.no,[],[],rs,(r.prj ix nd).pushNo.lend hD,.refl _,.refl _ _,g0,fD,upd_same,.nil,jo _,e,rfl⟩,?_⟩
 rintro i m σ' H' ⟨hm,F2,sx,sy,don,ys,rest,r2,f2,n2,g2,fd2,hd2,rr2,hl2,e2,ers⟩;obtain⟨yd,yg⟩:=Y F2 f2 H' r2.fh i;by_cases hlt:i<ds.length
 .obtain⟨go,yy⟩:=yg ds[i] (by simp[hlt]);rw[uF hlt] at e2;unfold compD at e2;obtain⟨b,x1,x2⟩:=bind_some e2;obtain⟨p1,p2,ep,x1⟩:=zl5 x1;refine .inr ⟨go,λσ3 H3=>i+1+(m-1)=ds.length/\∃ F2 sx sy don ys rest,RS K (upd H0 D0 (.lst ys)) F2 H3 (sx::sy::prjE ix ψ) σ3/\Same F1 F2/\New F1 F2 H1/\Same H1 H3/\F2 D0=Gb/\H3 D0=Ga (.lst ys)/\Reps K F2 don ys/\don.length<=i+1 /\
   compD (lift2 fc) (lift2 fe) (prjE ix ψ) (ds.drop (i+1))=Ga rest/\rs=don++rest,λσ3 H3 h3=>⟨m-1,by omega,h3⟩,λx Hx yl=>?_⟩
  obtain⟨gx,F4,f4,fh4,n4,rx⟩:=yy x Hx yl;have r4:=r2.grow gx f4 fh4 n4;have noD:∀ {F F' H:Hp},F D0=Gb->(∃ o,H D0=Ga o)->New F F' H->F' D0=Gb:=λ{F F' H} a ⟨o,b⟩ n=>by
   cases z:F' D0 with
   | none=>rfl
   | some o'=>have:=n D0 o' z a;rw[b] at this;cases this
  have fd4:F4 D0=Gb:=noD fd2 ⟨_,hd2⟩ n4;refine hg _ _ _ _ ⟨upd H0 D0 (.lst ys),F4,sx::sy::prjE ix ψ,ds[i],.val p1::.val p2::prjE ix ψ,r4,rx,by rw[ep];rfl,λσ5 r5=>?_⟩;refine htc _ _ _ ⟨upd H0 D0 (.lst ys),F4,.val p1::.val p2::prjE ix ψ,b,r5,x1,λH6 g6=>?_⟩;have r6:=r5.later g6;have hd6:H6 D0=Ga (.lst ys):=g6 _ _ (gx _ _ hd2);have s6:Same H1 H6:=g2.trans (gx.trans g6);have nn4:New F1 F4 H1:=n2.trans n4 g2;cases b with
  | true =>
   obtain⟨y,x3,x4⟩:=bind_some x2;rw[ep] at x3;obtain⟨ys',x5,x6⟩:=bind_some x4;cases x6;refine iteT ⟨upd H0 D0 (.lst ys),F4,.val p1::.val p2::prjE ix ψ,y,r6,x3,λv H7 F7 g7 f7 fh7 n7 rv=>⟨ys,g7 _ _ hd6,?_,by omega,F7,.val p1,.val p2,don++[y],ys++[v],ys',?_,f2.trans (f4.trans f7),?_,?_,noD fd4 ⟨_,hd6⟩ n7,upd_same,?_,?_,x5,?_⟩⟩
   .rw[<- rr2.length];have:don.length<1000000:=by omega
    exact jA this (by rw[sizeLine_eq];decide)
   .exact(r6.grow g7 f7 fh7 n7).swap (noD fd4 ⟨_,hd6⟩ n7)
   .exact nn4.trans n7 s6
   .exact(s6.trans g7).put hD (Ow.nf (ob:=.lst ys) trivial (g7 _ _ hd6))
   .exact((rr2.mono f4).mono f7).append (.cons rv .nil)
   .rw[jB,kL];omega
   .rw[ers,kD];rfl
  | false =>
   exact iteF ⟨by omega,F4,.val p1,.val p2,don,ys,rest,r6,f2.trans f4,nn4,s6,fd4,hd6,rr2.mono f4,by omega,x2,ers⟩
 .rw[uW (by omega)] at e2;cases e2;refine .inl ⟨yd (by omega),q ys H' F2 g2 f2 r2.fh n2 fd2 hd2 ?_⟩;rw[ers,jX];exact rr2
section
variable {X:Cx}{elt iter tg:Expr}{x xb:Str}{px pxb pt pos:Pos}{tk:Nat}{ifs:List Expr}{scope:Scope}{fr:List Str}{ix:List Nat}{fi:FL}{fc:FB}{fe:FV}
structure Blk2 (X:Cx)(scope:Scope)(tg:Expr)(x xb:Str)(fr:List Str)(ifs:List Expr)(elt:Expr)(fc:FB)(fe:FV):Prop where
 h:∀ cl C s H fp ω,PTg (cxComp X scope cl C (x::xb::fr) s H fp ω) tg tg2 /\
  PIf (cxComp X scope cl C (x::xb::fr) s H fp ω) ifs (tcOf X.K ifs fc)/\PV (cxComp X scope cl C (x::xb::fr) s H fp ω) elt fe
 hn:ifs=[]->fc=λ_=>Ga true
theorem blk20 (hc:X.calm=true)(nd:(x::xb::fr).Nodup)(hl:scope.names.lookup x=Ga .local)(hl2:scope.names.lookup xb=Ga .local)(he:∀ cl C s H fp ω,PV (cxComp X scope cl C (x::xb::fr) s H fp ω) elt fe):Blk2 X scope (.Tuple [.Name x px,.Name xb pxb] tk pt) x xb fr [] elt (λ_=>Ga true) fe :=
 ⟨λcl C s H fp ω=>⟨zm2 hc (zeN (ziN 0 nd rfl (.inl (lookup_relabel_local hl)) (.inr (lookup_relabel_local hl))) (zeN (ziN 1 nd rfl (.inl (lookup_relabel_local hl2)) (.inr (lookup_relabel_local hl2))) zm1)),rfl,he cl C s H fp ω⟩,λ_=>rfl⟩
theorem Blk2.tc (B:Blk2 X scope tg x xb fr ifs elt fc fe):∀ σ H Q,tT X.K fc σ H Q->tcOf X.K ifs fc σ H Q:=by
 intro σ H Q h;cases ifs with
 | nil =>
  obtain⟨H0,F,ψ,b,r,e,q⟩:=h;rw[B.hn rfl] at e;cases e;exact q H (.refl _)
 | cons c r=>exact h
theorem zsG (hc:X.calm=true)(S:CompSc X.N X.env.scope scope x fr ix)(hi:PIt X tg iter fi)(B:Blk2 X scope tg x xb fr ifs elt fc fe)(hs:∀ v,foldedSetIterable iter X.env v=pure v:=by intro _;rfl) :
  PO X (.ListComp elt [⟨tg,iter,ifs,0⟩] scope pos) (compF fi (lift2 fc) (lift2 fe) ix):=by
 intro ω s σ H Q I hw;obtain⟨cl,hclos,hl1,hl2⟩:=zjQ I S;obtain⟨H0,F,ψ,rs,r,e,q⟩:=hw;obtain⟨ds,e1,e⟩:=bind_some e;split at e;rotate_left
 .cases e
 rename_i hz;rw[eval_ListComp];refine wpAny_comprehension_free (use:=Gb) rfl hs hclos S.kind S.locs (wpAny_mono (hi ω s σ H (λJ H1=>∃ F1,Same H H1/\Same F F1/\Same F1 H1/\New F F1 H/\∀ F2,Same F1 F2->Yields X.K J F2 ds) I ⟨H0,F,ψ,ds,r,e1,λJ H1 F1 g1 f1 fh1 n1 Y=>⟨F1,g1,f1,fh1,n1,Y⟩⟩)
  (λxv s1 h1=>wpAny_mono h1 (λitv s2 h2=>?_) λ_ _ z=>z) λ_ _ z=>z)
 obtain⟨it,fp,tn,J,H2,eit,I2,T,st2,f2,F1,g1,f1,fh1,n1,Y⟩:=h2;subst eit;refine zl4 (g:=tG X.K tg2) (te:=tV X.K fe) (tc:=tcOf X.K ifs fc) (RR:=λacc C=>compPost (model X.prog X.w) X.A X.xe Gb (EP X ω σ Q) acc C) (Qv:=λD0 H'=>Q (.ref D0) H') S hl1 hl2 I2 T st2 f2 hc (λC s' H'=>B.h cl C s' H' fp ω) (λD0 hD=>?_) λD0 C s' H' I' hC hn hf hq=>?_
 .exact zjX (λ_ _ _ _ h=>h) B.tc S.apart (r.grow g1 f1 fh1 n1) Y e hz hD λxs H' F' g2 f2' fh2 n2 fd hd rr=>q D0 xs H' F' (g1.trans g2) (f1.trans f2') fh2 (n1.trans n2 g1) (g1.free hD) fd hd rr
 .obtain⟨m,hm⟩:=hn;refine⟨m,hm,λh' sb=>?_⟩;have nC:∀ p o,s2.heap.get? p=Ga o->p≠C:=λp o e=>jC (jA (jp e) hC);refine⟨.ref D0,H',?_,rfl,hq⟩;refine I'.turned (it:=C) (t':=s'.toks) (λb o hb e=>sb.extBut b o hb e) hf (kZ (jA I2.lt hC)) (.inr (j9 I2.sz hC)) (λy c ec z=>?_) λp hp z=>?_
  .obtain⟨v,qv⟩:=I2.cell y c ec;exact absurd (jA qv.lt (by rw[z];exact hC)) (kK _)
  .exact nC _ _ (I2.pin p hp).1 z
end
end T3
namespace T3
open PySem PySem.Spec PyProof.Rows L2
section
variable {X:Cx}{pos:Pos}
theorem znK {ω:List (Gj×Obj)}{σ:St}{H:Hp}{s:Gh}{a:Gj}{ws:List (Int×V)}{ep:Nat}(I:Inv X ω σ H s)(e:H a=Ga (.ext (DiP a ws ep)))(nd:(ws.map (·.1)).Nodup) :
  s.TypeIs (.ref a) "dict"/\∀ b,uk a=.ref b->∃ ob,s.heap.get? b=Ga ob/\ob.dict=Gb:=by
 obtain⟨vs,rel,dd⟩:=diH I e nd;refine⟨dd.typeIs,λb q=>?_⟩;cases q;obtain⟨ob,_,_,h1,h2,_⟩:=dd;exact⟨ob,h1,h2.2.1⟩
end
section
variable {prog:Program}{w:World}{A:Around}{E:Gg->Gh->Prop}{s:Gh}{vs:List Gg}
theorem zsH {l:Gj}{Q:List Gg->Gh->Prop}(hl:IsTup s.heap l vs.toArray)
  (h:∀ h',(∀ b o,s.heap.get? b=Ga o->h'.get? b=Ga o)->(∃ o,h'.get? s.heap.objs.size=Ga o)->Q vs { s with heap:=h' }) (hsz:vs.length<=sizeLine) :
  wpAny (model prog w) A (collect (.ref l)) Q E s:=by
 obtain⟨o,ho,hc,n,hd⟩:=id hl;unfold collect;refine wpAny_bind (wpAny_runValue (codeAny_builtin entry_proto_collect' ?_));show wpAny _ _ (do again (.builtin "list.__iadd__" ⟨[<- newList [],.ref l],[]⟩)) _ _ s;refine wpAny_bind (wpAny_newList (wpAny_pure ⟨Code.quiet_builtin _ (by decide +kernel),codeAny_builtin entry_list_iadd' ?_⟩));show wpAny _ _ (kP (.ref s.heap.objs.size) (.ref l) (.ref s.heap.objs.size)) _ _ { s with heap:=s.heap.push (seqObj "list" #[] 0) };unfold kP;have ho':(s.heap.push (seqObj "list" #[] 0)).get? l=Ga o:=jg _ ho;refine wpAny_bind (wpAny_typeOf (T:="tuple") ⟨o,ho',hc⟩ ?_);rw[Ge (by simp)];refine wpAny_bind (listItems_at ho' hd ?_);refine wpAny_bind (listItems_at (xs:=#[]) (n:=0) (jv _ rfl) rfl ?_);rw[Gf (by simp)];refine wpAny_bind (listUpdate_at (xs:=#[]) (n:=0) (jv _ rfl) rfl ?_ (jY _) (by show(#[]++vs.toArray).size<=sizeLine+1;simp only[Array.size_append,jy,List.length_nil];omega));refine wpAny_pure ?_;show wpAny (model prog w) A (do
   let o <- load s.heap.objs.size
   match o.data with
   | .seq xs _=>pure xs.toList
   | _=>unsupported "internal:collect") Q E { s with heap:=(s.heap.push (seqObj "list" #[] 0)).update s.heap.objs.size (j3 (·++vs.toArray)) }
 refine wpAny_bind (wpAny_load (get?_update_seq (jv _ rfl) _) ?_);show wpAny _ _ (pure ((#[]:Array Gg)++vs.toArray).toList) Q E _;rw[show((#[]:Array Gg)++vs.toArray).toList=vs by simp];refine wpAny_pure (h _ (λb o hb=>?_) ⟨_,get?_update_seq (jv _ rfl) _⟩);exact(kF _ _ (kZ (jp hb))).trans (jg _ hb)
theorem zjY {d:Gj}{es:Array DictEntry}{ep:Nat}{Q:List Gg->Gh->Prop}(hh:A.handled=Gb)(sm:(d==sysModules)=false)(hd:DRaw s.heap d es ep)(hn:es.size<=sizeLine)
  (hQ:∀ h' tk acc,(∀ b o,s.heap.get? b=Ga o->h'.get? b=Ga o)->(∃ o,h'.get? s.heap.objs.size=Ga o)->ItemsOf (λi v=>∃ e,es[i]?=Ga e/\v=e.key) acc es.size->Q acc.toList { s with heap:=h',toks:=tk }) :
  wpAny (model prog w) A (collect (.ref d)) Q E s:=by
 have hlt:d<s.heap.objs.size:=by obtain⟨o,e,_⟩:=hd;exact jp e
 unfold collect;refine wpAny_bind (wpAny_runValue (codeAny_builtin entry_proto_collect' ?_));show wpAny _ _ (do again (.builtin "list.__iadd__" ⟨[<- newList [],.ref d],[]⟩)) _ _ s;refine wpAny_bind (wpAny_newList (wpAny_pure ⟨Code.quiet_builtin _ (by decide +kernel),codeAny_builtin entry_list_iadd' ?_⟩));show wpAny _ _ (kP (.ref s.heap.objs.size) (.ref d) (.ref s.heap.objs.size)) _ _ { s with heap:=s.heap.push (seqObj "list" #[] 0) };have n1:(s.heap.push (seqObj "list" #[] 0)).get? s.heap.objs.size=Ga { cls:=.type "list",data:=.seq #[] 0 }:=jv _ rfl;have kp:∀ b o,s.heap.get? b=Ga o->(s.heap.push (seqObj "list" #[] 0)).get? b=Ga o:=λb o e=>jg _ e;generalize s.heap.push (seqObj "list" #[] 0)=h1 at n1 kp;have hd1:DRaw h1 d es ep:=hd.kept λo e=>kp d o e;unfold kP;refine wpAny_bind (wpAny_typeOf (T:="dict") (DRaw.ty (s:={ s with heap:=h1 }) hd1) ?_);rw[show uN (.ref s.heap.objs.size) (.ref d)=false from by simp[uN,kZ hlt]];simp only[show(uB "dict"==uB "list")=false by decide,show(uB "dict"==uB "tuple")=false by decide,qT,kQ,if_false];refine wpAny_bind (zo4 (s:={ s with heap:=h1 }) sm hd1 ?_);have kp2:∀ b o,h1.get? b=Ga o->(h1.push { cls:=.type "dict_keyiterator",data:=.fields #[.ref d,.int 0 0,.int es.size 0,.int ep 0] }).get? b=Ga o:=λb o e=>jg _ e;have it0:(h1.push { cls:=.type "dict_keyiterator",data:=.fields #[.ref d,.int 0 0,.int es.size 0,.int ep 0] }).IsKeyIter h1.objs.size d 0 es.size ep:=⟨_,jv _ rfl,rfl,rfl⟩;have dI:d≠h1.objs.size:=by obtain⟨o,e,_⟩:=hd1;exact jC (jp e)
 have sI:s.heap.objs.size≠h1.objs.size:=jC (jp n1);have hd2:=hd1.kept λo e=>kp2 d o e;have n2:=kp2 _ _ n1;generalize h1.push { cls:=.type "dict_keyiterator",data:=.fields #[.ref d,.int 0 0,.int es.size 0,.int ep 0] }=h2 at kp2 it0 hd2 n2;refine wpAny_bind (wpAny_holding (znC (DRaw.ty (s:={ s with heap:=h2 }) hd2) ?_));refine wpAny_ite_split (λ_=>?_) λz=>absurd (by decide) z;refine wpAny_bind (wpAny_rule (wpAny_bind ?_));show wpAny _ _ (updateSeq s.heap.objs.size (·.push .none) >>= λ_=>updateSeq s.heap.objs.size (·.pop)) _ _ _;refine wpAny_bind (wpAny_updateSeq n2 rfl ?_);have n3:=j4 (j3 (·.push jT)) n2 rfl;refine wpAny_updateSeq (hz:=by seq_fits) n3 rfl ?_;have n4:=j4 (j3 (·.pop)) n3 rfl;have kp3:∀ b o,b≠s.heap.objs.size->h2.get? b=Ga o->((h2.update s.heap.objs.size (j3 (·.push jT))).update s.heap.objs.size (j3 (·.pop))).get? b=Ga o :=
  λb o hb e=>(kF _ _ (kY hb)).trans ((kF _ _ (kY hb)).trans e)
 have it4:=it0.at λo e=>kp3 _ o (kY sI) e;have hd4:=hd2.kept λo e=>kp3 _ o (jC hlt) e;generalize (h2.update s.heap.objs.size (j3 (·.push jT))).update s.heap.objs.size (j3 (·.pop))=h4 at n4 kp3 it4 hd4;refine wpAny_pure ⟨plainId_quiet F.plain_extend_loop _,?_⟩;have W:=(zmT (prog:=prog) (w:=w) (A:=A.in1) (show A.in1.handled=Gb from hh) h1.objs.size d dI es ep).toS;refine codeAny_extend_loopS W hn s.heap.objs.size ?_ _ es.size 0 { s with heap:=h4 } #[] _ rfl (jY _) ⟨it4,hd4⟩ n4 (ItemsOf.nil _) λs' acc c m nn it=>?_
 .simp only[ju,ki,or_false,not_or];exact⟨sI,kZ hlt⟩
 .show wpAny _ A (load s.heap.objs.size >>= _) _ _ s';refine wpAny_bind (wpAny_load nn (wpAny_pure ?_));rw[Moved.eq_with m] at nn ⊢;refine hQ s'.heap s'.toks acc (λb o e=>m.heap b o (λz=>?_) (kp3 _ _ (jC (jp e)) (kp2 _ _ (kp b o e)))) ⟨_,nn⟩ it;simp only[ju,ki,or_false] at z;rcases z with z|z
  .exact absurd (jp e) (by rw[z];exact kK _)
  .exact absurd (jp (kp b o e)) (by rw[z];exact kK _)
end
section
variable {P:Program}{w:World}{K:ja}{mg:Str->Option Gg}{base:Heap}{f:Gj}{fd:Gi}{ps:List Str}{k:Nat}
end
end T3
namespace T3
open PySem PySem.Spec PyProof.Rows L2
section
variable {X:Cx}{pos:Pos}
theorem kreps {K:ja}{F:Hp}:∀ (ks:List Int),Reps K F (ks.map jb) (ks.map V.int)
 | []=>.nil
 | k::ks=>.cons (.int k) (kreps ks)
end
end T3
namespace T3
open PySem PySem.Spec PyProof.Rows L2
section
variable {X:Cx}{pos:Pos}
variable {k:Nat}{f:Gj}{fd:Gi}{ps:List Str}{x y:Str}{p p' pc:Pos}{e:Expr}{es:List Expr}{g:FL}
end
section
variable {X:Cx}{pos:Pos}{a b:Expr}{f g:FV}
end
end T3
namespace T3
open PySem PySem.Spec PyProof.Rows L2
section
variable {X:Cx}
end
end T3
namespace T3
open PySem PySem.Spec PyProof.Rows L2
def CellA (H:Hp)(c:Gj):Prop:=∃ o v,H c=Ga (.frz o (.own c))/\o.data=.cell v
def Cells (H:Hp)(cs:List Gj):Prop:=∀ c∈cs,CellA H c
end T3
namespace T3
open PySem PySem.Spec PyProof.Rows L2
structure ClosP (K:ja)(F:Hp)(fr:List Str)(ds:List D)(cl:List (Str×Gj))(cs:List Gj):Prop where
 look:∀ (j:Nat) (y:Str) (d:D),fr[j]?=Ga y->ds[j]?=Ga d->∃ c o u v,cl.lookup y=Ga c/\c∈cs/\F c=Ga (.frz o (.own c))/\o.data=.cell (Ga u)/\RelV v u/\Rep K F d v
 all:∀ y c,cl.lookup y=Ga c->c∈cs
 has:∀ y∈fr,∃ c,cl.lookup y=Ga c
 cells:Cells F cs
 inj:∀ x y c,cl.lookup x=Ga c->cl.lookup y=Ga c->x=y
 len:ds.length=fr.length
 only:∀ c∈cs,∃ y,cl.lookup y=Ga c
theorem Cells.mono {F F':Hp}{cs:List Gj}(s:Same F F')(m:Cells F cs):Cells F' cs:=λc h=>by
 obtain⟨o,v,h1,h2⟩:=m c h;exact⟨o,v,s _ _ h1,h2⟩
theorem ClosP.mono {K:ja}{F F':Hp}{fr:List Str}{ds:List D}{cl:List (Str×Gj)}{cs:List Gj}(s:Same F F')(x:ClosP K F fr ds cl cs):ClosP K F' fr ds cl cs :=
 ⟨λj y d h1 h2=>by
  obtain⟨c,o,u,v,e1,e2,e3,e4,e5,e6⟩:=x.look j y d h1 h2;exact⟨c,o,u,v,e1,e2,s _ _ e3,e4,e5,e6.mono s⟩,x.all,x.has,x.cells.mono s,x.inj,x.len,x.only⟩
section
variable {P:Program}{w:World}{K:ja}{mg:Str->Option Gg}{base:Heap}{A:Around}{outer:List Env}{s:Gh}{H F:Hp}{x:Str}{fr:List Str}{scope:Scope}{cl:List (Str×Gj)}{cs:List Gj}{ds:List D}{q:Str}{f:Gj}{cd:Gg}
end
theorem RS.vals {K:ja}{F H:Hp}(g:Same F H):∀ {ds:List D} {vs:List V},Reps K F ds vs->RS K H F H (ds.map Sl.val) (vs.map Ga):=λ{ds vs} r=>by
 refine⟨.refl _,g,λi s e=>?_,λi j a s t o1 o2 e1=>?_⟩
 .rw[jq] at e;cases z:ds[i]? with
  | none=>rw[z] at e;cases e
  | some d =>
   rw[z] at e;cases e;obtain⟨v,h1,h2⟩:=r.get z;exact⟨Ga v,by rw[jq,h1];rfl,v,rfl,h2⟩
 .rw[jq] at e1;cases z:ds[i]? with
  | none=>rw[z] at e1;cases e1
  | some d=>rw[z] at e1;cases e1;cases o1
end T3
namespace T3
open PySem PySem.Spec PyProof.Rows L2
section
variable {P:Program}{w:World}{K:ja}{mg:Str->Option Gg}{base:Heap}{A:Around}{outer:List Env}{s:Gh}{H F:Hp}{x:Str}{fr:List Str}{scope:Scope}{ds:List D}{f:Gj}
end
end T3
namespace T3
open PySem PySem.Spec PyProof.Rows L2
structure CallOk (P:Program)(w:World)(K:ja)(mg:Str->Option Gg)(base:Heap)(k:Nat)(c:FnC)(φ:D->Option D):Prop where
 obj:∀ f F H h,c.C f F H->Same F H->HOk P w H h->∃ o fd,h.get? f=Ga o/\o.data=.func fd
 run:∀ (f:Gj) (F H:Hp) (A:Around) (outer:List Env) (s:Gh) (u:Gg) (v:V) (d r:D) (Q:VK),c.C f F H->Room k A->Env0 P w K mg base A outer s H->Same F H->RelV v u->Rep K F d v->φ d=Ga r ->
  (∀ v' H' F',Same H H'->Same F F'->Same F' H'->New F F' H->Rep K F' r v'->Q v' H')->codeAny (model P w) A (.call (.ref f) ⟨[u],[]⟩) (CR CX0 outer P w H s Q E0) s
theorem CallOk.mono {P:Program}{w:World}{K:ja}{mg:Str->Option Gg}{base:Heap}{j k:Nat}{c:FnC}{φ:D->Option D}(x:CallOk P w K mg base j c φ)(h:j<=k):CallOk P w K mg base k c φ :=
 ⟨x.obj,λf F H A outer s u v d r Q hC hr=>x.run f F H A outer s u v d r Q hC (hr.mono h)⟩
section
variable {X:Cx}{pos p:Pos}{k:Nat}{c:FnC}{φ:D->Option D}
end
end T3
namespace T3
open PySem PySem.Spec PyProof.Rows L2
theorem RS.cons {K:ja}{H0 F H:Hp}{ψ:En}{σ:St}(r:RS K H0 F H ψ σ){s:Sl}{u:Option V}(q:RepSl K H0 F H s u)(o:ownS s=false):RS K H0 F H (s::ψ) (u::σ):=by
 refine⟨r.h0,r.fh,λi t e=>?_,λi j a t1 t2 o1 o2 e1 e2 e3 e4=>?_⟩
 .cases i with
  | zero=>cases e;exact⟨u,rfl,q⟩
  | succ i=>exact r.sl i t e
 .cases i with
  | zero=>cases e1;rw[o] at o1;cases o1
  | succ i =>
   cases j with
   | zero=>cases e2;rw[o] at o2;cases o2
   | succ j=>rw[r.ap i j a t1 t2 o1 o2 e1 e2 e3 e4]
section
variable {P:Program}{w:World}{K:ja}{mg:Str->Option Gg}{base:Heap}{x qual:Str}{st:Stmt}{f:Gj}{fd:Gi}{N ps:List Str}{k:Nat}{g:FS}{c:FnC}
end
section
variable {X:Cx}{k:Nat}{f:Gj}{fd:Gi}{ps:List Str}{x:Str}{p pos:Pos}{es:List Expr}{g:FL}{c:FnC}
end
end T3
namespace T3
open PySem PySem.Spec PyProof.Rows L2
theorem Same.tbl {H:Hp}{P:Gj}{ps qs:Array Gg}(hP:H P=Ga (.tbl ps))(g:GoodT H ps.toList->GoodT (upd H P (.tbl qs)) qs.toList):Same H (upd H P (.tbl qs)):=λb o h=>by
 by_cases hb:b=P
 .subst hb;rw[hP] at h;cases h;rw[upd_same];exact⟨qs,rfl,g⟩
 .rw[upd_ne hb];exact .of h λl z=>z.updG λx u q=>by rw[hP] at q;cases q
section
variable {X:Cx}{c0 P:Gj}{fr:List Str}{params:Arguments}{body:Expr}{scope:Scope}{lpos:Pos}
end
end T3
namespace T3
open PySem PySem.Spec PyProof.Rows L2
section
variable {h:Heap}{F H H':Hp}{cs:List Gj}{P:Program}{w:World}
end
section
variable {X:Cx}{c0 P:Gj}{fr:List Str}{params:Arguments}{body:Expr}{scope:Scope}{lpos:Pos}{k kl:Nat}{f:Gj}{fd:Gi}{ps:List Str}{x xl:Str}{p pos:Pos}{es:List Expr}{g:FL}{fb:FV}{fm:FnC->(D->Option D)->List D->Option D}{ix:List Nat}
end
end T3
namespace T3
open PySem PySem.Spec PyProof.Rows L2
section
variable {P:Program}{w:World}{K:ja}{mg:Str->Option Gg}{base:Heap}{x qual:Str}{st:Stmt}{f:Gj}{fd:Gi}{N ps:List Str}{k:Nat}{g:FS}{Pt c0:Gj}
end
section
variable {X:Cx}{k:Nat}{f:Gj}{fd:Gi}{ps:List Str}{x:Str}{p pos:Pos}{e:Expr}{es:List Expr}{g:FL}
end
structure FnW (K:ja)(x:Str)(st:Stmt)(cd:Gg)(a:Gj)(fd:Gi):Prop where
 e:∃ (od an:Option Gj) (sl:Array (Option Gg)) (oc kV dc pm ct:Gg),kT K mainGlobals x=Ga (Ga (.ref a))/\K.lookup a=Ga ⟨oc,od,.func fd,sl⟩/\fd=uc x x (defArgs st) (defBody st) (defScope st) .none kV dc pm an cd ct/\vD K cd x=true/\uq K (.ref a)=true
theorem za4 {K:ja}{mg:Str->Option Gg}{h:Heap}{x:Str}{st:Stmt}{ps:List Str}{f:Gj}{cd:Gg}{fd:Gi}(X:K.In h)(G:h.Ns mainGlobals mg)(w:FnW K x st cd f fd)
  (hb:∀ (kV doc pm:Gg) (an:Option Gj) (cdv ct:Gg) (us:List Gg),us.length=ps.length->bindArgs (uc x x (defArgs st) (defBody st) (defScope st) .none kV doc pm an cdv ct) ⟨us,[]⟩=pure (ps.zip us):=by first|(exact λ_ _ _ _ _ _ us hl=>(match us,hl with|[_],_=>rfl))|(exact λ_ _ _ _ _ _ us hl=>(match us,hl with|[_,_],_=>rfl))|(exact λ_ _ _ _ _ _ us hl=>(match us,hl with|[_,_,_],_=>rfl))|(exact λ_ _ _ _ _ _ us hl=>(match us,hl with|[_,_,_,_],_=>rfl))|(exact λ_ _ _ _ _ _ us hl=>(match us,hl with|[_,_,_,_,_],_=>rfl))|(exact λ_ _ _ _ _ _ us hl=>(match us,hl with|[_,_,_,_,_,_],_=>rfl))|(exact λ_ _ _ _ _ _ us hl=>(match us,hl with|[_,_,_,_,_,_,_],_=>rfl))):Fn K mg x st ps f fd:=by
 obtain⟨od,an,sl,oc,kV,dc,pm,ct,e1,e2,rfl,e3,e4⟩:=w.e;exact zx2 X G e1 e2 e3 e4 hb
theorem FnW.code {K:ja}{x:Str}{st:Stmt}{f:Gj}{cd:Gg}{fd:Gi}(w:FnW K x st cd f fd):fd.code=cd:=by
 obtain⟨od,an,sl,oc,kV,dc,pm,ct,e1,e2,rfl,e3,e4⟩:=w.e;rfl
theorem FnW.bt {K:ja}{x:Str}{st:Stmt}{f:Gj}{cd:Gg}{fd:Gi}(w:FnW K x st cd f fd){Q:Gi->Prop}(q:∀ (kV doc pm:Gg) (an:Option Gj) (cdv ct:Gg),Q (uc x x (defArgs st) (defBody st) (defScope st) .none kV doc pm an cdv ct)):Q fd:=by
 obtain⟨od,an,sl,oc,kV,dc,pm,ct,e1,e2,rfl,e3,e4⟩:=w.e;exact q _ _ _ _ _ _
end T3
namespace T3
open PySem PySem.Spec PyProof.Rows L2
def Kx (fs:List Gj)(h0:Heap)(H:Hp)(h h':Heap):Prop :=
 ∀ b o,h.get? b=Ga o->(h0.get? b≠Gb\/H b≠Gb\/∀ vs,o.data≠.fields vs)->∃ sl,h'.get? b=Ga { o with slots:=sl }/\(b∉fs->sl=o.slots)
section
variable {fs:List Gj}{h0 h h1 h2:Heap}{H:Hp}{y:Gj}{oy:Obj}{vs:Array Gg}
theorem Kx.trans (a:Kx fs h0 H h h1)(b:Kx fs h0 H h1 h2):Kx fs h0 H h h2:=λc o e q=>by
 obtain⟨sl,e1,n1⟩:=a c o e q;obtain⟨sl2,e2,n2⟩:=b c _ e1 q;exact⟨sl2,e2,λhc=>(n2 hc).trans (n1 hc)⟩
theorem Kx.of (k:∀ b o,h.get? b=Ga o->h1.get? b=Ga o):Kx fs h0 H h h1:=λc o e _=>⟨o.slots,k c o e,λ_=>rfl⟩
theorem Kx.slots (k:Heap.SlotsOnly fs h h1):Kx fs h0 H h h1:=λc o e _=>by
 by_cases hc:c∈fs
 .obtain⟨sl,z⟩:=k.2.2 c o e;exact⟨sl,z,λn=>absurd hc n⟩
 .exact⟨o.slots,(k.2.1 c hc).trans e,λ_=>rfl⟩
theorem Kx.upd (e:h.get? y=Ga oy)(d:oy.data=.fields vs)(n0:h0.get? y=Gb)(nH:H y=Gb)(f:Obj->Obj):Kx fs h0 H h (h.update y f):=λc o ec q=>by
 have ne:c≠y:=λz=>by
  subst z;rw[e] at ec;cases ec;rcases q with q|q|q
  .exact q n0
  .exact q nH
  .exact q vs d
 exact⟨o.slots,(kF _ _ (kY ne)).trans ec,λ_=>rfl⟩
theorem Kx.frames {base:Heap}{l:List Env}(k:Kx fs h0 H h h1)(hl:h.FunFrames base l):h1.FunFrames base l:=hl.of_keeps λb o e n=>by
 obtain⟨sl,z,_⟩:=k b o e (.inr (.inr n));exact⟨_,z,rfl⟩
end
def ExT (h0:Heap)(H:Hp)(x:Gj)(cls fl:Gg)(h:Heap):Prop :=
 h0.get? x=Gb/\H x=Gb/\∃ oe vs T oT ts,h.get? x=Ga oe/\(oe.cls=cls/\oe.dict=Gb)/\oe.data=.fields vs/\vs[1]?=Ga (.ref T)/\T≠x/\h.get? T=Ga oT/\oT.data=.fields ts/\ts[3]?=Ga fl/\h0.get? T=Gb/\H T=Gb
section
variable {M:Model}{A:Around}{E:Gg->Gh->Prop}{s:Gh}{base h0:Heap}{H:Hp}{ψ:Env}{outer:List Env}{L x:Gj}{cls:Gg}{Q:Unit->Gh->Prop}
end
end T3
namespace T3
open PySem PySem.Spec PyProof.Rows L2
section
variable {X:Cx}{ω:List (Gj×Obj)}{σ:St}{H:Hp}{s:Gh}{x:Gj}{cls:Gg}
theorem zk0 {o:Obj}{sl:Array (Option Gg)}(e:sl=o.slots):{ o with slots:=sl }=o:=by subst e;rfl
end
section
variable {P:Program}{w:World}{K:ja}{mg:Str->Option Gg}{base:Heap}{N:List Str}{qual:Str}{scope:Scope}{f:Gj}{cd:Gg}{A:Around}{outer:List Env}{s₀:Gh}{H₀:Hp}{E:XK}
end
end T3
namespace T3
open PySem PySem.Spec PyProof.Rows L2
abbrev FX:=En->Option Str
def Xw (mg:Str->Option Gg)(E:XK)(c:Str)(H0:Hp):Prop:=∃ C,mg c=Ga (.ref C)/\∀ H',Same H0 H'->E (.ref C) Gb H'
theorem Xw.dn {mg:Str->Option Gg}{E:XK}{c:Str}{H0 H1:Hp}(x:Xw mg E c H0)(s:Same H0 H1):Xw mg E c H1:=let ⟨C,a,b⟩:=x;⟨C,a,λH' q=>b H' (s.trans q)⟩
section
variable {X:Cx}{E:XK}{pos:Pos}
end
section
variable {X:Cx}{E:XK}{k:Nat}{f:Gj}{fd:Gi}{ps:List Str}{x:Str}{p pos:Pos}{e:Expr}{es:List Expr}{g:FL}
end
section
variable {P:Program}{w:World}{K:ja}{mg:Str->Option Gg}{base:Heap}{x qual:Str}{st:Stmt}{f:Gj}{fd:Gi}{N ps:List Str}{k:Nat}{kx:FX}
end
end T3
namespace T3
open PySem PySem.Spec PyProof.Rows PySem.W PySem.Calls
section
variable {prog:Program}{w:World}{A:Around}{E:Gg->Gh->Prop}{s:Gh}{K:Frag}{x D:Gj}{ox:Obj}
end
end T3
namespace T3
open PySem PySem.Spec PyProof.Rows L2
structure XS (X:Cx)(H:Hp)(s:Gh)(x C:Gj)(fl:Gg)(H':Hp)(s':Gh):Prop where
 os:s'.os=s.os
 bare:AllBare s'.gens
 un:Un (frs X.stack) [] H H' s.heap s'.heap
 hok:HOk X.prog X.w H' s'.heap
 ex:ExT s.heap H' x (.ref C) fl s'.heap
theorem zgB {α:Type}{o:Option α}{a:α}(e:o=Ga a):o≠Gb:=by rw[e];exact λz=>by cases z
theorem zx8 {fs:List Gj}{H H':Hp}{h0 h h':Heap}(u:Un fs [] H H' h0 h)(k:Kx fs h0 H' h h'):Un fs [] H H' h0 h':=by
 refine⟨λb o e n hb hx=>?_,λb o e n hb hx=>?_,u.free,λb o e hx=>?_,u.tups,u.frzs,u.tbls⟩
 .obtain⟨sl,e2,q⟩:=k b o (u.keep b o e n hb hx) (.inl (zgB e));rw[zk0 (q hb)] at e2;exact e2
 .obtain⟨sl,e1⟩:=u.slot b o e n hb hx;obtain⟨sl2,e2,_⟩:=k b _ e1 (.inl (zgB e));exact⟨sl2,e2⟩
 .obtain⟨o1,e1⟩:=u.there b o e hx;obtain⟨sl2,e2,_⟩:=k b _ e1 (.inl (zgB e));exact⟨_,e2⟩
section
variable {X:Cx}{ω:List (Gj×Obj)}{σ:St}{H H':Hp}{s s':Gh}{x C:Gj}{fl fl':Gg}
theorem XS.inv (W:XS X H s x C fl H' s')(I:Inv X ω σ H s):Inv X ω σ H' s':=I.call' (ch:=[]) W.os W.un W.hok W.bare λb z=>absurd z (by simp)
theorem XS.kx (W:XS X H s x C fl H' s')(I:Inv X ω σ H s){h':Heap}(k:Kx (frs X.stack) s.heap H' s'.heap h')(t:ExT s.heap H' x (.ref C) fl' h'):XS X H s x C fl' H' { s' with heap:=h' }:=by
 have J:=W.inv I;refine⟨W.os,W.bare,zx8 W.un k,λa o e=>?_,t⟩;have tr:∀ b u,H' b≠Gb->s'.heap.get? b=Ga u->h'.get? b=Ga u:=λb u hb e1=>by
  obtain⟨sl,e2,q⟩:=k b u e1 (.inr (.inl hb));rw[zk0 (q λz=>hb (J.stkFree b z))] at e2;exact e2
 exact(W.hok a o e).stay (λb u hb e1=>tr b u (by
  rcases hb with rfl|hb
  .exact zgB e
  .exact zgB hb) e1) (λb z=>z) λb xs z=>z
theorem XS.lt (W:XS X H s x C fl H' s'):∀ b o,s.heap.get? b=Ga o->b<s'.heap.objs.size:=λb o e=>by
 obtain⟨o',e'⟩:=W.un.there b o e (by simp);exact jp e'
theorem XS.frz (W:XS X H s x C fl H' s'):∃ o,s'.heap.get? x=Ga o/\o.cls=.ref C/\o.dict=Gb/\JE o=true/\H' x=Gb/\Un (frs X.stack) [] H (upd H' x (.frz o (.own x))) s.heap s'.heap/\HOk X.prog X.w (upd H' x (.frz o (.own x))) s'.heap:=by
 obtain⟨n0,nH,oe,vs,T,oT,ts,he,⟨hc,hdn⟩,hd,h1,hT,eT,dT,h3,m0,mH⟩:=W.ex;have nn:∀ {b u},H' b=Ga u->b≠x:=λ{b u} e z=>by subst z;rw[nH] at e;cases e
 refine⟨oe,he,hc,hdn,by unfold JE;rw[hd],nH,⟨W.un.keep,W.un.slot,λb o e n hx=>?_,W.un.there,λb xs e=>?_,λb o u e=>?_,λb ps e=>?_⟩,λa o e=>?_⟩
 .rw[upd_ne (λz=>by subst z;rw[n0] at e;cases e)];exact W.un.free b o e n hx
 .rw[upd_ne (nn (W.un.tups b xs e))];exact W.un.tups b xs e
 .rw[upd_ne (nn (W.un.frzs b o u e))];exact W.un.frzs b o u e
 .obtain⟨m,q⟩:=W.un.tbls b ps e;exact⟨m,by rw[upd_ne (nn q)];exact q⟩
 .by_cases z:a=x
  .subst z;rw[upd_same] at e;cases e;exact⟨he,⟨_,he⟩⟩
  .rw[upd_ne z] at e;exact(W.hok a o e).stay (λ_ _ _ q=>q) (λb q=>by rw[upd_ne (nn q)];exact q) λb xs q=>by rw[upd_ne (nn q)];exact q
end
def Wx (X:Cx)(ω:List (Gj×Obj))(σ:St)(H:Hp)(c:Str)(Ξ:Gg->Gh->Prop):Prop :=
 (∃ C,X.mg c=Ga (.ref C))/\∀ C s1 H1 x H' s',X.mg c=Ga (.ref C)->Inv X ω σ H1 s1->XS X H1 s1 x C .none H' s'->Same H H'->Ξ (.ref x) s'
theorem Wx.dn {X:Cx}{ω:List (Gj×Obj)}{σ:St}{H H1:Hp}{c:Str}{Ξ:Gg->Gh->Prop}(w:Wx X ω σ H c Ξ)(g:Same H H1):Wx X ω σ H1 c Ξ:=⟨w.1,λC s1 H2 x H' s' a b d e=>w.2 C s1 H2 x H' s' a b d (g.trans e)⟩
section
variable {X:Cx}{k:Nat}{f:Gj}{fd:Gi}{ps:List Str}{x:Str}{p pos:Pos}{e:Expr}{es:List Expr}{g:FL}
end
end T3
namespace T3
open PySem PySem.Spec PyProof.Rows L2
section
variable {X:Cx}{ω:List (Gj×Obj)}{σ:St}{H H':Hp}{s s':Gh}{v:Gg}
end
section
variable {X:Cx}{pos Bp hp:Pos}{body suite:List Stmt}{b₀:Stmt}{B n:Str}{Ba:Gj}{i:Nat}{g:FS}{k:FX}{cs:List Str}{gs:Str->FS}
end
section
variable {X:Cx}{pos:Pos}
end
end T3
namespace T3
open PySem PySem.Spec PyProof.Rows L2
section
variable {P:Program}{w:World}{K:ja}{mg:Str->Option Gg}{base:Heap}{x qual:Str}{st:Stmt}{f:Gj}{N ps:List Str}
end
section
variable {prog:Program}{w:World}{A:Around}{E:Gg->Gh->Prop}
end
section
variable {X:Cx}{pos:Pos}
end
end T3
namespace HT
open PySem PySem.Spec PyProof.Rows
section
variable {prog:Program}{w:World}{A:Around}{E:Gg->Gh->Prop}{s:Gh}
end
end HT
namespace T3
open PySem PySem.Spec PyProof.Rows L2
section
variable {X:Cx}{pos p2:Pos}
end
end T3
namespace HT
open PySem PySem.Spec PyProof.Rows
section
variable {prog:Program}{w:World}{A:Around}{E:Gg->Gh->Prop}{s:Gh}
end
end HT
namespace T3
open PySem PySem.Spec PyProof.Rows L2
section
variable {X:Cx}{pos p2:Pos}
end
end T3
namespace T3
open PySem PySem.Spec PyProof.Rows
def addP (t:SetTable)(es:Array (Int×Gg))(hh:Int)(x:Gg):Array (Int×Gg)×SetTable :=
 if (!(layNew t es hh x).2.2.1&&(layNew t es hh x).2.1.tooFull)=true then((relayAll (layNew t es hh x).2.1 (layNew t es hh x).1 (SetTable.grown (layNew t es hh x).1.size)).1,(relayAll (layNew t es hh x).2.1 (layNew t es hh x).1 (SetTable.grown (layNew t es hh x).1.size)).2.1)
 else((layNew t es hh x).1,(layNew t es hh x).2.1)
def SX (h:Heap)(a:Gj)(es:Array (Int×Gg))(t:SetTable):Prop:=∃ o ep,h.get? a=Ga o/\o.ExactSet/\o.data=.set es ep t
theorem SX.put {h:Heap}{a:Gj}{es es':Array (Int×Gg)}{t t':SetTable}(x:SX h a es t):SX (h.update a (JF es' t')) a es' t':=by
 obtain⟨o,ep,ho,hex,hd⟩:=x;obtain⟨oc,odi,oda,osl⟩:=o;simp only at hd;subst hd;exact⟨_,_,j4 _ ho rfl,hex,rfl⟩
section
variable {prog:Program}{w:World}{A:Around}{E:Gg->Gh->Prop}{s:Gh}
theorem zsI {a:Gj}{es:Array (Int×Gg)}{t:SetTable}{k:Int}{tk:Tok}{Q:Bool->Gh->Prop}(hS:SX s.heap a es t)(hf:t.fits es.size=true)(hel:ElemsOf (intKind prog w) es.toList)(hb:es.size+2<scanBound)
  (nf:es.toList.findIdx? (λe=>(intKind prog w).is k e.2)=Gb)
  (h:∀ h',kw a s.heap h'->SX h' a (addP t es ((intKind prog w).hash k) (.int k tk)).1 (addP t es ((intKind prog w).hash k) (.int k tk)).2->Q true { s with heap:=h' }) :
  wpAny (model prog w) A (setAddHashed a (.int k tk) ((intKind prog w).hash k)) Q E s:=by
 obtain⟨o,ep,ho,hex,hd⟩:=id hS;have hsc:(uO k tk).scannable=true:=rfl;have hperm:=layNew_perm t es ((intKind prog w).hash k) (.int k tk);have hfits:=layNew_fits t es ((intKind prog w).hash k) (.int k tk);have hsz:(layNew t es ((intKind prog w).hash k) (.int k tk)).1.size=es.size+1:=by
  rw[<- jt,hperm.length_eq,uI,jB,jt];rfl
 have hgw:∀ (b:Bool) {s₁:Gh} {Q':Unit->Gh->Prop},Q' () s₁->wpAny (model prog w) A (match b with|true=>rule "set.scan.the-table-gave-way"|false=>pure ()) Q' E s₁ :=
  λb s₁ Q' hq=>by cases b<;>first|exact wpAny_pure hq|exact wpAny_rule hq
 unfold setAddHashed setAddHashedIn;refine wpAny_holding (wpAny_bind (wpAny_setState_of ho hd hf ?_));dsimp only;rw[byScan_of hsc (by omega) hel];simp only[↓reduceIte];unfold setAddByScan;refine wpAny_bind ?_;refine wpAny_bind (wpAny_rule ?_);refine wpAny_bind (wpAny_setScan_of (knd:=intKind prog w) (intKind_is _ _ _ _) ho hd hf hel ?_);rw[nf];dsimp only;unfold addP at h;generalize hL:layNew t es ((intKind prog w).hash k) (.int k tk)=L at hperm hfits hsz h ⊢;obtain⟨es1,t1,wd,gave⟩:=L;dsimp only at hperm hfits hsz h ⊢;refine wpAny_bind (hgw _ ?_);have hpk:plainKind (.int k tk)=true:=rfl;have hS1:SX (s.heap.update a (JF es1 t1)) a es1 t1:=hS.put;have hsb1:=jP s.heap a (JF es1 t1);obtain⟨o1,ep1,ho1,hex1,hd1⟩:=id hS1;have hz1:es1.size<=sizeLine:=fits_of_scanBound (by omega);have hp:=relayAll_perm t1 es1 (SetTable.grown es1.size);have hs2:(relayAll t1 es1 (SetTable.grown es1.size)).1.size=es1.size:=by rw[<- jt,hp.length_eq,jt]
 have hz2:(relayAll t1 es1 (SetTable.grown es1.size)).1.size<=sizeLine:=fits_of_scanBound (by omega);split
 .refine wpAny_bind ?_;rw[hashByValue_scannable 8 hsc,hpk];refine wpAny_pure ?_;simp only[↓reduceIte];refine wpAny_bind (wpAny_storeSet_of ho hd ?_ hz1);split
  .rename_i c;rw[Ge c] at h;refine wpAny_bind (hgw _ ?_);refine wpAny_bind (wpAny_storeSet_of ho1 hd1 ?_ hz2);exact wpAny_pure (wpAny_pure (h _ (hsb1.trans (jP _ a _)) hS1.put))
  .rename_i c;rw[Gf c] at h;exact wpAny_pure (wpAny_pure (h _ hsb1 hS1))
 .refine wpAny_bind (wpAny_pure ?_);simp only[↓reduceIte];refine wpAny_bind (wpAny_storeSet_of ho hd ?_ hz1);split
  .rename_i c;rw[Ge c] at h;refine wpAny_bind (hgw _ ?_);refine wpAny_bind (wpAny_storeSet_of ho1 hd1 ?_ hz2);exact wpAny_pure (wpAny_pure (h _ (hsb1.trans (jP _ a _)) hS1.put))
  .rename_i c;rw[Gf c] at h;exact wpAny_pure (wpAny_pure (h _ hsb1 hS1))
end
end T3
namespace T3
open PySem PySem.Spec PyProof.Rows
def nmE (e:Int×Gg):Int×Gg:=(e.1,.int e.1 0)
def stp (p:Array (Int×Gg)×SetTable)(k:Nat):Array (Int×Gg)×SetTable:=addP p.2 p.1 (k:Int) (.int (k:Int) 0)
def canT (led:Bool)(m:Nat):Array (Int×Gg)×SetTable:=((jk 5).filter λk=>m.testBit k).foldl stp (#[],.fresh 0 0 led)
section
variable {prog:Program}{w:World}{A:Around}{E:Gg->Gh->Prop}{s:Gh}
theorem zsJ {a:Gj}{es:Array (Int×Gg)}{t:SetTable}{k:Int}{tk:Tok}{j:Nat}{Q:Bool->Gh->Prop}(hS:SX s.heap a es t)(hf:t.fits es.size=true)(hel:ElemsOf (intKind prog w) es.toList)(hb:es.size+2<scanBound)
  (fd:es.toList.findIdx? (λe=>(intKind prog w).is k e.2)=Ga j) (h:Q false s):wpAny (model prog w) A (setAddHashed a (.int k tk) ((intKind prog w).hash k)) Q E s:=by
 obtain⟨o,ep,ho,hex,hd⟩:=id hS;have hsc:(uO k tk).scannable=true:=rfl;unfold setAddHashed setAddHashedIn;refine wpAny_holding (wpAny_bind (wpAny_setState_of ho hd hf ?_));dsimp only;rw[byScan_of hsc (by omega) hel];simp only[↓reduceIte];unfold setAddByScan;refine wpAny_bind ?_;refine wpAny_bind (wpAny_rule ?_);refine wpAny_bind (wpAny_setScan_of (knd:=intKind prog w) (intKind_is _ _ _ _) ho hd hf hel ?_);rw[fd];dsimp only;exact wpAny_pure (wpAny_pure h)
def CS (h:Heap)(a:Gj)(led:Bool)(m:Nat):Prop:=∃ es,SX h a es (canT led m).2/\es.map nmE=(canT led m).1/\∀ e∈es.toList,∃ tk,e.2=.int e.1 tk
end
section
variable {prog:Program}{w:World}{A:Around}{R:Result->Gh->Prop}{I:Gj}{fp wr:List Gj}{G:Array GenState->Array GenState->Prop}{n:Nat}{P:Nat->Gg->Prop}{St:Nat->Gh->Prop}
theorem CS.keep {h h':Heap}{a:Gj}{led:Bool}{m:Nat}(c:CS h a led m)(k:∀ o,h.get? a=Ga o->h'.get? a=Ga o):CS h' a led m:=by
 obtain⟨es,⟨o,ep,ho,hex,hd⟩,he,hv⟩:=c;exact⟨es,⟨o,ep,k o ho,hex,hd⟩,he,hv⟩
end
section
variable {prog:Program}{w:World}{A:Around}{E:Gg->Gh->Prop}{s:Gh}
abbrev ledW (w:World):Bool:=!w.params.followText "set-order"
theorem zsK (x0:Gg){Q₁:Gg->Gh->Prop}(h:Q₁ (.ref s.heap.objs.size) { s with heap:=s.heap.push { cls:=.type "set",dict:=Gb,data:=.set #[] 0 (.fresh 0 0 (ledW w)) } }) :
  codeAny (model prog w) A (.call (.builtin "set.__new__") ⟨[.type "set",x0],[]⟩) (wants Q₁ E) s:=by
 refine codeAny_of_tree ?_;show wpAny _ A.in1 (do checkBuiltinCall "set.__new__" ⟨[.type "set",x0],[]⟩;again (.builtin "set.__new__" ⟨[.type "set",x0],[]⟩)) _ _ s;refine wpAny_bind (wpAny_of_eq (F.newCall_set_1 x0) (wpAny_pure ⟨plainId_quiet F.plain_set_new _,codeAny_builtin F.entry_set_new ?_⟩));rw[vW PySem.F.plain_set_new];unfold Builtin.«set.__new__»;unfold JG;have sb:=sub_set_self;obtain⟨h0,g0,d0,t0,o0⟩:=s;dsimp only
 wp_walk
 refine wpAny_askSetting (wpAny_pure ?_);dsimp only;simp only[newObj];refine wpAny_bind (wpAny_alloc (wpAny_pure ?_));exact wpAny_pure h
end
end T3
namespace T3
open PySem PySem.Spec PyProof.Rows
section
variable {prog:Program}{w:World}{A:Around}{E:Gg->Gh->Prop}{s:Gh}
end
end T3
namespace T3
open PySem PySem.Spec PyProof.Rows
theorem znL {α:Type}:∀ (l:List α) (i:Nat) (h:i<l.length),(l[i]::l.eraseIdx i).Perm l
 | a::r,0,h=>.refl _
 | a::r,i+1,h=>(List.Perm.swap _ _ _).trans ((znL r i (by simpa using h)).cons a)
theorem znM {α:Type}(next:Nat->Nat):∀ (fuel k:Nat) (left:List α) (out:Array α),left.length=fuel->((pickOrder.go next fuel k left out).toList).Perm (out.toList++left)
 | 0,k,left,out,h=>by
  have:left=[]:=List.length_eq_zero_iff.mp h;subst this;unfold pickOrder.go;rw[jX]
 | fuel+1,k,left,out,h=>by
  have hp:0<left.length:=by omega
  have hi:next k%left.length<left.length:=qd _ hp
  unfold pickOrder.go;rw[jc hi];dsimp only;refine(znM next fuel (k+1) _ _ (by rw[List.length_eraseIdx_of_lt hi];omega)).trans ?_;rw[uI,kD];exact List.Perm.append_left _ (znL left _ hi)
theorem znN {α:Type}(next:Nat->Nat)(xs:Array α):((pickOrder next xs).toList).Perm xs.toList:=by
 unfold pickOrder;exact(znM next xs.size 0 xs.toList #[] (by rw[jt])).trans (by simp)
end T3
namespace T3
open PySem PySem.Spec PyProof.Rows
theorem zd5:Slot "set_iterator" "__next__" "set_iterator.__next__" :=
 .of (owner:="set_iterator") (n:="__next__") (by rw[typeLookup_type,builtinLookup_eq_fast];kernel_rfl) (by decide +kernel) (by decide +kernel) (by decide +kernel) (by first|exact .inl (by decide +kernel)|exact .inr (by decide +kernel)) (by rw[isSubtype_type];kernel_rfl)
theorem ziV:entryFor table "set_iterator.__next__"=Ga Builtin.«set_iterator.__next__»:=entryFor_of_tree (by kernel_rfl)
theorem zk1 (a:Gg):argsOk "set_iterator.__next__" ⟨[a],[]⟩:=by unfold argsOk;kernel_rfl
theorem ziW:entryFor table "set.__iter__"=Ga Builtin.«frozenset.__iter__»:=entryFor_alias (id':="frozenset.__iter__") (by kernel_rfl) rfl (by decide +kernel) (by kernel_rfl)
section
variable {prog:Program}{w:World}{A:Around}{E:Gg->Gh->Prop}{s:Gh}
theorem zsL {a:Gj}{es:Array (Int×Gg)}{ep:Nat}{t:SetTable}{o:Obj}{Q:Gg->Gh->Prop}(ho:s.heap.get? a=Ga o)(hex:o.ExactSet)(hd:o.data=.set es ep t)(hf:t.fits es.size=true)(hp:t.plain=true)
  (hQ:Q (.ref s.heap.objs.size) { s with heap:=s.heap.push { cls:=.type "set_iterator",data:=.fields #[.int 0 0,.int 0 0,.ref a,.int es.size 0,.int ep 0] } }):wpAny (model prog w) A (pyIter (.ref a)) Q E s:=by
 have ty:s.TypeIs (.ref a) "set":=⟨o,ho,hex.1⟩;refine wpAny_pyIter_slot ty qH (wpAny_call_entry qH ty ziW ?_ (PySem.F.args_set_iter_1 _));unfold Builtin.«frozenset.__iter__»;refine wpAny_bind (wpAny_pure ?_);refine wpAny_bind ?_;unfold JK;refine wpAny_bind (wpAny_setEntries_of ho hd hf (wpAny_pure ?_));refine wpAny_bind ?_;unfold setDrawn setsByText;refine wpAny_bind (wpAny_setState_of ho hd hf ?_);dsimp only;refine wpAny_bind (wpAny_bind (wpAny_askSetting (wpAny_pure ?_)));refine wpAny_pure ?_;have dr:∀ b:Bool,(b&&(!t.plain&&decide (es.size>1)))=false:=λb=>by rw[hp];cases b<;>rfl
 show wpAny _ _ (if (_&&(!t.plain&&decide (es.size>1)))=true then _ else _) _ _ _;rw[dr,Gf (by decide)];refine wpAny_bind (wpAny_pure ?_);refine wpAny_bind (wpAny_setEpoch_of ho hd hf ?_);exact wpAny_bind (wpAny_newObj_type (wpAny_pure ⟨_,rfl,"set_iterator",_,⟨_,jv _ rfl,rfl⟩,zd5.lookup,hQ⟩))
end
end T3
namespace T3
open PySem PySem.Spec PyProof.Rows
section
variable {prog:Program}{w:World}{A:Around}{E:Gg->Gh->Prop}{s:Gh}
def nextR (w:World)(a:Gj)(es:Array (Int×Gg))(ep:Nat)(t:SetTable)(slot given:Nat):Option (Gg×Nat) :=
 if w.params.followText "set-order"=true then((pickOrder (w.params.setOrder a ep) es)[given]?).map λe=>(e.2,slot)
 else match es[SetTable.below t.place slot]?,t.place[SetTable.below t.place slot]? with
  | some (_,x),Ga j=>Ga (x,j+1)
  | _,_=>Gb
theorem zhA {a:Gj}{slot given ep:Nat}{es:Array (Int×Gg)}{t:SetTable}{o:Obj}{Q:Option (Gg×Nat)->Gh->Prop}(ho:s.heap.get? a=Ga o)(hd:o.data=.set es ep t)(hf:t.fits es.size=true)(hp:t.plain=true)(hl:t.led=ledW w)
  (hQ:Q (nextR w a es ep t slot given) s):wpAny (model prog w) A (setNext a slot given ep) Q E s:=by
 unfold setNext;refine wpAny_bind (wpAny_setState_of ho hd hf ?_);dsimp only;unfold setsByText;refine wpAny_bind (wpAny_bind (wpAny_askSetting (wpAny_pure ?_)));show wpAny _ _ (if w.params.followText "set-order"=true then _ else _) _ _ _;unfold nextR at hQ;cases hb:w.params.followText "set-order" with
 | true =>
  rw[hb,Ge rfl] at hQ;rw[Ge rfl,Gf (by simp)];unfold setWalk setsByText;refine wpAny_bind (wpAny_bind (wpAny_setState_of ho hd hf ?_));dsimp only;refine wpAny_bind (wpAny_bind (wpAny_askSetting (wpAny_pure ?_)));show wpAny _ _ (if w.params.followText "set-order"=true then _ else _) _ _ _;rw[hb,Ge rfl];refine wpAny_bind (wpAny_askSetting (wpAny_pure ?_));exact wpAny_pure hQ
 | false =>
  rw[hb,Gf (by decide)] at hQ;rw[Gf (by decide)];have l1:t.led=true:=by rw[hl];show(!w.params.followText "set-order")=true;rw[hb];rfl
  show wpAny _ _ (if (!t.plain&&decide (es.size>1))=true then _ else _) _ _ _;rw[hp,Gf (by simp)];refine wpAny_bind ?_;show wpAny _ _ (if (!t.led&&!es.isEmpty)=true then _ else _) _ _ _;rw[l1,Gf (by simp)];refine wpAny_pure ?_;exact wpAny_pure hQ
def SetIt (h:Heap)(it:Gj)(slot i:Nat)(a:Gj)(n ep:Nat):Prop:=∃ o,h.get? it=Ga o/\o.cls=.type "set_iterator"/\o.data=.fields #[.int (slot:Int) 0,.int (i:Int) 0,.ref a,.int (n:Int) 0,.int (ep:Int) 0]
theorem SetIt.at' {h h':Heap}{it a:Gj}{slot i n ep:Nat}(x:SetIt h it slot i a n ep)(k:∀ o,h.get? it=Ga o->h'.get? it=Ga o):SetIt h' it slot i a n ep:=let ⟨o,ho,r⟩:=x;⟨o,k _ ho,r⟩
theorem zpO {it a:Gj}{slot i ep nx:Nat}{es:Array (Int×Gg)}{t:SetTable}{o:Obj}{x:Gg}{Q:Option Gg->Gh->Prop}(hit:SetIt s.heap it slot i a es.size ep)(ho:s.heap.get? a=Ga o)(hd:o.data=.set es ep t)(hf:t.fits es.size=true)(hp:t.plain=true)(hl:t.led=ledW w)
  (hn:nextR w a es ep t slot i=Ga (x,nx)) (hQ:∀ h',SetIt h' it nx (i+1) a es.size ep->kw it s.heap h'->Q (Ga x) { s with heap:=h' }):wpAny (model prog w) A (pyNext (.ref it)) Q E s:=by
 obtain⟨oi,hoi,hc,hdi⟩:=id hit;have ty:s.TypeIs (.ref it) "set_iterator":=⟨oi,hoi,hc⟩;unfold pyNext;refine wpAny_bind (wpAny_attempt (wpAny_callSpecial?_slot (name:=uV "__next__") ty zd5 (wpAny_call_entry zd5 ty ziV ?_ (zk1 _))));unfold Builtin.«set_iterator.__next__»;refine wpAny_bind (wpAny_pure ?_);refine wpAny_bind (wpAny_fieldsOf hoi hdi ?_);show wpAny _ _ (setEntries a >>= _) _ _ s;refine wpAny_bind (wpAny_setEntries_of ho hd hf ?_);rw[Gf (by simp)];show wpAny _ _ (setNext a (slot:Int).toNat (i:Int).toNat (ep:Int).toNat >>= _) _ _ s;rw[jD,jD,jD];refine wpAny_bind (zhA ho hd hf hp hl ?_);rw[hn];dsimp only;refine wpAny_bind (wpAny_setField hoi hdi (by simp) ?_);have g1:=j4 (u6 (·.setIfInBounds 0 (rawInt (nx:Int)))) hoi (u8 (k0 hdi _));have d1:=k0 hdi (·.setIfInBounds 0 (rawInt (nx:Int)));have c1:(u6 (·.setIfInBounds 0 (rawInt (nx:Int))) oi).cls=.type "set_iterator":=(vF ..).trans hc;have s1:=jP s.heap it (u6 (·.setIfInBounds 0 (rawInt (nx:Int))));generalize s.heap.update it (u6 (·.setIfInBounds 0 (rawInt (nx:Int))))=h1 at g1 s1;generalize u6 (·.setIfInBounds 0 (rawInt (nx:Int))) oi=o1 at g1 d1 c1;refine wpAny_bind (wpAny_setField (s:={ s with heap:=h1 }) g1 d1 (by simp) ?_);refine wpAny_pure ⟨_,rfl,wpAny_pure (hQ _ ⟨_,j4 _ g1 (u8 (k0 d1 _)),(vF ..).trans c1,?_⟩ (s1.trans (jP ..)))⟩;rw[k0 d1];simp[rawInt]
theorem zpP {it a:Gj}{slot i ep:Nat}{es:Array (Int×Gg)}{t:SetTable}{o:Obj}{Q:Option Gg->Gh->Prop}(hh:A.handled=Gb)(hit:SetIt s.heap it slot i a es.size ep)(ho:s.heap.get? a=Ga o)(hd:o.data=.set es ep t)(hf:t.fits es.size=true)(hp:t.plain=true)(hl:t.led=ledW w)
  (hn:nextR w a es ep t slot i=Gb) (hQ:∀ h',qM it s.heap h'->Q Gb { s with heap:=h' }):wpAny (model prog w) A (pyNext (.ref it)) Q E s:=by
 obtain⟨oi,hoi,hc,hdi⟩:=id hit;have ty:s.TypeIs (.ref it) "set_iterator":=⟨oi,hoi,hc⟩;unfold pyNext;refine wpAny_bind (wpAny_attempt (wpAny_callSpecial?_slot (name:=uV "__next__") ty zd5 (wpAny_call_entry zd5 ty ziV ?_ (zk1 _))));unfold Builtin.«set_iterator.__next__»;refine wpAny_bind (wpAny_pure ?_);refine wpAny_bind (wpAny_fieldsOf hoi hdi ?_);show wpAny _ _ (setEntries a >>= _) _ _ s;refine wpAny_bind (wpAny_setEntries_of ho hd hf ?_);rw[Gf (by simp)];show wpAny _ _ (setNext a (slot:Int).toNat (i:Int).toNat (ep:Int).toNat >>= _) _ _ s;rw[jD,jD,jD];refine wpAny_bind (zhA ho hd hf hp hl ?_);rw[hn];dsimp only;refine wpAny_bind (wpAny_setField hoi hdi (by simp) ?_);show wpAny _ _ (newExc (.type "StopIteration") [] >>= _) _ _ _;refine wpAny_bind ?_;simp only[newExc,newTuple];refine wpAny_bind (wpAny_newObj_type (wpAny_bind (m:=firstArgMember _ _) (wpAny_of_eq (a:=jT) (by first|rfl|(simp only[firstArgMember];rfl)) (wpAny_newObj_type ?_ (by size_fits)))) (by size_fits));simp only[raiseNew];refine wpAny_bind (wpAny_handled ?_);rw[show A.in1.handled=Gb from hh];refine wpAny_bind (wpAny_pure (wpAny_throw ?_));refine(wpAny_bind (wpAny_isInstance (T:="StopIteration") (b:=true) ⟨_,jv _ rfl,rfl⟩ isSubtype_stop ?_));exact wpAny_pure (hQ _ (((jP ..).extBut.push _).push _))
theorem zk2:Slot "set_iterator" "__iter__" "set_iterator.__iter__" :=
 .of (owner:="set_iterator") (n:="__iter__") (by rw[typeLookup_type,builtinLookup_eq_fast];kernel_rfl) (by decide +kernel) (by decide +kernel) (by decide +kernel) (by first|exact .inl (by decide +kernel)|exact .inr (by decide +kernel)) (by rw[isSubtype_type];kernel_rfl)
theorem ziX:entryFor table "set_iterator.__iter__"=Ga Builtin.«dict_keyiterator.__iter__»:=entryFor_alias (id':="dict_keyiterator.__iter__") (by kernel_rfl) rfl (by decide +kernel) (by kernel_rfl)
theorem zjZ (a:Gg):argsOk "set_iterator.__iter__" ⟨[a],[]⟩:=by unfold argsOk;kernel_rfl
theorem zpQ {it a:Gj}{slot i n ep:Nat}{Q:Gg->Gh->Prop}(hit:SetIt s.heap it slot i a n ep)(h:Q (.ref it) s):wpAny (model prog w) A (pyIter (.ref it)) Q E s:=by
 obtain⟨oi,hoi,hc,hdi⟩:=id hit;have ty:s.TypeIs (.ref it) "set_iterator":=⟨oi,hoi,hc⟩;refine wpAny_pyIter_slot ty zk2 (wpAny_call_entry zk2 ty ziX ?_ (zjZ _));show wpAny _ _ (ret (.ref it)) _ _ s;exact wpAny_pure ⟨_,rfl,"set_iterator",_,ty,zd5.lookup,h⟩
theorem zpR {x:Gj}{Q:Bool->Gh->Prop}(hT:s.TypeIs (.ref x) "set")(h:Q false s):wpAny (model prog w) A (uz (.ref x)) Q E s:=by
 unfold uz;refine wpAny_bind (wpAny_specialOf hT PySem.F.slot_set_len.lookup ?_);generalize hid:("set.__len__":String)=id0
 wp_delta
 rw[show splitId id0=Ga ("set","__len__") from by subst hid;decide +kernel];subst hid;refine wpAny_bind (wpAny_isInstance (T:="set") (b:=true) hT (by rw[isSubtype_type];kernel_rfl) ?_);refine wpAny_ite_split (λhab=>absurd hab (by decide)) (λ_=>?_);refine wpAny_ite_split (λ_=>?_) (λhab=>absurd (by decide +kernel) hab);refine wpAny_bind (wpAny_typeOf hT ?_);exact wpAny_pure h
def slotA (w:World)(t:SetTable)(i:Nat):Nat:=if w.params.followText "set-order"=true then 0 else if i=0 then 0 else t.place.getD (i-1) 0+1
def walkA (w:World)(a:Gj)(es:Array (Int×Gg))(ep:Nat):Array (Int×Gg):=if w.params.followText "set-order"=true then pickOrder (w.params.setOrder a ep) es else es
theorem zhB (w:World)(a:Gj)(es:Array (Int×Gg))(ep:Nat):(walkA w a es ep).toList.Perm es.toList:=by
 unfold walkA;split
 .exact znN _ _
 .exact .refl _
theorem zfC (w:World)(a:Gj)(es:Array (Int×Gg))(ep:Nat):(walkA w a es ep).size=es.size:=by
 rw[<- jt,(zhB w a es ep).length_eq,jt]
structure SWalk (w:World)(a:Gj)(es:Array (Int×Gg))(ep:Nat)(t:SetTable):Prop where
 item:∀ i (hi:i<es.size),∃ e,(walkA w a es ep)[i]?=Ga e/\nextR w a es ep t (slotA w t i) i=Ga (e.2,slotA w t (i+1))
 done:nextR w a es ep t (slotA w t es.size) es.size=Gb
theorem znO (hh:A.handled=Gb)(I a:Gj)(hne:a≠I)(es:Array (Int×Gg))(ep:Nat)(t:SetTable)(hf:t.fits es.size=true)(hp:t.plain=true)(hl:t.led=ledW w)(W:SWalk w a es ep t) :
  Walks prog w A I [I,a] [I] es.size (λi v=>∃ e,(walkA w a es ep)[i]?=Ga e/\v=e.2) (λi h=>SetIt h I (slotA w t i) i a es.size ep/\∃ o,h.get? a=Ga o/\o.data=.set es ep t) where
 sub:=λb hb=>by simp at hb;simp[hb]
 frame:=λ_ _ _ st hk=>⟨st.1.at' λo e=>hk I (by simp) o e,let ⟨o,ho,r⟩:=st.2;⟨o,hk a (by simp) o ho,r⟩⟩
 item:=λi s Q E hi st hQ=>by
  obtain⟨e,e1,e2⟩:=W.item i hi;obtain⟨o,ho,hd⟩:=st.2;refine zpO st.1 ho hd hf hp hl e2 λh' hit' hs'=>?_;exact hQ _ h' s.toks ⟨e,e1,rfl⟩ ⟨hit',o,(hs'.2 a hne).trans ho,hd⟩ λb o hb eo=>hs'.extBut b o (λh=>hb (by simp[h])) eo
 done:=λs Q E st hQ=>by
  obtain⟨o,ho,hd⟩:=st.2;exact zpP hh st.1 ho hd hf hp hl W.done λh' he'=>hQ h' s.toks λb o hb eo=>he' b o (λh=>hb (by simp[h])) eo
 self:=λ_ _ _ _ st hQ=>zpQ st.1 hQ
theorem zj0 {d:Gj}{es:Array (Int×Gg)}{ep:Nat}{t:SetTable}{o:Obj}{Q:List Gg->Gh->Prop}(hh:A.handled=Gb)(ho:s.heap.get? d=Ga o)(hex:o.ExactSet)(hd:o.data=.set es ep t)(hf:t.fits es.size=true)(hp:t.plain=true)(hl:t.led=ledW w)(W:SWalk w d es ep t)(hn:es.size<=sizeLine)
  (hQ:∀ h' tk acc,(∀ b o,s.heap.get? b=Ga o->h'.get? b=Ga o)->(∃ o,h'.get? s.heap.objs.size=Ga o)->ItemsOf (λi v=>∃ e,(walkA w d es ep)[i]?=Ga e/\v=e.2) acc es.size->Q acc.toList { s with heap:=h',toks:=tk }) :
  wpAny (model prog w) A (collect (.ref d)) Q E s:=by
 have hlt:d<s.heap.objs.size:=jp ho;unfold collect;refine wpAny_bind (wpAny_runValue (codeAny_builtin entry_proto_collect' ?_));show wpAny _ _ (do again (.builtin "list.__iadd__" ⟨[<- newList [],.ref d],[]⟩)) _ _ s;refine wpAny_bind (wpAny_newList (wpAny_pure ⟨Code.quiet_builtin _ (by decide +kernel),codeAny_builtin entry_list_iadd' ?_⟩));show wpAny _ _ (kP (.ref s.heap.objs.size) (.ref d) (.ref s.heap.objs.size)) _ _ { s with heap:=s.heap.push (seqObj "list" #[] 0) };have n1:(s.heap.push (seqObj "list" #[] 0)).get? s.heap.objs.size=Ga { cls:=.type "list",data:=.seq #[] 0 }:=jv _ rfl;have kp:∀ b o,s.heap.get? b=Ga o->(s.heap.push (seqObj "list" #[] 0)).get? b=Ga o:=λb o e=>jg _ e;generalize s.heap.push (seqObj "list" #[] 0)=h1 at n1 kp;have hd1:h1.get? d=Ga o:=kp d o ho;unfold kP;refine wpAny_bind (wpAny_typeOf (s:={ s with heap:=h1 }) (T:="set") ⟨o,hd1,hex.1⟩ ?_);rw[show uN (.ref s.heap.objs.size) (.ref d)=false from by simp[uN,kZ hlt]];simp only[show(uB "set"==uB "list")=false by decide,show(uB "set"==uB "tuple")=false by decide,qT,kQ,if_false];refine wpAny_bind (zsL (s:={ s with heap:=h1 }) hd1 hex hd hf hp ?_);generalize hob:({ cls:=.type "set_iterator",data:=.fields #[.int 0 0,.int 0 0,.ref d,.int es.size 0,.int ep 0] }:Obj)=ob;have kp2:∀ b o,h1.get? b=Ga o->(h1.push ob).get? b=Ga o:=λb o e=>jg _ e;have s0:slotA w t 0=0:=by unfold slotA;split<;>simp
 have it0:SetIt (h1.push ob) h1.objs.size (slotA w t 0) 0 d es.size ep:=⟨_,by subst hob;exact jv _ rfl,by subst hob;rfl,by subst hob;rw[s0];rfl⟩;have dI:d≠h1.objs.size:=jC (jp hd1);have sI:s.heap.objs.size≠h1.objs.size:=jC (jp n1);have hd2:=kp2 _ _ hd1;have n2:=kp2 _ _ n1;show wpAny _ _ _ _ _ { s with heap:=h1.push ob };generalize h1.push ob=h2 at kp2 it0 hd2 n2;refine wpAny_bind (wpAny_holding (zpR (s:={ s with heap:=h2 }) ⟨o,hd2,hex.1⟩ ?_));refine wpAny_ite_split (λ_=>?_) λz=>absurd (by decide) z;refine wpAny_bind (wpAny_rule (wpAny_bind ?_));show wpAny _ _ (updateSeq s.heap.objs.size (·.push .none) >>= λ_=>updateSeq s.heap.objs.size (·.pop)) _ _ _;refine wpAny_bind (wpAny_updateSeq n2 rfl ?_);have n3:=j4 (j3 (·.push jT)) n2 rfl;refine wpAny_updateSeq (hz:=by seq_fits) n3 rfl ?_;have n4:=j4 (j3 (·.pop)) n3 rfl;have kp3:∀ b o,b≠s.heap.objs.size->h2.get? b=Ga o->((h2.update s.heap.objs.size (j3 (·.push jT))).update s.heap.objs.size (j3 (·.pop))).get? b=Ga o :=
  λb o hb e=>(kF _ _ (kY hb)).trans ((kF _ _ (kY hb)).trans e)
 have it4:=it0.at' λo e=>kp3 _ o (kY sI) e;have hd4:=kp3 _ _ (jC hlt) hd2;generalize (h2.update s.heap.objs.size (j3 (·.push jT))).update s.heap.objs.size (j3 (·.pop))=h4 at n4 kp3 it4 hd4;refine wpAny_pure ⟨plainId_quiet F.plain_extend_loop _,?_⟩;have W:=(znO (prog:=prog) (w:=w) (A:=A.in1) (show A.in1.handled=Gb from hh) h1.objs.size d dI es ep t hf hp hl W).toS;refine codeAny_extend_loopS W hn s.heap.objs.size ?_ _ es.size 0 { s with heap:=h4 } #[] _ rfl (jY _) ⟨it4,o,hd4,hd⟩ n4 (ItemsOf.nil _) λs' acc c m nn it=>?_
 .simp only[ju,ki,or_false,not_or];exact⟨sI,kZ hlt⟩
 .show wpAny _ A (load s.heap.objs.size >>= _) _ _ s';refine wpAny_bind (wpAny_load nn (wpAny_pure ?_));rw[Moved.eq_with m] at nn ⊢;refine hQ s'.heap s'.toks acc (λb o e=>m.heap b o (λz=>?_) (kp3 _ _ (jC (jp e)) (kp2 _ _ (kp b o e)))) ⟨_,nn⟩ it;simp only[ju,ki,or_false] at z;rcases z with z|z
  .exact absurd (jp e) (by rw[z];exact kK _)
  .exact absurd (jp (kp b o e)) (by rw[z];exact kK _)
end
end T3
namespace T3
open PySem PySem.Spec PyProof.Rows L2
section
variable {X:Cx}{pos:Pos}
theorem zpS:bootBuiltins "set"=Ga (.type "set"):=by decide +kernel
end
end T3
namespace T3
open PySem PySem.Spec PyProof.Rows L2
def glk (i:Nat):FL:=λψ=>match ψ[i]? with
 | some (.owk _ ds)=>Ga ds
 | _=>Gb
section
variable {X:Cx}{pos:Pos}
theorem znP (i:Nat){x:Str}(hN:X.N[i]?=Ga x:=by rfl)(hv:Vis X.env.scope x:=by first|exact kR rfl|exact kc (kR rfl)|exact kc (kc rfl))(hd:(x==("__debug__":Str))=false:=by decide)
  (hcd:(x==("__classdict__":Str))=false:=by decide):PSh X (.Name x pos) (glk i):=by
 refine zaN (pe_var hN hv hd hcd) λσ H Q=>?_;rintro⟨H0,F,ψ,ds,r,e,q⟩;unfold glk at e;split at e;rotate_left
 .cases e
 rename_i a ds' z;cases e;obtain⟨u,e1,xs,e2,ha,fa,h0a,rr⟩:=r.sl i _ z;subst e2;exact⟨.ref a,e1,q a xs H F (.refl _) (.refl _) r.fh (.refl _ _) (SqL.of ha) rr⟩
def stoK (i:Nat)(fi f:FV):FS:=λψ=>(f ψ).bind λv=>match ψ[i]? with
 | some (.owk a ds)=>(fi ψ).bind λk=>(stoL ds k v).bind λes=>Ga (.nx (ψ.set i (.owk a es)))
 | _=>Gb
theorem zk3 (i:Nat){x:Str}{ie e:Expr}{fi f:FV}{p p2:Pos}(hi:PV X ie fi)(h:PV X e f)(hN:X.N[i]?=Ga x:=by rfl)(hv:Vis X.env.scope x:=by first|exact kR rfl|exact kc (kR rfl)|exact kc (kc rfl))
  (hd:(x==("__debug__":Str))=false:=by decide) (hcd:(x==("__classdict__":Str))=false:=by decide)
  (hs:swapsWithSole [.Subscript (.Name x p) ie p2] e pos.line X.env=pure false:=by rfl) (hw:swappedStores [.Subscript (.Name x p) ie p2] e X.env=pure Gb:=by rfl)
  (h1:(assignEach [.Subscript (.Name x p) ie p2] X.env).map (·.2)=[assign (.Subscript (.Name x p) ie p2) X.env]:=by rfl)
  (ha:∀ v,assign (.Subscript (.Name x p) ie p2) X.env v=(do
   let ov <- holding [v] (eval (.Name x p) X.env)
   let iv <- holding [v,ov] (eval ie X.env)
   standAt p2
   holding [v,ov,iv] (setItem ov iv v)
   release [v,ov,iv] []):=by intro _;rfl) :
  PSt X (.Assign [.Subscript (.Name x p) ie p2] e pos) (stoK i fi f):=by
 refine zbL (ps_asg h (pg_sub (pe_var (pos:=p) hN hv hd hcd) hi set_list ha) hs hw h1) λE σ H=>?_;rintro⟨H0,F,ψ,o,r,e,p⟩;obtain⟨dv,e1,e5⟩:=bind_some e;split at e5;rotate_left
 .cases e5
 rename_i a ds z;obtain⟨dk,e3,e7⟩:=bind_some e5;obtain⟨es,e4,e8⟩:=bind_some e7;cases e8;clear e e5 e7;refine⟨H0,F,ψ,dv,r,e1,λv H1 F1 g1 f1 fh1 n1 rv=>?_⟩;have r1:=r.grow g1 f1 fh1 n1;obtain⟨u,x3,xs,x4,ha1,fa,h0a,rr⟩:=r1.sl i _ z;subst x4;refine⟨.ref a,x3,H0,F1,ψ,dk,r1,e3,λw H2 F2 g2 f2 fh2 n2 rw_=>?_⟩;have r2:=r1.grow g2 f2 fh2 n2;cases rw_<;>first|(cases e4;done)|skip
 rename_i k;obtain⟨j,y1,y2⟩:=bind_some (show(ixN ds.length k).bind (λj=>Ga (ds.set j dv))=Ga es from e4);cases y2;refine⟨a,xs,k,j,rfl,rfl,g2 _ _ ha1,by rw[<- rr.length];exact y1,?_⟩;obtain⟨u2,x5,xs2,x6,ha2,fa2,h0a2,rr2⟩:=r2.sl i _ z;exact p σ _ F2 (f1.trans f2) ((n1.trans n2 g1).dn r.h0) (r2.chgG z rfl x3 ⟨_,rfl,upd_same,fa2,h0a2,(rr.mono f2).set (rv.mono f2) j⟩)
def popD (kvs:List (Int×D))(k:Int):List (Int×D):=kvs.filter λkv=>decide (kv.1≠k)
theorem RepKV.pop {K:ja}{F:Hp}(k:Int):∀ {l:List (Int×D)} {m:List (Int×V)},RepKV K F l m->RepKV K F (popD l k) (m.filter λkv=>decide (kv.1≠k))
 | _,_,.nil=>.nil
 | (j,e)::_,(_,u)::_,.cons h t=>by
  unfold popD;rw[vM,vM];dsimp only;split
  .exact .cons h (t.pop k)
  .exact t.pop k
def popI (i:Nat)(f:FV):FS:=λψ=>(f ψ).bind λk=>match ψ[i]?,k with
 | some (.dki oa kvs),.int n=>Ga (.nx (ψ.set i (.dki oa (popD kvs n))))
 | _,_=>Gb
def retC (f:FV):FS:=λψ=>(f ψ).bind λd=>Ga (.rc d ψ)
theorem zvM {e:Expr}{f:FV}(h:PV X e f):PSt X (.Return (Ga e) pos) (retC f):=by
 refine zbL (ps_ret h) λE σ H=>?_;rintro⟨H0,F,ψ,o,r,e,p⟩;obtain⟨d,e1,e⟩:=bind_some e;cases e;exact⟨H0,F,ψ,d,r,e1,λv H' F' g f1 fh n rv=>p v σ H' F' f1 (n.dn r.h0) (r.grow g f1 fh n) rv⟩
end
def spC (K:ja)(N:List Str)(np:Nat)(g:FS):Sp:=λvs H Q _=>vs.length=np/\∃ H0 F ψ d env',RS K H0 F H ψ (L2.start N vs)/\g ψ=Ga (.rc d env')/\∀ v σ' H' F',Same F F'->New F F' H0->RS K H0 F' H' env' σ'->Rep K F' d v->Q v H'
section
variable {P:Program}{w:World}{K:ja}{mg:Str->Option Gg}{base:Heap}{x qual:Str}{st:Stmt}{f:Gj}{fd:Gi}{N ps:List Str}{k:Nat}{g:FS}
theorem okC (F:Fun K x qual st f fd)(S:FnScope N ps (defScope st))
  (hb:∀ (cdv:Gg) (A:Around) (outer:List Env) (s:Gh) (H:Hp) (E:XK),Room k (A.deeper (envOfC qual (defScope st) s.heap.objs.size f cdv))->PSts (cxOf CX0 P w K mg base N qual (defScope st) f cdv A outer s H E).nox (defBody st) g) :
  FnOk P w K mg base CX0 (k+1) f fd ps (spC K N ps.length g):=by
 refine F.ok S (λvs H Q E h=>h.1) (λcdv A outer s H vs Q E hr h=>?_);obtain⟨_,H0,F0,ψ,d,env',r,e,q⟩:=h;exact⟨_,hb cdv A outer s H E hr,H0,F0,ψ,_,r,e,q⟩
def endC (g:FS):FS:=λψ=>(g ψ).bind λo=>match o with
 | .nx ψ=>Ga (.rc .none ψ)
 | o=>Ga o
theorem okCe (F:Fun K x qual st f fd)(S:FnScope N ps (defScope st))
  (hb:∀ (cdv:Gg) (A:Around) (outer:List Env) (s:Gh) (H:Hp) (E:XK),Room k (A.deeper (envOfC qual (defScope st) s.heap.objs.size f cdv))->PSts (cxOf CX0 P w K mg base N qual (defScope st) f cdv A outer s H E).nox (defBody st) g) :
  FnOk P w K mg base CX0 (k+1) f fd ps (spC K N ps.length (endC g)):=by
 refine F.ok S (λvs H Q E h=>h.1) (λcdv A outer s H vs Q E hr h=>?_);obtain⟨_,H0,F0,ψ,d,env',r,e,q⟩:=h;obtain⟨o,e1,e2⟩:=bind_some e;refine⟨_,hb cdv A outer s H E hr,H0,F0,ψ,o,r,e1,?_⟩;cases o<;>first|(cases e2;done)|skip
 .cases e2;exact λσ' H' F' f n r'=>q .non σ' H' F' f n r' .non
 .cases e2;exact q
end
abbrev Arg:=D ⊕ Nat
inductive ArgR (K:ja)(F:Hp)(σ:St):List Arg->List V->Prop where
 | nil:ArgR K F σ [] []
 | val {d:D} {v:V} {as:List Arg} {vs:List V} (h:Rep K F d v) (t:ArgR K F σ as vs):ArgR K F σ (.inl d::as) (v::vs)
 | own {i:Nat} {v:V} {as:List Arg} {vs:List V} (h:σ[i]?=Ga (Ga v)) (t:ArgR K F σ as vs):ArgR K F σ (.inr i::as) (v::vs)
theorem ArgR.mono {K:ja}{F F':Hp}{σ:St}(f:Same F F'):∀ {as:List Arg} {vs:List V},ArgR K F σ as vs->ArgR K F' σ as vs
 | _,_,.nil=>.nil
 | _,_,.val h t=>.val (h.mono f) (t.mono f)
 | _,_,.own h t=>.own h (t.mono f)
theorem ArgR.length {K:ja}{F:Hp}{σ:St}:∀ {as:List Arg} {vs:List V},ArgR K F σ as vs->as.length=vs.length
 | _,_,.nil=>rfl
 | _,_,.val _ t=>congrArg uC t.length
 | _,_,.own _ t=>congrArg uC t.length
theorem ArgR.get {K:ja}{F:Hp}{σ:St}:∀ {as:List Arg} {vs:List V} {p:Nat} {a:Arg},ArgR K F σ as vs->as[p]?=Ga a->∃ v,vs[p]?=Ga v/\(∀ d,a=.inl d->Rep K F d v)/\∀ i,a=.inr i->σ[i]?=Ga (Ga v)
 | _,_,p,a,.nil,e=>by simp at e
 | _,_,0,a,.val h t,e=>by cases e;exact⟨_,rfl,λd z=>by cases z;exact h,λi z=>by cases z⟩
 | _,_,0,a,.own h t,e=>by cases e;exact⟨_,rfl,λd z=>(by cases z),λi z=>(by cases z;exact h)⟩
 | _,_,p+1,a,.val h t,e=>t.get (p:=p) e
 | _,_,p+1,a,.own h t,e=>t.get (p:=p) e
abbrev FA:=En->Option (List Arg)
def nilA:FA:=λ_=>Ga []
def valA (f:FV)(g:FA):FA:=λψ=>(f ψ).bind λd=>(g ψ).bind λl=>Ga (.inl d::l)
def ownA (i:Nat)(g:FA):FA:=λψ=>(g ψ).bind λl=>Ga (.inr i::l)
def tLC (K:ja)(g:FA):TA:=λσ H Q=>∃ (H0 F:Hp) (ψ:En) (as:List Arg),RS K H0 F H ψ σ/\g ψ=Ga as/\(∀ i,Sum.inr i∈as->∃ s,ψ[i]?=Ga s/\ownS s=true)/\∀ vs H' F',Same H H'->Same F F'->Same F' H'->New F F' H->ArgR K F' σ as vs->Q vs H'
def slIn (ψ:En)(t:Nat->Gj):Arg->Option Sl
 | .inl d=>Ga (.val d)
 | .inr i=>match ψ[i]? with
  | some (.own ds)=>Ga (.owk (t i) ds)
  | some (.owk _ ds)=>Ga (.owk (t i) ds)
  | some (.dki _ kvs)=>Ga (.dki (Ga (t i)) kvs)
  | _=>Gb
def slsIn (ψ:En)(t:Nat->Gj):List Arg->Option En
 | []=>Ga []
 | a::r=>(slIn ψ t a).bind λs=>(slsIn ψ t r).bind λl=>Ga (s::l)
def slBack (s0:Sl)(a:Gj):Sl->Option Sl
 | .owk b ds=>if b=a then(match s0 with
  | .own _=>Ga (.own ds)
  | .owk c _=>Ga (.owk c ds)
  | _=>Gb) else Gb
 | .dki (Ga b) kvs=>if b=a then(match s0 with
  | .dki oa _=>Ga (.dki oa kvs)
  | _=>Gb) else Gb
 | _=>Gb
def backE (env1:En)(t:Nat->Gj):Nat->List Arg->En->Option En
 | _,[],ψ=>Ga ψ
 | p,.inl _::r,ψ=>backE env1 t (p+1) r ψ
 | p,.inr i::r,ψ=>(ψ[i]?).bind λs0=>(env1[p]?).bind λs1=>(slBack s0 (t i) s1).bind λs2=>backE env1 t (p+1) r (ψ.set i s2)
def inrs:List Arg->List Nat
 | []=>[]
 | .inl _::r=>inrs r
 | .inr i::r=>i::inrs r
def runC (n:Nat)(g:FS)(as:List Arg)(ψ:En)(t:Nat->Gj):Option (D×En):=(slsIn ψ t as).bind λl=>(g (l++jF (n-l.length) .no)).bind λo=>match o with
 | .rc d env1=>(backE env1 t 0 as ψ).bind λenv2=>Ga (d,env2)
 | _=>Gb
open Classical in
noncomputable def pickC (n:Nat)(g:FS)(as:List Arg)(ψ:En):Option (D×En):=if h:∃ r,∀ t,runC n g as ψ t=Ga r then Ga (Classical.choose h) else Gb
theorem zhW {n:Nat}{g:FS}{as:List Arg}{ψ:En}{r:D×En}(h:∀ t,runC n g as ψ t=Ga r):pickC n g as ψ=Ga r:=by
 have e:∃ r,∀ t,runC n g as ψ t=Ga r:=⟨r,h⟩;unfold pickC;rw[dif_pos e];have z:=qI e λ_=>0;rw[h] at z;exact z.symm
theorem zpT {n:Nat}{g:FS}{as:List Arg}{ψ:En}{r:D×En}(h:pickC n g as ψ=Ga r)(t:Nat->Gj):runC n g as ψ t=Ga r:=by
 unfold pickC at h;split at h
 .rename_i e;cases h;exact qI e t
 .cases h
open Classical in
noncomputable def callC (j n:Nat)(g:FS)(a:FA):FS:=λψ=>(a ψ).bind λas=>if (inrs as).Nodup/\∀ i∈inrs as,∃ s,ψ[i]?=Ga s/\ownS s=true then(pickC n g as ψ).bind λr=>Ga (.nx (r.2.set j (.val r.1))) else Gb
theorem zb9 {i:Nat}:∀ {as:List Arg},i∈inrs as↔Sum.inr i∈as
 | []=>by simp[inrs]
 | .inl d::r=>by rw[show inrs (.inl d::r)=inrs r from rfl,zb9];simp
 | .inr j::r=>by rw[show inrs (.inr j::r)=j::inrs r from rfl,ju,zb9];simp
theorem zhX {i:Nat}:∀ {as:List Arg},(inrs as).Nodup->∀ {p q:Nat},as[p]?=Ga (.inr i)->as[q]?=Ga (.inr i)->p=q
 | [],_,p,q,h,_=>by simp at h
 | .inl d::r,nd,0,q,h,_=>by cases h
 | .inl d::r,nd,p+1,0,_,h=>by cases h
 | .inl d::r,nd,p+1,q+1,h1,h2=>congrArg uC (zhX (p:=p) (q:=q) (as:=r) nd h1 h2)
 | .inr j::r,nd,0,0,_,_=>rfl
 | .inr j::r,nd,0,q+1,h1,h2=>by
  cases h1;exact absurd (zb9.mpr (jL (show r[q]?=_ from h2))) (jH.mp nd).1
 | .inr j::r,nd,p+1,0,h1,h2=>by
  cases h2;exact absurd (zb9.mpr (jL (show r[p]?=_ from h1))) (jH.mp nd).1
 | .inr j::r,nd,p+1,q+1,h1,h2=>congrArg uC (zhX (p:=p) (q:=q) (as:=r) (jH.mp nd).2 h1 h2)
theorem ziY {ψ:En}{t:Nat->Gj}:∀ {as:List Arg} {l:En},slsIn ψ t as=Ga l->l.length=as.length
 | [],l,h=>by cases h;rfl
 | a::r,l,h=>by
  obtain⟨s,_,h⟩:=bind_some h;obtain⟨l',e,h⟩:=bind_some h;cases h;exact congrArg uC (ziY e)
theorem ziZ {ψ:En}{t:Nat->Gj}:∀ {as:List Arg} {l:En} {p:Nat} {s:Sl},slsIn ψ t as=Ga l->l[p]?=Ga s->∃ a,as[p]?=Ga a/\slIn ψ t a=Ga s
 | [],l,p,s,h,e=>by cases h;simp at e
 | a::r,l,p,s,h,e=>by
  obtain⟨s0,e0,h⟩:=bind_some h;obtain⟨l',e1,h⟩:=bind_some h;cases h;cases p with
  | zero=>cases e;exact⟨a,rfl,e0⟩
  | succ p=>exact ziZ (p:=p) e1 e
theorem zgC {env1:En}{t:Nat->Gj}:∀ {as:List Arg} {p:Nat} {ψ env2:En},backE env1 t p as ψ=Ga env2->(inrs as).Nodup->∀ (i:Nat) (s:Sl),env2[i]?=Ga s->(ψ[i]?=Ga s/\i∉inrs as)\/∃ q s0 s1,as[q]?=Ga (.inr i)/\ψ[i]?=Ga s0/\env1[p+q]?=Ga s1/\slBack s0 (t i) s1=Ga s
 | [],p,ψ,env2,h,_,i,s,e=>by cases h;exact .inl ⟨e,λz=>by cases z⟩
 | .inl d::r,p,ψ,env2,h,nd,i,s,e=>by
  rcases zgC (as:=r) h nd i s e with z|⟨q,s0,s1,z1,z2,z3,z4⟩
  .exact .inl z
  .exact .inr ⟨q+1,s0,s1,z1,z2,by rw[show p+(q+1)=p+1+q by omega];exact z3,z4⟩
 | .inr j::r,p,ψ,env2,h,nd,i,s,e=>by
  obtain⟨s0,h0,h⟩:=bind_some h;obtain⟨s1,h1,h⟩:=bind_some h;obtain⟨s2,h2,h⟩:=bind_some h;have nd':=jH.mp nd;have hl:j<ψ.length:=(je.mp h0).1;rcases zgC (as:=r) h nd'.2 i s e with ⟨z1,z2⟩|⟨q,u0,u1,z1,z2,z3,z4⟩
  .by_cases c:j=i
   .subst c;rw[jM hl] at z1;cases z1;exact .inr ⟨0,s0,s1,rfl,h0,h1,h2⟩
   .rw[jI c] at z1;exact .inl ⟨z1,λz=>(ju.mp z).elim (λz=>c z.symm) z2⟩
  .have c:j≠i:=λz=>nd'.1 (by rw[z];exact zb9.mpr (jL z1));rw[jI c] at z2;exact .inr ⟨q+1,u0,u1,z1,z2,by rw[show p+(q+1)=p+1+q by omega];exact z3,z4⟩
theorem zgD {env1:En}{t:Nat->Gj}:∀ {as:List Arg} {p:Nat} {ψ env2:En},backE env1 t p as ψ=Ga env2->(inrs as).Nodup->∀ i∈inrs as,∃ q s0 s1 s,as[q]?=Ga (.inr i)/\ψ[i]?=Ga s0/\env1[p+q]?=Ga s1/\slBack s0 (t i) s1=Ga s
 | [],p,ψ,env2,h,_,i,e=>by cases e
 | .inl d::r,p,ψ,env2,h,nd,i,e=>by
  obtain⟨q,s0,s1,s,z1,z2,z3,z4⟩:=zgD (as:=r) h nd i e;exact⟨q+1,s0,s1,s,z1,z2,by rw[show p+(q+1)=p+1+q by omega];exact z3,z4⟩
 | .inr j::r,p,ψ,env2,h,nd,i,e=>by
  obtain⟨s0,h0,h⟩:=bind_some h;obtain⟨s1,h1,h⟩:=bind_some h;obtain⟨s2,h2,h⟩:=bind_some h;have nd':=jH.mp nd;rcases ju.mp e with rfl|e
  .exact⟨0,s0,s1,s2,rfl,h0,h1,h2⟩
  .obtain⟨q,s0,s1,s,z1,z2,z3,z4⟩:=zgD (as:=r) h nd'.2 i e;have c:j≠i:=λz=>nd'.1 (by rw[z];exact e);rw[jI c] at z2;exact⟨q+1,s0,s1,s,z1,z2,by rw[show p+(q+1)=p+1+q by omega];exact z3,z4⟩
def butP (H:Hp)(P:Gj->Bool):Hp:=λb=>if P b=true then Gb else H b
theorem znQ {H:Hp}{P:Gj->Bool}:Same (butP H P) H:=Same.of λb o h=>by
 unfold butP at h;split at h
 .cases h
 .exact h
theorem zj1 {H:Hp}{P:Gj->Bool}{b:Gj}(h:P b=false):butP H P b=H b:=Gf (by rw[h];decide)
theorem zsM {H:Hp}{P:Gj->Bool}{b:Gj}(h:P b=true):butP H P b=Gb:=Ge h
theorem znR {H:Hp}{P:Gj->Bool}(m:∀ b o u,P b=true->H b≠Ga (.frz o u)){l:List Gg}(g:GoodT H l):GoodT (butP H P) l :=
 ⟨g.1,λpos cv e=>by
  obtain⟨c,o,vs,v,e1,e2,e3⟩:=g.2 pos cv e;refine⟨c,o,vs,v,e1,?_,e3⟩;cases q:P c with
  | true=>exact absurd e2 (m _ _ _ q)
  | false=>rw[zj1 q];exact e2⟩
theorem RS.chgs {K:ja}{H0 F F' H H':Hp}{ψ env':En}{σ:St}(r:RS K H0 F H ψ σ)(P:Gj->Bool)(p0:∀ b,P b=true->∃ (i:Nat) (s:Sl),ψ[i]?=Ga s/\ownS s=true/\σ[i]?=Ga (Ga (V.ref b)))(hb:∀ b o,P b=false->H b=Ga o->Gr H o H' (H' b))(f:Same F F')(fh:Same F' H')(n:New F F' H)
  (hs:∀ (i:Nat) (s:Sl),env'[i]?=Ga s->(ψ[i]?=Ga s/\∀ b,ownS s=true->σ[i]?=Ga (Ga (V.ref b))->P b=false)\/∃ s0,ψ[i]?=Ga s0/\ownS s0=true/\∃ u,σ[i]?=Ga u/\RepSl K H0 F' H' s u):RS K H0 F' H' env' σ:=by
 have own:∀ b,P b=true->∃ ob,H b=Ga ob/\Ow ob/\H0 b=Gb:=λb hp=>by
  obtain⟨i,s,e1,o,e2⟩:=p0 b hp;obtain⟨u,e3,q⟩:=r.sl i s e1;obtain⟨a,ob,z,h1,h2,h3,h4⟩:=q.at o;rw[e2] at e3;cases e3;cases z;exact⟨ob,h1,h4,h3⟩
 have nf:∀ b,P b=true->∀ x u,H b≠Ga (.frz x u):=λb hp=>by
  obtain⟨ob,h1,h2,_⟩:=own b hp;exact h2.nf h1
 refine⟨λb o h=>?_,fh,λi s e=>?_,λj k a s t o1 o2 e1 e2 e3 e4=>?_⟩
 .have pb:P b=false:=by
   cases q:P b with
   | false=>rfl
   | true=>obtain⟨_,_,_,z⟩:=own b q;rw[h] at z;cases z
  have g:=r.h0 b o h;cases o<;>first
   | exact hb b _ pb g
   | (obtain⟨qs,e,k⟩:=g
      obtain⟨rs,e2,k2⟩:=hb b _ pb e;exact⟨rs,e2,λz=>k2 (k z)⟩)
 .rcases hs i s e with ⟨e1,np⟩|⟨s0,_,_,u,e2,q⟩
  .obtain⟨u,e2,q⟩:=r.sl i s e1;refine⟨u,e2,q.to f (λb x h=>?_) λb ob ow z hb' fb ow2=>⟨?_,?_⟩⟩
   .cases pq:P b with
    | true=>exact absurd h (nf b pq _ _)
    | false=>exact hb b _ pq h
   .subst z;have g:=hb b ob (np b ow e2) hb';cases ob<;>first|exact g|exact ow2.elim
   .cases z2:F' b with
    | none=>rfl
    | some o=>have:=n b o z2 fb;rw[hb'] at this;cases this
  .exact⟨u,e2,q⟩
 .have f1:∀ (j:Nat) (s:Sl),ownS s=true->env'[j]?=Ga s->∃ s',ownS s'=true/\ψ[j]?=Ga s':=λj s o h=>by
   rcases hs j s h with ⟨z,_⟩|⟨s0,z,o',_⟩
   .exact⟨_,o,z⟩
   .exact⟨_,o',z⟩
  obtain⟨_,o1,e1⟩:=f1 j _ o1 e1;obtain⟨_,o2,e2⟩:=f1 k _ o2 e2;exact r.ap j k a _ _ o1 o2 e1 e2 e3 e4
section
variable {X:Cx}{pos:Pos}
abbrev PLC (X:Cx)(es:List Expr)(g:FA):Prop:=PA X es (tLC X.K g)
theorem zrE:PLC X [] nilA:=by
 refine zcU pa_nil λσ H Q=>?_;rintro⟨H0,F,ψ,as,r,e,_,q⟩;cases e;exact q [] H F (.refl _) (.refl _) r.fh (.refl _ _) .nil
theorem zrF {e:Expr}{es:List Expr}{f:FV}{g:FA}(ha:PV X e f)(hr:PLC X es g)(hs:starEach (e::es) X.env=(false,eval e X.env)::starEach es X.env:=by rfl):PLC X (e::es) (valA f g):=by
 refine zcU (pa_cons ha hr hs) λσ H Q=>?_;rintro⟨H0,F,ψ,as,r,e,ow,q⟩;obtain⟨d,e1,e⟩:=bind_some e;obtain⟨l,e2,e⟩:=bind_some e;cases e;refine⟨H0,F,ψ,d,r,e1,λv H1 F1 g1 f1 fh1 n1 rv=>⟨H0,F1,ψ,l,r.grow g1 f1 fh1 n1,e2,λi hi=>ow i (jm _ hi),λvs H2 F2 g2 f2 fh2 n2 rvs=>?_⟩⟩;exact q (v::vs) H2 F2 (g1.trans g2) (f1.trans f2) fh2 (n1.trans n2 g1) (.val (rv.mono f2) rvs)
theorem zrG (i:Nat){x:Str}{p:Pos}{es:List Expr}{g:FA}(hr:PLC X es g)(hN:X.N[i]?=Ga x:=by rfl)(hv:Vis X.env.scope x:=by first|exact kR rfl|exact kc (kR rfl)|exact kc (kc rfl))(hd:(x==("__debug__":Str))=false:=by decide)
  (hcd:(x==("__classdict__":Str))=false:=by decide) (hs:starEach (.Name x p::es) X.env=(false,eval (.Name x p) X.env)::starEach es X.env:=by rfl):PLC X (.Name x p::es) (ownA i g):=by
 refine zcU (pa_cons (pe_var hN hv hd hcd) hr hs) λσ H Q=>?_;rintro⟨H0,F,ψ,as,r,e,ow,q⟩;obtain⟨l,e2,e⟩:=bind_some e;cases e;obtain⟨s,es,os⟩:=ow i jn;obtain⟨u,e1,z⟩:=r.sl i s es;obtain⟨a,ob,rfl,_⟩:=z.at os;exact⟨.ref a,e1,H0,F,ψ,l,r,e2,λi hi=>ow i (jm _ hi),λvs H2 F2 g2 f2 fh2 n2 rvs=>q (.ref a::vs) H2 F2 g2 f2 fh2 n2 (.own e1 rvs)⟩
variable {k:Nat}{f:Gj}{fd:Gi}{ps:List Str}{x y:Str}{p pc pos':Pos}{e:Expr}{es:List Expr}{ga:FA}{N:List Str}{g:FS}
abbrev FAD:=En->Option (List Arg×En)
def tLD (K:ja)(g:FAD):TA:=λσ H Q=>∃ (H0 F:Hp) (ψ:En) (as:List Arg) (env1:En),RS K H0 F H ψ σ/\g ψ=Ga (as,env1)/\(∀ i,Sum.inr i∈as->∃ s,env1[i]?=Ga s/\ownS s=true)/\∀ vs H' F',Same F F'->New F F' H0->RS K H0 F' H' env1 σ->ArgR K F' σ as vs->Q vs H'
abbrev PLD (X:Cx)(es:List Expr)(g:FAD):Prop:=PA X es (tLD X.K g)
def plainA (g:FA):FAD:=λψ=>(g ψ).bind λas=>Ga (as,ψ)
theorem zx9 {es:List Expr}{g:FA}(h:PLC X es g):PLD X es (plainA g):=by
 refine zcU h λσ H Q=>?_;rintro⟨H0,F,ψ,as,env1,r,e,ow,q⟩;obtain⟨l,e1,e⟩:=bind_some e;cases e;exact⟨H0,F,ψ,as,r,e1,ow,λvs H' F' g f fh n rv=>q vs H' F' f (n.dn r.h0) (r.grow g f fh n) rv⟩
abbrev FD:=En->Option (D×En)
open Classical in
noncomputable def evC (n:Nat)(g:FS)(a:FAD):FD:=λψ=>(a ψ).bind λp=>if (inrs p.1).Nodup/\∀ i∈inrs p.1,∃ s,p.2[i]?=Ga s/\ownS s=true then pickC n g p.1 p.2 else Gb
def tD (K:ja)(f:FD):TE:=λσ H Q=>∃ H0 F ψ d env2,RS K H0 F H ψ σ/\f ψ=Ga (d,env2)/\∀ v H' F',Same F F'->New F F' H0->RS K H0 F' H' env2 σ->Rep K F' d v->Q v H'
abbrev PD (X:Cx)(e:Expr)(f:FD):Prop:=PE X e (tD X.K f)
theorem znS {gd:FAD}(F:FnOk X.prog X.w X.K X.mg X.base CX0 k f fd ps (spC X.K N ps.length g))(hr:Room k X.A)(hm:X.mg x=Ga (.ref f))(hk:uq X.K (.ref f)=true)(hb:Binds X.K fd ps [])(ha:PLD X (e::es) gd)(hlen:∀ ψ as env1,gd ψ=Ga (as,env1)->as.length=ps.length)(hpn:ps.length<=N.length)(hg:Gl X x:=by rfl)
  (hdb:(x==("__debug__":Str))=false:=by decide) (he:starEach (e::es) X.env=(false,eval e X.env)::starEach es X.env:=by rfl) (hpl:(backTo pc (starEach es X.env)).any (·.1)=false:=by rfl) :
  PD X (.Call (.Name x p) (e::es) [] pc) (evC N.length g gd):=by
 refine zaN (pe_call F hr hg hm hk hb .nil pass0 ha hdb he hpl) λσ H Q=>?_;rintro⟨H0,F,env0,d,env2,r,e,p⟩;obtain⟨⟨as,ψ⟩,e1,e⟩:=bind_some e;dsimp only at e;split at e;rotate_left
 .cases e
 rename_i ndo;obtain⟨nd,ow⟩:=ndo;have e2:=e;refine⟨H0,F,env0,as,ψ,r,e1,λi hi=>ow i (zb9.mpr hi),λvs H1 F1 f1 n1 r1 rvs=>?_⟩;have fh1:=r1.fh;show spC X.K N ps.length g (vs++[]) H1 _ _;rw[jX]
 let t:Nat->Gj:=λi=>match σ[i]? with
  | some (Ga (.ref a))=>a
  | _=>0
 have ht:∀ i a,σ[i]?=Ga (Ga (.ref a))->t i=a:=λi a z=>by show(match σ[i]? with|some (Ga (.ref a))=>a|_=>0)=a;rw[z]
 have hrun:=zpT e2 t;obtain⟨l,e3,hrun⟩:=bind_some hrun;obtain⟨o1,e4,hrun⟩:=bind_some hrun;cases o1<;>first|(cases hrun;done)|skip
 rename_i d1 env1;obtain⟨env3,e5,hrun⟩:=bind_some (show(backE env1 t 0 as ψ).bind (λenv2=>Ga (d1,env2))=Ga (d,env2) from hrun);cases hrun;have hal:=hlen _ _ _ e1;have hvl:vs.length=ps.length:=by rw[<- rvs.length];exact hal
 have own:∀ i∈inrs as,∃ s a ob,ψ[i]?=Ga s/\ownS s=true/\σ[i]?=Ga (Ga (.ref a))/\H1 a=Ga ob/\F1 a=Gb/\H0 a=Gb/\Ow ob/\t i=a:=λi hi=>by
  obtain⟨s,z1,z2⟩:=ow i hi;obtain⟨u,z3,q⟩:=r1.sl i s z1;obtain⟨a,ob,rfl,h1,h2,h3,h4⟩:=q.at z2;exact⟨s,a,ob,z1,z2,z3,h1,h2,h3,h4,ht i a z3⟩
 let P:Gj->Bool:=λb=>(inrs as).any λi=>t i==b
 have hP:∀ b,P b=true↔∃ i∈inrs as,t i=b:=λb=>by
  show((inrs as).any λi=>t i==b)=true↔_;rw[uP];exact⟨λ⟨i,h1,h2⟩=>⟨i,h1,beq_iff_eq.mp h2⟩,λ⟨i,h1,h2⟩=>⟨i,h1,beq_iff_eq.mpr h2⟩⟩
 have nfP:∀ b o u,P b=true->H1 b≠Ga (.frz o u):=λb o u hp=>by
  obtain⟨i,hi,rfl⟩:=(hP b).mp hp;obtain⟨_,a,ob,_,_,_,h1,_,_,h4,h5⟩:=own i hi;rw[h5];exact h4.nf h1 _ _
 have stg:∀ (q:Nat) (v:V),vs[q]?=Ga v->(L2.start N vs)[q]?=Ga (Ga v):=λq v z=>by
  unfold L2.start;rw[jW (by rw[jd];exact(je.mp z).1),jq,z];rfl
 have stl:(L2.start N vs).length=N.length:=by unfold L2.start;rw[jB,jd,vK];omega
 have ll:=ziY e3;have slq:∀ (q:Nat) (s:Sl),(l++jF (N.length-l.length) .no)[q]?=Ga s->s=.no\/∃ a,as[q]?=Ga a/\slIn ψ t a=Ga s:=λq s z=>by
  by_cases c:q<l.length
  .rw[jW c] at z;exact .inr (ziZ e3 z)
  .rw[ko (by omega),uu] at z;split at z<;>cases z;exact .inl rfl
 have rc:RS X.K (butP H1 P) F1 H1 (l++jF (N.length-l.length) .no) (L2.start N vs):=by
  have ownq:∀ (q:Nat) (s:Sl),ownS s=true->(l++jF (N.length-l.length) .no)[q]?=Ga s->∃ i a ob s0,as[q]?=Ga (.inr i)/\i∈inrs as/\ψ[i]?=Ga s0/\ownS s0=true/\(L2.start N vs)[q]?=Ga (Ga (.ref a))/\σ[i]?=Ga (Ga (.ref a))/\H1 a=Ga ob/\t i=a:=λq s o z=>by
   rcases slq q s z with rfl|⟨a,z1,z2⟩
   .cases o
   .cases a with
    | inl d=>cases z2;cases o
    | inr i =>
     have im:=zb9.mpr (jL z1);obtain⟨s0,a,ob,y1,y2,y3,y4,y5,y6,y7,y8⟩:=own i im;obtain⟨v,w1,_,w3⟩:=rvs.get z1;have:=w3 i rfl;rw[y3] at this;cases this;exact⟨i,a,ob,s0,z1,im,y1,y2,stg q _ w1,y3,y4,y8⟩
  refine⟨znQ,fh1,λq s z=>?_,λq q2 b s s2 o1 o2 z1 z2 z3 z4=>?_⟩
  .rcases slq q s z with rfl|⟨a,z1,z2⟩
   .have hq:q<N.length:=by
     have:=(je.mp z).1;rw[jB,vK] at this;omega
    exact⟨(L2.start N vs)[q]'(by rw[stl];exact hq),jc (by rw[stl];exact hq),trivial⟩
   .obtain⟨v,w1,w2,w3⟩:=rvs.get z1;refine⟨Ga v,stg q v w1,?_⟩;cases a with
    | inl d=>cases z2;exact⟨v,rfl,w2 d rfl⟩
    | inr i =>
     have im:=zb9.mpr (jL z1);obtain⟨s0,a,ob,y1,y2,y3,y4,y5,y6,y7,y8⟩:=own i im;have:=w3 i rfl;rw[y3] at this;cases this;have pa:butP H1 P a=Gb:=zsM ((hP a).mpr ⟨i,im,y8⟩);obtain⟨u,x1,x2⟩:=r1.sl i s0 y1;rw[y3] at x1;cases x1;have z2':(match ψ[i]? with|some (.own ds)=>Ga (.owk (t i) ds)|some (.owk _ ds)=>Ga (.owk (t i) ds)|some (.dki _ kvs)=>Ga (.dki (Ga (t i)) kvs)|_=>Gb)=Ga s:=z2;rw[y1,y8] at z2';cases s0<;>first|(cases z2';done)|skip
     .cases z2';obtain⟨a2,xs,k1,k2,k3,k4,k5⟩:=x2;cases k1;exact⟨xs,rfl,k2,k3,pa,k5⟩
     .cases z2';obtain⟨a2,ws,ep,k1,k2,k3,k4,k5,k6,k7,k8⟩:=x2;cases k1;exact⟨a,ws,ep,rfl,k2,k3,pa,k5,k6,k7,λx z=>by cases z;rfl⟩
     .cases z2';obtain⟨xs,k1,k2,k3,k4,k5⟩:=x2;cases k1;exact⟨xs,rfl,k2,k3,pa,k5⟩
  .obtain⟨i,a,ob,s0,a1,a2,a3,a4,a5,a6,a7,a8⟩:=ownq q s o1 z1;obtain⟨i',a',ob',s0',b1,b2,b3,b4,b5,b6,b7,b8⟩:=ownq q2 s2 o2 z2;rw[z3] at a5;cases a5;rw[z4] at b5;cases b5;have:=r1.ap i i' b _ _ a4 b4 a3 b3 a6 b6;subst this;exact zhX nd a1 b1
 refine⟨hvl,butP H1 P,F1,_,d,env1,rc,e4,λv σ' H2 F2 f2 n2 r2 rv=>?_⟩;have fn:∀ b,P b=true->F2 b=Gb:=λb hp=>by
  obtain⟨i,hi,rfl⟩:=(hP b).mp hp;obtain⟨q,s0,s1,s2,z1,z2,z3,z4⟩:=zgD e5 nd i hi;rw[ud] at z3;obtain⟨u,_,w⟩:=r2.sl q s1 z3;cases s1<;>first|(cases z4;done)|skip
  .rename_i oa kvs;cases oa with
   | none=>cases z4
   | some c =>
    have z4':(if c=t i then(match s0 with|.dki oa _=>Ga (Sl.dki oa kvs)|_=>Gb) else Gb)=Ga s2:=z4;split at z4'
    .rename_i ec;obtain⟨a2,ws,ep,k1,k2,k3,k4,k5,k6,k7,k8⟩:=w;rw[<- ec,<- k8 c rfl];exact k3
    .cases z4'
  .rename_i c ds;have z4':(if c=t i then(match s0 with|.own _=>Ga (Sl.own ds)|.owk c _=>Ga (.owk c ds)|_=>Gb) else Gb)=Ga s2:=z4;split at z4'
   .rename_i ec;obtain⟨xs,k1,k2,k3,k4,k5⟩:=w;rw[<- ec];exact k3
   .cases z4'
 have n2':New F1 F2 H1:=λb o h nb=>by
  have:=n2 b o h nb;cases q:P b with
  | true=>rw[fn b q] at h;cases h
  | false=>rw[zj1 q] at this;exact this
 have rE:RS X.K H0 F2 H2 env2 σ:=by
  refine r1.chgs P (λb hp=>?_) (λb o hp h=>?_) f2 r2.fh n2' (λi s z=>?_)
  .obtain⟨i,hi,rfl⟩:=(hP b).mp hp;obtain⟨s,a,ob,y1,y2,y3,_,_,_,_,y8⟩:=own i hi;rw[y8];exact⟨i,s,y1,y2,y3⟩
  .have:=r2.h0 b o (by rw[zj1 hp];exact h);exact this.from λ_ z=>znR nfP z
  .rcases zgC e5 nd i s z with ⟨z1,z2⟩|⟨q,s0,s1,z1,z2,z3,z4⟩
   .refine .inl ⟨z1,λb o zb=>?_⟩;cases q:P b with
    | false=>rfl
    | true =>
     obtain⟨i',hi',e'⟩:=(hP b).mp q;obtain⟨s',a,ob,y1,y2,y3,_,_,_,_,y8⟩:=own i' hi';have ea:a=b:=y8.symm.trans e';subst ea;have:=r1.ap i i' a _ _ o y2 z1 y1 zb y3;subst this;exact absurd hi' z2
   .rw[ud] at z3;have im:=zb9.mpr (jL z1);obtain⟨s0',a,ob,y1,y2,y3,y4,y5,y6,y7,y8⟩:=own i im;rw[z2] at y1;cases y1;refine .inr ⟨s0,z2,y2,Ga (.ref a),y3,?_⟩;rw[y8] at z4;obtain⟨u,_,w⟩:=r2.sl q s1 z3;obtain⟨u0,x1,x2⟩:=r1.sl i s0 z2;rw[y3] at x1;cases x1;cases s1<;>first|(cases z4;done)|skip
    .rename_i oa kvs;cases oa with
     | none=>cases z4
     | some c =>
      have z4':(if c=a then(match s0 with|.dki oa _=>Ga (Sl.dki oa kvs)|_=>Gb) else Gb)=Ga s:=z4;split at z4';rotate_left
      .cases z4'
      rename_i ec;subst ec;obtain⟨a2,ws,ep,k1,k2,k3,k4,k5,k6,k7,k8⟩:=w;have e2:=k8 c rfl;subst e2;cases s0<;>first|(cases z4';done)|skip
      cases z4';obtain⟨a3,ws3,ep3,l1,l2,l3,l4,l5,l6,l7,l8⟩:=x2;cases l1;exact⟨a2,ws,ep,rfl,k2,k3,y6,k5,k6,k7,l8⟩
    .rename_i c ds;have z4':(if c=a then(match s0 with|.own _=>Ga (Sl.own ds)|.owk c _=>Ga (.owk c ds)|_=>Gb) else Gb)=Ga s:=z4;split at z4';rotate_left
     .cases z4'
     rename_i ec;subst ec;obtain⟨xs,k1,k2,k3,k4,k5⟩:=w;cases s0<;>first|(cases z4';done)|skip
     .cases z4';exact⟨c,xs,rfl,k2,k3,y6,k5⟩
     .cases z4';obtain⟨xs3,l1,l2,l3,l4,l5⟩:=x2;cases l1;exact⟨xs,rfl,k2,k3,y6,k5⟩
 exact p v H2 F2 (f1.trans f2) (n1.up (n2'.dn r1.h0)) rE rv
theorem znT (j:Nat)(F:FnOk X.prog X.w X.K X.mg X.base CX0 k f fd ps (spC X.K N ps.length g))(hr:Room k X.A)(hm:X.mg x=Ga (.ref f))(hk:uq X.K (.ref f)=true)(hb:Binds X.K fd ps [])(ha:PLC X (e::es) ga)(hlen:∀ ψ as,ga ψ=Ga as->as.length=ps.length)(hpn:ps.length<=N.length)(hN:X.N.Nodup)(hg:Gl X x:=by rfl)
  (hj:X.N[j]?=Ga y:=by rfl) (hx:Loc X.env.scope y:=by first|exact kR rfl|exact kc rfl)
  (hs:swapsWith (.Call (.Name x p) (e::es) [] pc) (Ga (.Name y pos')) pos.line X.env=pure false:=by rfl) (hf:X.fn y=true\/X.env.scope.names.lookup y=Ga .local:=by first|exact .inl rfl|exact .inr rfl)
  (hdb:(x==("__debug__":Str))=false:=by decide) (he:starEach (e::es) X.env=(false,eval e X.env)::starEach es X.env:=by rfl) (hpl:(backTo pc (starEach es X.env)).any (·.1)=false:=by rfl) :
  PSt X (.Assign [.Name y pos'] (.Call (.Name x p) (e::es) [] pc) pos) (callC j N.length g ga):=by
 intro ω s σ H D I hw;refine ps_set hN hj hx (znS F hr hm hk hb (zx9 ha) (λψ as env1 z=>by obtain⟨l,z1,z⟩:=bind_some z;cases z;exact hlen _ _ z1) hpn hg hdb he hpl) hs hf ω s σ H D I ?_;obtain⟨H0,F,ψ,o,r,e,p⟩:=hw;have hl:j<σ.length:=by rw[I.len];exact(je.mp hj).1
 obtain⟨as,e1,e⟩:=bind_some e;split at e;rotate_left
 .cases e
 rename_i c;obtain⟨⟨d,env2⟩,e2,e⟩:=bind_some e;cases e;refine⟨H0,F,ψ,d,env2,r,?_,λv H' F' f n r' rv=>p _ H' F' f n (r'.put hl rv)⟩;unfold evC plainA;rw[e1,jf,jf];dsimp only;rw[Ge c];exact e2
end
end T3
namespace T3
noncomputable section
open PySem L2
def cstN (d:D):FV:=λψ=>Ga d
theorem zvN (d:D)(ψ:En):cstN d ψ=Ga d:=(rfl)
def binN (op:D->D->Option D)(f g:FV):FV:=λψ=>(f ψ).bind λx=>(g ψ).bind λy=>op x y
theorem zvO (op:D->D->Option D)(f g:FV)(ψ:En):binN op f g ψ=(f ψ).bind λx=>(g ψ).bind λy=>op x y:=(rfl)
def unN (op:D->Option D)(f:FV):FV:=λψ=>(f ψ).bind op
theorem zyA (op:D->Option D)(f:FV)(ψ:En):unN op f ψ=(f ψ).bind op:=(rfl)
def unLN (op:List D->Option D)(f:FL):FV:=λψ=>(f ψ).bind op
theorem zvP (op:List D->Option D)(f:FL)(ψ:En):unLN op f ψ=(f ψ).bind op:=(rfl)
def tstN (f:FV):FB:=λψ=>(f ψ).bind tru
theorem zvQ (f:FV)(ψ:En):tstN f ψ=(f ψ).bind tru:=(rfl)
def zaG (op:D->D->Option D)(f g:FV):FB:=λψ=>((f ψ).bind λx=>(g ψ).bind λy=>op x y).bind toB
theorem zsN (op:D->D->Option D)(f g:FV)(ψ:En):zaG op f g ψ=((f ψ).bind λx=>(g ψ).bind λy=>op x y).bind toB:=(rfl)
def zgE (f:FB):FB:=λψ=>(f ψ).bind λc=>Ga (!c)
theorem zsO (f:FB)(ψ:En):zgE f ψ=(f ψ).bind λc=>Ga (!c):=(rfl)
def zc7 (f g:FB):FB:=λψ=>(f ψ).bind λc=>if c then g ψ else Ga false
theorem zsP (f g:FB)(ψ:En):zc7 f g ψ=(f ψ).bind λc=>if c then g ψ else Ga false:=(rfl)
def orBN (f g:FB):FB:=λψ=>(f ψ).bind λc=>if c then Ga true else g ψ
theorem zvR (f g:FB)(ψ:En):orBN f g ψ=(f ψ).bind λc=>if c then Ga true else g ψ:=(rfl)
def zaL :FL:=λψ=>Ga []
theorem zsQ  (ψ:En):zaL ψ=Ga []:=(rfl)
def zaB (f:FV)(g:FL):FL:=λψ=>(f ψ).bind λd=>(g ψ).bind λds=>Ga (d::ds)
theorem zpU (f:FV)(g:FL)(ψ:En):zaB f g ψ=(f ψ).bind λd=>(g ψ).bind λds=>Ga (d::ds):=(rfl)
def zcV (g:FL):FV:=λψ=>(g ψ).bind λds=>Ga (.tuple ds)
theorem zsR (g:FL)(ψ:En):zcV g ψ=(g ψ).bind λds=>Ga (.tuple ds):=(rfl)
def zdO (g:FL):FV:=λψ=>(g ψ).bind λds=>Ga (.list ds)
theorem zsS (g:FL)(ψ:En):zdO g ψ=(g ψ).bind λds=>Ga (.list ds):=(rfl)
def zaK (fm:List D->Option D)(g:FL):FV:=λψ=>(g ψ).bind fm
theorem zpV (fm:List D->Option D)(g:FL)(ψ:En):zaK fm g ψ=(g ψ).bind fm:=(rfl)
def znU (fm:List D->Option (List D))(g:FL):FL:=λψ=>(g ψ).bind fm
theorem zpW (fm:List D->Option (List D))(g:FL)(ψ:En):znU fm g ψ=(g ψ).bind fm:=(rfl)
def shVN (f:FV):FL:=λψ=>(f ψ).bind toL
theorem zvS (f:FV)(ψ:En):shVN f ψ=(f ψ).bind toL:=(rfl)
def sL1N (f:FV):FL:=λψ=>(f ψ).bind toS
theorem zvT (f:FV)(ψ:En):sL1N f ψ=(f ψ).bind toS:=(rfl)
def za6 (f:FV):FL:=λψ=>(f ψ).bind toS
theorem zsT (f:FV)(ψ:En):za6 f ψ=(f ψ).bind toS:=(rfl)
def zcA (op:D->Option (List D))(f:FV):FL:=λψ=>(f ψ).bind op
theorem zsU (op:D->Option (List D))(f:FV)(ψ:En):zcA op f ψ=(f ψ).bind op:=(rfl)
def zsV (op:D->D->Option (List D))(f g:FV):FL:=λψ=>(f ψ).bind λx=>(g ψ).bind λy=>op x y
theorem zsW (op:D->D->Option (List D))(f g:FV)(ψ:En):zsV op f g ψ=(f ψ).bind λx=>(g ψ).bind λy=>op x y:=(rfl)
def zhC (f:FL):FL:=λψ=>(f ψ).bind sortD
theorem zpX (f:FL)(ψ:En):zhC f ψ=(f ψ).bind sortD:=(rfl)
def ixSN (f:FL)(g:FV):FV:=λψ=>(f ψ).bind λx=>(g ψ).bind λy=>dIxL x y
theorem zvU (f:FL)(g:FV)(ψ:En):ixSN f g ψ=(f ψ).bind λx=>(g ψ).bind λy=>dIxL x y:=(rfl)
def nxSN :FS:=λψ=>Ga (.nx ψ)
theorem zvV  (ψ:En):nxSN ψ=Ga (.nx ψ):=(rfl)
def zaD (g k:FS):FS:=λψ=>thenD (g ψ) k
theorem zsX (g k:FS)(ψ:En):zaD g k ψ=thenD (g ψ) k:=(rfl)
def za1 (f:FV):FS:=λψ=>(f ψ).bind λd=>Ga (.rt d)
theorem zsY (f:FV)(ψ:En):za1 f ψ=(f ψ).bind λd=>Ga (.rt d):=(rfl)
def zi0 (f:FL):FS:=λψ=>(f ψ).bind λd=>Ga (.ro d)
theorem zsZ (f:FL)(ψ:En):zi0 f ψ=(f ψ).bind λd=>Ga (.ro d):=(rfl)
def ifSN (c:FB)(g k:FS):FS:=λψ=>(c (frz ψ)).bind λt=>if t then g ψ else k ψ
theorem zrH (c:FB)(g k:FS)(ψ:En):ifSN c g k ψ=(c (frz ψ)).bind λt=>if t then g ψ else k ψ:=(rfl)
def za5 (i:Nat)(f:FV):FS:=λψ=>(f ψ).bind λd=>Ga (.nx (ψ.set i (.val d)))
theorem zs0 (i:Nat)(f:FV)(ψ:En):za5 i f ψ=(f ψ).bind λd=>Ga (.nx (ψ.set i (.val d))):=(rfl)
def zbV (i:Nat)(f:FL):FS:=λψ=>(f ψ).bind λd=>Ga (.nx (ψ.set i (.own d)))
theorem zs1 (i:Nat)(f:FL)(ψ:En):zbV i f ψ=(f ψ).bind λd=>Ga (.nx (ψ.set i (.own d))):=(rfl)
def znV (i:Nat)(g:FS):FS:=λψ=>(g ψ).bind λo=>Ga (frzO i o)
theorem zs2 (i:Nat)(g:FS)(ψ:En):znV i g ψ=(g ψ).bind λo=>Ga (frzO i o):=(rfl)
def zs3 (i:Nat)(g:FS):FS:=λψ=>g (frzAt i ψ)
theorem zs4 (i:Nat)(g:FS)(ψ:En):zs3 i g ψ=g (frzAt i ψ):=(rfl)
def zcB (i:Nat)(f:FV):FS:=λψ=>(go i ψ).bind λds=>(f ψ).bind λd=>if ds.length<1000000 then Ga (.nx (ψ.set i (.own (ds++[d])))) else Gb
theorem zs5 (i:Nat)(f:FV)(ψ:En):zcB i f ψ=(go i ψ).bind λds=>(f ψ).bind λd=>if ds.length<1000000 then Ga (.nx (ψ.set i (.own (ds++[d])))) else Gb:=(rfl)
def zbW (f:FL)(t:FT)(g:FS):FS:=λψ=>(f ψ).bind λds=>forD t g ds ψ
theorem zs6 (f:FL)(t:FT)(g:FS)(ψ:En):zbW f t g ψ=(f ψ).bind λds=>forD t g ds ψ:=(rfl)
def zl6 (f:FV)(t:FT):FS:=λψ=>(f ψ).bind λd=>(t d ψ).bind λenv1=>Ga (.nx env1)
theorem zs7 (f:FV)(t:FT)(ψ:En):zl6 f t ψ=(f ψ).bind λd=>(t d ψ).bind λenv1=>Ga (.nx env1):=(rfl)
def zl7 (i:Nat)(fi f:FV):FS:=λψ=>(f ψ).bind λv=>(go i ψ).bind λds=>(fi ψ).bind λk=>(stoL ds k v).bind λes=>Ga (.nx (ψ.set i (.own es)))
theorem zs8 (i:Nat)(fi f:FV)(ψ:En):zl7 i fi f ψ=(f ψ).bind λv=>(go i ψ).bind λds=>(fi ψ).bind λk=>(stoL ds k v).bind λes=>Ga (.nx (ψ.set i (.own es))):=(rfl)
def zs9 (i:Nat):FS:=λψ=>Ga (.nx (ψ.set i (.dki Gb [])))
theorem ztA (i:Nat)(ψ:En):zs9 i ψ=Ga (.nx (ψ.set i (.dki Gb []))):=(rfl)
def tgNN (i:Nat):FT:=λd ψ=>Ga (ψ.set i (.val d))
def zdP:FTs:=λds ψ=>match ds with|[]=>Ga ψ|_=>Gb
def zaT (t:FT)(u:FTs):FTs:=λds ψ=>match ds with|d::r=>(t d ψ).bind λenv1=>u r env1|[]=>Gb
def tgTN (u:FTs):FT:=λd ψ=>(toT d).bind λds=>u ds ψ
theorem zvW (i:Nat)(d:D)(ψ:En):tgNN i d ψ=Ga (ψ.set i (.val d)):=(rfl)
theorem zpY (ψ:En):zdP [] ψ=Ga ψ:=(rfl)
theorem znW (t:FT)(u:FTs)(d:D)(r:List D)(ψ:En):zaT t u (d::r) ψ=(t d ψ).bind λenv1=>u r env1:=(rfl)
theorem zvX (u:FTs)(d:D)(ψ:En):tgTN u d ψ=(toT d).bind λds=>u ds ψ:=(rfl)
theorem zl8 (d:D)(k:FS):thenD (Ga (.rt d)) k=Ga (.rt d):=(rfl)
theorem zd6 (e:En)(k:FS):thenD (Ga (.nx e)) k=k e:=(rfl)
theorem zl9:frz []=[]:=(rfl)
theorem zj2 (s:Sl)(e:En):frz (s::e)=frz1 s::frz e:=(rfl)
theorem zpZ:frz1 .no=.no:=(rfl)
theorem znX (d:D):frz1 (.val d)=.val d:=(rfl)
theorem znY (d:List D):frz1 (.own d)=.val (.list d):=(rfl)
theorem znZ (a:Option Gj)(d:List (Int×D)):frz1 (.dki a d)=.val (diD d):=(rfl)
theorem zvY (d:D)(e:En):gv 0 (.val d::e)=Ga d:=(rfl)
theorem zvZ (a0:Sl)(d:D)(e:En):gv 1 (a0::.val d::e)=Ga d:=(rfl)
theorem ztB (a0:Sl)(x s:Sl)(e:En):List.set (a0::x::e) 1 s=a0::s::e:=(rfl)
theorem zv0 (a0 a1:Sl)(d:D)(e:En):gv 2 (a0::a1::.val d::e)=Ga d:=(rfl)
theorem zv1 (a0 a1:Sl)(d:List D)(e:En):go 2 (a0::a1::.own d::e)=Ga d:=(rfl)
theorem ztC (a0 a1:Sl)(x s:Sl)(e:En):List.set (a0::a1::x::e) 2 s=a0::a1::s::e:=(rfl)
theorem zv2 (a0 a1:Sl)(d:List D)(e:En):frzAt 2 (a0::a1::.own d::e)=a0::a1::.val (.list d)::e:=(rfl)
theorem ztD (a0 a1:Sl)(q:Option Gj)(d:List (Int×D))(e:En):frzAt 2 (a0::a1::.dki q d::e)=a0::a1::.val (diD d)::e:=(rfl)
theorem zv3 (a0 a1 a2:Sl)(d:D)(e:En):gv 3 (a0::a1::a2::.val d::e)=Ga d:=(rfl)
theorem zv4 (a0 a1 a2:Sl)(d:List D)(e:En):go 3 (a0::a1::a2::.own d::e)=Ga d:=(rfl)
theorem zv5 (a0 a1 a2:Sl)(d:List D)(e:En):gl 3 (a0::a1::a2::.own d::e)=Ga d:=(rfl)
theorem ztE (a0 a1 a2:Sl)(x s:Sl)(e:En):List.set (a0::a1::a2::x::e) 3 s=a0::a1::a2::s::e:=(rfl)
theorem zv6 (a0 a1 a2 a3:Sl)(d:D)(e:En):gv 4 (a0::a1::a2::a3::.val d::e)=Ga d:=(rfl)
theorem ztF (a0 a1 a2 a3:Sl)(x s:Sl)(e:En):List.set (a0::a1::a2::a3::x::e) 4 s=a0::a1::a2::a3::s::e:=(rfl)
theorem zv7 (a0 a1 a2 a3 a4:Sl)(d:D)(e:En):gv 5 (a0::a1::a2::a3::a4::.val d::e)=Ga d:=(rfl)
theorem ztG (a0 a1 a2 a3 a4:Sl)(x s:Sl)(e:En):List.set (a0::a1::a2::a3::a4::x::e) 5 s=a0::a1::a2::a3::a4::s::e:=(rfl)
theorem zv8 (a0 a1 a2 a3 a4 a5:Sl)(d:D)(e:En):gv 6 (a0::a1::a2::a3::a4::a5::.val d::e)=Ga d:=(rfl)
theorem zv9 (a0 a1 a2 a3 a4 a5:Sl)(d:List D)(e:En):go 6 (a0::a1::a2::a3::a4::a5::.own d::e)=Ga d:=(rfl)
theorem zwA (a0 a1 a2 a3 a4 a5:Sl)(d:List D)(e:En):gl 6 (a0::a1::a2::a3::a4::a5::.own d::e)=Ga d:=(rfl)
theorem ztH (a0 a1 a2 a3 a4 a5:Sl)(x s:Sl)(e:En):List.set (a0::a1::a2::a3::a4::a5::x::e) 6 s=a0::a1::a2::a3::a4::a5::s::e:=(rfl)
theorem zwB (a0 a1 a2 a3 a4 a5 a6:Sl)(d:D)(e:En):gv 7 (a0::a1::a2::a3::a4::a5::a6::.val d::e)=Ga d:=(rfl)
theorem ztI (a0 a1 a2 a3 a4 a5 a6:Sl)(x s:Sl)(e:En):List.set (a0::a1::a2::a3::a4::a5::a6::x::e) 7 s=a0::a1::a2::a3::a4::a5::a6::s::e:=(rfl)
theorem zwC (a0 a1 a2 a3 a4 a5 a6:Sl)(d:List D)(e:En):frzAt 7 (a0::a1::a2::a3::a4::a5::a6::.own d::e)=a0::a1::a2::a3::a4::a5::a6::.val (.list d)::e:=(rfl)
theorem zwD (a0 a1 a2 a3 a4 a5 a6 a7:Sl)(d:D)(e:En):gv 8 (a0::a1::a2::a3::a4::a5::a6::a7::.val d::e)=Ga d:=(rfl)
theorem ztJ (a0 a1 a2 a3 a4 a5 a6 a7:Sl)(x s:Sl)(e:En):List.set (a0::a1::a2::a3::a4::a5::a6::a7::x::e) 8 s=a0::a1::a2::a3::a4::a5::a6::a7::s::e:=(rfl)
theorem zwE (a0 a1 a2 a3 a4 a5 a6 a7 a8:Sl)(d:D)(e:En):gv 9 (a0::a1::a2::a3::a4::a5::a6::a7::a8::.val d::e)=Ga d:=(rfl)
theorem ztK (a0 a1 a2 a3 a4 a5 a6 a7 a8:Sl)(x s:Sl)(e:En):List.set (a0::a1::a2::a3::a4::a5::a6::a7::a8::x::e) 9 s=a0::a1::a2::a3::a4::a5::a6::a7::a8::s::e:=(rfl)
theorem ztL (a0 a1 a2 a3 a4 a5 a6 a7 a8 a9:Sl)(d:D)(e:En):gv 10 (a0::a1::a2::a3::a4::a5::a6::a7::a8::a9::.val d::e)=Ga d:=(rfl)
theorem zp0 (a0 a1 a2 a3 a4 a5 a6 a7 a8 a9:Sl)(x s:Sl)(e:En):List.set (a0::a1::a2::a3::a4::a5::a6::a7::a8::a9::x::e) 10 s=a0::a1::a2::a3::a4::a5::a6::a7::a8::a9::s::e:=(rfl)
def diSet (kvs:List (Int×D))(v:D):D->Option (List (Int×D))
 | .int n=>if kvs.length<1000000 then Ga (putD kvs n v) else Gb
 | _=>Gb
theorem zp1 (kvs:List (Int×D))(v:D)(n:Int):diSet kvs v (.int n)=if kvs.length<1000000 then Ga (putD kvs n v) else Gb:=(rfl)
theorem zp2 (i:Nat)(f g:FV)(ψ:En)(oa:Option Gj)(kvs:List (Int×D))(h:ψ[i]?=Ga (.dki oa kvs)):setI i f g ψ=(g ψ).bind λv=>(f ψ).bind λd=>(diSet kvs v d).bind λr=>Ga (.nx (ψ.set i (.dki oa r))):=by
 unfold setI
 congr 1;funext v;congr 1;funext d
 rw[h];cases d<;>try rfl
 show(if _ then _ else _)=(if _ then _ else _:Option _).bind _;split<;>rfl
theorem zp3 (a0 a1:Sl)(oa:Option Gj)(kvs:List (Int×D))(e:En)(f g:FV):setI 2 f g (a0::a1::.dki oa kvs::e)=(g (a0::a1::.dki oa kvs::e)).bind λv=>(f (a0::a1::.dki oa kvs::e)).bind λd=>(diSet kvs v d).bind λr=>Ga (.nx (a0::a1::.dki oa r::e)):=zp2 _ _ _ _ _ _ rfl
theorem zwF (i:Nat)(e:En):frzO i (.nx e)=.nx (frzAt i e):=(rfl)
theorem ztM (d:D):outV (Ga (.rt d))=Ga d:=(rfl)
theorem zp4 (d:List D):outV (Ga (.ro d))=Ga (.list d):=(rfl)
theorem zwG (b:Bool):toB (.bool b)=Ga b:=(rfl)
theorem zp5 (b:Bool):tru (.bool b)=Ga b:=(rfl)
theorem zwH (d:List D):toL (.list d)=Ga d:=(rfl)
theorem zwI (d:List D):toT (.tuple d)=Ga d:=(rfl)
theorem ztN (d:List D):toS (.list d)=Ga d:=(rfl)
theorem zwJ (i j:Int):dAdd (.int i) (.int j)=Ga (.int (i+j)):=(rfl)
theorem zwK (i j:Int):dSub (.int i) (.int j)=Ga (.int (i-j)):=(rfl)
theorem zyB (i j:Int):dLt (.int i) (.int j)=Ga (.bool (decide (i<j))):=(rfl)
theorem zyC (i j:Int):dGt (.int i) (.int j)=Ga (.bool (decide (j<i))):=(rfl)
theorem zwL (i j:Int):dAnd (.int i) (.int j)=Ga (.int (kJ i j)):=(rfl)
theorem ztO (i j:Int):dMin2 (.int i) (.int j)=Ga (.int (if j<i then j else i)):=(rfl)
theorem ztP (i j:Int):dMax2 (.int i) (.int j)=Ga (.int (if j>i then j else i)):=(rfl)
theorem zwM (kvs:List (Int×D)):kvI (diD kvs)=Ga kvs:=zjW kvs
theorem zp6 (d:D):keysI d=(kvI d).bind λkvs=>Ga (kvs.map λp=>.int p.1):=(rfl)
theorem zwN (d:D)(k:Int):dIxI d (.int k)=(kvI d).bind λkvs=>atK kvs k:=(rfl)
theorem zwO (d:D)(k:Int):dInI (.int k) d=(kvI d).bind λkvs=>Ga (.bool (atK kvs k).isSome):=(rfl)
theorem zc4 (i j:Int):dEq (.int i) (.int j)=Ga (.bool (decide (i=j))):=by rw[zb0];rfl
theorem zrI (i j:Int):dNe (.int i) (.int j)=Ga (.bool (decide (¬i=j))):=by rw[zjT];by_cases h:i=j<;>simp[h]
theorem zwP (d:List D)(i:Int):dIx (.tuple d) (.int i)=atI d i:=(rfl)
theorem zwQ (d:List D)(i:Int):dIx (.list d) (.int i)=atI d i:=(rfl)
theorem zwR (d:List D)(i:Int):dIxL d (.int i)=atI d i:=(rfl)
theorem zp7 (x0 x1 x2:D):atI [x0,x1,x2] 0=Ga x0:=(rfl)
theorem ztQ (d:List D):dLen (.list d)=Ga (.int d.length):=(rfl)
theorem ztR (d:List D):dLenL d=Ga (.int d.length):=(rfl)
theorem ztS (d:List D):dTupL d=Ga (.tuple d):=(rfl)
theorem zmA {α:Type}(a b:α):(if false=true then a else b)=b:=Gf jx
def Goes (I:En->Prop)(o:Option Out):Prop:=∃ e,o=Ga (.nx e)/\I e
theorem zeO {I:En->Prop}{e:En}(h:I e):Goes I (Ga (.nx e)):=⟨e,rfl,h⟩
theorem zgF {I J:En->Prop}{o:Option Out}(h:Goes I o)(q:∀ e,I e->J e):Goes J o:=by
 obtain⟨e,rfl,hI⟩:=h;exact⟨e,rfl,q e hI⟩
theorem zd7 {t:FT}{g:FS}{f:Nat->D}(I:Nat->En->Prop)(n:Nat)(st:∀ k,k<n->∀ ψ,I k ψ->Goes (I (k+1)) ((t (f k) ψ).bind g)):∀ (m a:Nat) (ψ:En),a+m=n->I a ψ->Goes (I n) (forD t g ((uK a m).map f) ψ)
 | 0,a,ψ,e,h=>by
  obtain rfl:a=n:=by omega
  exact⟨ψ,rfl,h⟩
 | m+1,a,ψ,e,h=>by
  obtain⟨e2,h1,h2⟩:=st a (by omega) ψ h;obtain⟨e1,x1,x2⟩:=qx.mp h1;obtain⟨z,y1,y2⟩:=zd7 I n st m (a+1) e2 (by omega) h2;refine⟨z,?_,y2⟩;rw[vO,jR];unfold forD;rw[x1,jf,x2];exact y1
theorem zhD {α:Type}{t:FT}{g:FS}(f:α->D)(I:List α->En->Prop)(as:List α)(st:∀ pre a suf,as=pre++a::suf->∀ ψ,I pre ψ->Goes (I (pre++[a])) ((t (f a) ψ).bind g)):∀ (suf pre:List α) (ψ:En),as=pre++suf->I pre ψ->Goes (I as) (forD t g (suf.map f) ψ)
 | [],pre,ψ,e,h=>⟨ψ,rfl,by rw[e,jX];exact h⟩
 | a::r,pre,ψ,e,h=>by
  obtain⟨e2,h1,h2⟩:=st pre a r e ψ h;obtain⟨e1,x1,x2⟩:=qx.mp h1;obtain⟨z,y1,y2⟩:=zhD f I as st r (pre++[a]) e2 (by rw[e,kD];rfl) h2;refine⟨z,?_,y2⟩;rw[jR];unfold forD;rw[x1,jf,x2];exact y1
theorem ze0 {α:Type}{t:FT}{g:FS}{ψ:En}(f:α->D)(I:List α->En->Prop)(as:List α)(h0:I [] ψ)(st:∀ pre a suf,as=pre++a::suf->∀ ψ,I pre ψ->Goes (I (pre++[a])) ((t (f a) ψ).bind g)):Goes (I as) (forD t g (as.map f) ψ):=zhD f I as st as [] ψ rfl h0
theorem zp8 (fi:FL)(fc:FB)(fe:FV)(ix:List Nat)(ψ:En):compF fi fc fe ix ψ=(fi ψ).bind λds=>if ds.length<=1000000 then compD fc fe (prjE ix ψ) ds else Gb:=(rfl)
end
end T3
namespace T3
noncomputable section
open PySem L2
def zp9 (f:FV):FS:=λψ=>(f ψ).bind λd=>Ga (.rc d ψ)
theorem ztT (f:FV)(ψ:En):zp9 f ψ=(f ψ).bind λd=>Ga (.rc d ψ):=(rfl)
def zj3 :FA:=λψ=>Ga []
def zj4 (f:FV)(g:FA):FA:=λψ=>(f ψ).bind λd=>(g ψ).bind λl=>Ga (.inl d::l)
def zj5 (i:Nat)(g:FA):FA:=λψ=>(g ψ).bind λl=>Ga (.inr i::l)
def LenA (n:Nat)(g:FA):Prop:=∀ ψ as,g ψ=Ga as->as.length=n
theorem zk4:LenA 0 nilA:=λψ as h=>by cases h;rfl
theorem zk5 {n:Nat}{f:FV}{g:FA}(q:LenA n g):LenA (n+1) (valA f g):=λψ as h=>by
 obtain⟨d,_,h⟩:=bind_some h;obtain⟨l,e,h⟩:=bind_some h;cases h;exact congrArg uC (q ψ l e)
theorem zk6 {n i:Nat}{g:FA}(q:LenA n g):LenA (n+1) (ownA i g):=λψ as h=>by
 obtain⟨l,e,h⟩:=bind_some h;cases h;exact congrArg uC (q ψ l e)
theorem zn0 (a:Gj)(d:List D):frz1 (.owk a d)=.val (.list d):=(rfl)
theorem ztU (x:Gj)(d:List D)(e:En):glk 0 (.owk x d::e)=Ga d:=(rfl)
theorem zqA (x:Gj)(d:List D)(e:En)(fi f:FV):stoK 0 fi f (.owk x d::e)=(f (.owk x d::e)).bind λv=>(fi (.owk x d::e)).bind λk=>(stoL d k v).bind λes=>Ga (.nx (.owk x es::e)):=(rfl)
end
end T3
namespace T3
open PySem PySem.Spec PyProof.Rows L2
section
variable {P:Program}{w:World}{K:ja}{mg:Str->Option Gg}{base:Heap}{x qual:Str}{st:Stmt}{f:Gj}{fd:Gi}{N ps:List Str}{k:Nat}{kx:FX}{c:FnC}
end
section
variable {X:Cx}{k:Nat}{f:Gj}{fd:Gi}{ps:List Str}{x:Str}{p pos:Pos}{es:List Expr}{g:FL}{c:FnC}
end
end T3
namespace T3
open PySem PySem.Spec PyProof.Rows L2
section
variable {prog:Program}{w:World}{K:Type}[DecidableEq K]{knd:HeapKind prog w K}{A:Around}{E:Gg->Gh->Prop}{s:Gh}
theorem zn1 {d a:Gj}{xs:List (K×Gj×Gg)}{k:K}{v:Gg}{Q:Gg->Gh->Prop}(hu:knd.room A)(hkey:knd.is s.heap k a)(hm:s.heap.DictOfH knd d xs)
  (h1:∀ p,atKey xs k=Ga p->Q p.2 { s with toks:=s.toks+knd.draws k })
  (h2:atKey xs k=Gb->∀ h',h'.DictOfH knd d (xs++[(k,a,v)])->kw d s.heap h'->Q v { s with heap:=h',toks:=s.toks+knd.draws k })
  (hsz:xs.length<=sizeLine):wpAny (model prog w) A (dictSetDefault d (.ref a) v) Q E s:=by
 obtain⟨o,es,ep,ho,hc,hd,he,his,hn⟩:=hm;unfold dictSetDefault
 try with_reducible refine wpAny_holding ?_
 refine wpAny_bind (knd.pyHash hu hkey ?_);refine wpAny_bind (wpAny_dictFind_heap (s:={ s with toks:=s.toks+knd.draws k }) hu hkey ho hd he his hn ?_ ?_)
 .intro hno;have hnot:k∉xs.map (·.1):=not_mem_keys_of_get hno;refine wpAny_bind (wpAny_rule (wpAny_bind (wpAny_updateDictKeys (hz:=by have e:=size_of_entries he;omega) (s:={ s with toks:=s.toks+knd.draws k }) ho hd (wpAny_pure (h2 (atKey_none_of_get hno) _ ⟨_,_,ep+1,j4 _ ho (Obj.isFreed_of_dict (qO hd _)),
   hc.mapDictKeys _,qO hd _,?_,?_,?_⟩ (jP ..))))))
  .simp[he,entryOfKey]
  .intro x hx;rcases jN.mp hx with hx|hx
   .exact knd.keeps (his x hx) ho hd (jP ..)
   .simp only[jh] at hx;subst hx;exact knd.keeps hkey ho hd (jP ..)
  .rw[jO,ky];refine⟨hn,by simp,?_⟩;intro x hx y hy;simp only[jR,Ja,jh] at hy;subst hy;exact λe=>hnot (e▸hx)
 .intro j p hj;refine wpAny_bind (wpAny_dictEntries (s:={ s with toks:=s.toks+knd.draws k }) ho hd ?_);rw[entry_at he j,hj];exact wpAny_bind (wpAny_rule (wpAny_pure (h1 p (atKey_of_get hn hj))))
theorem zfD (knd:HeapKind prog w K)(d a:Gj)(hd:(d==sysModules)=false)(dflt:Gg) :
  MeetsIn prog w (Builtin.«dict.setdefault» ⟨[.ref d,.ref a,dflt],[]⟩) (λA R s=>knd.room A.in1/\∃ k xs,knd.is s.heap k a/\s.heap.DictOfH knd d xs/\xs.length<=sizeLine /\
   (∀ p,atKey xs k=Ga p->R (.ok (.ret p.2)) { s with toks:=s.toks+knd.draws k }) /\
   (atKey xs k=Gb->∀ h',h'.DictOfH knd d (xs++[(k,a,dflt)])->kw d s.heap h'->R (.ok (.ret dflt)) { s with heap:=h',toks:=s.toks+knd.draws k })) :=
 .of_wp λA R s ⟨hu,k,xs,hkey,hm,hz,h1,h2⟩=>by
  unfold Builtin.«dict.setdefault»;refine wpAny_bind ?_;unfold Builtin.Dict.keyAndDefault;refine wpAny_bind (wpAny_notOrdered_dict hm.typeIs ?_);show wpAny _ _ (pure (d,uk a,Ga dflt)) _ _ s;refine wpAny_pure ?_;show wpAny _ _ (if (d==sysModules)=true then _ else(dictSetDefault d (.ref a) dflt >>= _)) _ _ s;rw[Gf (by rw[hd];exact jx)];exact wpAny_bind (zn1 hu hkey hm (λp hp=>wpAny_pure ⟨p.2,rfl,h1 p hp⟩) (λhn h' hm' hs'=>wpAny_pure ⟨dflt,rfl,h2 hn h' hm' hs'⟩) hz)
end
theorem zqB {a:Gj}{ws:List (D×Gj×V)}{ep:Nat}:∀ h1 h2:Heap,DtP a ws ep h1->(∀ o,h1.get? a=Ga o->h2.get? a=Ga o)->DtP a ws ep h2:=by
 rintro h1 h2 ⟨o,es,l,ho,r⟩ k;exact⟨o,es,l,k _ ho,r⟩
theorem zrJ {P:Program}{w:World}{H:Hp}{h:Heap}{a:Gj}{ws:List (D×Gj×V)}{ep:Nat}(p:DtP a ws ep h):ObjOk P w H h a (.ext (DtP a ws ep)):=by
 obtain⟨o,es,l,ho,r⟩:=id p;exact⟨p,⟨o,ho⟩,zqB⟩
theorem zwS {P:Program}{w:World}{H:Hp}{h:Heap}{a:Gj}{ws:List (D×Gj×V)}{ep:Nat}(ok:HOk P w H h)(e:H a=Ga (.ext (DtP a ws ep))):DtP a ws ep h:=(show ObjOk P w H h a (.ext _) from ok a _ e).1
theorem WV.snoc {k:D}{b:Gj}{v:V}{u:Gg}(r:RelV v u):∀ {ws:List (D×Gj×V)} {l:List (D×Gj×Gg)},WV ws l->WV (ws++[(k,b,v)]) (l++[(k,b,u)])
 | _,_,.nil=>.cons r .nil
 | _,_,.cons q t=>.cons q (t.snoc r)
theorem RepW.snoc {K:ja}{F:Hp}{k d:D}{b:Gj}{v:V}(hk:Rep K F k (.ref b))(h:Rep K F d v):∀ {l:List (D×D)} {m:List (D×Gj×V)},RepW K F l m->RepW K F (l++[(k,d)]) (m++[(k,b,v)])
 | _,_,.nil=>.cons hk h .nil
 | _,_,.cons q1 q2 t=>.cons q1 q2 (t.snoc hk h)
theorem RepW.fst {K:ja}{F:Hp}:∀ {l:List (D×D)} {m:List (D×Gj×V)} {n:List (D×Gj×Gg)},RepW K F l m->WV m n->n.map (·.1)=l.map (·.1)
 | _,_,_,.nil,.nil=>rfl
 | _,_,_,.cons _ _ t,.cons _ t2=>congrArg (_::·) (t.fst t2)
theorem RepW.key {K:ja}{F:Hp}:∀ {l:List (D×D)} {m:List (D×Gj×V)} {n:List (D×Gj×Gg)},RepW K F l m->WV m n->∀ x∈n,x.1∈l.map (·.1)/\Rep K F x.1 (.ref x.2.1)
 | _,_,_,.nil,.nil,x,h=>by cases h
 | _,_,_,.cons hk _ t,.cons _ t2,x,h=>by
  rcases ju.mp h with rfl|h
  .exact⟨jn,hk⟩
  .obtain⟨a,b⟩:=t.key t2 x h;exact⟨jm _ a,b⟩
noncomputable def atT (kvs:List (D×D))(k:D):Option D:=(kvs.find? λp=>decide (p.1=k)).map (·.2)
theorem RepW.at {K:ja}{F:Hp}(k:D):∀ {l:List (D×D)} {m:List (D×Gj×V)} {n:List (D×Gj×Gg)},RepW K F l m->WV m n->(atT l k=Gb/\atKey n k=Gb)\/∃ d v p,atT l k=Ga d/\atKey n k=Ga p/\Rep K F d v/\RelV v p.2
 | _,_,_,.nil,.nil=>.inl ⟨rfl,rfl⟩
 | (j,d)::l,(_,b,v)::m,(_,_,u)::n,.cons hk h t,.cons r t2=>by
  unfold atT atKey;by_cases c:j=k
  .exact .inr ⟨d,v,(b,u),by rw[kA (p:=λ(p:D×D)=>decide (p.1=k)) (Gc c)];rfl,by rw[kA (p:=λ(x:D×Gj×Gg)=>decide (x.1=k)) (Gc c)];rfl,h,r⟩
  .rw[kI (p:=λ(p:D×D)=>decide (p.1=k)) (by simpa using c),kI (p:=λ(x:D×Gj×Gg)=>decide (x.1=k)) (by simpa using c)];exact t.at k t2
theorem zqC {kvs:List (D×D)}{k:D}(h:atT kvs k=Gb):k∉kvs.map (·.1):=λhm=>by
 unfold atT at h;rw[uX] at h;obtain⟨p,h1,h2⟩:=jr.mp hm;have:=k9.mp h p h1;exact this (Gc h2)
theorem zn2 {kvs:List (D×D)}{k d:D}(ok:KtOk kvs)(hk:keyD k 8=true)(hn:k∉kvs.map (·.1))(hl:kvs.length<1000000):KtOk (kvs++[(k,d)]):=by
 refine⟨λx hx=>?_,?_,by rw[jB];exact hl⟩
 .rw[jO] at hx;rcases jN.mp hx with z|z
  .exact ok.key x z
  .rw[jh.mp z];exact hk
 .rw[jO,ky];refine⟨ok.nd,jH.mpr ⟨by simp,j6⟩,λx hx y hy=>?_⟩;rw[jh.mp hy];exact λz=>hn (by have z2:x=k:=z;rw[<- z2];exact hx)
section
variable {X:Cx}{pos:Pos}
theorem dtH {ω:List (Gj×Obj)}{σ:St}{F H:Hp}{s:Gh}{a:Gj}{kvs:List (D×D)}{ws:List (D×Gj×V)}{ep:Nat}(I:Inv X ω σ H s)(g:Same F H)(e:H a=Ga (.ext (DtP a ws ep)))(ok:KtOk kvs)(q:RepW X.K F kvs ws):∃ l,WV ws l/\s.heap.DictOfH (treeKind X.prog X.w) a l:=by
 obtain⟨o,es,l,ho,hc,hd,he,wv⟩:=zwS I.hok e;refine⟨l,wv,o,es,ep,ho,hc,hd,he,λx hx=>?_,by rw[q.fst wv];exact ok.nd⟩;obtain⟨h1,h2⟩:=q.key wv x hx;exact⟨ok.key _ h1,Rep.reads I g h2 (zjM (ok.key _ h1)) rfl⟩
theorem zqD:PE X (.Dict [] [] pos) (λσ H Q=>∀ p,H p=Gb->(p==sysModules)=false->Q (.ref p) (upd H p (.ext (DtP p [] 0)))):=λω s σ H Q I h =>
 wpAny_Dict_empty ⟨.ref s.heap.objs.size,_,I.laid (a:=s.heap.objs.size) (o:=.ext (DtP s.heap.objs.size [] 0)) (t':=s.toks) (λ_ _ q=>jg _ q) (jo _) (zrJ ⟨_,#[],[],jv _ rfl,⟨rfl,rfl,rfl⟩,rfl,rfl,.nil⟩),rfl,
  h _ (I.hok.fresh (jo _)) (beq_eq_false_iff_ne.mpr (kY (jC I.big)))⟩
abbrev newT (i:Nat):FS:=λψ=>Ga (.nx (ψ.set i (.dkt [])))
theorem ztV (i:Nat){x:Str}{p pos':Pos}(hN:X.N.Nodup)(hi:X.N[i]?=Ga x:=by rfl)(hx:Loc X.env.scope x:=by first|exact kR rfl|exact kc rfl)
  (hs:swapsWith (.Dict [] [] p) (Ga (.Name x pos')) pos.line X.env=pure false:=by rfl) (hf:X.fn x=true\/X.env.scope.names.lookup x=Ga .local:=by first|exact .inl rfl|exact .inr rfl) :
  PSt X (.Assign [.Name x pos'] (.Dict [] [] p) pos) (newT i):=by
 intro ω s σ H D I hw;refine ps_set hN hi hx zqD hs hf ω s σ H D I ?_;obtain⟨H0,F,ψ,o,r,e,p⟩:=hw;cases e;have hl:i<σ.length:=by rw[I.len];exact(je.mp hi).1
 intro a ha sm;have g:Same H (upd H a (.ext (DtP a [] 0))):=Same.new ha;exact p _ _ F (.refl _) (.refl _ _) ((r.later g).putG hl ⟨a,[],0,rfl,upd_same,r.fh.free ha,r.h0.free ha,.nil,sm,⟨λ_ h=>(by cases h),j6,jY _⟩⟩ λj s o _ ej=>r.ne_free ha j s o ej)
noncomputable def setdD (i:Nat)(fk fv:FV):FD:=λψ=>(fk ψ).bind λk=>(fv ψ).bind λd=>match ψ[i]? with
 | some (.dkt kvs)=>if (keyD k 8&&isTup k)=true/\kvs.length<1000000 then(match atT kvs k with
  | some d'=>Ga (d',ψ)
  | none=>Ga (d,ψ.set i (.dkt (kvs++[(k,d)])))) else Gb
 | _=>Gb
theorem zwT (i:Nat){x:Str}{ke ve:Expr}{fk fv:FV}{p p2 p3:Pos}(hu:X.A.units+100<cLine)(hk:PV X ke fk)(hval:PV X ve fv)(hN:X.N[i]?=Ga x:=by rfl)(hv:Vis X.env.scope x:=by first|exact kR rfl|exact kc (kR rfl)|exact kc (kc rfl))(hd:(x==("__debug__":Str))=false:=by decide)(hcd:(x==("__classdict__":Str))=false:=by decide)
  (m:M2 X (.Name x p) "setdefault" p2 ke ve p3:=by exact⟨rfl,rfl,rfl,rfl⟩) :
  PD X (.Call (.Attribute (.Name x p) "setdefault" p2) [ke,ve] [] p3) (setdD i fk fv):=by
 intro ω s σ H Q I hw;obtain⟨H0,F,ψ,d0,env2,r,e,q⟩:=hw;obtain⟨k,e1,e⟩:=bind_some e;obtain⟨d,e2,e⟩:=bind_some e;split at e;rotate_left
 .cases e
 rename_i kvs z;split at e;rotate_left
 .cases e
 rename_i c;obtain⟨c1,c2⟩:=c;rw[jE] at c1;obtain⟨xs,rfl⟩:=zl0 c1.2;obtain⟨u,x3,a,ws,ep,x4,ha,fa,h0a,rr,sm,ok⟩:=r.sl i _ z;subst x4;refine wpAny_Call_method m.base m.few m.line vA ux v7 (thn (pe_var (pos:=p) hN hv hd hcd ω s σ H (λv H1=>v=.ref a/\H1=H) I ⟨.ref a,x3,rfl,rfl⟩) λu s1 ⟨v,H1,I1,rx,ev,eH⟩=>?_);subst ev;subst eH;cases rx;obtain⟨l0,_,dd0⟩:=dtH I1 r.fh ha ok rr;refine⟨dd0.typeIs,λb zb=>by cases zb;obtain⟨ob,_,_,h1,h2,_⟩:=dd0;exact⟨ob,h1,h2.2.1⟩,?_⟩;rw[m.trees];refine uU rfl (vU (uT (thn (hk ω s1 σ H1 (λv2 H2=>∃ F2,Same H1 H2/\Same F F2/\Same F2 H2/\New F F2 H1/\Rep X.K F2 (.tuple xs) v2) I1 ⟨H0,F,ψ,.tuple xs,r,e1,λv2 H2 F2 g2 f2 fh2 n2 rv2=>⟨F2,g2,f2,fh2,n2,rv2⟩⟩) λu2 s2 ⟨v2,H2,I2,rx2,F2,g2,f2,fh2,n2,rv2⟩ =>
  uT (thn (hval ω s2 σ H2 (λv3 H3=>∃ F3,Same H2 H3/\Same F2 F3/\Same F3 H3/\New F2 F3 H2/\Rep X.K F3 d v3) I2 ⟨H0,F2,ψ,d,r.grow g2 f2 fh2 n2,e2,λv3 H3 F3 g3 f3 fh3 n3 rv3=>⟨F3,g3,f3,fh3,n3,rv3⟩⟩) λu3 s3 ⟨v3,H3,I3,rx3,F3,g3,f3,fh3,n3,rv3⟩=>qk ?_))))
 have r3:=(r.grow g2 f2 fh2 n2).grow g3 f3 fh3 n3;have nn:New F F3 H0:=(n2.dn r.h0).up (n3.dn (r.grow g2 f2 fh2 n2).h0);obtain⟨u,x5,a',ws3,ep3,x6,ha3,fa3,h0a3,rr3,sm3,ok3⟩:=r3.sl i _ z;subst x6;rw[x3] at x5;cases x5;have rk:=rv2.mono f3;clear rv2;generalize hkk:kH xs=kt at rk e c1;cases rk<;>first|(cases hkk;done)|skip
 rename_i b vs ds hb rb;cases rx2;obtain⟨l,wv,dd⟩:=dtH I3 fh3 ha3 ok3 rr3;obtain⟨bs,rd⟩:=Rep.reads I3 fh3 (.tup hb rb) (zjM c1.1) (u:=.ref b) rfl;have hz:l.length<=sizeLine:=by
  have:=rr3.fst wv;have h2:=congrArg Jt this;rw[jd,jd] at h2;rw[h2,sizeLine_eq];omega
 refine call_meetsIn ux dd.typeIs vX (vP _ _ _) (zfD (treeKind X.prog X.w) a b sm3 u3) ⟨show X.A.units+1+20<cLine by omega,_,l,⟨c1.1,_,rd⟩,dd,hz,λp hp=>?_,λhn h' hm hs=>?_⟩
 .rcases rr3.at (.tuple ds) wv with ⟨_,z2⟩|⟨d',v',p',z1,z2,z3,z4⟩
  .rw[z2] at hp;cases hp
  .rw[z2] at hp;cases hp;rw[z1] at e;cases e;exact⟨v',H3,I3.tok _,z4,q v' H3 F3 (f2.trans f3) nn r3 z3⟩
 .rcases rr3.at (.tuple ds) wv with ⟨z1,_⟩|⟨d',v',p',z1,z2,z3,z4⟩;rotate_left
  .rw[z2] at hn;cases hn
  rw[z1] at e;cases e;obtain⟨o',es',ep',ho',hc',hd',he',_,_⟩:=hm;refine⟨v3,_,d_write I3 (by rw[ha3];trivial) hs ⟨o',ho'⟩ (zrJ (ws:=ws3++[(.tuple ds,b,v3)]) (ep:=ep') ⟨o',es',_,ho',hc',hd',he',wv.snoc rx3⟩),rx3,q v3 _ F3 (f2.trans f3) nn ?_ rv3⟩;exact r3.chgG z rfl x3 ⟨a,_,ep',rfl,upd_same,fa3,h0a3,rr3.snoc (.tup hb rb) rv3,sm3,zn2 ok3 c1.1 (zqC z1) c2⟩
def nilD:FAD:=λψ=>Ga ([],ψ)
def ownD (i:Nat)(g:FAD):FAD:=λψ=>match ψ[i]? with
 | some s=>if ownS s=true then(g ψ).bind λp=>Ga (.inr i::p.1,p.2) else Gb
 | none=>Gb
def valD (f:FV)(g:FAD):FAD:=λψ=>(f ψ).bind λd=>(g ψ).bind λp=>Ga (.inl d::p.1,p.2)
def chgD (f:FD)(g:FAD):FAD:=λψ=>(f ψ).bind λr=>(g r.2).bind λp=>Ga (.inl r.1::p.1,p.2)
theorem zrK:PLD X [] nilD:=by
 refine zcU pa_nil λσ H Q=>?_;rintro⟨H0,F,ψ,as,env1,r,e,_,q⟩;cases e;exact q [] H F (.refl _) (.refl _ _) r .nil
theorem zrL {e:Expr}{es:List Expr}{f:FV}{g:FAD}(ha:PV X e f)(hr:PLD X es g)(hs:starEach (e::es) X.env=(false,eval e X.env)::starEach es X.env:=by rfl):PLD X (e::es) (valD f g):=by
 refine zcU (pa_cons ha hr hs) λσ H Q=>?_;rintro⟨H0,F,ψ,as,env1,r,e,ow,q⟩;obtain⟨d,e1,e⟩:=bind_some e;obtain⟨l,e2,e⟩:=bind_some e;cases e;refine⟨H0,F,ψ,d,r,e1,λv H1 F1 g1 f1 fh1 n1 rv=>⟨H0,F1,ψ,l.1,l.2,r.grow g1 f1 fh1 n1,e2,λi hi=>ow i (jm _ hi),λvs H2 F2 f2 n2 r2 rvs=>?_⟩⟩;exact q (v::vs) H2 F2 (f1.trans f2) ((n1.dn r.h0).up n2) r2 (.val (rv.mono f2) rvs)
theorem zwU {e:Expr}{es:List Expr}{f:FD}{g:FAD}(ha:PD X e f)(hr:PLD X es g)(hs:starEach (e::es) X.env=(false,eval e X.env)::starEach es X.env:=by rfl):PLD X (e::es) (chgD f g):=by
 refine zcU (pa_cons ha hr hs) λσ H Q=>?_;rintro⟨H0,F,ψ,as,env1,r,e,ow,q⟩;obtain⟨⟨d,e3⟩,e1,e⟩:=bind_some e;obtain⟨l,e2,e⟩:=bind_some e;cases e;refine⟨H0,F,ψ,d,e3,r,e1,λv H1 F1 f1 n1 r1 rv=>⟨H0,F1,e3,l.1,l.2,r1,e2,λi hi=>ow i (jm _ hi),λvs H2 F2 f2 n2 r2 rvs=>?_⟩⟩;exact q (v::vs) H2 F2 (f1.trans f2) (n1.up n2) r2 (.val (rv.mono f2) rvs)
theorem zrM (i:Nat){x:Str}{p:Pos}{es:List Expr}{g:FAD}(hr:PLD X es g)(hN:X.N[i]?=Ga x:=by rfl)(hv:Vis X.env.scope x:=by first|exact kR rfl|exact kc (kR rfl)|exact kc (kc rfl))(hd:(x==("__debug__":Str))=false:=by decide)
  (hcd:(x==("__classdict__":Str))=false:=by decide) (hs:starEach (.Name x p::es) X.env=(false,eval (.Name x p) X.env)::starEach es X.env:=by rfl):PLD X (.Name x p::es) (ownD i g):=by
 refine zcU (pa_cons (pe_var hN hv hd hcd) hr hs) λσ H Q=>?_;rintro⟨H0,F,ψ,as,env1,r,e,ow,q⟩;unfold ownD at e;split at e;rotate_left
 .cases e
 rename_i s es';split at e;rotate_left
 .cases e
 rename_i os;obtain⟨l,e2,e⟩:=bind_some e;cases e;obtain⟨u,e1,z⟩:=r.sl i s es';obtain⟨a,ob,rfl,_⟩:=z.at os;exact⟨.ref a,e1,H0,F,ψ,l.1,l.2,r,e2,λi hi=>ow i (jm _ hi),λvs H2 F2 f2 n2 r2 rvs=>q (.ref a::vs) H2 F2 f2 n2 r2 (.own e1 rvs)⟩
theorem zk7:∀ ψ as env1,nilD ψ=Ga (as,env1)->as.length=0:=λ_ _ _ h=>by cases h;rfl
theorem zk8 {f:FV}{g:FAD}{n:Nat}(h:∀ ψ as env1,g ψ=Ga (as,env1)->as.length=n):∀ ψ as env1,valD f g ψ=Ga (as,env1)->as.length=n+1:=λ_ _ _ e=>by
 obtain⟨d,e1,e⟩:=bind_some e;obtain⟨l,e2,e⟩:=bind_some e;cases e;exact congrArg uC (h _ _ _ e2)
theorem zqE {f:FD}{g:FAD}{n:Nat}(h:∀ ψ as env1,g ψ=Ga (as,env1)->as.length=n):∀ ψ as env1,chgD f g ψ=Ga (as,env1)->as.length=n+1:=λ_ _ _ e=>by
 obtain⟨d,e1,e⟩:=bind_some e;obtain⟨l,e2,e⟩:=bind_some e;cases e;exact congrArg uC (h _ _ _ e2)
theorem zk9 {i:Nat}{g:FAD}{n:Nat}(h:∀ ψ as env1,g ψ=Ga (as,env1)->as.length=n):∀ ψ as env1,ownD i g ψ=Ga (as,env1)->as.length=n+1:=λ_ _ _ e=>by
 unfold ownD at e;split at e;rotate_left
 .cases e
 split at e;rotate_left
 .cases e
 obtain⟨l,e2,e⟩:=bind_some e;cases e;exact congrArg uC (h _ _ _ e2)
def exprC (f:FD):FS:=λψ=>(f ψ).bind λr=>Ga (.nx r.2)
theorem ztW {e:Expr}{f:FD}(h:PD X e f)(hs:swapsWith e Gb pos.line X.env=pure false:=by rfl):PSt X (.Expr e pos) (exprC f):=by
 refine zbL (ps_expr h hs) λE σ H=>?_;rintro⟨H0,F,ψ,o,r,e,p⟩;obtain⟨⟨d,e2⟩,e1,e⟩:=bind_some e;cases e;exact⟨H0,F,ψ,d,e2,r,e1,λv H' F' f1 n r' rv=>p σ H' F' f1 n r'⟩
end
end T3
namespace T3
open PySem PySem.Spec PyProof.Rows L2
def Ex (H0 H1:Hp):Prop:=∀ x,H1 x=H0 x\/(H0 x=Gb/\∃ o,H1 x=Ga o/\Pl o)
theorem Ex.sub {H0 H1:Hp}(x:Ex H0 H1){b:Gj}{o:HO}(h:H0 b=Ga o):H1 b=Ga o:=by
 rcases x b with e|⟨e,_⟩
 .rw[e];exact h
 .rw[e] at h;cases h
theorem Ex.non {H0 H1:Hp}(x:Ex H0 H1){b:Gj}(h:H1 b=Gb):H0 b=Gb:=by
 cases q:H0 b with
 | none=>rfl
 | some o=>rw[x.sub q] at h;cases h
theorem Ex.good {H0 H1:Hp}(x:Ex H0 H1){l:List Gg}(g:GoodT H1 l):GoodT H0 l :=
 ⟨g.1,λpos cv e=>by
  obtain⟨c,o,vs,v,e1,e2,e3⟩:=g.2 pos cv e;refine⟨c,o,vs,v,e1,?_,e3⟩;rcases x c with z|⟨_,u,z1,z2⟩
  .rw[<- z];exact e2
  .rw[z1] at e2;cases e2;exact z2.elim⟩
theorem Ex.upd {H0 H1:Hp}(x:Ex H0 H1){c:Gj}{o:HO}(n:H0 c=Gb)(p:Pl o):Ex H0 (upd H1 c o):=λb=>by
 by_cases h:b=c
 .subst h;rw[upd_same];exact .inr ⟨n,o,rfl,p⟩
 .rw[upd_ne h];exact x b
theorem New.ex {H0 H1 F F':Hp}(x:Ex H0 H1)(n:New F F' H1):New F F' H0:=λb o e f=>x.non (n b o e f)
section
variable {K:ja}{H0 H1 F F' H H':Hp}{ψ env':En}{σ:St}
theorem RS.down (x:Ex H0 H1)(r:RS K H1 F H ψ σ):RS K H0 F H ψ σ:=by
 refine⟨λb o h=>(r.h0 b o (x.sub h)).from λl g=>g.sub λc u e=>x.sub e,r.fh,λi s e=>?_,r.ap⟩;obtain⟨u,e1,q⟩:=r.sl i s e;refine⟨u,e1,?_⟩;cases s with
 | no=>trivial
 | val d=>exact q
 | own ds=>obtain⟨b,xs,e2,hb,fb,h0b,rr⟩:=q;exact⟨b,xs,e2,hb,fb,x.non h0b,rr⟩
 | owk b ds=>obtain⟨xs,e2,hb,fb,h0b,rr⟩:=q;exact⟨xs,e2,hb,fb,x.non h0b,rr⟩
 | dic ks=>obtain⟨b,as,ep,e2,hb,fb,h0b,rr⟩:=q;exact⟨b,as,ep,e2,hb,fb,x.non h0b,rr⟩
 | dki oa kvs=>obtain⟨b,ws,ep,e2,hb,fb,h0b,rr⟩:=q;exact⟨b,ws,ep,e2,hb,fb,x.non h0b,rr⟩
 | dkt kvs=>obtain⟨b,ws,ep,e2,hb,fb,h0b,rr⟩:=q;exact⟨b,ws,ep,e2,hb,fb,x.non h0b,rr⟩
 | tab P =>
  obtain⟨ps,q,g⟩:=q;rcases x P with z|⟨_,o,z1,z2⟩
  .exact⟨ps,by rw[<- z];exact q,x.good g⟩
  .rw[z1] at q;cases q;exact z2.elim
 | fn c=>exact q
theorem RS.adopt (r:RS K H1 F H ψ σ){c:Gj}{o:HO}(ha:H c=Ga o)(pl:Pl o)(h1:H1 c=Gb)(ne:∀ (j:Nat) (s:Sl),ownS s=true->ψ[j]?=Ga s->σ[j]?≠Ga (Ga (.ref c))):RS K (upd H1 c o) F H ψ σ:=by
 refine⟨r.h0.upL ha pl,r.fh,λi s e=>?_,r.ap⟩;obtain⟨u,e1,q⟩:=r.sl i s e;refine⟨u,e1,?_⟩;have nn:∀ b,ownS s=true->u=Ga (.ref b)->b≠c:=λb o z w=>by subst w;subst z;exact ne i s o e e1
 cases s with
 | no=>trivial
 | val d=>exact q
 | own ds=>obtain⟨b,xs,e2,hb,fb,h0b,rr⟩:=q;exact⟨b,xs,e2,hb,fb,by rw[upd_ne (nn b rfl e2)];exact h0b,rr⟩
 | owk b ds=>obtain⟨xs,e2,hb,fb,h0b,rr⟩:=q;exact⟨xs,e2,hb,fb,by rw[upd_ne (nn b rfl e2)];exact h0b,rr⟩
 | dic ks=>obtain⟨b,as,ep,e2,hb,fb,h0b,rr⟩:=q;exact⟨b,as,ep,e2,hb,fb,by rw[upd_ne (nn b rfl e2)];exact h0b,rr⟩
 | dki oa kvs=>obtain⟨b,ws,ep,e2,hb,fb,h0b,rr⟩:=q;exact⟨b,ws,ep,e2,hb,fb,by rw[upd_ne (nn b rfl e2)];exact h0b,rr⟩
 | dkt kvs=>obtain⟨b,ws,ep,e2,hb,fb,h0b,rr⟩:=q;exact⟨b,ws,ep,e2,hb,fb,by rw[upd_ne (nn b rfl e2)];exact h0b,rr⟩
 | tab P =>
  obtain⟨ps,q,g⟩:=q;exact⟨ps,by rw[upd_ne (ne_of_none q h1)];exact q,g.updG λx u z=>by rw[h1] at z;cases z⟩
 | fn c=>exact q
theorem zqF {H1:Hp}{a:Gj}{o:HO}(h:H1 a=Ga o):L2.upd H1 a o=H1:=by
 funext b
 by_cases c:b=a
 .subst c;rw[upd_same,h]
 .rw[upd_ne c]
theorem RS.swapA (r:RS K H1 F H ψ σ){a:Gj}{o o':HO}(h:H1 a=Ga o)(fa:F a=Gb)(pl:Pl o)(pl':Pl o'):RS K (upd H1 a o') F (upd H a o') ψ σ:=by
 have r':RS K (upd H1 a o) F H ψ σ:=by rw[zqF h];exact r
 exact r'.swap fa pl pl'
inductive LstW (K:ja)(H0 F H1:Hp):List (Int×List D)->List (Int×V)->Prop where
 | nil:LstW K H0 F H1 [] []
 | cons {k:Int} {ds:List D} {b:Gj} {xs:List V} {l:List (Int×List D)} {m:List (Int×V)} (h:H1 b=Ga (.lst xs)) (f:F b=Gb) (n:H0 b=Gb) (r:Reps K F ds xs) (t:LstW K H0 F H1 l m):LstW K H0 F H1 ((k,ds)::l) ((k,.ref b)::m)
theorem LstW.to {H1':Hp}(f:Same F F'):∀ {l:List (Int×List D)} {m:List (Int×V)},LstW K H0 F H1 l m->(∀ b xs,V.ref b∈m.map (·.2)->H1 b=Ga (.lst xs)->F b=Gb->H1' b=Ga (.lst xs)/\F' b=Gb)->LstW K H0 F' H1' l m
 | _,_,.nil,_=>.nil
 | _,_,.cons h fb n r t,k=>.cons (k _ _ jn h fb).1 (k _ _ jn h fb).2 n (r.mono f) (t.to f λb xs hb=>k b xs (jm _ hb))
theorem LstW.fst:∀ {l:List (Int×List D)} {m:List (Int×V)},LstW K H0 F H1 l m->m.map (·.1)=l.map (·.1)
 | _,_,.nil=>rfl
 | _,_,.cons _ _ _ _ t=>congrArg (_::·) t.fst
theorem LstW.snoc {k:Int}{ds:List D}{b:Gj}{xs:List V}(h:H1 b=Ga (.lst xs))(f:F b=Gb)(n:H0 b=Gb)(r:Reps K F ds xs):∀ {l:List (Int×List D)} {m:List (Int×V)},LstW K H0 F H1 l m->LstW K H0 F H1 (l++[(k,ds)]) (m++[(k,.ref b)])
 | _,_,.nil=>.cons h f n r .nil
 | _,_,.cons h1 f1 n1 r1 t=>.cons h1 f1 n1 r1 (t.snoc h f n r)
theorem LstW.mem:∀ {l:List (Int×List D)} {m:List (Int×V)},LstW K H0 F H1 l m->∀ v∈m.map (·.2),∃ b xs,v=.ref b/\H1 b=Ga (.lst xs)/\F b=Gb/\H0 b=Gb
 | _,_,.nil,v,h=>by cases h
 | _,_,.cons h1 f1 n1 r1 t,v,h=>by
  rcases ju.mp h with rfl|h
  .exact⟨_,_,rfl,h1,f1,n1⟩
  .exact t.mem v h
def atL (l:List (Int×List D))(k:Int):Option (List D):=(l.find? λp=>decide (p.1=k)).map (·.2)
theorem LstW.at (k:Int):∀ {l:List (Int×List D)} {m:List (Int×V)},LstW K H0 F H1 l m->(atL l k=Gb/\valV m k=Gb)\/∃ ds b xs,atL l k=Ga ds/\valV m k=Ga (.ref b)/\H1 b=Ga (.lst xs)/\F b=Gb/\H0 b=Gb/\Reps K F ds xs
 | _,_,.nil=>.inl ⟨rfl,rfl⟩
 | (j,ds)::l,(_,_)::m,.cons (b:=b) (xs:=xs) h f n r t=>by
  unfold atL valV;by_cases c:j=k
  .exact .inr ⟨ds,b,xs,by rw[kA (p:=λ(p:Int×List D)=>decide (p.1=k)) (Gc c)];rfl,by rw[kA (p:=λ(kv:Int×V)=>decide (kv.1=k)) (Gc c)];rfl,h,f,n,r⟩
  .rw[kI (p:=λ(p:Int×List D)=>decide (p.1=k)) (by simpa using c),kI (p:=λ(kv:Int×V)=>decide (kv.1=k)) (by simpa using c)];exact t.at k
def appL (l:List (Int×List D))(k:Int)(d:D):List (Int×List D):=l.map λp=>if p.1=k then(p.1,p.2++[d]) else p
def addE (l:List (Int×List D))(k:Int):List (Int×List D):=if (atL l k).isSome=true then l else l++[(k,[])]
theorem zqG {m:List (Int×V)}{k:Int}{v:V}(h:valV m k=Ga v):(k,v)∈m:=by
 unfold valV at h;obtain⟨p,h1,h2⟩:=kf.mp h;have e:=of_decide_eq_true (v8 (p:=λ(kv:Int×V)=>decide (kv.1=k)) h1);have m1:=vb h1;subst h2;subst e;exact m1
theorem LstW.app {k:Int}{d:D}{v:V}{b:Gj}{xs:List V}(hv:Rep K F d v):∀ {l:List (Int×List D)} {m:List (Int×V)},LstW K H0 F H1 l m->(l.map (·.1)).Nodup->(m.map (·.2)).Nodup->(k,V.ref b)∈m->H1 b=Ga (.lst xs)->LstW K H0 F (upd H1 b (.lst (xs++[v]))) (appL l k d) m
 | _,_,.nil,_,_,h,_=>by cases h
 | (j,ds)::l,(_,_)::m,.cons (b:=c) (xs:=ys) h f n r t,nd,nd2,hm,hb=>by
  have nd':=jH.mp nd;have nd2':=jH.mp nd2;unfold appL;rw[jR];rcases ju.mp hm with e|hm'
  .cases e;rw[Ge rfl];rw[hb] at h;cases h;refine .cons upd_same f n (r.append (.cons hv .nil)) ?_;have e2:(l.map λp=>if p.1=k then(p.1,p.2++[d]) else p)=l:=by
    refine(jQ λp hp=>?_).trans (Ju _);rw[Gf (λz:p.1=k=>nd'.1 (jr.mpr ⟨p,hp,z⟩))];rfl
   rw[e2];refine t.to (.refl _) λb2 zs h2 h3 f3=>⟨?_,f3⟩;rw[upd_ne (λz=>by subst z;exact nd2'.1 h2)];exact h3
  .have hk:k∈l.map (·.1):=by rw[<- t.fst];exact jr.mpr ⟨_,hm',rfl⟩
   rw[Gf (λz:j=k=>nd'.1 (z▸hk))];have hc:c≠b:=λz=>nd2'.1 (z▸jr.mpr ⟨_,hm',rfl⟩);exact .cons (by rw[upd_ne hc];exact h) f n r (t.app hv nd'.2 nd2'.2 hm' hb)
structure GS (K:ja)(H0 F H:Hp)(ψ:En)(σ:St)(i:Nat)(kvs:List (Int×List D))(H1:Hp)(a:Gj)(ws:List (Int×V))(ep:Nat):Prop where
 ex:Ex H0 H1
 rs:RS K H1 F H ψ σ
 pl:σ[i]?=Ga (Ga (.ref a))
 dic:H1 a=Ga (.ext (DiP a ws ep))
 fa:F a=Gb
 h0a:H0 a=Gb
 sm:(a==sysModules)=false
 ls:LstW K H0 F H1 kvs ws
 nd:(ws.map (·.2)).Nodup
 kd:(kvs.map (·.1)).Nodup
 len:kvs.length<=1000
variable {i:Nat}{kvs:List (Int×List D)}{a:Gj}{ws:List (Int×V)}{ep:Nat}
theorem GS.to (q:GS K H0 F H ψ σ i kvs H1 a ws ep)(f:Same F F')(n:New F F' H1)(r:RS K H1 F' H' env' σ):GS K H0 F' H' env' σ i kvs H1 a ws ep:=by
 have k:∀ b o,H1 b=Ga o->F b=Gb->F' b=Gb:=λb o h fb=>by
  cases z:F' b with
  | none=>rfl
  | some u=>rw[n b u z fb] at h;cases h
 exact⟨q.ex,r,q.pl,q.dic,k _ _ q.dic q.fa,q.h0a,q.sm,q.ls.to f λb xs _ h fb=>⟨h,k _ _ h fb⟩,q.nd,q.kd,q.len⟩
theorem GS.grow (q:GS K H0 F H ψ σ i kvs H1 a ws ep)(g:Same H H')(f:Same F F')(fh:Same F' H')(n:New F F' H):GS K H0 F' H' ψ σ i kvs H1 a ws ep:=q.to f (n.dn q.rs.h0) (q.rs.grow g f fh n)
theorem GS.keys (q:GS K H0 F H ψ σ i kvs H1 a ws ep):(ws.map (·.1)).Nodup:=by rw[q.ls.fst];exact q.kd
theorem GS.wlen (q:GS K H0 F H ψ σ i kvs H1 a ws ep):ws.length=kvs.length:=by have:=congrArg Jt q.ls.fst;rwa [jd,jd] at this
theorem zlA {k:Int}(h:atL kvs k=Gb):k∉kvs.map (·.1):=λhm=>by
 unfold atL at h;rw[uX] at h;obtain⟨p,h1,h2⟩:=jr.mp hm;have:=k9.mp h p h1;exact this (Gc h2)
end
section
variable {X:Cx}{pos:Pos}
def tGet (K:ja)(i:Nat)(fk:FD):TE:=λσ H Q=>∃ H0 F ψ kvs k env2 H1 a ws ep,GS K H0 F H ψ σ i kvs H1 a ws ep/\fk ψ=Ga (.int k,env2)/\kvs.length<1000 /\
 ∀ H' F' H1' ws' ep' b xs,Same F F'->New F F' H0->GS K H0 F' H' env2 σ i (addE kvs k) H1' a ws' ep'->(k,V.ref b)∈ws'->H1' b=Ga (.lst xs)->Q (.ref b) H'
theorem zwV (i:Nat){x:Str}{ke:Expr}{fk:FD}{p p2 p3 p4:Pos}(hk:PD X ke fk)(hN:X.N[i]?=Ga x)(hv:Vis X.env.scope x)(hd:(x==("__debug__":Str))=false)(hcd:(x==("__classdict__":Str))=false)
  (m:M2 X (.Name x p) "setdefault" p2 ke (.List [] p4) p3):PE X (.Call (.Attribute (.Name x p) "setdefault" p2) [ke,.List [] p4] [] p3) (tGet X.K i fk):=by
 intro ω s σ H Q I hw;obtain⟨H0,F,ψ,kvs,k,env2,H1,a,ws,ep,G,e,hl,q⟩:=hw;have ha:=G.rs.h0 _ _ G.dic;have hL:PO X (.List [] p4) nilL:=zhO zaR;refine wpAny_Call_method m.base m.few m.line vA ux v7 (thn (pe_var (pos:=p) hN hv hd hcd ω s σ H (λv H1=>v=.ref a/\H1=H) I ⟨.ref a,G.pl,rfl,rfl⟩) λu s1 ⟨v,Hs,I1,rx,ev,eH⟩=>?_);subst ev;subst eH;cases rx;obtain⟨t1,t2⟩:=znK I1 ha G.keys;refine⟨t1,t2,?_⟩;rw[m.trees];refine uU rfl (vU (uT (thn (hk ω s1 σ Hs (λv2 H2=>∃ F2,GS X.K H0 F2 H2 env2 σ i kvs H1 a ws ep/\Same F F2/\New F F2 H0/\Rep X.K F2 (.int k) v2) I1 ⟨H1,F,ψ,.int k,env2,G.rs,e,λv2 H2 F2 f2 n2 r2 rv2=>⟨F2,G.to f2 n2 r2,f2,n2.ex G.ex,rv2⟩⟩) λu2 s2 ⟨v2,H2,I2,rx2,F2,G2,f2,n2,rv2⟩ =>
  uT (thn (hL ω s2 σ H2 (λv3 H3=>∃ c F3,v3=.ref c/\H2 c=Gb/\F3 c=Gb/\H3 c=Ga (.lst [])/\GS X.K H0 F3 H3 env2 σ i kvs H1 a ws ep/\Same F2 F3/\New F2 F3 H0) I2 ⟨H1,F2,env2,[],G2.rs,rfl,λc xs H3 F3 g3 f3 fh3 n3 hc fc hc3 rr=>by cases rr;exact⟨c,F3,rfl,hc,fc,hc3,G2.grow g3 f3 fh3 n3,f3,(n3.dn G2.rs.h0).ex G2.ex⟩⟩) λu3 s3 ⟨v3,H3,I3,rx3,c,F3,ev3,hc,fc,hc3,G3,f3,n3⟩=>qk ?_))))
 subst ev3;cases rv2;cases rx3;obtain⟨tk,rfl⟩:=rx2;have ha3:=G3.rs.h0 _ _ G3.dic;obtain⟨vs,rel,dd⟩:=diH I3 ha3 G3.keys;have hz':vs.length<=sizeLine:=by rw[<- rel.length,G3.wlen,sizeLine_eq];omega
 refine call_meetsIn ux dd.typeIs vX (vP _ _ _) (kt_meets_setdefault (intKind X.prog X.w) a (zhV (k:=k) ⟨tk,rfl⟩) G3.sm (.ref c)) ⟨vs,dd,hz',λv hv=>?_,λhn h' dd' hs=>?_⟩
 .have rv:=rel.val k;rw[hv] at rv;rcases G3.ls.at k with ⟨z1,z2⟩|⟨ds,b,xs,z1,z2,z3,z4,z5,z6⟩
  .rw[z2] at rv;exact rv.elim
  .rw[z2] at rv;have rv':RelV (.ref b) v:=rv;cases rv';have ea:addE kvs k=kvs:=by unfold addE;rw[z1];rfl
   exact⟨.ref b,H3,I3.tok _,rfl,q H3 F3 H1 ws ep b xs (f2.trans f3) (n2.up n3) (by rw[ea];exact G3) (zqG z2) z3⟩
 .rcases G3.ls.at k with ⟨z1,z2⟩|⟨ds,b,xs,z1,z2,z3,z4,z5,z6⟩;rotate_left
  .have rv:=rel.val k;rw[z2,hn] at rv;exact rv.elim
  have ea:addE kvs k=kvs++[(k,[])]:=by unfold addE;rw[z1];rfl
  obtain⟨o',es',ep',ho',hc',hd',hk',hp',_⟩:=dd';have pk:putK ws k (.ref c)=ws++[(k,.ref c)]:=by
   unfold putK;have:¬(ws.any λkv=>decide (kv.1=k))=true:=λz=>by
    obtain⟨p,h1,h2⟩:=uP.mp z;have:k∈kvs.map (·.1):=by rw[<- G3.ls.fst];exact jr.mpr ⟨p,h1,of_decide_eq_true h2⟩
    exact zlA z1 this
   rw[Gf this]
  have hw:=zhT (rel.put k (show RelV (.ref c) (.ref c) from rfl)) hp' λe h=>hk' e (uH.mp h);rw[pk] at hw;have hac:c≠a:=λz=>by subst z;rw[G2.rs.h0 _ _ G2.dic] at hc;cases hc
  have h1c:H1 c=Gb:=G2.rs.h0.free hc;refine⟨.ref c,_,d_write I3 (by rw[ha3];trivial) hs ⟨o',ho'⟩ (znD (ws:=ws++[(k,.ref c)]) (ep:=ep') ⟨o',es',ho',hc',hd',hw⟩),rfl,?_⟩;have r4:RS X.K (upd H1 c (.lst [])) F3 H3 env2 σ:=G3.rs.adopt hc3 trivial h1c (G2.rs.ne_free hc);have d4:upd H1 c (.lst []) a=Ga (.ext (DiP a ws ep)):=by rw[upd_ne (kY hac)];exact G3.dic
  have r5:RS X.K (upd (upd H1 c (.lst [])) a (.ext (DiP a (ws++[(k,.ref c)]) ep'))) F3 (upd H3 a (.ext (DiP a (ws++[(k,.ref c)]) ep'))) env2 σ:=r4.swapA d4 G3.fa trivial trivial;have nc:V.ref c∉ws.map (·.2):=λz=>by
   obtain⟨b,xs,e1,e2,_⟩:=G3.ls.mem _ z;cases e1;rw[h1c] at e2;cases e2
  have nak:∀ b xs,H1 b=Ga (.lst xs)->b≠a/\b≠c:=λb xs h=>⟨λz=>(by subst z;rw[G3.dic] at h;cases h),λz=>(by subst z;rw[h1c] at h;cases h)⟩;refine q _ F3 _ _ ep' c [] (f2.trans f3) (n2.up n3) (show GS X.K H0 F3 (upd H3 a (.ext (DiP a (ws++[(k,.ref c)]) ep'))) env2 σ i (addE kvs k) (upd (upd H1 c (.lst [])) a (.ext (DiP a (ws++[(k,.ref c)]) ep'))) a (ws++[(k,.ref c)]) ep' from ?_) (by simp) (by rw[upd_ne hac,upd_same]);rw[ea];refine⟨(G3.ex.upd (o:=.lst []) (G3.ex.non h1c) trivial).upd G3.h0a trivial,r5,G3.pl,upd_same,G3.fa,G3.h0a,G3.sm,?_,?_,?_,?_⟩
  .refine LstW.snoc (by rw[upd_ne hac,upd_same]) fc (G3.ex.non h1c) .nil (G3.ls.to (.refl _) λb xs _ h fb=>⟨?_,fb⟩);rw[upd_ne (nak b xs h).1,upd_ne (nak b xs h).2];exact h
  .rw[jO,ky];refine⟨G3.nd,jH.mpr ⟨by simp,j6⟩,λx hx y hy=>?_⟩;rw[jh.mp hy];exact λz=>nc (by have z2:x=V.ref c:=z;rw[<- z2];exact hx)
  .rw[jO,ky];refine⟨G3.kd,jH.mpr ⟨by simp,j6⟩,λx hx y hy=>?_⟩;rw[jh.mp hy];exact λz=>zlA z1 (by have z2:x=k:=z;rw[<- z2];exact hx)
  .rw[jB];exact hl
def tGrp (K:ja)(i:Nat)(fk:FD)(fv:FV):TS:=λE σ H=>∃ H0 F ψ kvs k env2 d H1 a ws ep,GS K H0 F H ψ σ i kvs H1 a ws ep/\fk ψ=Ga (.int k,env2)/\fv env2=Ga d/\kvs.length<1000/\(∀ p∈kvs,p.2.length<1000) /\
 ∀ H' F' H1' ws' ep',Same F F'->New F F' H0->GS K H0 F' H' env2 σ i (appL (addE kvs k) k d) H1' a ws' ep'->E.nx σ H'
theorem zwW (i:Nat){x:Str}{ke ve:Expr}{fk:FD}{fv:FV}{p p2 p3 p4 p5 p6:Pos}(hk:PD X ke fk)(hval:PV X ve fv)(hN:X.N[i]?=Ga x:=by rfl)(hv:Vis X.env.scope x:=by first|exact kR rfl|exact kc (kR rfl)|exact kc (kc rfl))(hd:(x==("__debug__":Str))=false:=by decide)(hcd:(x==("__classdict__":Str))=false:=by decide)
  (m:M2 X (.Name x p) "setdefault" p2 ke (.List [] p4) p3:=by exact⟨rfl,rfl,rfl,rfl⟩) (hst:starEach [ve] X.env=[(false,eval ve X.env)]:=by rfl) (hline:(p5.endLine==p6.line)=true:=by rfl)
  (hbase:attributeBase (.Call (.Attribute (.Name x p) "setdefault" p2) [ke,.List [] p4] [] p3) "append" X.env (eval (.Call (.Attribute (.Name x p) "setdefault" p2) [ke,.List [] p4] [] p3) X.env)=eval (.Call (.Attribute (.Name x p) "setdefault" p2) [ke,.List [] p4] [] p3) X.env:=by rfl)
  (hs:swapsWith (.Call (.Attribute (.Call (.Attribute (.Name x p) "setdefault" p2) [ke,.List [] p4] [] p3) "append" p5) [ve] [] p6) Gb pos.line X.env=pure false:=by rfl) :
  PS X (.Expr (.Call (.Attribute (.Call (.Attribute (.Name x p) "setdefault" p2) [ke,.List [] p4] [] p3) "append" p5) [ve] [] p6) pos) (tGrp X.K i fk fv):=by
 refine zbL (ps_expr (pe_bm qu qp qq mt_append (zwV i hk hN hv hd hcd m) (pa_cons hval pa_nil hst) hbase (by rw[hst];rfl) hline hst rfl) hs) λE σ H=>?_;rintro⟨H0,F,ψ,kvs,k,env2,d,H1,a,ws,ep,G,e,e2,hl,hz,q⟩;refine⟨H0,F,ψ,kvs,k,env2,H1,a,ws,ep,G,e,hl,λH' F' H1' ws' ep' b xs f n G' hm hb=>?_⟩;refine⟨.inl ⟨rfl,xs,SqL.of (G'.rs.h0 _ _ hb)⟩,H1',F',env2,d,G'.rs,e2,λv H2 F2 g2 f2 fh2 n2 rv=>?_⟩;have G2:=G'.grow g2 f2 fh2 n2;have hb2:=G2.rs.h0 _ _ hb;have fb:F2 b=Gb:=by
  obtain⟨b',xs',e1,_,e3,_⟩:=G2.ls.mem _ (jr.mpr ⟨_,hm,rfl⟩);cases e1;exact e3
 have h0b:H0 b=Gb:=by
  obtain⟨b',xs',e1,_,_,e3⟩:=G2.ls.mem _ (jr.mpr ⟨_,hm,rfl⟩);cases e1;exact e3
 have hba:b≠a:=λz=>by subst z;rw[G2.dic] at hb;cases hb
 have lx:xs.length<1000:=by
  have:∀ {l:List (Int×List D)} {m:List (Int×V)},LstW X.K H0 F2 H1' l m->(∀ p∈l,p.2.length<1000)->V.ref b∈m.map (·.2)->xs.length<1000:=λ{l m} h=>by
   induction h with
   | nil=>intro _ z;cases z
   | cons h f n r t ih =>
    intro hp z;rcases ju.mp z with z|z
    .cases z;rw[h] at hb;cases hb;rw[<- r.length];exact hp _ jn
    .exact ih (λp hq=>hp p (jm _ hq)) z
  refine this G2.ls (λp hp=>?_) (jr.mpr ⟨_,hm,rfl⟩);unfold addE at hp;split at hp
  .exact hz p hp
  .rcases jN.mp hp with z|z
   .exact hz p z
   .rw[jh.mp z];show 0<1000;decide
 refine⟨b,xs,v,rfl,rfl,hb2,by rw[sizeLine_eq];omega,?_⟩;refine q _ F2 (upd H1' b (.lst (xs++[v]))) ws' ep' (f.trans f2) (n.up ((n2.dn G'.rs.h0).ex G'.ex)) ⟨G2.ex.upd h0b trivial,G2.rs.swapA hb fb trivial trivial,G2.pl,by rw[upd_ne (kY hba)];exact G2.dic,G2.fa,G2.h0a,G2.sm,G2.ls.app rv G2.kd G2.nd hm hb,G2.nd,?_,?_⟩
 .have:(appL (addE kvs k) k d).map (·.1)=(addE kvs k).map (·.1):=by
   unfold appL;rw[ka];refine jQ λp _=>?_;show(if p.1=k then(p.1,p.2++[d]) else p).1=p.1;split<;>rfl
  rw[this];exact G2.kd
 .unfold appL;rw[jd];exact G2.len
end
end T3
namespace T3
open PySem PySem.Spec PyProof.Rows L2
theorem ztX {P:Program}{w:World}{H:Hp}{h:Heap}{v d:Gj}(p:h.IsValuesView v d):ObjOk P w H h v (.ext λh=>h.IsValuesView v d):=by
 obtain⟨o,ho,r⟩:=id p;exact⟨p,⟨o,ho⟩,λh1 h2 ⟨o,ho,r⟩ k=>⟨o,k _ ho,r⟩⟩
theorem zrN {κ:Type}:∀ {ws:List (κ×V)} {vs:List (κ×Gg)} {i:Nat} {k:κ} {v:V} {k':κ} {u:Gg},KV ws vs->ws[i]?=Ga (k,v)->vs[i]?=Ga (k',u)->RelV v u
 | _,_,_,_,_,_,_,.nil,h,_=>by simp at h
 | _,_,0,_,_,_,_,.cons a t,h,h2=>by cases h;cases h2;exact a.2
 | _,_,i+1,_,_,_,_,.cons a t,h,h2=>zrN (i:=i) t h h2
section
variable {X:Cx}{pos:Pos}
theorem zn3 (i:Nat){x:Str}{p p2 p3:Pos}(hN:X.N[i]?=Ga x)(hv:Vis X.env.scope x)(hd:(x==("__debug__":Str))=false)(hcd:(x==("__classdict__":Str))=false)
  (hbase:attributeBase (.Name x p) "values" X.env (eval (.Name x p) X.env)=eval (.Name x p) X.env) (hline:(p2.endLine==p3.line)=true) :
  PE X (.Call (.Attribute (.Name x p) "values" p2) [] [] p3) (λσ H Q=>∃ a ws ep,σ[i]?=Ga (Ga (.ref a))/\H a=Ga (.ext (DiP a ws ep))/\(ws.map (·.1)).Nodup/\(a==sysModules)=false/\∀ v,H v=Gb->Q (.ref v) (upd H v (.ext λh=>h.IsValuesView v a))):=by
 intro ω s σ H Q I hw;obtain⟨a,ws,ep,pl,ha,nd,sm,q⟩:=hw;refine wpAny_Call_method0_late hbase hline (thn (pe_var (pos:=p) hN hv hd hcd ω s σ H (λv H1=>v=.ref a/\H1=H) I ⟨.ref a,pl,rfl,rfl⟩) λu s1 ⟨v,H1,I1,rx,ev,eH⟩=>?_);subst ev;subst eH;cases rx;obtain⟨t1,t2⟩:=znK I1 ha nd;obtain⟨vs,rel,dd⟩:=diH I1 ha nd;refine⟨"dict","dict.values",vA,qr,PySem.F.type_dict_values,t1,t2,uU rfl (PySem.evalArgs_none (call_meetsIn qr t1 PySem.F.entry_dict_values (PySem.F.args_dict_values_1 _) (meets_dict_values (intKind X.prog X.w) a sm) ⟨⟨vs,dd⟩,?_⟩))⟩;refine⟨.ref _,_,I1.laid (t':=s1.toks) (a:=s1.heap.objs.size) (o:=.ext λh=>h.IsValuesView s1.heap.objs.size a) (λ_ _ q=>jg _ q) (jo _) (ztX ⟨_,jv _ rfl,rfl,rfl⟩),rfl,q _ (I1.hok.fresh (jo _))⟩
theorem zmB (hc:X.calm=true):CallR X (.type "list") (λxs H Q=>∃ (r d:Gj) (ws:List (Int×V)) (ep:Nat),xs=[.ref r]/\H r=Ga (.ext λh=>h.IsValuesView r d)/\H d=Ga (.ext (DiP d ws ep))/\(ws.map (·.1)).Nodup/\ws.length<=1000/\∀ l,H l=Gb->Q (.ref l) (upd H l (.lst (ws.map (·.2))))):=by
 intro ω s σ H xs us Q I r h;obtain⟨rv,d,ws,ep,rfl,hr,hd,nd,hz,q⟩:=h;obtain⟨u,rfl,ru⟩:=vals1 r;cases ru;obtain⟨o,es,ho,hc',hdd,he⟩:=znE I.hok hd;obtain⟨vs,h1,h2⟩:=he.pairs (P:=X.prog) (w:=X.w);have da:s.heap.DictAt (intKind X.prog X.w) d vs ep:=⟨o,es,ho,hc',hdd,λe h=>he.keys e (uH.mpr h),h2,by rw[znF h1];exact nd⟩;have iv:s.heap.IsValuesView rv d:=(I.hok _ _ hr).1;have hl:vs.length=ws.length:=h1.length.symm;refine PySem.W.kdl_call (PySem.W.kdl_values (knd:=intKind X.prog X.w) (r:=rv) (d:=d) (kvs:=vs) (ep:=ep)) (I.ok.hd hc) ⟨iv,da⟩ (by rw[hl,sizeLine_eq];omega) λh' tk acc c k na it=>?_;have vr:Vals (ws.map (·.2)) acc.toList:=by
  refine zhS _ _ (by have a1:=it.1;have a2:=jt (xs:=acc);rw[jd];omega) λi x u hx hu=>?_;obtain⟨k,e1⟩:=it.2 i u (by rw[<- j5];exact hu);rw[jq] at hx;obtain⟨⟨k2,v2⟩,hb,rfl⟩:=kf.mp hx;exact zrN h1 hb e1
 refine⟨.ref _,_,Inv.laid (X:=X) (s:=s) (a:=s.heap.objs.size) (o:=.lst (ws.map (·.2))) (t':=tk) I k (jo _) ⟨by rw[jd,sizeLine_eq];omega,acc.toList,c,vr,?_⟩,rfl,q _ I.fresh⟩;rw[vY];exact na
open Classical in
noncomputable def fixW (F H1:Hp)(ws:List (Int×V)):Hp:=λx=>if V.ref x∈ws.map (·.2) then H1 x else F x
theorem LstW.reps {K:ja}{H0 F F' H1:Hp}(f:Same F F'):∀ {l:List (Int×List D)} {m:List (Int×V)},LstW K H0 F H1 l m->(∀ b xs,V.ref b∈m.map (·.2)->H1 b=Ga (.lst xs)->F' b=Ga (.lst xs))->Reps K F' (l.map λp=>kE p.2) (m.map (·.2))
 | _,_,.nil,_=>.nil
 | _,_,.cons h fb n r t,k=>.cons (.lst (SqL.of (k _ _ jn h)) (r.mono f)) (t.reps f λb xs hb=>k b xs (jm _ hb))
theorem zqH (i:Nat){x:Str}{p p2 p3 p4:Pos}(hc:X.calm=true)(hg:Gl X "list")(hm:X.mg "list"=Gb)(hN:X.N[i]?=Ga x)(hv:Vis X.env.scope x)(hd:(x==("__debug__":Str))=false)(hcd:(x==("__classdict__":Str))=false)
  (hbase:attributeBase (.Name x p) "values" X.env (eval (.Name x p) X.env)=eval (.Name x p) X.env) (hline:(p2.endLine==p3.line)=true)
  (hs:starEach [.Call (.Attribute (.Name x p) "values" p2) [] [] p3] X.env=[(false,eval (.Call (.Attribute (.Name x p) "values" p2) [] [] p3) X.env)]) :
  PE X (.Call (.Name "list" p4) [.Call (.Attribute (.Name x p) "values" p2) [] [] p3] [] pos) (λσ H Q=>∃ H0 F ψ kvs H1 a ws ep,GS X.K H0 F H ψ σ i kvs H1 a ws ep/\∀ v H' F',Same H0 H'->Same F F'->Same F' H'->New F F' H0->Rep X.K F' (.list (kvs.map λp=>.list p.2)) v->Q v H'):=by
 refine zaN (cT1 (zmB hc) hg hm boot_list (zn3 i hN hv hd hcd hbase hline) (hs:=hs)) λσ H Q=>?_;rintro⟨H0,F,ψ,kvs,H1,a,ws,ep,G,q⟩;have ha:=G.rs.h0 _ _ G.dic;refine⟨a,ws,ep,G.pl,ha,G.keys,G.sm,λv hv=>?_⟩;have s1:Same H (upd H v (.ext λh=>h.IsValuesView v a)):=Same.new hv;generalize hH2:upd H v (.ext λh=>h.IsValuesView v a)=H2 at s1;refine⟨v,a,ws,ep,rfl,by rw[<- hH2,upd_same],s1 _ _ ha,G.keys,by rw[G.wlen];exact G.len,λl hl=>?_⟩;have inn:∀ b,V.ref b∈ws.map (·.2)->∃ xs,H1 b=Ga (.lst xs)/\F b=Gb/\H0 b=Gb:=λb hb=>by
  obtain⟨b',xs,e1,e2,e3,e4⟩:=G.ls.mem _ hb;cases e1;exact⟨xs,e2,e3,e4⟩
 have fin:∀ b,V.ref b∈ws.map (·.2)->fixW F H1 ws b=H1 b:=λb h=>Ge h;have fnn:∀ b,¬V.ref b∈ws.map (·.2)->fixW F H1 ws b=F b:=λb h=>Gf h;have fF:Same F (fixW F H1 ws):=Same.of λb o h=>by
  by_cases c:V.ref b∈ws.map (·.2)
  .obtain⟨xs,_,e,_⟩:=inn b c;rw[e] at h;cases h
  .rw[fnn b c];exact h
 have gF:∀ t,GoodT (fixW F H1 ws) t->GoodT F t:=λt g=>⟨g.1,λpos cv e=>by
  obtain⟨c,o,vs,v,e1,e2,e3⟩:=g.2 pos cv e;refine⟨c,o,vs,v,e1,?_,e3⟩;by_cases z:V.ref c∈ws.map (·.2)
  .obtain⟨xs,e,_⟩:=inn c z;rw[fin c z,e] at e2;cases e2
  .rw[fnn c z] at e2;exact e2⟩
 have S2:Same (fixW F H1 ws) H2:=λb o h=>by
  by_cases c:V.ref b∈ws.map (·.2)
  .obtain⟨xs,e,_⟩:=inn b c;rw[fin b c,e] at h;cases h;exact s1 _ _ (G.rs.h0 _ _ e)
  .rw[fnn b c] at h;exact((G.rs.fh.trans s1) b o h).from gF
 have hl2:fixW F H1 ws l=Gb:=S2.free hl;have h0l:H0 l=Gb:=G.ex.non ((G.rs.h0.trans s1).free hl);refine q (.ref l) _ (upd (fixW F H1 ws) l (.lst (ws.map (·.2)))) (((G.rs.down G.ex).h0.trans s1).trans (Same.new hl)) (fF.trans (Same.new hl2)) (S2.up2 (ob:=.lst (ws.map (·.2))) hl2 hl trivial) (λb o h n=>?_) ?_
 .by_cases c:b=l
  .rw[c];exact h0l
  .rw[upd_ne c] at h;by_cases z:V.ref b∈ws.map (·.2)
   .exact(inn b z).choose_spec.2.2
   .rw[fnn b z,n] at h;cases h
 .refine .lst (SqL.of upd_same) (G.ls.reps (fF.trans (Same.new hl2)) λb xs hb h=>?_);rw[upd_ne (λz=>by subst z;rw[fin b hb,h] at hl2;cases hl2),fin b hb];exact h
def grpL (j:Nat)(fk:FD)(fv:FV):List D->En->List (Int×List D)->Option (En×List (Int×List D))
 | [],ψ,kvs=>Ga (ψ,kvs)
 | x::r,ψ,kvs=>(fk (ψ.set j (.val x))).bind λp=>(fv p.2).bind λd=>match p.1 with
  | .int k=>if kvs.length<1000/\(kvs.all λp=>decide (p.2.length<1000))=true then grpL j fk fv r p.2 (appL (addE kvs k) k d) else Gb
  | _=>Gb
def grpS (i j:Nat)(f:FL)(fk:FD)(fv:FV):FS:=λψ=>(f (ψ.set i .no)).bind λds=>(grpL j fk fv ds (ψ.set i .no) []).bind λr=>Ga (.rt (.list (r.2.map λp=>.list p.2)))
theorem ztY (i j:Nat){x y:Str}{iter ke ve:Expr}{f:FL}{fk:FD}{fv:FV}{q1 q2 q3 q4 q5 p p2 p3 p4 p5 p6 p7 r1 r2 r3 r4 r5:Pos}(hc:X.calm=true)(hp:PassesOwn (model X.prog X.w) X.A X.env X.xe)(hij:i≠j)(hgl:Gl X "list")(hml:X.mg "list"=Gb)
  (hi:PIt X (.Name y q4) iter f) (hk:PD X ke fk) (hval:PV X ve fv) (hN:X.N.Nodup) (hx:X.N[i]?=Ga x:=by rfl) (hy:X.N[j]?=Ga y:=by rfl) (lx:Loc X.env.scope x:=by first|exact kR rfl|exact kc rfl) (ly:Loc X.env.scope y:=by first|exact kR rfl|exact kc rfl)
  (hv:Vis X.env.scope x:=by first|exact kR rfl|exact kc (kR rfl)|exact kc (kc rfl)) (hd:(x==("__debug__":Str))=false:=by decide) (hcd:(x==("__classdict__":Str))=false:=by decide)
  (fx:X.fn x=true\/X.env.scope.names.lookup x=Ga .local:=by first|exact .inl rfl|exact .inr rfl) (fy:X.fn y=true\/X.env.scope.names.lookup y=Ga .local:=by first|exact .inl rfl|exact .inr rfl)
  (hs1:swapsWith (.Dict [] [] q2) (Ga (.Name x q1)) q3.line X.env=pure false:=by rfl) (hs2:∀ x,foldedSetIterable iter X.env x=pure x:=by intro _;rfl)
  (m:M2 X (.Name x p) "setdefault" p2 ke (.List [] p4) p3:=by exact⟨rfl,rfl,rfl,rfl⟩) (hst:starEach [ve] X.env=[(false,eval ve X.env)]:=by rfl) (hline:(p5.endLine==p6.line)=true:=by rfl)
  (hbase:attributeBase (.Call (.Attribute (.Name x p) "setdefault" p2) [ke,.List [] p4] [] p3) "append" X.env (eval (.Call (.Attribute (.Name x p) "setdefault" p2) [ke,.List [] p4] [] p3) X.env)=eval (.Call (.Attribute (.Name x p) "setdefault" p2) [ke,.List [] p4] [] p3) X.env:=by rfl)
  (hs:swapsWith (.Call (.Attribute (.Call (.Attribute (.Name x p) "setdefault" p2) [ke,.List [] p4] [] p3) "append" p5) [ve] [] p6) Gb p7.line X.env=pure false:=by rfl)
  (hb2:attributeBase (.Name x r1) "values" X.env (eval (.Name x r1) X.env)=eval (.Name x r1) X.env:=by rfl) (hl2:(r2.endLine==r3.line)=true:=by rfl)
  (hs3:starEach [.Call (.Attribute (.Name x r1) "values" r2) [] [] r3] X.env=[(false,eval (.Call (.Attribute (.Name x r1) "values" r2) [] [] r3) X.env)]:=by rfl) :
  PSts X [.Assign [.Name x q1] (.Dict [] [] q2) q3,.For (.Name y q4) iter [.Expr (.Call (.Attribute (.Call (.Attribute (.Name x p) "setdefault" p2) [ke,.List [] p4] [] p3) "append" p5) [ve] [] p6) p7] [] q5,
   .Return (Ga (.Call (.Name "list" r4) [.Call (.Attribute (.Name x r1) "values" r2) [] [] r3] [] r5)) pos] (grpS i j f fk fv):=by
 intro ω s σ H E I hw;refine pss_cons (ps_set hN hx lx zkZ hs1 fx) (pss_cons (ps_for hp hc hi (pg_name hN hy ly fy) (pss_one (zwW i hk hval hx hv hd hcd m hst hline hbase hs)) hs2) (pss_one (ps_ret (zqH i hc hgl hml hx hv hd hcd hb2 hl2 hs3)))) ω s σ H E I ?_;obtain⟨H0,F,ψ,o,r,e,post⟩:=hw;obtain⟨ds,e1,e⟩:=bind_some e;obtain⟨rr,e2,e⟩:=bind_some e;cases e;have hl:i<σ.length:=by rw[I.len];exact(je.mp hx).1
 have hlj:j<σ.length:=by rw[I.len];exact(je.mp hy).1
 intro a ha sm;have G0:GS X.K H0 F (upd H a (.ext (DiP a [] 0))) (ψ.set i .no) (σ.set i (Ga (.ref a))) i [] (upd H0 a (.ext (DiP a [] 0))) a [] 0 :=
  ⟨Ex.upd (λx=>.inl rfl) (r.h0.free ha) trivial,(r.lend ha).putG hl trivial (λj s o _ ej=>r.ne_free ha j s o ej),jM hl,upd_same,r.fh.free ha,r.h0.free ha,sm,.nil,j6,j6,jY _⟩
 have hlj':j<(σ.set i (Ga (V.ref a))).length:=by rw[uY];exact hlj
 refine⟨_,F,_,ds,G0.rs,e1,λJ H2 F2 g2 f2 fh2 n2 Y=>?_⟩;have G2:=G0.grow g2 f2 fh2 n2;have nn2:New F F2 H0:=(n2.dn G0.rs.h0).ex G0.ex;refine⟨λn m σ' H'=>n+m=ds.length/\j<σ'.length/\∃ F3 env3 kvs3 Hk ws3 ep3,GS X.K H0 F3 H' env3 σ' i kvs3 Hk a ws3 ep3/\Same F F3/\New F F3 H0/\Same F2 F3/\grpL j fk fv (ds.drop n) env3 kvs3=Ga rr,⟨ds.length,by omega,hlj',F2,_,_,_,_,_,G2,f2,nn2,.refl _,e2⟩,?_⟩;rintro n m' σ' H' ⟨hm,hjl,F3,env3,kvs3,Hk,ws3,ep3,G3,f3,n3,f23,e3⟩;obtain⟨yd,yg⟩:=Y F3 f23 H' G3.rs.fh n;by_cases hlt:n<ds.length
 .obtain⟨go,yy⟩:=yg ds[n] (by simp[hlt]);rw[uF hlt] at e3;unfold grpL at e3;obtain⟨⟨kd,env4⟩,x1,x2⟩:=bind_some e3;obtain⟨d,x3,x4⟩:=bind_some x2;dsimp only at x3 x4;cases kd<;>first|(cases x4;done)|skip
  rename_i k;dsimp only at x4;split at x4;rotate_left
  .cases x4
  rename_i cnd;refine .inr ⟨go,λσ3 H3=>n+1+(m'-1)=ds.length/\j<σ3.length/\∃ F5 env5 kvs5 Hk5 ws5 ep5,GS X.K H0 F5 H3 env5 σ3 i kvs5 Hk5 a ws5 ep5/\Same F F5/\New F F5 H0/\Same F2 F5/\grpL j fk fv (ds.drop (n+1)) env5 kvs5=Ga rr,λσ3 H3 h3=>⟨m'-1,by omega,h3⟩,λv Hx yl=>?_⟩;obtain⟨gx,F4,f4,fh4,n4,rx⟩:=yy v Hx yl;have G4:=G3.grow gx f4 fh4 n4;have G5:GS X.K H0 F4 Hx (env3.set j (.val ds[n])) (σ'.set j (Ga v)) i kvs3 Hk a ws3 ep3 :=
   ⟨G4.ex,G4.rs.put hjl rx,by rw[jI (kY hij)];exact G4.pl,G4.dic,G4.fa,G4.h0a,G4.sm,G4.ls,G4.nd,G4.kd,G4.len⟩
  have n34:New F3 F4 H0:=(n4.dn G3.rs.h0).ex G3.ex;refine⟨H0,F4,_,kvs3,k,env4,d,Hk,a,ws3,ep3,G5,x1,x3,cnd.1,λp hp=>of_decide_eq_true (kB.mp cnd.2 p hp),λH6 F6 Hk' ws' ep' f6 n6 G6=>?_⟩;exact⟨by omega,by rw[uY];exact hjl,F6,env4,_,Hk',ws',ep',G6,f3.trans (f4.trans f6),n3.up (n34.up n6),f23.trans (f4.trans f6),x4⟩
 .rw[uW (by omega)] at e3;cases e3;refine .inl ⟨yd (by omega),?_⟩;exact⟨H0,F3,env3,kvs3,Hk,a,ws3,ep3,G3,λv H' F' s0 ff fh nn rv=>post v H' F' s0 (f3.trans ff) fh (n3.up nn) rv⟩
end
end T3
namespace T3
open PySem PySem.Spec PyProof.Rows
theorem zhY {xs:Array Nat}{j:Nat}(up:xs.toList.Pairwise (·<·)):∀ (fuel lo hi:Nat),lo<=hi->hi<=xs.size->hi<=fuel+lo->(∀ k (h:k<xs.size),k<lo->xs[k]<j)->(∀ k (h:k<xs.size),hi<=k->¬xs[k]<j) ->
  SetTable.below.go xs j fuel lo hi<=xs.size/\(∀ k (h:k<xs.size),k<SetTable.below.go xs j fuel lo hi->xs[k]<j)/\(∀ k (h:k<xs.size),SetTable.below.go xs j fuel lo hi<=k->¬xs[k]<j)
 | 0,lo,hi,h1,h2,h3,a,b=>by
  have:lo=hi:=by omega
  subst this;exact⟨h2,a,b⟩
 | f+1,lo,hi,h1,h2,h3,a,b=>by
  have mono:∀ p q (hp:p<xs.size) (hq:q<xs.size),p<q->xs[p]<xs[q]:=λp q hp hq h=>by
   have:=vd.mp up p q (by simpa using hp) (by simpa using hq) h
   simpa using this
  unfold SetTable.below.go;by_cases c:lo<hi
  .rw[Ge c];dsimp only;have hm:(lo+hi)/2<xs.size:=by omega
   have e:xs.getD ((lo+hi)/2) j=xs[(lo+hi)/2]:=by rw[kg,jG hm];rfl
   rw[e];by_cases d:xs[(lo+hi)/2]<j
   .rw[Ge d];refine zhY up f _ _ (by omega) h2 (by omega) (λk h hk=>?_) b;by_cases z:k=(lo+hi)/2
    .subst z;exact d
    .exact qA (mono k _ h hm (by omega)) d
   .rw[Gf d];refine zhY up f _ _ (by omega) (by omega) (by omega) a λk h hk z=>d ?_;by_cases w:k=(lo+hi)/2
    .subst w;exact z
    .exact qA (mono _ k hm h (by omega)) z
  .rw[Gf c];have:lo=hi:=by omega
   subst this;exact⟨h2,a,b⟩
theorem zhZ {xs:Array Nat}(j:Nat)(up:xs.toList.Pairwise (·<·)):SetTable.below xs j<=xs.size/\(∀ k (h:k<xs.size),k<SetTable.below xs j->xs[k]<j)/\(∀ k (h:k<xs.size),SetTable.below xs j<=k->¬xs[k]<j) :=
 zhY up xs.size 0 xs.size (jY _) (jo _) (by omega) (λk h z=>by omega) (λk h z=>by omega)
theorem zwX {xs:Array Nat}{j:Nat}(up:xs.toList.Pairwise (·<·))(nj:j∉xs.toList):(SetTable.insertAt xs (SetTable.below xs j) j).toList.Pairwise (·<·):=by
 obtain⟨h1,h2,h3⟩:=zhZ j up;generalize SetTable.below xs j=p at h1 h2 h3;rw[SetTable.toList_insertAt];have t1:∀ x∈xs.toList.take p,x<j:=λx hx=>by
  obtain⟨i,hi,e⟩:=List.mem_take_iff_getElem.mp hx;have hs:i<xs.size:=by rw[<- jt];omega
  have:=h2 i hs (by omega);rw[<- e];simpa using this
 have t2:∀ x∈xs.toList.drop p,j<x:=λx hx=>by
  have hx2:=List.mem_of_mem_drop hx;obtain⟨i,hi,e⟩:=ur.mp hx;rw[List.getElem_drop] at e;have hs:p+i<xs.size:=by rw[Jk,jt] at hi;omega
  have:=h3 (p+i) hs (by omega);have e2:xs[p+i]=x:=by rw[<- e];simp
  rw[e2] at this;have:x≠j:=λz=>nj (z▸hx2);omega
 rw[List.pairwise_append];refine⟨up.sublist (qZ _ _),qe.mpr ⟨t2,up.sublist (List.drop_sublist _ _)⟩,λa ha b hb=>?_⟩;rcases ju.mp hb with rfl|hb
 .exact t1 a ha
 .exact qA (t1 a ha) (t2 b hb)
structure TI (led:Bool)(c:Nat)(es:Array (Int×Gg))(t:SetTable):Prop where
 pl:t.plain=true
 ld:t.led=led
 dm:t.dummies=#[]
 sz:t.place.size=es.size
 up:t.place.toList.Pairwise (·<·)
 nd:(es.toList.map (·.1)).Nodup
 rg:∀ e∈es.toList,0<=e.1/\e.1<32
 vl:∀ e∈es.toList,∃ tk,e.2=.int e.1 tk
 ms:(t.mask=7/\es.size<=4+c/\∀ p∈t.place.toList,p<=7)\/((t.mask=31/\es.size<=18+c\/t.mask=127)/\∀ p∈t.place.toList,∃ e∈es.toList,e.1=(p:Int))
theorem zc8 {l:List Int}(nd:l.Nodup)(rg:∀ x∈l,0<=x/\x<32):l.length<=32:=by
 have:=um nd (l₂:=(jk 32).map λ(k:Nat)=>(k:Int)) λx hx=>jr.mpr ⟨x.toNat,jK.mpr (by have:=rg x hx;omega),by have:=rg x hx;omega⟩
 simpa using this
theorem zgG (j:Nat):SetTable.has #[] j=false:=by
 unfold SetTable.has;rw[kG (by simp)];rfl
theorem zi1 {t:SetTable}{j:Nat}(dm:t.dummies=#[])(h:j∉t.place.toList):t.slot j=.empty:=by
 unfold SetTable.slot;dsimp only;rw[Gf (λz=>h (by
  have z2:=beq_iff_eq.mp z;rw[<- j5] at z2;exact jL z2)),dm,zgG]
 rfl
theorem ze1 {t:SetTable}{j:Nat}(dm:t.dummies=#[])(h:t.slot j≠.empty):∃ i,t.slot j=.live i:=by
 unfold SetTable.slot at h ⊢;dsimp only at h ⊢;split
 .exact⟨_,rfl⟩
 .rename_i z;rw[Gf z,dm,zgG] at h;exact absurd rfl h
theorem zfE {h:Int}(h0:0<=h)(h1:h<32):SetTable.bits h=h.toNat:=by
 unfold SetTable.bits;rw[Int.emod_eq_of_lt h0 (by omega)]
theorem zhE {t:SetTable}{f:Nat->Int}{h:Int}{n:Nat}{p:SetTable.Probe}(e:t.slot p.j=.empty):SetTable.probe.go t f h (n+1) p=Ga (.empty p.j p.dummy):=by
 unfold SetTable.probe.go;rw[e]
theorem zh0 {t:SetTable}{h:Int}{n i:Nat}{p:SetTable.Probe}(e:t.slot p.j=.live i):SetTable.probe.go t (λ_=>h+1) h (n+1) p=SetTable.probe.go t (λ_=>h+1) h n (t.advance p):=by
 rw[SetTable.probe.go.eq_def];dsimp only;rw[e];dsimp only;rw[Gf (by rw[beq_iff_eq];omega)]
theorem adv7 {t:SetTable}{i q:Nat}(m:t.mask=7)(hq:q<32):t.advance { j:=i,more:=0,i:=i,perturb:=q,dummy:=Gb }={ j:=(i*5+1)%8,more:=0,i:=(i*5+1)%8,perturb:=0,dummy:=Gb }:=by
 unfold SetTable.advance SetTable.leap SetTable.runEnd;dsimp only;have e0:q/32=0:=Nat.div_eq_of_lt hq;rw[Gf (by omega),m,e0,Jb];have:¬((i*5+1)%(7+1)+9<=7):=by omega
 rw[Gf this,Jf]
theorem zn4:∀ i:Fin 8,([i.val,(i.val*5+1)%8,((i.val*5+1)%8*5+1)%8,(((i.val*5+1)%8*5+1)%8*5+1)%8,((((i.val*5+1)%8*5+1)%8*5+1)%8*5+1)%8]).Nodup:=by decide
theorem ztZ {led:Bool}{es:Array (Int×Gg)}{t:SetTable}{h:Int}(T:TI led 0 es t)(h0:0<=h)(h1:h<32)(nh:∀ e∈es.toList,e.1≠h):∃ j,t.freeSlot h=Ga (j,false)/\j∉t.place.toList/\((t.mask=7/\j<=7)\/(t.mask≠7/\(j:Int)=h)):=by
 rcases T.ms with ⟨m,hl,_⟩|⟨m,hp⟩
 .have key:∀ (i q n:Nat),i<8->q<32->∃ j,SetTable.probe.go t (λ_=>h+1) h (n+5) { j:=i,more:=0,i:=i,perturb:=q,dummy:=Gb }=Ga (.empty j Gb)/\j∉t.place.toList/\j<=7:=λi q n hi hq=>by
   have nd:=zn4 ⟨i,hi⟩;dsimp only at nd;have fr:∀ x,x<8->t.slot x=.empty->x∉t.place.toList/\x<=7:=λx hx e=>⟨λz=>(by
    unfold SetTable.slot at e;dsimp only at e;obtain⟨b1,b2,b3⟩:=zhZ x T.up;obtain⟨k,hk,ek⟩:=ur.mp z;have hk':k<t.place.size:=by rw[<- jt];exact hk
    have ek':t.place[k]=x:=by rw[<- ek];simp
    have kb:SetTable.below t.place x=k:=by
     have mono:∀ p q (hp:p<t.place.size) (hq:q<t.place.size),p<q->t.place[p]<t.place[q]:=λp q hp hq h=>by
      have:=vd.mp T.up p q (by simpa using hp) (by simpa using hq) h
      simpa using this
     rcases Jg (SetTable.below t.place x) k with c|c|c
     .have hb:SetTable.below t.place x<t.place.size:=by omega
      have y1:=b3 _ hb (jo _);have y2:=mono _ k hb hk' c;omega
     .exact c
     .have:=b2 k hk' c;omega
    rw[Ge (by rw[kb,jG hk',ek'];exact beq_self_eq_true _)] at e;cases e),by omega⟩
   have st:∀ x,t.slot x≠.empty->x∈t.place.toList:=λx e=>by
    apply qh;intro z;exact e (zi1 T.dm z)
   by_cases c0:t.slot i=.empty
   .exact⟨i,zhE (n:=n+4) (p:={ j:=i,more:=0,i:=i,perturb:=q,dummy:=Gb }) c0,fr i hi c0⟩
   obtain⟨l0,e0⟩:=ze1 T.dm c0;rw[zh0 (n:=n+4) (p:={ j:=i,more:=0,i:=i,perturb:=q,dummy:=Gb }) e0,adv7 m hq];have hi1:(i*5+1)%8<8:=qd _ (by decide);generalize ei1:(i*5+1)%8=i1 at nd hi1 ⊢;by_cases c1:t.slot i1=.empty
   .exact⟨i1,zhE (n:=n+3) (p:={ j:=i1,more:=0,i:=i1,perturb:=0,dummy:=Gb }) c1,fr i1 hi1 c1⟩
   obtain⟨l1,e1⟩:=ze1 T.dm c1;rw[zh0 (n:=n+3) (p:={ j:=i1,more:=0,i:=i1,perturb:=0,dummy:=Gb }) e1,adv7 m (by decide)];have hi2:(i1*5+1)%8<8:=qd _ (by decide);generalize ei2:(i1*5+1)%8=i2 at nd hi2 ⊢;by_cases c2:t.slot i2=.empty
   .exact⟨i2,zhE (n:=n+2) (p:={ j:=i2,more:=0,i:=i2,perturb:=0,dummy:=Gb }) c2,fr i2 hi2 c2⟩
   obtain⟨l2,e2⟩:=ze1 T.dm c2;rw[zh0 (n:=n+2) (p:={ j:=i2,more:=0,i:=i2,perturb:=0,dummy:=Gb }) e2,adv7 m (by decide)];have hi3:(i2*5+1)%8<8:=qd _ (by decide);generalize ei3:(i2*5+1)%8=i3 at nd hi3 ⊢;by_cases c3:t.slot i3=.empty
   .exact⟨i3,zhE (n:=n+1) (p:={ j:=i3,more:=0,i:=i3,perturb:=0,dummy:=Gb }) c3,fr i3 hi3 c3⟩
   obtain⟨l3,e3⟩:=ze1 T.dm c3;rw[zh0 (n:=n+1) (p:={ j:=i3,more:=0,i:=i3,perturb:=0,dummy:=Gb }) e3,adv7 m (by decide)];have hi4:(i3*5+1)%8<8:=qd _ (by decide);generalize ei4:(i3*5+1)%8=i4 at nd hi4 ⊢;by_cases c4:t.slot i4=.empty
   .exact⟨i4,zhE (n:=n) (p:={ j:=i4,more:=0,i:=i4,perturb:=0,dummy:=Gb }) c4,fr i4 hi4 c4⟩
   exfalso;have:=um nd (l₂:=t.place.toList) λx hx=>by
    simp only[ju,ki,or_false] at hx;rcases hx with rfl|rfl|rfl|rfl|rfl
    .exact st _ c0
    .exact st _ c1
    .exact st _ c2
    .exact st _ c3
    .exact st _ c4
   have h5:5<=t.place.toList.length:=this;rw[jt,T.sz] at h5;omega
  obtain⟨j,k1,k2,k3⟩:=key (h.toNat%8) h.toNat 215 (qd _ (by decide)) (by omega);refine⟨j,?_,k2,.inl ⟨m,k3⟩⟩;unfold SetTable.freeSlot SetTable.probe SetTable.probeStart SetTable.runEnd SetTable.turns;dsimp only;rw[zfE h0 h1,m,Gf (by omega),Jf];show(match SetTable.probe.go t (λ_=>h+1) h (215+5) { j:=h.toNat%8,more:=0,i:=h.toNat%8,perturb:=h.toNat,dummy:=Gb } with
   | some (.empty j dummy)=>Ga (dummy.getD j,dummy.isSome)
   | _=>Gb)=_
  rw[k1];rfl
 .have nj:h.toNat∉t.place.toList:=λz=>by
   obtain⟨e,e1,e2⟩:=hp _ z;exact nh e e1 (by omega)
  have hm:h.toNat<t.mask+1:=by rcases m with ⟨m,_⟩|m<;>omega
  refine⟨h.toNat,?_,nj,.inr ⟨by rcases m with ⟨m,_⟩|m<;>omega,by omega⟩⟩;unfold SetTable.freeSlot SetTable.probe SetTable.probeStart;dsimp only;rw[zfE h0 h1,Jr hm];have ft:10*SetTable.turns t.mask=(10*t.mask+149)+1:=by unfold SetTable.turns;omega
  rw[ft,zhE (zi1 T.dm nj)];rfl
theorem zwY {led:Bool}{es:Array (Int×Gg)}{t:SetTable}{h:Int}{tk:Tok}(T:TI led 0 es t)(h0:0<=h)(h1:h<32)(nh:∀ e∈es.toList,e.1≠h):∃ es1 t1 g,layNew t es h (.int h tk)=(es1,t1,false,g)/\TI led 1 es1 t1:=by
 obtain⟨j,e,nj,hj⟩:=ztZ T h0 h1 nh;have len:es.size<=31:=by
  have:=zc8 (l:=h::es.toList.map (·.1)) (jH.mpr ⟨λz=>by obtain⟨e,e1,e2⟩:=jr.mp z;exact nh e e1 e2,T.nd⟩) λx hx=>by
   rcases ju.mp hx with rfl|hx
   .exact⟨h0,h1⟩
   .obtain⟨e,e1,e2⟩:=jr.mp hx;rw[<- e2];exact T.rg e e1
  rw[ul,jd,jt] at this;omega
 unfold layNew;rw[e];unfold SetTable.put;dsimp only;have up:=zwX T.up nj;generalize hp:SetTable.below t.place j=p at up;have pm:(SetTable.insertAt es p (h,uO h tk)).toList.Perm (es.toList++[(h,.int h tk)]):=by
  have:=SetTable.insertAt_perm es p (h,uO h tk)
  rwa [uI] at this
 have pm2:(SetTable.insertAt t.place p j).toList.Perm (t.place.toList++[j]):=by
  have:=SetTable.insertAt_perm t.place p j
  rwa [uI] at this
 generalize SetTable.insertAt es p (h,uO h tk)=es1 at pm;generalize SetTable.insertAt t.place p j=pl1 at up pm2;have sz1:es1.size=es.size+1:=by rw[<- jt,pm.length_eq,jB,jt];rfl
 have sz2:pl1.size=es.size+1:=by rw[<- jt,pm2.length_eq,jB,jt,T.sz];rfl
 rw[T.dm,zgG];have ft:({ t with place:=pl1,dummies:=if false=true then SetTable.eraseAt #[] (SetTable.below #[] j) else #[] }:SetTable).fits es1.size=true:=by
  unfold SetTable.fits SetTable.fill;dsimp only;rw[sz1,sz2,jE,decide_eq_true_eq];refine⟨beq_self_eq_true _,?_⟩;show es.size+1+0<=t.mask;rcases T.ms with ⟨m,l,_⟩|⟨⟨m,l⟩|m,_⟩<;>omega
 unfold SetTable.orStandIn;rw[ft,Ge rfl];refine⟨es1,_,_,rfl,T.pl,T.ld,rfl,by rw[sz1];exact sz2,up,?_,λe he=>?_,λe he=>?_,?_⟩
 .rw[(pm.map (·.1)).nodup_iff,jO,ky];refine⟨T.nd,jH.mpr ⟨by simp,j6⟩,λx hx y hy=>?_⟩;obtain⟨e,e1,e2⟩:=jr.mp hx;rw[jh.mp hy,<- e2];exact nh e e1
 .rcases jN.mp (pm.mem_iff.mp he) with z|z
  .exact T.rg e z
  .rw[jh.mp z];exact⟨h0,h1⟩
 .rcases jN.mp (pm.mem_iff.mp he) with z|z
  .exact T.vl e z
  .rw[jh.mp z];exact⟨tk,rfl⟩
 .dsimp only;rcases T.ms with ⟨m,l,q⟩|⟨m,q⟩
  .refine .inl ⟨m,by omega,λx hx=>?_⟩;rcases jN.mp (pm2.mem_iff.mp hx) with z|z
   .exact q x z
   .rw[jh.mp z];rcases hj with ⟨_,a⟩|⟨a,_⟩
    .exact a
    .exact absurd m a
  .refine .inr ⟨by rcases m with ⟨m,l⟩|m<;>omega,λx hx=>?_⟩;rcases jN.mp (pm2.mem_iff.mp hx) with z|z
   .obtain⟨e,e1,e2⟩:=q x z;exact⟨e,pm.mem_iff.mpr (uo _ e1),e2⟩
   .rw[jh.mp z];refine⟨(h,.int h tk),pm.mem_iff.mpr (jJ _ jn),?_⟩;rcases hj with ⟨a,_⟩|⟨_,a⟩
    .rcases m with ⟨m,l⟩|m<;>omega
    .exact a.symm
def OwnerOk (M:Nat)(l:List Int)(owner:Array (Option Nat)):Prop:=owner.size=M+1/\∀ j k,owner.getD j Gb=Ga k↔l[k]?=Ga ((j:Nat):Int)
theorem zmC {M:Nat}{l:List Int}{owner:Array (Option Nat)}{h:Int}(hM:31<=M)(O:OwnerOk M l owner)(h0:0<=h)(h1:h<32)(nh:h∉l)(fuel q:Nat):SetTable.layClean.free M owner (fuel+1) h.toNat q=Ga h.toNat:=by
 unfold SetTable.layClean.free;have hr:∃ r,SetTable.runEnd M h.toNat+1-h.toNat=r+1:=by
  unfold SetTable.runEnd;split
  .exact⟨9,by omega⟩
  .exact⟨0,by omega⟩
 obtain⟨r,er⟩:=hr;rw[er,List.range_succ_eq_map];have hs:h.toNat<owner.size:=by rw[O.1];omega
 have hn:owner[h.toNat]?=Ga Gb:=by
  rw[jG hs];cases q:owner[h.toNat] with
  | none=>rfl
  | some k =>
   have:owner.getD h.toNat Gb=Ga k:=by rw[kg,jG hs,q];rfl
   have z:=(O.2 _ _).mp this;have e:((h.toNat:Nat):Int)=h:=by omega
   rw[e] at z;exact absurd (jL z) nh
 have hf:((owner.getD (h.toNat+0) (Ga 0)).isNone)=true:=by rw[Jb,kg,hn];rfl
 rw[kA (p:=λk=>(owner.getD (h.toNat+k) (Ga 0)).isNone) hf];rfl
theorem zqI {M:Nat}(hM:31<=M){hs:Array Int}(nd:hs.toList.Nodup)(rg:∀ x∈hs.toList,0<=x/\x<32):∃ owner,SetTable.layClean M hs=Ga owner/\OwnerOk M hs.toList owner:=by
 unfold SetTable.layClean;rw[<- Array.foldl_toList];generalize hs.toList=l at nd rg;have key:∀ (r d:List Int) (owner:Array (Option Nat)),(d++r).Nodup->(∀ x∈r,0<=x/\x<32)->OwnerOk M d owner->∃ ow2,(r.foldl (λacc h=>do
   let (owner,k) <- acc
   let j <- SetTable.layClean.free M owner (SetTable.turns M) (SetTable.bits h%(M+1)) (SetTable.bits h)
   pure (owner.setIfInBounds j (Ga k),k+1)) (Ga (owner,d.length)))=Ga (ow2,(d++r).length)/\OwnerOk M (d++r) ow2:=λr=>by
  induction r with
  | nil=>intro d owner _ _ O;exact⟨owner,by rw[jX];rfl,by rw[jX];exact O⟩
  | cons h r ih =>
   intro d owner nd rg O;obtain⟨h0,h1⟩:=rg h jn;have nh:h∉d:=λz=>by
    rw[ky] at nd;exact nd.2.2 h z h jn rfl
   rw[Jw];have ft:SetTable.turns M=(M+14)+1:=rfl;have em:SetTable.bits h%(M+1)=h.toNat:=by rw[zfE h0 h1,Jr (by omega)]
   have st:(do
     let (owner,k) <- Ga (owner,d.length)
     let j <- SetTable.layClean.free M owner (SetTable.turns M) (SetTable.bits h%(M+1)) (SetTable.bits h)
     pure (owner.setIfInBounds j (Ga k),k+1))=Ga (owner.setIfInBounds h.toNat (Ga d.length),d.length+1):=by
    show(SetTable.layClean.free M owner (SetTable.turns M) (SetTable.bits h%(M+1)) (SetTable.bits h)).bind _=_;rw[em,ft,zmC hM O h0 h1 nh];rfl
   rw[st];have O2:OwnerOk M (d++[h]) (owner.setIfInBounds h.toNat (Ga d.length)):=by
    refine⟨by rw[Array.size_setIfInBounds];exact O.1,λj k=>?_⟩;have hs2:h.toNat<owner.size:=by rw[O.1];omega
    rw[kg,Array.getElem?_setIfInBounds];by_cases c:h.toNat=j
    .subst c;rw[Ge rfl,Ge hs2];have e:((h.toNat:Nat):Int)=h:=by omega
     rw[e];constructor
     .intro z;cases z;rw[ko (jo _),Jf];rfl
     .intro z;by_cases c2:k<d.length
      .rw[jW c2] at z;exact absurd (jL z) nh
      .rw[ko (by omega)] at z;have:=(je.mp z).1;have:k=d.length:=by simp at this;omega
       rw[this];rfl
    .rw[Gf c];have:=O.2 j k;rw[kg] at this;rw[this];constructor
     .intro z;rw[jW (je.mp z).1];exact z
     .intro z;by_cases c2:k<d.length
      .rw[jW c2] at z;exact z
      .rw[ko (by omega)] at z;have hk:=(je.mp z).1;have:k-d.length=0:=by simp at hk;omega
       rw[this] at z;have z2:h=(j:Int):=jw z;omega
   have:=ih (d++[h]) _ (by rw[kD];exact nd) (λx hx=>rg x (jm _ hx)) O2;rw[kD,jB] at this;exact this
 obtain⟨ow,k1,k2⟩:=key l [] (Array.replicate (M+1) Gb) nd rg ⟨by simp,λj k=>by
  rw[kg,Array.getElem?_replicate];constructor
  .intro z;split at z<;>cases z
  .intro z;simp at z⟩
 refine⟨ow,?_,k2⟩;have k3:=congrArg (Option.map (·.1)) k1;exact k3
theorem zt0 {M:Nat}(hM:31<=M){es:Array (Int×Gg)}{f mv:Nat}{led:Bool}(nd:(es.toList.map (·.1)).Nodup)(rg:∀ e∈es.toList,0<=e.1/\e.1<32) :
  ∃ t order,SetTable.laid M f mv led true (es.map (·.1))=Ga (t,order)/\t.plain=true/\t.led=led/\t.dummies=#[]/\t.mask=M/\t.place.size=order.size/\t.place.toList.Pairwise (·<·)/\order.toList.Perm (jk es.size)/\∀ p∈t.place.toList,∃ e∈es.toList,e.1=(p:Int):=by
 have el:(es.map (·.1)).toList=es.toList.map (·.1):=Jn;obtain⟨ow,h1,h2⟩:=zqI (M:=M) hM (hs:=es.map (·.1)) (by rw[el];exact nd) λx hx=>by
  rw[el] at hx;obtain⟨e,e1,e2⟩:=jr.mp hx;rw[<- e2];exact rg e e1
 rw[el] at h2;unfold SetTable.laid;rw[h1];refine⟨_,_,rfl,rfl,rfl,rfl,rfl,?_,?_,?_,?_⟩
 .simp
 .dsimp only;have sub:∀ l:List Nat,l.Pairwise (·<·)->((l.filterMap λj=>(ow.getD j Gb).map (j,·)).map (·.1)).Pairwise (·<·):=λl hl=>by
   have e:(l.filterMap λj=>(ow.getD j Gb).map (j,·)).map (·.1)=l.filter λj=>(ow.getD j Gb).isSome:=by
    induction l with
    | nil=>rfl
    | cons a r ih =>
     have ih:=ih (qe.mp hl).2;cases q:ow.getD a Gb with
     | none=>rw[List.filterMap_cons_none (by rw[q];rfl),ub (by rw[q];decide)];exact ih
     | some k=>rw[List.filterMap_cons_some (b:=(a,k)) (by rw[q];rfl),jR,ua (by rw[q];rfl),ih]
   rw[e];exact hl.sublist uy
  exact sub _ ug
 .dsimp only;refine(uh ?_ qy).mpr λk=>?_
  .refine uw.mpr (List.pairwise_filterMap.mpr (ug.imp λ{a b} hab x hx y hy=>?_));obtain⟨k,k1,rfl⟩:=kf.mp hx;obtain⟨k',k2,rfl⟩:=kf.mp hy;intro z;have z':k=k':=z;subst z';have a1:=(h2.2 a k).mp k1;have a2:=(h2.2 b k).mp k2;rw[a1] at a2;have:(a:Int)=(b:Int):=jw a2;omega
  .rw[jK];constructor
   .intro hk;obtain⟨x,x1,x2⟩:=jr.mp hk;obtain⟨j,j1,j2⟩:=uS.mp x1;obtain⟨k',k1,k2⟩:=kf.mp j2;subst k2;have x2':k'=k:=x2;subst x2';have:=(je.mp ((h2.2 j k').mp k1)).1;rw[jd,jt] at this;exact this
   .intro hk;have hk2:k<(es.toList.map (·.1)).length:=by rw[jd,jt];exact hk
    have hr:=rg es[k] (by simp);have e:((es[k].1.toNat:Nat):Int)=es[k].1:=by omega
    have hg:(es.toList.map (·.1))[k]?=Ga ((es[k].1.toNat:Nat):Int):=by rw[jc hk2,e];simp
    refine jr.mpr ⟨(es[k].1.toNat,k),uS.mpr ⟨es[k].1.toNat,jK.mpr (by omega),?_⟩,rfl⟩;rw[(h2.2 _ _).mpr hg];rfl
 .dsimp only;intro p hp;obtain⟨x,x1,x2⟩:=jr.mp hp;obtain⟨j,j1,j2⟩:=uS.mp x1;obtain⟨k',k1,k2⟩:=kf.mp j2;subst k2;have x2':j=p:=x2;subst x2';have:=(h2.2 j k').mp k1;rw[jq] at this;obtain⟨e,e1,e2⟩:=kf.mp this;exact⟨e,jL e1,e2⟩
theorem zqJ {led:Bool}{es:Array (Int×Gg)}{t:SetTable}(T:TI led 1 es t)(c:(t.mask=7/\es.size=5)\/(t.mask=31/\es.size=19)):∃ es2 t2 g,relayAll t es (SetTable.grown es.size)=(es2,t2,g)/\TI led 0 es2 t2/\es2.toList.Perm es.toList:=by
 have hM:∃ M,SetTable.sizeAbove (SetTable.grown es.size)-1=M/\31<=M/\((M=31/\es.size<=18)\/M=127):=by
  rcases c with ⟨_,c⟩|⟨_,c⟩
  .rw[c];exact⟨31,by decide,by decide,.inl ⟨rfl,by decide⟩⟩
  .rw[c];exact⟨127,by decide,by decide,.inr rfl⟩
 obtain⟨M,e1,e2,e3⟩:=hM;have len:es.size<=32:=by rcases c with ⟨_,c⟩|⟨_,c⟩<;>omega
 obtain⟨t',order,l1,l2,l3,l4,l5,l6,l7,l8,l9⟩:=zt0 (f:=t.finger) (mv:=t.movedTo M) (led:=t.led) e2 T.nd T.rg;have pm:=relayAll_perm t es (SetTable.grown es.size);have sz0:order.size=es.size:=by rw[<- jt,l8.length_eq,jz]
 unfold relayAll SetTable.relaid at pm ⊢;rw[e1,T.pl,l1] at pm ⊢;dsimp only at pm ⊢;have cv:coversAll order es.size=true:=Jz.mpr l8;have szf:(order.filterMap (es[·]?)).size=es.size:=by
  rw[<- jt,Array.toList_filterMap];have:=(l8.filterMap (es[·]?)).length_eq;rw[this,filterMap_getElem?_range,jt]
 have ft:t'.fits (order.filterMap (es[·]?)).size=true:=by
  unfold SetTable.fits SetTable.fill;rw[szf,l4,jE,decide_eq_true_eq,l6,sz0];refine⟨beq_self_eq_true _,?_⟩;show es.size+0<=t'.mask;omega
 rw[cv,ft,u7,Ge rfl] at pm ⊢;dsimp only at pm;refine⟨_,_,_,rfl,⟨l2,l3.trans T.ld,l4,by rw[l6,szf,sz0],l7,(pm.map (·.1)).nodup_iff.mpr T.nd,λe he=>T.rg e (pm.mem_iff.mp he),λe he=>T.vl e (pm.mem_iff.mp he),.inr ⟨?_,λp hp=>?_⟩⟩,pm⟩
 .rw[l5,szf];rcases e3 with ⟨a,b⟩|a
  .exact .inl ⟨a,b⟩
  .exact .inr a
 .obtain⟨e,a,b⟩:=l9 p hp;exact⟨e,pm.mem_iff.mpr a,b⟩
theorem zt1 {led:Bool}{es:Array (Int×Gg)}{t:SetTable}{h:Int}{tk:Tok}(T:TI led 0 es t)(h0:0<=h)(h1:h<32)(nh:∀ e∈es.toList,e.1≠h):TI led 0 (addP t es h (.int h tk)).1 (addP t es h (.int h tk)).2/\(addP t es h (.int h tk)).1.toList.Perm (es.toList++[(h,.int h tk)]):=by
 obtain⟨es1,t1,g,e,T1⟩:=zwY (tk:=tk) T h0 h1 nh;have pm:=layNew_perm t es h (.int h tk);unfold addP;rw[e] at pm ⊢;rw[uI] at pm;dsimp only at pm ⊢;cases q:t1.tooFull with
 | true =>
  rw[qP,u7,Ge rfl];have c:(t1.mask=7/\es1.size=5)\/(t1.mask=31/\es1.size=19):=by
   unfold SetTable.tooFull SetTable.fill at q;rw[decide_eq_true_eq,T1.dm,T1.sz] at q;have q2:(es1.size+0)*5≥t1.mask*3:=q;have len:es1.size<=32:=by
    have:=zc8 T1.nd λx hx=>by obtain⟨e,e1,e2⟩:=jr.mp hx;rw[<- e2];exact T1.rg e e1
    rw[jd,jt] at this;exact this
   rcases T1.ms with ⟨m,l,_⟩|⟨⟨m,l⟩|m,_⟩<;>omega
  obtain⟨es2,t2,g2,e2,T2,p2⟩:=zqJ T1 c;rw[e2];exact⟨T2,p2.trans pm⟩
 | false =>
  rw[qP,u7,Gf jx];refine⟨⟨T1.pl,T1.ld,T1.dm,T1.sz,T1.up,T1.nd,T1.rg,T1.vl,?_⟩,pm⟩;unfold SetTable.tooFull SetTable.fill at q;rw[decide_eq_false_iff_not,T1.dm,T1.sz] at q;have q2:¬((es1.size+0)*5≥t1.mask*3):=q;rcases T1.ms with ⟨m,l,r⟩|⟨⟨m,l⟩|m,r⟩
  .exact .inl ⟨m,(show es1.size<=4+0 by omega),r⟩
  .exact .inr ⟨.inl ⟨m,(show es1.size<=18+0 by omega)⟩,r⟩
  .exact .inr ⟨.inr m,r⟩
end T3
namespace T3
open PySem PySem.Spec PyProof.Rows
def SS (h:Heap)(a:Gj)(led:Bool)(l:List Int):Prop:=∃ es t,SX h a es t/\TI led 0 es t/\∀ x,x∈es.toList.map (·.1)↔x∈l
theorem SS.keep {h h':Heap}{a:Gj}{led:Bool}{l:List Int}(c:SS h a led l)(k:∀ o,h.get? a=Ga o->h'.get? a=Ga o):SS h' a led l:=by
 obtain⟨es,t,⟨o,ep,ho,hex,hd⟩,r⟩:=c;exact⟨es,t,⟨o,ep,k o ho,hex,hd⟩,r⟩
def upTo (val:Nat->Int)(n:Nat):List Int:=(jk n).map val
theorem zwZ (led:Bool):TI led 0 #[] (.fresh 0 0 led):=⟨rfl,rfl,rfl,rfl,by simp[SetTable.fresh],by simp,λe h=>by simp at h,λe h=>by simp at h,.inl ⟨rfl,by simp,λp h=>by simp[SetTable.fresh] at h⟩⟩
theorem TI.fits {led:Bool}{es:Array (Int×Gg)}{t:SetTable}(T:TI led 0 es t):t.fits es.size=true:=by
 unfold SetTable.fits SetTable.fill;rw[T.sz,T.dm,jE,decide_eq_true_eq];refine⟨beq_self_eq_true _,?_⟩;show es.size+0<=t.mask;have len:es.size<=32:=by
  have:=zc8 T.nd λx hx=>by obtain⟨e,e1,e2⟩:=jr.mp hx;rw[<- e2];exact T.rg e e1
  rwa [jd,jt] at this
 rcases T.ms with ⟨m,l,_⟩|⟨⟨m,l⟩|m,_⟩<;>omega
theorem TI.len {led:Bool}{es:Array (Int×Gg)}{t:SetTable}(T:TI led 0 es t):es.size<=32:=by
 have:=zc8 T.nd λx hx=>by obtain⟨e,e1,e2⟩:=jr.mp hx;rw[<- e2];exact T.rg e e1
 rwa [jd,jt] at this
theorem hash32 {prog:Program}{w:World}{k:Int}(h0:0<=k)(h1:k<32):(intKind prog w).hash k=k:=by
 have:∀ n:Fin 32,hashInt (n.val:Int)=(n.val:Int):=by decide
 have e:=this ⟨k.toNat,by omega⟩;dsimp only at e;have e2:((k.toNat:Nat):Int)=k:=by omega
 rw[e2] at e;exact e
section
variable {prog:Program}{w:World}{A:Around}{E:Gg->Gh->Prop}{s:Gh}
theorem zw0 {a:Gj}{led:Bool}{l:List Int}{k:Int}{tk:Tok}{Q:Bool->Gh->Prop}(hk:0<=k/\k<32)(c:SS s.heap a led l)(h:∀ h' b,kw a s.heap h'->SS h' a led (l++[k])->Q b { s with heap:=h' }) :
  wpAny (model prog w) A (setAddHashed a (.int k tk) ((intKind prog w).hash k)) Q E s:=by
 obtain⟨es,t,hS,T,hm⟩:=c;have hel:ElemsOf (intKind prog w) es.toList:=λe he=>by
  obtain⟨tk,et⟩:=T.vl e he;have r:=T.rg e he;refine⟨⟨e.1,?_,?_⟩,?_⟩
  .rw[et];exact intKind_is _ _ _ _
  .exact(hash32 r.1 r.2).symm
  .rw[et];rfl
 have hb:es.size+2<scanBound:=by have:=T.len;unfold scanBound;omega
 have hh:=hash32 (prog:=prog) (w:=w) hk.1 hk.2;by_cases c:k∈es.toList.map (·.1)
 .obtain⟨e,he1,he2⟩:=jr.mp c;obtain⟨tk',et⟩:=T.vl e he1;have his:(intKind prog w).is k e.2=true:=by rw[et,he2];exact intKind_is _ _ _ _
  cases fd:es.toList.findIdx? (λe=>(intKind prog w).is k e.2) with
  | none=>have:=qi.mp fd e he1;rw[his] at this;cases this
  | some j =>
   have e0:s={ s with heap:=s.heap }:=by cases s;rfl
   refine zsJ hS T.fits hel hb fd ?_;rw[e0];refine h s.heap false (Heap.SameBut.refl a s.heap) ⟨es,t,hS,T,λx=>?_⟩;rw[jN,jh,hm x];exact⟨.inl,λz=>z.elim id λz=>by rw[z];exact(hm k).mp c⟩
 .have nf:es.toList.findIdx? (λe=>(intKind prog w).is k e.2)=Gb:=qi.mpr λe he1=>by
   obtain⟨tk',et⟩:=T.vl e he1;cases q:(intKind prog w).is k e.2 with
   | false=>rfl
   | true =>
    rw[et] at q;have z:=(intKind prog w).inj _ _ _ q (intKind_is _ _ _ _);exact absurd (jr.mpr ⟨e,he1,z.symm⟩) c
  obtain⟨T2,pm⟩:=zt1 (tk:=tk) T hk.1 hk.2 λe he z=>c (jr.mpr ⟨e,he,z⟩);refine zsI hS T.fits hel hb nf λh' hsb hS'=>h h' true hsb ⟨_,_,by rw[hh] at hS';exact hS',T2,λx=>?_⟩;rw[(pm.map (·.1)).mem_iff,jO,jN,jN,hm x];exact Iff.rfl
end
section
variable {prog:Program}{w:World}{A:Around}{R:Result->Gh->Prop}{I:Gj}{fp wr:List Gj}{G:Array GenState->Array GenState->Prop}{n:Nat}{P:Nat->Gg->Prop}{St:Nat->Gh->Prop}
theorem zn5 (val:Nat->Int)(n:Nat):upTo val n++[val n]=upTo val (n+1):=by unfold upTo;rw[vn,jO];rfl
theorem zt2 (W:WalksS prog w A.in1 I fp wr G n P St)(S:Gj)(nS:S∉fp)(val:Nat->Int)(v5:∀ i,0<=val i/\val i<32)(vl:∀ i v,P i v->∃ t,v=.int (val i) t)(led:Bool) :
  ∀ (k i:Nat) (s:Gh),n-i=k->i<=n->St i s->SS s.heap S led (upTo val i)->(∀ z1,Moved (S::wr) G s z1->SS z1.heap S led (upTo val n)->R (.ok (.ret .none)) z1) ->
   codeAny (model prog w) A (.builtin "set.update.loop" ⟨[.ref S,.ref I],[]⟩) R s:=by
 have nW:S∉wr:=λh=>nS (W.sub _ h);have sb:∀ b∈wr,b∈S::wr:=λb hb=>jm _ hb;intro k;induction k with
 | zero =>
  intro i s ek li u0 c0 fin
  have ei:i=n:=by omega
  subst ei;refine codeAny_builtin (F.entry_set_update_loop) ?_;rw[vW F.plain_set_update_loop];show wpAny _ A.in1 (pyNext (.ref I) >>= _) _ _ s;refine wpAny_bind (W.done s _ _ u0 λz1 mv=>?_);show wpAny _ A.in1 (ret jT) _ _ z1;exact wpAny_pure (fin z1 (mv.mono sb) (SS.keep c0 λo ho=>mv.heap S _ nW ho))
 | succ k ih =>
  intro i s ek li u0 c0 fin
  have l0:i<n:=by omega
  refine codeAny_builtin (F.entry_set_update_loop) ?_;rw[vW F.plain_set_update_loop];show wpAny _ A.in1 (pyNext (.ref I) >>= _) _ _ s;refine wpAny_bind (W.item i s _ _ l0 u0 λv z1 hp0 u1 mv=>?_);obtain⟨t,rfl⟩:=vl i v hp0;have c1:SS z1.heap S led (upTo val i):=SS.keep c0 λo ho=>mv.heap S _ nW ho;show wpAny _ A.in1 (holding [uO (val i) t] (setAdd S (.int (val i) t)) >>= _) _ _ z1;refine wpAny_bind (wpAny_holding ?_);unfold setAdd;refine wpAny_holding ?_;refine wpAny_bind ((intKind prog w).pyHash (k:=val i) (intKind_is _ _ _ _) ?_);refine zw0 (s:={ z1 with toks:=z1.toks+1 }) (v5 i) c1 λh' b sbu c2=>?_;rw[zn5] at c2;refine wpAny_pure ⟨plainId_quiet F.plain_set_update_loop _,ih (i+1) _ (by omega) l0 (W.frame _ z1 _ _ u1 (vV _) λb hb o e=>?_) c2 λz2 mv2 c3=>?_⟩
  .rw[sbu.2 b (λh:b=S=>nS (by rw[<- h];exact hb))];exact e
  .refine fin z2 (Moved.trans W.gtrans ((mv.mono sb).then_heap (vV _) λb o hb e=>?_) mv2) c3;rw[sbu.2 b (λh:b=S=>hb (by rw[h];exact jn))];exact e
end
section
variable {prog:Program}{w:World}{A:Around}{E:Gg->Gh->Prop}{s:Gh}
set_option maxHeartbeats 3200000 in
theorem zt3 {l:Gj}{its:Array Gg}{val:Nat->Int}{Q:Gg->Gh->Prop}(hh:A.handled=Gb)(hl:s.heap.IsList l its)(v5:∀ i,0<=val i/\val i<32)(vl:∀ (i:Nat) (v:Gg),its[i]?=Ga v->∃ t,v=.int (val i) t)
  (h:∀ (h':Heap) (tk:Nat),SS h' s.heap.objs.size (ledW w) (upTo val its.size)->(∀ b o,b<s.heap.objs.size->s.heap.get? b=Ga o->h'.get? b=Ga o)->Q (.ref s.heap.objs.size) { s with heap:=h',toks:=tk }) :
  wpAny (model prog w) A (call (.type "set") [.ref l]) Q E s:=by
 generalize hob:({ cls:=.type "set",dict:=Gb,data:=.set #[] 0 (.fresh 0 0 (ledW w)) }:Obj)=ob;have obc:ob.cls=.type "set":=by rw[<- hob]
 have obf:ob.isFreed=false:=by rw[<- hob];rfl
 obtain⟨c,tl,m0⟩:=F.called_set.mro;have m1:=F.called_set.made;have m2:=F.called_set.sub;refine wpAny_call (codeAny_of_tree ?_);show wpAny _ _ (callAny (.type "set") _) _ _ _;refine wpAny_pure ⟨Code.quiet_builtin _ (by decide +kernel),codeAny_builtin (F.entry_type_call) ?_⟩;rw[Around.under_plain (weight_type_call_type "set" [.ref l] []) rfl];have m3:=F.called_set.notType;have m4:=F.called_set.canCreate;have m5:=F.typeCall_set_1 (.ref l)
 repeat (any_goals (first|assumption|wp_step))
 refine codeAny_mono (zsK (.ref l) (E:=E) (Q₁:=λobj z=>obj=.ref s.heap.objs.size/\z={ s with heap:=s.heap.push ob }) (by subst hob;exact⟨rfl,rfl⟩)) λr z hr=>?_;cases r with
 | error e=>exact hr
 | ok fl =>
  cases fl with
  | ret obj =>
   obtain⟨rfl,rfl⟩:=hr;have gS:(s.heap.push ob).get? s.heap.objs.size=Ga ob:=jv _ obf;have gT:Shared.TypeIs { s with heap:=s.heap.push ob } (.ref s.heap.objs.size) "set":=⟨_,gS,obc⟩;have n1:=F.called_set.init.lookup;have n2:=F.called_set.init.bind (.ref s.heap.objs.size)
   repeat (any_goals (first|assumption|wp_step))
   refine codeAny_mono (codeAny_call_builtin (R:=wants (λr z=>r=.none/\∃ h' tk,z={ s with heap:=h',toks:=tk }/\SS h' s.heap.objs.size (ledW w) (upTo val its.size) /\
     (∀ b o,b<s.heap.objs.size->s.heap.get? b=Ga o->h'.get? b=Ga o)) E) F.called_set.init.plain F.entry_set_init (check_set_init_1 gT ?_)) λr2 z2 hr2=>?_
   .obtain⟨ol,e1,e2,nl,e3⟩:=hl;obtain⟨a1,a2,a3,a4⟩:=ol;simp only at e2 e3;subst e2;subst e3;subst hob;have g1:=jg (h:=s.heap) ({ cls:=.type "set",dict:=Gb,data:=.set #[] 0 (.fresh 0 0 (ledW w)) }:Obj) e1;have q1:=F.sub_list_set;have q2:=F.sub_list_frozenset;have q3:(uB "list"==uB "dict")=false:=by decide
    have hl1:(s.heap.push ({ cls:=.type "set",dict:=Gb,data:=.set #[] 0 (.fresh 0 0 (ledW w)) }:Obj)).IsList l its:=⟨_,g1,rfl,nl,rfl⟩;have lS:l<s.heap.objs.size:=jp e1;unfold Builtin.«set.__init__» noKeywords;unfold JA;generalize ePI:pyIter=PI
    wp_walk
    subst ePI;refine wpAny_pyIter_list hl1 ?_;refine wpAny_bind (wpAny_runValue ?_);have h3:A.in1.in1.in1.handled=Gb:=by simp[hh]
    have sz:=u9 (h:=s.heap) (o:=({ cls:=.type "set",dict:=Gb,data:=.set #[] 0 (.fresh 0 0 (ledW w)) }:Obj));generalize hH:s.heap.push ({ cls:=.type "set",dict:=Gb,data:=.set #[] 0 (.fresh 0 0 (ledW w)) }:Obj)=H1 at *;have ne1:l≠H1.objs.size:=by rw[sz];exact jC (vH lS)
    have ne2:s.heap.objs.size∉[H1.objs.size,l]:=λz=>by
     rcases ju.mp z with z|z
     .rw[sz] at z;exact absurd z (jC (vN _))
     .exact absurd (jh.mp z) (kZ lS)
    refine zt2 ((Walks.list h3 _ l ne1 its).toS) s.heap.objs.size ne2 val v5 vl (ledW w) (its.size-0) 0 _ (by omega) (jY _) ⟨⟨_,jv _ rfl,rfl,rfl⟩,hl1.push _⟩ ?b0 ?b1
    case b0=>exact⟨#[],.fresh 0 0 (ledW w),⟨_,0,jg _ gS,⟨rfl,rfl,rfl⟩,rfl⟩,zwZ _,λx=>by simp[upTo]⟩
    case b1 =>
     intro z1 mv c1;obtain⟨h',g',d',tk',os'⟩:=z1;have eg:g'=s.gens:=mv.gens;have ed:d'=s.drawn:=mv.drawn;have eo:os'=s.os:=mv.os;subst eg;subst ed;subst eo;show wpAny _ _ _ _ _ _;refine wpAny_pure ?_;show wpAny _ _ (ret jT) _ _ _;refine wpAny_pure ⟨rfl,h',tk',rfl,c1,λb o lb eb=>?_⟩;refine mv.heap b o (λz=>?_) (jg _ (by rw[<- hH];exact jg _ eb));rcases ju.mp z with z|z
     .exact absurd z (jC lb)
     .exact absurd (jh.mp z) (by rw[sz];exact jC (vH lb))
   .cases r2 with
    | error e=>exact hr2
    | ok f2 =>
     cases f2 with
     | ret r =>
      obtain⟨rfl,h',tk,rfl,c1,k1⟩:=hr2
      repeat (any_goals (first|assumption|wp_step))
      exact h _ _ c1 k1
     | _=>exact hr2.elim
  | _=>exact hr.elim
theorem zlB {xs:Array Nat}(up:xs.toList.Pairwise (·<·)){i:Nat}(hi:i<=xs.size):SetTable.below xs (if i=0 then 0 else xs.getD (i-1) 0+1)=i:=by
 obtain⟨b1,b2,b3⟩:=zhZ (if i=0 then 0 else xs.getD (i-1) 0+1) up;have mono:∀ p q (hp:p<xs.size) (hq:q<xs.size),p<q->xs[p]<xs[q]:=λp q hp hq h=>by
  have:=vd.mp up p q (by simpa using hp) (by simpa using hq) h
  simpa using this
 have gd:∀ k (h:k<xs.size),xs.getD k 0=xs[k]:=λk h=>by rw[kg,jG h];rfl
 generalize SetTable.below xs (if i=0 then 0 else xs.getD (i-1) 0+1)=r at b1 b2 b3;by_cases c:i=0
 .subst c;rw[Ge rfl] at b2;rcases Nat.eq_zero_or_pos r with z|z
  .exact z
  .have:=b2 0 (by omega) z;omega
 .rw[Gf c,gd (i-1) (by omega)] at b2 b3;rcases Jg r i with z|z|z
  .have:=b3 (i-1) (by omega) (by omega);omega
  .exact z
  .have h1:=b2 i (by omega) z;have h2:=mono (i-1) i (by omega) (by omega) (by omega);omega
theorem zqK {led:Bool}{a:Gj}{es:Array (Int×Gg)}{ep:Nat}{t:SetTable}(T:TI led 0 es t):SWalk w a es ep t:=by
 have sz:=zfC w a es ep;cases hb:w.params.followText "set-order" with
 | true =>
  have wa:walkA w a es ep=pickOrder (w.params.setOrder a ep) es:=by unfold walkA;rw[hb,Ge rfl]
  have sa:∀ i,slotA w t i=0:=λi=>by unfold slotA;rw[hb,Ge rfl]
  have nx:∀ s' i,nextR w a es ep t s' i=((walkA w a es ep)[i]?).map λe=>(e.2,s'):=λs' i=>by unfold nextR;rw[hb,Ge rfl,wa]
  refine⟨λi hi=>⟨(walkA w a es ep)[i]'(by rw[sz];exact hi),jG (by rw[sz];exact hi),?_⟩,?_⟩
  .rw[nx,sa,sa,jG (by rw[sz];exact hi)];rfl
  .rw[nx,kG (by rw[sz];exact jo _)];rfl
 | false =>
  have wa:walkA w a es ep=es:=by unfold walkA;rw[hb,Gf (by decide)]
  have sa:∀ i,slotA w t i=if i=0 then 0 else t.place.getD (i-1) 0+1:=λi=>by unfold slotA;rw[hb,Gf (by decide)]
  have nx:∀ s' i,nextR w a es ep t s' i=match es[SetTable.below t.place s']?,t.place[SetTable.below t.place s']? with
   | some (_,x),Ga j=>Ga (x,j+1)
   | _,_=>Gb:=λs' i=>by unfold nextR;rw[hb,Gf (by decide)];try rfl
  refine⟨λi hi=>⟨es[i],by rw[wa];exact jG hi,?_⟩,?_⟩
  .have hp:i<t.place.size:=by rw[T.sz];exact hi
   rw[nx,sa,sa,zlB T.up (by omega),jG hi,jG hp,Gf (by omega),Nat.add_sub_cancel,kg,jG hp];rfl
  .rw[nx,sa,zlB T.up (by rw[T.sz];exact jo _),kG (jo _)]
theorem zn6 {v:Gg}{vs:List Gg}{ns:List Int}{Q:Gg->Gh->Prop}(hI:IntsAre vs ns)(hz:vs.length<64)
  (hcol:∀ (A':Around) (Q':List Gg->Gh->Prop) (E':Gg->Gh->Prop),A'.handled=A.handled->(∀ h' tk,(∀ b o,s.heap.get? b=Ga o->h'.get? b=Ga o)->(∃ o,h'.get? s.heap.objs.size=Ga o)->Q' vs { s with heap:=h',toks:=tk })->wpAny (model prog w) A' (collect v) Q' E' s)
  (h:∀ h' tk a c (out:Array Gg) ns',(∀ b o,s.heap.get? b=Ga o->h'.get? b=Ga o)->s.heap.objs.size<=a->h'.get? a=Ga (seqObj "list" out c)->IntsAre out.toList ns'->ns'.Perm ns->ns'.Pairwise (·<=·)->Q (.ref a) { s with heap:=h',toks:=tk }) :
  wpAny (model prog w) A (call (.builtin "sorted") [v]) Q E s:=by
 have sl:vs.length<=sizeLine:=by rw[sizeLine_eq];omega
 refine qg kind_sorted plain_sorted entry_sorted (args_sorted1 _) ?_;unfold Builtin.«sorted»;refine wpAny_bind (m:=checkCount "sorted" 1 1 _) (wpAny_pure (wpAny_bind (hcol _ _ _ rfl λh1 tk k1 t1=>wpAny_bind (wpAny_newList ?_ sl))));obtain⟨o1,ho1⟩:=t1;have hsz:s.heap.objs.size<=h1.objs.size:=vC (jp ho1);have hoL:(h1.push (seqObj "list" vs.toArray 0)).get? h1.objs.size=Ga (seqObj "list" vs.toArray 0):=jv _ rfl;have keep:∀ b o,s.heap.get? b=Ga o->(h1.push (seqObj "list" vs.toArray 0)).get? b=Ga o:=λb o q=>jg _ (k1 b o q);refine wpAny_bind (wpAny_holding (wpAny_call_entry slot_list_sort ⟨_,hoL,rfl⟩ entry_list_sort ?_ (args_list_sort _)));refine list_sort_tree (s:={ s with heap:=h1.push (seqObj "list" vs.toArray 0),toks:=tk }) hoL hI hz λout ns' a1 a2 a3=>?_;obtain⟨c,hc⟩:=sortedHeap_at (h:=h1.push (seqObj "list" vs.toArray 0)) (a:=h1.objs.size) (out:=out) hoL;refine⟨_,rfl,wpAny_pure ⟨_,rfl,h _ tk h1.objs.size c out ns' (λb o e=>?_) hsz hc a1 a2 a3⟩⟩;have hb:=jp e;rw[sortedHeap_old (jC (jA hb hsz)) (jp (keep b o e))];exact keep b o e
end
end T3
namespace T3
open PySem PySem.Spec PyProof.Rows L2
def riseI (ns:List Int):List Int:=ns.mergeSort λa b=>decide (a<=b)
theorem zmD (ns:List Int):(riseI ns).Perm ns:=List.mergeSort_perm _ _
theorem zqL (ns:List Int):(riseI ns).Pairwise (·<=·):=by
 have:=List.pairwise_mergeSort (le:=λ(a b:Int)=>decide (a<=b)) (λa b c h1 h2=>by rw[decide_eq_true_eq] at h1 h2 ⊢;omega) (λa b=>by rw[u4,decide_eq_true_eq,decide_eq_true_eq];omega) ns;exact this.imp λh=>of_decide_eq_true h
theorem zn7 {l m:List Int}(p:l.Perm m)(hl:l.Pairwise (·<=·))(hm:m.Pairwise (·<=·)):l=m:=List.Perm.eq_of_pairwise (λa b _ _ h1 h2=>by omega) hl hm p
theorem zh1 {l m:List Int}(p:l.Perm m)(hl:l.Pairwise (·<=·)):riseI m=l:=zn7 ((zmD m).trans p.symm) (zqL m) hl
def zj6 (ds:List D):Option (List D):=(intsD ds).bind λns=>if ns.length<64 then Ga ((riseI ns).map jb) else Gb
def srtL (f:FL):FL:=λψ=>(f ψ).bind zj6
theorem zi2:∀ {ns:List Int} {vs:List Gg},Vals (ns.map V.int) vs->IntsAre vs ns
 | [],_,.nil=>.nil
 | n::ns,_,.cons r t=>by obtain⟨k,rfl⟩:=r;exact .cons n k (zi2 t)
theorem vals_ints:∀ {ns:List Int} {vs:List Gg},IntsAre vs ns->Vals (ns.map V.int) vs
 | _,_,.nil=>.nil
 | _,_,.cons n k t=>.cons ⟨k,rfl⟩ (vals_ints t)
theorem zi3 {K:ja}{F:Hp}{ns:List Int}{xs:List V}(r:Reps K F (ns.map jb) xs):xs=ns.map V.int:=by
 induction ns generalizing xs with
 | nil=>cases r;rfl
 | cons n ns ih =>
  cases r with
  | cons h t=>cases h;rw[ih t];rfl
section
variable {X:Cx}{pos:Pos}
theorem zj7 {ω:List (Gj×Obj)}{σ:St}{H:Hp}{s:Gh}{v:Gg}{ns:List Int}{its:List Gg}{Q:VK}(I:Inv X ω σ H s)(rv:Vals (ns.map V.int) its)(hz:ns.length<64)
  (hcol:∀ (A':Around) (Q':List Gg->Gh->Prop) (E':Gg->Gh->Prop),A'.handled=X.A.handled->(∀ h' tk,(∀ b o,s.heap.get? b=Ga o->h'.get? b=Ga o)->(∃ o,h'.get? s.heap.objs.size=Ga o)->Q' its { s with heap:=h',toks:=tk })->wpAny (model X.prog X.w) A' (collect v) Q' E' s)
  (q:∀ a,H a=Gb->Q (.ref a) (upd H a (.lst ((riseI ns).map V.int)))):wpAny (model X.prog X.w) X.A (call (.builtin "sorted") [v]) (EP X ω σ Q) X.xe s:=by
 have hl:its.length<64:=by rw[<- rv.length,jd];exact hz
 refine zn6 (zi2 rv) hl hcol λh' tk a c out ns' k ha hc i1 i2 i3=>?_;have e:riseI ns=ns':=zh1 i2 i3;have lo:out.toList.length=ns.length:=by rw[<- (vals_ints i1).length,jd,i2.length_eq]
 refine⟨.ref _,_,I.laid (t':=tk) (o:=.lst ((riseI ns).map V.int)) k ha ⟨by rw[jd,e,i2.length_eq,sizeLine_eq];omega,out.toList,c,by rw[e];exact vals_ints i1,by rw[vY];exact hc⟩,rfl,q _ (I.hok.fresh ha)⟩
theorem zmE:CallR X (.builtin "sorted") (λvs H Q=>∃ (p:Gj) (ns:List Int),vs=[.ref p]/\SqL X.K H p (ns.map V.int)/\ns.length<64/\∀ a,H a=Gb->Q (.ref a) (upd H a (.lst ((riseI ns).map V.int)))):=by
 intro ω s σ H vs us Q I r h;obtain⟨p,ns,rfl,hl,hz,q⟩:=h;obtain⟨u,rfl,ru⟩:=vals1 r;cases ru;obtain⟨its,rv,pl,hz2⟩:=I.list hl;refine zj7 I rv hz (λA' Q' E' ha k=>?_) q;refine collect_list pl.isList (k _ _ (λb o e=>?_) ?_) (by rw[<- rv.length,jd,sizeLine_eq];omega)
 .have hlt:=jp e;rw[qR _ _ _ _ (jC hlt),Je _ _ _ (jC hlt)];exact e
 .exact⟨_,j4 _ (jv _ rfl) rfl⟩
theorem zi4 {e:Expr}{f:FL}{p pos:Pos}(hg:Gl X "sorted")(hm:X.mg "sorted"=Gb)(ha:PSh X e f)(hs:starEach [e] X.env=[(false,eval e X.env)]:=by rfl):PO X (.Call (.Name "sorted" p) [e] [] pos) (srtL f):=by
 refine zaN (cB1 zmE hg hm boot_sorted ha (hs:=hs)) λσ H Q=>?_;rintro⟨H0,F,ψ,rs,r,e,q⟩;obtain⟨ds,e1,e⟩:=bind_some e;obtain⟨ns,e2,e⟩:=bind_some e;split at e;rotate_left
 .cases e
 rename_i hz;cases e;refine⟨H0,F,ψ,ds,r,e1,λp xs H1 F1 g1 f1 fh1 n1 hl rr=>?_⟩;rw[zd4 e2] at rr;obtain rfl:=zi3 rr;refine⟨p,ns,rfl,hl,hz,λa ha=>?_⟩;have s2:Same H1 (upd H1 a (.lst ((riseI ns).map V.int))):=Same.new ha;exact q a _ _ F1 (g1.trans s2) f1 (fh1.trans s2) n1 (g1.free ha) (fh1.free ha) upd_same (kreps _)
theorem zj8 (hc:X.calm=true):CallR X (.builtin "sorted") (λvs H Q=>∃ p ws ep,vs=[.ref p]/\(p==sysModules)=false/\H p=Ga (.ext (DiP p ws ep))/\ws.length<64/\∀ a,H a=Gb->Q (.ref a) (upd H a (.lst ((riseI (ws.map (·.1))).map V.int)))):=by
 intro ω s σ H vs us Q I r h;obtain⟨p,ws,ep,rfl,sm,hp,hz,q⟩:=h;obtain⟨u,rfl,ru⟩:=vals1 r;cases ru;obtain⟨es,dr,ie⟩:=zpN (znE I.hok hp);have sz:es.size=ws.length:=by rw[<- jt,ie.length]
 have rv:Vals ((ws.map (·.1)).map V.int) (es.toList.map (·.key)):=by
  refine zhS _ _ (by rw[jd,jd,jd,ie.length]) λi x u hx hu=>?_;rw[jq] at hx;obtain⟨k,hk,rfl⟩:=kf.mp hx;obtain⟨en,t,e1,e2⟩:=ie.get hk;rw[jq,e1] at hu;cases hu;exact⟨t,e2⟩
 refine zj7 I rv (by rw[jd];exact hz) (λA' Q' E' ha k=>zjY (by rw[ha];exact I.ok.hd hc) sm dr (by rw[sz,sizeLine_eq];omega) λh' tk acc k1 k2 it=>?_) q;have:acc.toList=es.toList.map (·.key):=by
  refine ql λi=>?_;rw[jq];by_cases hi:i<es.size
  .have ha:i<acc.size:=by rw[it.1];exact hi
   obtain⟨en,e1,e2⟩:=it.2 i acc[i] (jG ha);rw[j5,j5,jG ha,e1,e2];rfl
  .rw[j5,j5,kG (by rw[it.1];omega),kG (by omega)];rfl
 rw[this];exact k h' tk k1 k2
theorem zmF {e:Expr}{f:FV}{p pos:Pos}(hc:X.calm=true)(hg:Gl X "sorted")(hm:X.mg "sorted"=Gb)(ha:PV X e f)(hs:starEach [e] X.env=[(false,eval e X.env)]:=by rfl):PO X (.Call (.Name "sorted" p) [e] [] pos) (srtL (un1L keysI f)):=by
 refine zaN (cB1 (zj8 hc) hg hm boot_sorted ha (hs:=hs)) λσ H Q=>?_;rintro⟨H0,F,ψ,rs,r,e,q⟩;obtain⟨ds,e1,e⟩:=bind_some e;obtain⟨d,e2,e3⟩:=bind_some e1;obtain⟨kvs,e4,e5⟩:=bind_some e3;cases e5;obtain⟨ns,e6,e⟩:=bind_some e;split at e;rotate_left
 .cases e
 rename_i hz;cases e;have en:ns=kvs.map (·.1):=by
  have:kvs.map (λp=>jb p.1)=(kvs.map (·.1)).map jb:=by rw[ka];rfl
  rw[this,zc2] at e6;exact(jw e6).symm
 subst en;refine⟨H0,F,ψ,d,r,e2,λv H1 F1 g1 f1 fh1 n1 rv=>?_⟩;obtain⟨a,ws,ep,rfl,sm,fa,ok,rr⟩:=rv.int_dict e4;refine⟨a,ws,ep,rfl,sm,fh1 _ _ fa,by rw[<- rr.length];rw[jd] at hz;exact hz,λb hb=>?_⟩;rw[rr.fst];have s2:Same H1 (upd H1 b (.lst ((riseI (kvs.map (·.1))).map V.int))):=Same.new hb;exact q b _ _ F1 (g1.trans s2) f1 (fh1.trans s2) n1 (g1.free hb) (fh1.free hb) upd_same (kreps _)
def ris32 (ns:List Int):List Int:=((jk 32).map λ(k:Nat)=>(k:Int)).filter λx=>ns.contains x
theorem zlC (ns:List Int):(ris32 ns).Nodup:=by
 refine qX uy ?_;exact uw.mpr (qy.imp λh z=>h (by omega))
theorem zlD (ns:List Int):(ris32 ns).Pairwise (·<=·):=by
 refine List.Pairwise.sublist uy ?_;exact uw.mpr (ug.imp λh=>by omega)
theorem zi5 {ns:List Int}(rg:∀ x∈ns,0<=x/\x<32)(x:Int):x∈ris32 ns↔x∈ns:=by
 unfold ris32;rw[kn,uE];refine⟨λz=>z.2,λz=>⟨jr.mpr ⟨x.toNat,jK.mpr (by have:=rg x z;omega),by have:=rg x z;omega⟩,z⟩⟩
def setQ (f:FL):FL:=λψ=>(f ψ).bind λds=>(intsD ds).bind λns=>if (ns.all λx=>decide (0<=x/\x<32))=true then Ga ((ris32 ns).map jb) else Gb
theorem zn8 (hc:X.calm=true):CallR X (.type "set") (λvs H Q=>∃ (p:Gj) (ns:List Int),vs=[.ref p]/\SqL X.K H p (ns.map V.int)/\(∀ k∈ns,0<=k/\k<32)/\∀ a,H a=Gb->Q (.ref a) (upd H a (.ext λh=>SS h a (ledW X.w) ns))):=by
 intro ω s σ H vs us Q I r h;obtain⟨p,l,rfl,hl,h5,q⟩:=h;obtain⟨u,rfl,ru⟩:=vals1 r;cases ru;obtain⟨its,rv,pl,hz⟩:=I.list hl;have hlen:its.length=l.length:=by rw[<- rv.length,jd]
 refine zt3 (its:=its.toArray) (val:=λi=>l.getD i 0) (I.ok.hd hc) pl.isList (λi=>?_) (λi v hv=>?_) λh' tk cs keep=>?_
 .rw[ji];cases q:l[i]? with
  | none=>show(0:Int)<=0/\(0:Int)<32;decide
  | some k=>exact h5 k (jL q)
 .have hi:i<l.length:=by
   rw[<- hlen];have:=(Array.getElem?_eq_some_iff.mp hv).1
   simpa using this
  have e1:(l.map V.int)[i]?=Ga (V.int l[i]):=by rw[jq,jc hi];rfl
  obtain⟨u,e2,ru⟩:=rv.get e1;rw[List.getElem?_toArray,e2] at hv;cases hv;rw[ji,jc hi];exact ru
 .have el:upTo (λi=>l.getD i 0) its.toArray.size=l:=by
   unfold upTo;rw[jy,hlen];apply Jo
   .rw[jd,jz]
   .intro i h1 h2;rw[Jp,qc,ji,jc h2];rfl
  rw[el] at cs;have ex:∃ o,h'.get? s.heap.objs.size=Ga o:=by obtain⟨_,_,⟨o,_,ho,_⟩,_⟩:=cs;exact⟨o,ho⟩
  refine⟨.ref _,_,I.laid (t':=tk) (o:=.ext λh=>SS h s.heap.objs.size (ledW X.w) l) (λb u hb=>keep b u (jp hb) hb) (jo _) ⟨cs,ex,λh1 h2 c k=>c.keep k⟩,rfl,q _ (I.hok.fresh (jo _))⟩
theorem zj9 (hc:X.calm=true):CallR X (.builtin "sorted") (λvs H Q=>∃ (p:Gj) (ns:List Int),vs=[.ref p]/\H p=Ga (.ext λh=>SS h p (ledW X.w) ns)/\(∀ k∈ns,0<=k/\k<32)/\∀ a,H a=Gb->Q (.ref a) (upd H a (.lst ((ris32 ns).map V.int)))):=by
 intro ω s σ H vs us Q I r h;obtain⟨p,ns,rfl,hp,rg,q⟩:=h;obtain⟨u,rfl,ru⟩:=vals1 r;cases ru;obtain⟨es,t,⟨o,ep,ho,hex,hd⟩,T,hm⟩:SS s.heap p (ledW X.w) ns:=(I.hok _ _ hp).1;have W:=zqK (w:=X.w) (a:=p) (ep:=ep) T;have wp:=zhB X.w p es ep;have rv:Vals (((walkA X.w p es ep).toList.map (·.1)).map V.int) ((walkA X.w p es ep).toList.map (·.2)):=by
  have hv2:∀ e∈(walkA X.w p es ep).toList,∃ tk,e.2=.int e.1 tk:=λe he=>T.vl e (wp.mem_iff.mp he);generalize (walkA X.w p es ep).toList=L at hv2;induction L with
  | nil=>exact .nil
  | cons e L ih=>exact .cons (hv2 e jn) (ih λe h=>hv2 e (jm _ h))
 have er:riseI ((walkA X.w p es ep).toList.map (·.1))=ris32 ns:=by
  refine zh1 ?_ (zlD ns);refine List.Perm.trans ?_ (wp.map (·.1)).symm;refine(uh (zlC ns) T.nd).mpr λx=>?_;rw[zi5 rg,hm]
 refine zj7 I rv (by rw[jd,jt,zfC];have:=T.len;omega) (λA' Q' E' ha k=>zj0 (by rw[ha];exact I.ok.hd hc) ho hex hd T.fits T.pl T.ld W (by rw[sizeLine_eq];have:=T.len;omega) λh' tk acc k1 k2 it=>?_) λa ha=>by rw[er];exact q a ha
 have:acc.toList=(walkA X.w p es ep).toList.map (·.2):=by
  refine ql λi=>?_;rw[jq];by_cases hi:i<es.size
  .have ha:i<acc.size:=by rw[it.1];exact hi
   obtain⟨en,e1,e2⟩:=it.2 i acc[i] (jG ha);rw[j5,j5,jG ha,e1,e2];rfl
  .rw[j5,j5,kG (by rw[it.1];omega),kG (by rw[zfC];omega)];rfl
 rw[this];exact k h' tk k1 k2
theorem zmG {e:Expr}{f:FL}{p p2 pos pos2:Pos}(hc:X.calm=true)(hg:Gl X "sorted")(hm:X.mg "sorted"=Gb)(hg2:Gl X "set")(hm2:X.mg "set"=Gb)(ha:PSh X e f)(hs:starEach [e] X.env=[(false,eval e X.env)]:=by rfl)
  (hs2:starEach [.Call (.Name "set" p2) [e] [] pos2] X.env=[(false,eval (.Call (.Name "set" p2) [e] [] pos2) X.env)]:=by rfl):PO X (.Call (.Name "sorted" p) [.Call (.Name "set" p2) [e] [] pos2] [] pos) (setQ f):=by
 refine zaN (cB1 (zj9 hc) hg hm boot_sorted (cT1 (zn8 hc) hg2 hm2 zpS ha (hs:=hs)) (hs:=hs2)) λσ H Q=>?_;rintro⟨H0,F,ψ,rs,r,e,q⟩;obtain⟨ds,e1,e⟩:=bind_some e;obtain⟨ns,e2,e⟩:=bind_some e;split at e;rotate_left
 .cases e
 rename_i c;cases e;have rg:∀ k∈ns,0<=k/\k<32:=λk hk=>of_decide_eq_true (kB.mp c k hk);refine⟨H0,F,ψ,ds,r,e1,λb xs H1 F1 g1 f1 fh1 n1 hl rr=>?_⟩;rw[zd4 e2] at rr;obtain rfl:=zi3 rr;refine⟨b,ns,rfl,hl,rg,λa ha=>⟨a,ns,rfl,upd_same,rg,λa2 ha2=>?_⟩⟩;have s1:Same H1 (upd H1 a (.ext λh=>SS h a (ledW X.w) ns)):=Same.new ha;have s2:Same (upd H1 a (.ext λh=>SS h a (ledW X.w) ns)) (upd (upd H1 a (.ext λh=>SS h a (ledW X.w) ns)) a2 (.lst ((ris32 ns).map V.int))):=Same.new ha2;exact q a2 _ _ F1 (g1.trans (s1.trans s2)) f1 (fh1.trans (s1.trans s2)) n1 (g1.free (s1.free ha2)) (fh1.free (s1.free ha2)) upd_same (kreps _)
def rngN:D->Option (List D)
 | .int j=>if 0<=j/\j<=1000000 then Ga (rngD 0 j.toNat) else Gb
 | _=>Gb
theorem zkA:CallR X (.type "range") (λvs H Q=>∃ j:Int,vs=[.int j]/\∀ r,H r=Gb->Q (.ref r) (upd H r (.ext λh=>∃ t u v,IsRange h r 0 j 1 t u v))):=by
 intro ω s σ H vs us Q I r h;obtain⟨j,rfl,q⟩:=h;obtain⟨u,rfl,ru⟩:=vals1 r;obtain⟨t,rfl⟩:=ru;refine call_range_1 ?_;refine⟨.ref _,_,I.laid (t':=s.toks+1+1) (a:=s.heap.objs.size) (o:=.ext λh=>∃ t u v,IsRange h s.heap.objs.size 0 j 1 t u v) (λ_ _ q=>jg _ q) (jo _) ⟨⟨_,_,_,IsRange.new ..⟩,⟨_,jv _ rfl⟩,λh1 h2 ⟨t,u,v,ir⟩ k=>⟨t,u,v,k _ ir⟩⟩,rfl,q _ (I.hok.fresh (jo _))⟩
theorem zmH (hc:X.calm=true):CallR X (.type "list") (λvs H Q=>∃ (r:Gj) (j:Int),vs=[.ref r]/\H r=Ga (.ext λh=>∃ t u v,IsRange h r 0 j 1 t u v)/\0<=j/\j<=1000000/\∀ l,H l=Gb->Q (.ref l) (upd H l (.lst (((jk j.toNat).map λ(k:Nat)=>(k:Int)).map V.int)))):=by
 intro ω s σ H vs us Q I r h;obtain⟨r0,j,rfl,hr,j0,j1,q⟩:=h;obtain⟨u,rfl,ru⟩:=vals1 r;cases ru;obtain⟨t,u,v,ir⟩:∃ t u v,IsRange s.heap r0 0 j 1 t u v:=(I.hok _ _ hr).1;have hn:qt 0 j 1=((j.toNat:Nat):Int):=by rw[rangeSize_one];split<;>omega
 refine call_list_range (I.ok.hd hc) ir (small_one (by omega) (by omega) (by omega) (by omega)) hn (by omega) λh' tk acc c k na it=>?_;have vr:Vals (((jk j.toNat).map λ(k:Nat)=>(k:Int)).map V.int) acc.toList:=by
  refine zhS _ _ (by have a1:=it.1;have a2:=jt (xs:=acc);rw[jd,jd,jz];omega) λi x u hx hu=>?_;obtain⟨t,e1⟩:=it.2 i u (by rw[<- j5];exact hu);rw[jq] at hx;obtain⟨y,hy,rfl⟩:=kf.mp hx;rw[jq] at hy;obtain⟨z,hz,rfl⟩:=kf.mp hy;have hz2:i=z:=by
   have:=je.mp hz;obtain⟨w,e⟩:=this;rw[qc] at e;exact e
  subst hz2;refine⟨t,?_⟩;rw[e1]
  congr 1
  omega
 refine⟨.ref _,_,Inv.laid (X:=X) (s:=s) (a:=s.heap.objs.size) (o:=.lst (((jk j.toNat).map λ(k:Nat)=>(k:Int)).map V.int)) (t':=tk) I k (jo _) ⟨by rw[jd,jd,jz,sizeLine_eq];omega,acc.toList,c,vr,?_⟩,rfl,q _ I.fresh⟩;rw[vY];exact na
theorem zi6 {e:Expr}{f:FV}{p p2 pos pos2:Pos}(hc:X.calm=true)(hg:Gl X "list")(hm:X.mg "list"=Gb)(hg2:Gl X "range")(hm2:X.mg "range"=Gb)(ha:PV X e f)(hs:starEach [e] X.env=[(false,eval e X.env)]:=by rfl)
  (hs2:starEach [.Call (.Name "range" p2) [e] [] pos2] X.env=[(false,eval (.Call (.Name "range" p2) [e] [] pos2) X.env)]:=by rfl):PO X (.Call (.Name "list" p) [.Call (.Name "range" p2) [e] [] pos2] [] pos) (un1L rngN f):=by
 refine zaN (cT1 (zmH hc) hg hm boot_list (cT1 zkA hg2 hm2 boot_range ha (hs:=hs)) (hs:=hs2)) λσ H Q=>?_;rintro⟨H0,F,ψ,rs,r,e,q⟩;obtain⟨d,e1,e⟩:=bind_some e;refine⟨H0,F,ψ,d,r,e1,λv H1 F1 g1 f1 fh1 n1 rv=>?_⟩;cases rv<;>first|(cases e;done)|skip
 rename_i j;unfold rngN at e;dsimp only at e;split at e;rotate_left
 .cases e
 rename_i c;cases e;refine⟨j,rfl,λr0 hr0=>⟨r0,j,rfl,upd_same,c.1,c.2,λl hl=>?_⟩⟩;have s1:Same H1 (upd H1 r0 (.ext λh=>∃ t u v,IsRange h r0 0 j 1 t u v)):=Same.new hr0;have s2:Same (upd H1 r0 (.ext λh=>∃ t u v,IsRange h r0 0 j 1 t u v)) (upd (upd H1 r0 (.ext λh=>∃ t u v,IsRange h r0 0 j 1 t u v)) l (.lst (((jk j.toNat).map λ(k:Nat)=>(k:Int)).map V.int))):=Same.new hl;refine q l _ _ F1 (g1.trans (s1.trans s2)) f1 (fh1.trans (s1.trans s2)) n1 (g1.free (s1.free hl)) (fh1.free (s1.free hl)) upd_same ?_;rw[zbC];have:=kreps (K:=X.K) (F:=F1) ((jk j.toNat).map λ(k:Nat)=>(k:Int));rw[ka] at this;exact this
end
end T3
set_option maxHeartbeats 4000000
namespace T3
open PySem PySem.Spec PyProof.Rows L2
theorem fO {N P:List Str}{sc:Scope}(h:sc.kind=.function/\sc.isCoroutine=false/\sc.isGenerator=false/\N.Nodup/\N.take P.length=P/\(∀ x∈P,sc.names.lookup x=Ga .local\/sc.names.lookup x=Ga .cell)/\∀ y∈sc.names,y.2≠.free):FnScope N P sc:=⟨h.1,h.2.1,h.2.2.1,h.2.2.2.1,h.2.2.2.2.1,h.2.2.2.2.2.1,h.2.2.2.2.2.2⟩
theorem cO {N P N':List Str}{osc osc' scope:Scope}{x:Str}{fr:List Str}{ix:List Nat}(_:FnScope N P osc)(h:scope.kind=.function/\(∀ y∈scope.names,y.2≠.cell)/\(∀ y∈scope.names,y.2=.local->scope.names.lookup y.1=Ga .local)/\scope.names.lookup x=Ga .local/\(∀ y∈scope.names,y.2=.free->osc.names.lookup y.1=Ga .cell\/osc.names.lookup y.1=Ga .free)/\(∀ y∈fr,scope.names.lookup y=Ga .free)/\fr.length=ix.length/\(∀ p∈ix.zip fr,N[p.1]?=Ga p.2)/\ix.Nodup)(e1:N=N':=by rfl)(e2:osc=osc':=by rfl):CompSc N' osc' scope x fr ix:=by
 subst e1 e2;obtain⟨h1,h2,h3,h4,h5,h6,h7,h8,h9⟩:=h;exact⟨h1,h2,h3,h4,h5,h6,h7,λj i y a b=>h8 (i,y) (jL (List.getElem?_zip_eq_some.mpr ⟨a,b⟩)),h9⟩
theorem cV {P:Program}{w:World}{K:ja}{mg:Str->Option Gg}{base:Heap}{k:Nat}{f:Gj}{fd:Gi}{ps:List Str}{fm fm':List D->Option D}(h:FnOk P w K mg base CX0 k f fd ps (spV K fm'))(e:fm'=fm):FnOk P w K mg base CX0 k f fd ps (spV K fm):=e▸h
theorem cW {P:Program}{w:World}{K:ja}{mg:Str->Option Gg}{base:Heap}{k:Nat}{f:Gj}{fd:Gi}{ps:List Str}{fm fm':List D->Option (List D)}(h:FnOk P w K mg base CX0 k f fd ps (spO K fm'))(e:fm'=fm):FnOk P w K mg base CX0 k f fd ps (spO K fm):=e▸h
section
variable {X:Cx}{k j:Nat}{f:Gj}{fd:Gi}{ps:List Str}{x:Str}{st:Stmt}{p pos:Pos}{e:Expr}{es:List Expr}{g:FL}
theorem vc {fm:List D->Option D}(F:FnOk X.prog X.w X.K X.mg X.base CX0 k f fd ps (spV X.K fm))(W:Fn X.K X.mg x st ps f fd)(hr:Room j X.A)(ha:PL X (e::es) g)(hk:k<=j:=by decide)(hg:Gl X x:=by rfl)
  (hdb:(x==("__debug__":Str))=false:=by decide) (he:starEach (e::es) X.env=(false,eval e X.env)::starEach es X.env:=by rfl) (hpl:(backTo pos (starEach es X.env)).any (·.1)=false:=by rfl) :
  PV X (.Call (.Name x p) (e::es) [] pos) (λψ=>(g ψ).bind fm):=zu6 F (hr.mono hk) W.m W.F.kp W.b ha hg hdb he hpl
end
end T3
namespace Law
noncomputable section
open PySem PySem.Spec PyProof.Rows L2 T3
def top (i:Nat):Stmt:=PySem.Challenge.pw_roundfall_k62_classes_told.main.body.getD i (.Pass ⟨0,0,0,0⟩)
abbrev zfF:Stmt:=top 1
abbrev zdQ:Stmt:=top 2
abbrev zcW:Stmt:=top 4
abbrev zeP:Stmt:=top 5
abbrev zgH:Stmt:=top 6
abbrev zc9:Stmt:=top 7
abbrev zgI:Stmt:=top 8
abbrev zcE:Stmt:=top 10
abbrev zb2:Stmt:=top 11
abbrev zdR:Stmt:=top 12
abbrev zdS:Stmt:=top 14
abbrev zgJ:Stmt:=top 15
abbrev zfG:Stmt:=top 16
abbrev zeQ:Stmt:=top 17
abbrev zcF:Stmt:=top 19
abbrev zdA:Stmt:=top 20
abbrev zcX:Stmt:=top 21
abbrev zdT:Stmt:=top 22
abbrev zeR:Stmt:=top 23
abbrev zcG:Stmt:=top 24
abbrev zfH:Stmt:=top 25
abbrev zdB:Stmt:=top 26
abbrev zdC:Stmt:=top 27
abbrev zdU:Stmt:=top 28
abbrev zdV:Stmt:=top 29
abbrev zcH:Stmt:=top 30
abbrev zdD:Stmt:=top 31
abbrev zcY:Stmt:=top 32
abbrev zkB:Stmt:=top 33
structure Adr where
 a_q23:Gj
 d_q23:Gi
 a_q17:Gj
 d_q17:Gi
 a_q6:Gj
 d_q6:Gi
 a_q19:Gj
 d_q19:Gi
 a_q27:Gj
 d_q27:Gi
 a_q10:Gj
 d_q10:Gi
 a_q25:Gj
 d_q25:Gi
 a_q4:Gj
 d_q4:Gi
 a_q0:Gj
 d_q0:Gi
 a_q15:Gj
 d_q15:Gi
 a_q13:Gj
 d_q13:Gi
 a_q26:Gj
 d_q26:Gi
 a_q24:Gj
 d_q24:Gi
 a_q21:Gj
 d_q21:Gi
 a_q1:Gj
 d_q1:Gi
 a_q9:Gj
 d_q9:Gi
 a_q5:Gj
 d_q5:Gi
 a_q18:Gj
 d_q18:Gi
 a_q20:Gj
 d_q20:Gi
 a_q2:Gj
 d_q2:Gi
 a_q22:Gj
 d_q22:Gi
 a_q11:Gj
 d_q11:Gi
 a_q12:Gj
 d_q12:Gi
 a_q16:Gj
 d_q16:Gi
 a_q14:Gj
 d_q14:Gi
 a_q3:Gj
 d_q3:Gi
 a_q8:Gj
 d_q8:Gi
 a_q7:Gj
 d_q7:Gi
 a_q28:Gj
 d_q28:Gi
structure Txt (K:ja)(mg:Str->Option Gg)(t:Adr):Prop where
 q23:Fn K mg "bit_of" zfF ["hand"] t.a_q23 t.d_q23
 q17:Fn K mg "has_hand" zdQ ["mask","hand"] t.a_q17 t.d_q17
 q6:Fn K mg "many_hands" zcW ["run"] t.a_q6 t.d_q6
 q19:Fn K mg "fall_of" zeP ["run","hand"] t.a_q19 t.d_q19
 q27:Fn K mg "is_up" zgH ["run","hand","rounds"] t.a_q27 t.d_q27
 q10:Fn K mg "who_is_up" zc9 ["run","rounds"] t.a_q10 t.d_q10
 q25:Fn K mg "comes" zgI ["run","by","to","at"] t.a_q25 t.d_q25
 q4:Fn K mg "view_behind" zcE ["run","views","hand","at"] t.a_q4 t.d_q4
 q0:Fn K mg "views_behind" zb2 ["run","views","at"] t.a_q0 t.d_q0
 q15:Fn K mg "views_of" zdR ["run","rounds"] t.a_q15 t.d_q15
 q13:Fn K mg "first_of" zdS ["lesser","place"] t.a_q13 t.d_q13
 q26:Fn K mg "unite" zgJ ["lesser","one","two"] t.a_q26 t.d_q26
 q24:Fn K mg "joined" zfG ["runs","rounds"] t.a_q24 t.d_q24
 q21:Fn K mg "classes" zeQ ["runs","rounds"] t.a_q21 t.d_q21
 q1:Fn K mg "_law_cell_at" zcF ["script","k"] t.a_q1 t.d_q1
 q9:Fn K mg "_law_mixed" zdA ["cell","k"] t.a_q9 t.d_q9
 q5:Fn K mg "_law_number" zcX ["cell"] t.a_q5 t.d_q5
 q18:Fn K mg "_law_fall" zdT ["mixed","hand","hands","early"] t.a_q18 t.d_q18
 q20:Fn K mg "_law_run" zeR ["cells","most","first"] t.a_q20 t.d_q20
 q2:Fn K mg "_law_changed" zcG ["run","mixed","cell"] t.a_q2 t.d_q2
 q22:Fn K mg "_law_up" zfH ["run","hand","rounds"] t.a_q22 t.d_q22
 q11:Fn K mg "_law_comes" zdB ["run","by","to","at"] t.a_q11 t.d_q11
 q12:Fn K mg "_law_views" zdC ["run","rounds"] t.a_q12 t.d_q12
 q16:Fn K mg "_law_list" zdU ["script","hands"] t.a_q16 t.d_q16
 q14:Fn K mg "_law_meet" zdV ["one","other"] t.a_q14 t.d_q14
 q3:Fn K mg "_law_reached" zcH ["views","group"] t.a_q3 t.d_q3
 q8:Fn K mg "_law_whole" zdD ["found"] t.a_q8 t.d_q8
 q7:Fn K mg "_law_groups" zcY ["found","many"] t.a_q7 t.d_q7
 q28:Fn K mg "law" zkB ["script"] t.a_q28 t.d_q28
 b_bool:mg "bool"=Gb
 b_enumerate:mg "enumerate"=Gb
 b_int:mg "int"=Gb
 b_isinstance:mg "isinstance"=Gb
 b_len:mg "len"=Gb
 b_list:mg "list"=Gb
 b_max:mg "max"=Gb
 b_min:mg "min"=Gb
 b_range:mg "range"=Gb
 b_set:mg "set"=Gb
 b_sorted:mg "sorted"=Gb
 b_tuple:mg "tuple"=Gb
variable {P:Program}{w:World}{K:ja}{mg:Str->Option Gg}{base:Heap}{t:Adr}
theorem zdE:FnScope ["hand","bit","step"] ["hand"] (defScope zfF):=fO (by decide +kernel)
def zfI:FS:=seqS (setS 1 (cst (.int 1))) (seqS (forS (un1L rng1 (gv 0)) (tgN 2) (setS 1 (bin dMul (gv 1) (cst (.int 2))))) (retS (gv 1)))
def zeS:List D->Option D:=runV 1 3 zfI
theorem zkC (T:Txt K mg t):FnOk P w K mg base CX0 1 t.a_q23 t.d_q23 ["hand"] (spV K zeS) :=
 okV T.q23.F zdE λ_ _ _ _ _ _ hr=>zaF (zbM 1 (zaE) zdE.nd) (zaF (zc6 PassesOwn.never rfl (zcP rfl T.b_range (zaA 0)) (zaY 2 zdE.nd) (zaJ (zbM 1 (zlQ (zaA 1) (zaE)) zdE.nd))) (zaJ (zbB (zaA 1))))
theorem zh2:FnScope ["mask","hand"] ["mask","hand"] (defScope zdQ):=fO (by decide +kernel)
def zi7:FS:=retS (bin dNe (bin dAnd (gv 0) (callV zeS (consL (gv 1) (nilL)))) (cst (.int 0)))
def zbR:List D->Option D:=runV 2 2 zi7
theorem zh3 (T:Txt K mg t):FnOk P w K mg base CX0 2 t.a_q17 t.d_q17 ["mask","hand"] (spV K zbR) :=
 okV T.q17.F zh2 λ_ _ _ _ _ _ hr=>zaJ (zbB (v_ne (zbG hr) (zkS (zaA 0) (vc (zkC T) T.q23 hr (zaC (zaA 1) (zaR)))) (zaE)))
theorem zgK:FnScope ["run"] ["run"] (defScope zcW):=fO (by decide +kernel)
def zgX:FS:=retS (un dLen (bin dIx (gv 0) (cst (.int 0))))
def za9:List D->Option D:=runV 1 1 zgX
theorem zdW (T:Txt K mg t):FnOk P w K mg base CX0 1 t.a_q6 t.d_q6 ["run"] (spV K za9) :=
 okV T.q6.F zgK λ_ _ _ _ _ _ hr=>zaJ (zbB (zdK rfl T.b_len (v_ix (zaA 0) (zaE))))
theorem zfR:FnScope ["run","hand","fall"] ["run","hand"] (defScope zeP):=fO (by decide +kernel)
def zeT:FS:=seqS (forS (seqI (bin dIx (gv 0) (cst (.int 1)))) (tgN 2) (ifS (cmpB dEq (bin dIx (gv 2) (cst (.int 0))) (gv 1)) (retS (gv 2)) (nxS))) (retS (cst .none))
def zcQ:List D->Option D:=runV 2 3 zeT
theorem zfS (T:Txt K mg t):FnOk P w K mg base CX0 1 t.a_q19 t.d_q19 ["run","hand"] (spV K zcQ) :=
 okV T.q19.F zfR λ_ _ _ _ _ _ hr=>zaF (zc6 PassesOwn.never rfl (zfB (v_ix (zaA 0) (zaE))) (zaY 2 zfR.nd) (zaJ (s_if (b_eq (zbG hr) (v_ix (zaA 2) (zaE)) (zaA 1)) (zaJ (zbB (zaA 2))) (zbU)))) (zaJ (zbB (zeK)))
theorem zhF:FnScope ["run","hand","rounds","fall"] ["run","hand","rounds"] (defScope zgH):=fO (by decide +kernel)
def zgL:FS:=seqS (setS 3 (callV zcQ (consL (gv 0) (consL (gv 1) (nilL))))) (retS (orV (bin dIs (gv 3) (cst .none)) (bin dGt (bin dIx (gv 3) (cst (.int 1))) (gv 2))))
def zcC:List D->Option D:=runV 3 4 zgL
theorem zhG (T:Txt K mg t):FnOk P w K mg base CX0 2 t.a_q27 t.d_q27 ["run","hand","rounds"] (spV K zcC) :=
 okV T.q27.F zhF λ_ _ _ _ _ _ hr=>zaF (zbM 3 (vc (zfS T) T.q19 hr (zaC (zaA 0) (zaC (zaA 1) (zaR)))) zhF.nd) (zaJ (zbB (v_or (v_is (zaA 3) (zeK)) (zrW (v_gt (v_ix (zaA 3) (zaE)) (zaA 2))))))
theorem zeG:FnScope ["run","rounds"] ["run","rounds"] (defScope zc9):=fO (by decide +kernel)
def zdF:FS:=retO (compF (un1L rng1 (callV za9 (consL (gv 0) (nilL)))) (tst (callV zcC (consL (gv 2) (consL (gv 0) (consL (gv 1) (nilL)))))) (gv 0) [1,0])
def zcZ:List D->Option (List D):=runO 2 2 zdF
theorem zgY (T:Txt K mg t):FnOk P w K mg base CX0 3 t.a_q10 t.d_q10 ["run","rounds"] (spO K zcZ) :=
 okO T.q10.F zeG λ_ _ _ _ _ _ hr=>zaJ (zu3 (ziP rfl (cO zeG (fr:=["rounds","run"]) (by decide +kernel)) (zcP rfl T.b_range (vc (zdW T) T.q6 hr (zaC (zaA 0) (zaR)))) (blk1 (by decide +kernel) rfl (λcl C s H fp ω=>zfU (vc (zhG T) T.q27 hr (zaC (zaA 2) (zaC (zaA 0) (zaC (zaA 1) (zaR)))))) (λcl C s H fp ω=>zaA 0))))
theorem zhH:FnScope ["run","by","to","at","fall"] ["run","by","to","at"] (defScope zgI):=fO (by decide +kernel)
def zgM:FS:=seqS (ifS (orB (cmpB dEq (gv 1) (gv 2)) (notB (tst (callV zcC (consL (gv 0) (consL (gv 2) (consL (gv 3) (nilL)))))))) (retS (cst (.bool false))) (nxS)) (seqS (setS 4 (callV zcQ (consL (gv 0) (consL (gv 1) (nilL))))) (seqS (ifS (orB (cmpB dIs (gv 4) (cst .none)) (cmpB dGt (bin dIx (gv 4) (cst (.int 1))) (gv 3))) (retS (cst (.bool true))) (nxS)) (retS (andV (bin dEq (bin dIx (gv 4) (cst (.int 1))) (gv 3)) (callV zbR (consL (bin dIx (gv 4) (cst (.int 2))) (consL (gv 2) (nilL))))))))
def zc5:List D->Option D:=runV 4 5 zgM
theorem zmI (T:Txt K mg t):FnOk P w K mg base CX0 3 t.a_q25 t.d_q25 ["run","by","to","at"] (spV K zc5) :=
 okV T.q25.F zhH λ_ _ _ _ _ _ hr=>zaF (s_if (PBW.b (b_or (b_eq (zbG hr) (zaA 1) (zaA 2)) (ziK (zmV (zfU (vc (zhG T) T.q27 hr (zaC (zaA 0) (zaC (zaA 2) (zaC (zaA 3) (zaR)))))))))) (zaJ (zbB (v_bl))) (zbU)) (zaF (zbM 4 (vc (zfS T) T.q19 hr (zaC (zaA 0) (zaC (zaA 1) (zaR)))) zhH.nd) (zaF (s_if (PBW.b (b_or (b_is (zaA 4) (zeK)) (ziK (b_gt (v_ix (zaA 4) (zaE)) (zaA 3))))) (zaJ (zbB (v_bl))) (zbU)) (zaJ (zbB (zu0 (v_eq (zbG hr) (v_ix (zaA 4) (zaE)) (zaA 3)) (zrW (vc (zh3 T) T.q17 hr (zaC (v_ix (zaA 4) (zaE)) (zaC (zaA 2) (zaR))))))))))
theorem zb3:FnScope ["run","views","hand","at","parts"] ["run","views","hand","at"] (defScope zcE):=fO (by decide +kernel)
def zcI:FS:=seqS (fixS 4 (setO 4 (compF (un1L rng1 (un dLen (gv 1))) (λ_=>Ga true) (ifV (orB (cmpB dEq (gv 0) (gv 2)) (tst (callV zc5 (consL (gv 3) (consL (gv 0) (consL (gv 2) (consL (gv 1) (nilL)))))))) (bin dIx (gv 4) (gv 0)) (cst .none)) [3,2,0,1]))) (retS (tupV (consL (gv 2) (consL (unL dTupL (shV (gv 4))) (nilL)))))
def zbP:List D->Option D:=runV 4 5 zcI
theorem zfW (T:Txt K mg t):FnOk P w K mg base CX0 4 t.a_q4 t.d_q4 ["run","views","hand","at"] (spV K zbP) :=
 okV T.q4.F zb3 λ_ _ _ _ _ _ hr=>zaF (zpE 4 (zg8 4 rfl (cO zb3 (fr:=["at","hand","run","views"]) (by decide +kernel)) (zcP rfl T.b_range (zdK rfl T.b_len (zaA 1))) (blk0 (by decide +kernel) rfl (λcl C s H fp ω=>v_if (PBW.b (b_or (b_eq (zbG hr) (zaA 0) (zaA 2)) (ziK (zfU (vc (zmI T) T.q25 hr (zaC (zaA 3) (zaC (zaA 0) (zaC (zaA 2) (zaC (zaA 1) (zaR)))))))))) (v_ix (zaA 4) (zaA 0)) (zeK))) zb3.nd)) (zaJ (zbB (zgV (zaC (zaA 2) (zaC (zd3 rfl T.b_tuple (PV.sh (zaA 4))) (zaR))))))
theorem zbX:FnScope ["run","views","at","up"] ["run","views","at"] (defScope zb2):=fO (by decide +kernel)
def zb4:FS:=seqS (setS 3 (lstV (callO zcZ (consL (gv 0) (consL (gv 2) (nilL)))))) (retS (lstV (compF (un1L rng1 (un dLen (gv 1))) (λ_=>Ga true) (ifV (cmpB dIn (gv 0) (gv 3)) (callV zbP (consL (gv 2) (consL (gv 4) (consL (gv 0) (consL (gv 1) (nilL)))))) (cst .none)) [2,0,3,1])))
def zbK:List D->Option D:=runV 3 4 zb4
theorem zfJ (T:Txt K mg t):FnOk P w K mg base CX0 5 t.a_q0 t.d_q0 ["run","views","at"] (spV K zbK) :=
 okV T.q0.F zbX λ_ _ _ _ _ _ hr=>zaF (zbM 3 (PO.v (zq8 (zgY T) (hr.mono (by decide)) T.q10.m T.q10.F.kp T.q10.b (zaC (zaA 0) (zaC (zaA 2) (zaR))))) zbX.nd) (zaJ (zbB (PO.v (ziP rfl (cO zbX (fr:=["at","run","up","views"]) (by decide +kernel)) (zcP rfl T.b_range (zdK rfl T.b_len (zaA 1))) (blk0 (by decide +kernel) rfl (λcl C s H fp ω=>v_if (b_in (zbG hr) (zaA 0) (zaA 3)) (vc (zfW T) T.q4 hr (zaC (zaA 2) (zaC (zaA 4) (zaC (zaA 0) (zaC (zaA 1) (zaR)))))) (zeK)))))))
theorem zbS:FnScope ["run","rounds","views","at"] ["run","rounds"] (defScope zdR):=fO (by decide +kernel)
def zdX:FS:=seqS (fixS 2 (setO 2 (compF (un1L rng1 (callV za9 (consL (gv 0) (nilL)))) (λ_=>Ga true) (tupV (consL (gv 0) (consL (bin dIx (bin dIx (gv 1) (cst (.int 0))) (gv 0)) (nilL)))) [0]))) (seqS (forS (binL rng2 (cst (.int 1)) (bin dAdd (gv 1) (cst (.int 1)))) (tgN 3) (setS 2 (callV zbK (consL (gv 0) (consL (gv 2) (consL (gv 3) (nilL))))))) (retS (gv 2)))
def zaV:List D->Option D:=runV 2 4 zdX
theorem zh4 (T:Txt K mg t):FnOk P w K mg base CX0 6 t.a_q15 t.d_q15 ["run","rounds"] (spV K zaV) :=
 okV T.q15.F zbS λ_ _ _ _ _ _ hr=>zaF (zpE 2 (zg8 2 rfl (cO zbS (fr:=["run"]) (by decide +kernel)) (zcP rfl T.b_range (vc (zdW T) T.q6 hr (zaC (zaA 0) (zaR)))) (blk0 (by decide +kernel) rfl (λcl C s H fp ω=>zgV (zaC (zaA 0) (zaC (v_ix (v_ix (zaA 1) (zaE)) (zaA 0)) (zaR))))) zbS.nd)) (zaF (zc6 PassesOwn.never rfl (zmZ rfl T.b_range (zaE) (ze9 (zaA 1) (zaE))) (zaY 3 zbS.nd) (zaJ (zbM 2 (vc (zfJ T) T.q0 hr (zaC (zaA 0) (zaC (zaA 2) (zaC (zaA 3) (zaR))))) zbS.nd))) (zaJ (zbB (zaA 2))))
theorem ze2:FnScope ["lesser","place"] ["lesser","place"] (defScope zdS):=fO (by decide +kernel)
def zaH:FS:=seqS (whileD (cmpB dNe (bin dIx (gv 0) (gv 1)) (gv 1)) (seqS (stoK 0 (gv 1) (ixS (glk 0) (ixS (glk 0) (gv 1)))) (setS 1 (ixS (glk 0) (gv 1)))) 100) (retC (gv 1))
theorem zdG (T:Txt K mg t):FnOk P w K mg base CX0 1 t.a_q13 t.d_q13 ["lesser","place"] (spC K ["lesser","place"] 2 zaH) :=
 okC T.q13.F ze2 λ_ _ _ _ _ _ hr=>zaF (zm7 100 PassesOwn.never (b_ne (zbG hr) (v_ix (zaA 0) (zaA 1)) (zaA 1)) (zaF (zk3 0 (zaA 1) (zmX (znP 0) (zmX (znP 0) (zaA 1)))) (zaJ (zbM 1 (zmX (znP 0) (zaA 1)) ze2.nd)))) (zaJ (zvM (zaA 1)))
theorem zfK:FnScope ["lesser","one","two","first","other"] ["lesser","one","two"] (defScope zgJ):=fO (by decide +kernel)
def zfL:FS:=seqS (callC 3 2 zaH (ownA 0 (valA (gv 1) (nilA)))) (seqS (callC 4 2 zaH (ownA 0 (valA (gv 2) (nilA)))) (stoK 0 (bin dMax2 (gv 3) (gv 4)) (bin dMin2 (gv 3) (gv 4))))
def zaZ:FS:=endC zfL
theorem zmJ (T:Txt K mg t):FnOk P w K mg base CX0 2 t.a_q26 t.d_q26 ["lesser","one","two"] (spC K ["lesser","one","two","first","other"] 3 zaZ) :=
 okCe T.q26.F zfK λ_ _ _ _ _ _ hr=>zaF (znT 3 (zdG T) (hr.mono (by decide)) T.q13.m T.q13.F.kp T.q13.b (zrG 0 (zrF (zaA 1) (zrE))) (zk6 (zk5 (zk4))) (by decide) zfK.nd) (zaF (znT 4 (zdG T) (hr.mono (by decide)) T.q13.m T.q13.F.kp T.q13.b (zrG 0 (zrF (zaA 2) (zrE))) (zk6 (zk5 (zk4))) (by decide) zfK.nd) (zaJ (zk3 0 (zvG rfl rfl T.b_max (zaA 3) (zaA 4)) (zrD rfl rfl T.b_min (zaA 3) (zaA 4)))))
theorem zcJ:FnScope ["runs","rounds","lesser","seen","place","view"] ["runs","rounds"] (defScope zfG):=fO (by decide +kernel)
def zhI:FS:=zaD (zbV 2 (zcA rngN (unN dLen (gv 0)))) (zaD (newT 3) (zaD (zbW (zcA rng1 (unN dLen (gv 0))) (tgNN 4) (zbW (za6 (zaK zaV (zaB (binN dIx (gv 0) (gv 4)) (zaB (gv 1) (zaL))))) (tgNN 5) (ifSN (zaG dIsnt (gv 5) (cstN .none)) (exprC (evC 5 zaZ (ownD 2 (chgD (setdD 3 (gv 5) (gv 4)) (valD (gv 4) (nilD)))))) (nxSN)))) (zi0 (go 2))))
def zcK:List D->Option (List D):=runO 2 6 zhI
theorem zkD (T:Txt K mg t):FnOk P w K mg base CX0 7 t.a_q24 t.d_q24 ["runs","rounds"] (spO K zcK) :=
 cW (okO T.q24.F zcJ λ_ _ _ _ _ _ hr=>zaF (zeW 2 (zi6 rfl rfl T.b_list rfl T.b_range (zdK rfl T.b_len (zaA 0))) zcJ.nd) (zaF (ztV 3 zcJ.nd) (zaF (zc6 PassesOwn.never rfl (zcP rfl T.b_range (zdK rfl T.b_len (zaA 0))) (zaY 4 zcJ.nd) (zaJ (zc6 PassesOwn.never rfl (zfB (vc (zh4 T) T.q15 hr (zaC (v_ix (zaA 0) (zaA 4)) (zaC (zaA 1) (zaR))))) (zaY 5 zcJ.nd) (zaJ (s_if (zrB (zaA 5) (zeK)) (zaJ (ztW (znS (zmJ T) (hr.mono (by decide)) T.q26.m T.q26.F.kp T.q26.b (zrM 2 (zwU (zwT 3 (zbG hr) (zaA 5) (zaA 4)) (zrL (zaA 4) (zrK)))) (zk9 (zqE (zk8 (zk7)))) (by decide)))) (zbU)))))) (zaJ (zkT 2))))) rfl
theorem zdY:FnScope ["runs","rounds","lesser","told","place"] ["runs","rounds"] (defScope zeQ):=fO (by decide +kernel)
def zeU:FS:=zaD (zbV 2 (znU zcK (zaB (gv 0) (zaB (gv 1) (zaL))))) (grpS 3 4 (zcA rng1 (unN dLen (gv 0))) (evC 2 zaH (ownD 2 (valD (gv 4) (nilD)))) (gv 4))
def zbZ:List D->Option D:=runV 2 5 zeU
theorem zi8 (T:Txt K mg t):FnOk P w K mg base CX0 8 t.a_q21 t.d_q21 ["runs","rounds"] (spV K zbZ) :=
 cV (okV T.q21.F zdY λ_ _ _ _ _ _ hr=>zaF (zeW 2 (zq8 (zkD T) (hr.mono (by decide)) T.q24.m T.q24.F.kp T.q24.b (zaC (zaA 0) (zaC (zaA 1) (zaR)))) zdY.nd) (ztY 3 4 rfl PassesOwn.never (by decide) rfl T.b_list (zcP rfl T.b_range (zdK rfl T.b_len (zaA 0))) (znS (zdG T) (hr.mono (by decide)) T.q13.m T.q13.F.kp T.q13.b (zrM 2 (zrL (zaA 4) (zrK))) (zk9 (zk8 (zk7))) (by decide)) (zaA 4) zdY.nd)) rfl
theorem zfX:FnScope ["script","k"] ["script","k"] (defScope zcF):=fO (by decide +kernel)
def zcL:FS:=seqS (ifS (cmpB dLt (gv 1) (un dLen (gv 0))) (retS (bin dIx (gv 0) (gv 1))) (nxS)) (retS (cst (.int 0)))
def zaQ:List D->Option D:=runV 2 2 zcL
theorem zb5 (T:Txt K mg t):FnOk P w K mg base CX0 1 t.a_q1 t.d_q1 ["script","k"] (spV K zaQ) :=
 okV T.q1.F zfX λ_ _ _ _ _ _ hr=>zaF (s_if (b_lt (zaA 1) (zdK rfl T.b_len (zaA 0))) (zaJ (zbB (v_ix (zaA 0) (zaA 1)))) (zbU)) (zaJ (zbB (zaE)))
theorem zeH:FnScope ["cell","k","mixed"] ["cell","k"] (defScope zdA):=fO (by decide +kernel)
def zdH:FS:=seqS (setS 2 (bin dMod (bin dAdd (bin dAdd (bin dMul (bin dMod (gv 0) (bin dPow (cst (.int 10)) (cst (.int 64)))) (cst (.int 48271))) (bin dMul (bin dMul (gv 1) (gv 1)) (cst (.int 7919)))) (cst (.int 1))) (cst (.int 2147483647)))) (retS (bin dMod (bin dMul (gv 2) (gv 2)) (cst (.int 2147483629))))
def zaX:List D->Option D:=runV 2 3 zdH
theorem zeI (T:Txt K mg t):FnOk P w K mg base CX0 1 t.a_q9 t.d_q9 ["cell","k"] (spV K zaX) :=
 okV T.q9.F zeH λ_ _ _ _ _ _ hr=>zaF (zbM 2 (zb7 (ze9 (ze9 (zlQ (zb7 (zaA 0) (zrY (zaE) (zaE))) (zaE)) (zlQ (zlQ (zaA 1) (zaA 1)) (zaE))) (zaE)) (zaE)) zeH.nd) (zaJ (zbB (zb7 (zlQ (zaA 2) (zaA 2)) (zaE))))
theorem zgN:FnScope ["cell"] ["cell"] (defScope zcX):=fO (by decide +kernel)
def zc0:FS:=seqS (ifS (cmpB dEq (bin dMod (gv 0) (cst (.int 3))) (cst (.int 0))) (retS (bin dSub (bin dMod (bin dDiv (gv 0) (cst (.int 3))) (cst (.int 4))) (cst (.int 1)))) (nxS)) (retS (bin dSub (bin dMod (bin dDiv (gv 0) (cst (.int 3))) (bin dMul (cst (.int 2)) (bin dPow (cst (.int 10)) (cst (.int 59))))) (bin dPow (cst (.int 10)) (cst (.int 59)))))
def zaO:List D->Option D:=runV 1 1 zc0
theorem zdZ (T:Txt K mg t):FnOk P w K mg base CX0 1 t.a_q5 t.d_q5 ["cell"] (spV K zaO) :=
 okV T.q5.F zgN λ_ _ _ _ _ _ hr=>zaF (s_if (b_eq (zbG hr) (zb7 (zaA 0) (zaE)) (zaE)) (zaJ (zbB (zjN (zb7 (zeM (zaA 0) (zaE)) (zaE)) (zaE)))) (zbU)) (zaJ (zbB (zjN (zb7 (zeM (zaA 0) (zaE)) (zlQ (zaE) (zrY (zaE) (zaE)))) (zrY (zaE) (zaE)))))
theorem zbD:FnScope ["mixed","hand","hands","early","reached","at"] ["mixed","hand","hands","early"] (defScope zdT):=fO (by decide +kernel)
def zd0:FS:=seqS (setS 4 (bin dMod (gv 0) (bin dIx (lstV (consL (cst (.int 4)) (consL (cst (.int 8)) (consL (cst (.int 16)) (consL (cst (.int 32)) (nilL)))))) (bin dSub (gv 2) (cst (.int 2)))))) (seqS (ifS (andB (cmpB dEq (bin dMod (bin dDiv (gv 0) (cst (.int 32))) (cst (.int 3))) (cst (.int 0))) (notB (tst (gv 3)))) (setS 4 (bin dIx (lstV (consL (cst (.int 3)) (consL (cst (.int 7)) (consL (cst (.int 15)) (consL (cst (.int 31)) (nilL)))))) (bin dSub (gv 2) (cst (.int 2))))) (nxS)) (seqS (ifS (cmpB dEq (bin dAnd (bin dShr (gv 4) (gv 1)) (cst (.int 1))) (cst (.int 1))) (setS 4 (bin dSub (gv 4) (bin dShl (cst (.int 1)) (gv 1)))) (nxS)) (seqS (setS 5 (bin dAdd (cst (.int 1)) (bin dMod (bin dDiv (gv 0) (cst (.int 96))) (cst (.int 3))))) (seqS (ifS (cmpB dEq (bin dMod (bin dDiv (gv 0) (cst (.int 288))) (cst (.int 7))) (cst (.int 0))) (setS 5 (bin dAdd (cst (.int 1)) (bin dMod (bin dDiv (gv 0) (cst (.int 2016))) (cst (.int 5))))) (nxS)) (seqS (ifS (tst (gv 3)) (setS 5 (cst (.int 1))) (nxS)) (retS (tupV (consL (gv 1) (consL (gv 5) (consL (gv 4) (nilL)))))))))))
def zaW:List D->Option D:=runV 4 6 zd0
theorem ze3 (T:Txt K mg t):FnOk P w K mg base CX0 1 t.a_q18 t.d_q18 ["mixed","hand","hands","early"] (spV K zaW) :=
 okV T.q18.F zbD λ_ _ _ _ _ _ hr=>zaF (zbM 4 (zb7 (zaA 0) (v_ix (PO.v (zhO (zaC (zaE) (zaC (zaE) (zaC (zaE) (zaC (zaE) (zaR))))))) (zjN (zaA 2) (zaE)))) zbD.nd) (zaF (s_if (PBW.b (zf7 (b_eq (zbG hr) (zb7 (zeM (zaA 0) (zaE)) (zaE)) (zaE)) (zeD (zmV (zfU (zaA 3)))))) (zaJ (zbM 4 (v_ix (PO.v (zhO (zaC (zaE) (zaC (zaE) (zaC (zaE) (zaC (zaE) (zaR))))))) (zjN (zaA 2) (zaE))) zbD.nd)) (zbU)) (zaF (s_if (b_eq (zbG hr) (zkS (zr9 (zaA 4) (zaA 1)) (zaE)) (zaE)) (zaJ (zbM 4 (zjN (zaA 4) (zr8 (zaE) (zaA 1))) zbD.nd)) (zbU)) (zaF (zbM 5 (ze9 (zaE) (zb7 (zeM (zaA 0) (zaE)) (zaE))) zbD.nd) (zaF (s_if (b_eq (zbG hr) (zb7 (zeM (zaA 0) (zaE)) (zaE)) (zaE)) (zaJ (zbM 5 (ze9 (zaE) (zb7 (zeM (zaA 0) (zaE)) (zaE))) zbD.nd)) (zbU)) (zaF (s_if (zfU (zaA 3)) (zaJ (zbM 5 (zaE) zbD.nd)) (zbU)) (zaJ (zbB (zgV (zaC (zaA 1) (zaC (zaA 5) (zaC (zaA 4) (zaR))))))))))))
theorem zbA:FnScope ["cells","most","first","hands","falls","early","k","hand","mixed"] ["cells","most","first"] (defScope zeR):=fO (by decide +kernel)
def zeV:FS:=seqS (setS 3 (un dLen (gv 0))) (seqS (setO 4 (nilL)) (seqS (setS 5 (bin dEq (bin dMod (bin dDiv (gv 2) (cst (.int 8))) (cst (.int 2))) (cst (.int 1)))) (seqS (forS (un1L rng1 (gv 3)) (tgN 6) (seqS (setS 7 (bin dMod (bin dAdd (gv 2) (gv 6)) (gv 3))) (seqS (setS 8 (callV zaX (consL (bin dIx (gv 0) (gv 7)) (consL (gv 7) (nilL))))) (ifS (andB (cmpB dLt (bin dMod (gv 8) (cst (.int 5))) (cst (.int 4))) (cmpB dLt (un dLen (gv 4)) (gv 1))) (appS 4 (callV zaW (consL (bin dDiv (gv 8) (cst (.int 5))) (consL (gv 7) (consL (gv 3) (consL (gv 5) (nilL))))))) (nxS))))) (retS (tupV (consL (unL dTupL (compF (seqI (gv 0)) (λ_=>Ga true) (callV zaO (consL (gv 0) (nilL))) [])) (consL (unL dTupL (sortL (gl 4))) (nilL))))))))
def zcR:List D->Option D:=runV 3 9 zeV
theorem zi9 (T:Txt K mg t):FnOk P w K mg base CX0 2 t.a_q20 t.d_q20 ["cells","most","first"] (spV K zcR) :=
 okV T.q20.F zbA λ_ _ _ _ _ _ hr=>zaF (zbM 3 (zdK rfl T.b_len (zaA 0)) zbA.nd) (zaF (zeW 4 (zhO (zaR)) zbA.nd) (zaF (zbM 5 (v_eq (zbG hr) (zb7 (zeM (zaA 2) (zaE)) (zaE)) (zaE)) zbA.nd) (zaF (zc6 PassesOwn.never rfl (zcP rfl T.b_range (zaA 3)) (zaY 6 zbA.nd) (zaF (zbM 7 (zb7 (ze9 (zaA 2) (zaA 6)) (zaA 3)) zbA.nd) (zaF (zbM 8 (vc (zeI T) T.q9 hr (zaC (v_ix (zaA 0) (zaA 7)) (zaC (zaA 7) (zaR)))) zbA.nd) (zaJ (s_if (PBW.b (zf7 (b_lt (zb7 (zaA 8) (zaE)) (zaE)) (zeD (b_lt (zdK rfl T.b_len (zaA 4)) (zaA 1))))) (zaJ (zb8 4 (vc (ze3 T) T.q18 hr (zaC (zeM (zaA 8) (zaE)) (zaC (zaA 7) (zaC (zaA 3) (zaC (zaA 5) (zaR)))))))) (zbU)))))) (zaJ (zbB (zgV (zaC (zd3 rfl T.b_tuple (PO.sh (ziP rfl (cO zbA (fr:=[]) (by decide +kernel)) (zfB (zaA 0)) (blk0 (by decide +kernel) rfl (λcl C s H fp ω=>vc (zdZ T) T.q5 hr (zaC (zaA 0) (zaR))))))) (zaC (zd3 rfl T.b_tuple (PO.sh (zkY rfl T.b_sorted (ziM 4)))) (zaR)))))))))
theorem zaI:FnScope ["run","mixed","cell","numbers","hands","hand","falls","one","at","reached","other"] ["run","mixed","cell"] (defScope zcG):=fO (by decide +kernel)
def zcM:FS:=zaD (zbV 3 (sL1N (binN dIx (gv 0) (cstN (.int 0))))) (zaD (za5 4 (unLN dLenL (gl 3))) (zaD (za5 5 (binN dMod (binN dDiv (gv 1) (cstN (.int 4))) (gv 4))) (zaD (zbV 6 (compF (za6 (binN dIx (gv 0) (cstN (.int 1)))) (zaG dNe (binN dIx (gv 0) (cstN (.int 0))) (gv 1)) (gv 0) [5])) (zaD (ifSN (zaG dEq (binN dMod (gv 1) (cstN (.int 4))) (cstN (.int 0))) (zaD (zl7 3 (gv 5) (zaK zaO (zaB (gv 2) (zaL)))) (za1 (zcV (zaB (unLN dTupL (gl 3)) (zaB (binN dIx (gv 0) (cstN (.int 1))) (zaL)))))) (nxSN)) (zaD (ifSN (zc7 (zaG dEq (binN dMod (gv 1) (cstN (.int 4))) (cstN (.int 1))) (zaG dGt (unN dLen (binN dIx (gv 0) (cstN (.int 1)))) (cstN (.int 0)))) (zaD (zl6 (binN dIx (binN dIx (gv 0) (cstN (.int 1))) (binN dMod (binN dDiv (gv 1) (cstN (.int 4))) (unN dLen (binN dIx (gv 0) (cstN (.int 1)))))) (tgTN (zaT (tgNN 7) (zaT (tgNN 8) (zaT (tgNN 9) (zdP)))))) (zaD (za5 10 (binN dMod (binN dAdd (binN dAdd (gv 7) (cstN (.int 1))) (binN dMod (binN dDiv (gv 1) (cstN (.int 20))) (binN dSub (gv 4) (cstN (.int 1))))) (gv 4))) (zaD (zbV 6 (compF (za6 (binN dIx (gv 0) (cstN (.int 1)))) (zaG dNe (binN dIx (gv 0) (cstN (.int 0))) (gv 1)) (gv 0) [7])) (ifSN (zaG dEq (binN dAnd (binN dShr (gv 9) (gv 10)) (cstN (.int 1))) (cstN (.int 1))) (zcB 6 (zcV (zaB (gv 7) (zaB (gv 8) (zaB (binN dSub (gv 9) (binN dShl (cstN (.int 1)) (gv 10))) (zaL)))))) (zcB 6 (zcV (zaB (gv 7) (zaB (gv 8) (zaB (binN dAdd (gv 9) (binN dShl (cstN (.int 1)) (gv 10))) (zaL)))))))))) (ifSN (zaG dLt (binN dMod (gv 1) (cstN (.int 4))) (cstN (.int 3))) (zcB 6 (zaK zaW (zaB (binN dDiv (gv 1) (cstN (.int 20))) (zaB (gv 5) (zaB (gv 4) (zaB (cstN (.bool false)) (zaL))))))) (nxSN))) (za1 (zcV (zaB (binN dIx (gv 0) (cstN (.int 0))) (zaB (unLN dTupL (zhC (gl 6))) (zaL))))))))))
def za2:List D->Option D:=runV 3 11 zcM
theorem zfY (T:Txt K mg t):FnOk P w K mg base CX0 2 t.a_q2 t.d_q2 ["run","mixed","cell"] (spV K za2) :=
 cV (okV T.q2.F zaI λ_ _ _ _ _ _ hr=>zaF (zeW 3 (znB rfl T.b_list (v_ix (zaA 0) (zaE))) zaI.nd) (zaF (zbM 4 (zq7 rfl T.b_len (ziM 3)) zaI.nd) (zaF (zbM 5 (zb7 (zeM (zaA 1) (zaE)) (zaA 4)) zaI.nd) (zaF (zg8 6 rfl (cO zaI (fr:=["hand"]) (by decide +kernel)) (zfB (v_ix (zaA 0) (zaE))) (blk1 (by decide +kernel) rfl (λcl C s H fp ω=>b_ne (zbG hr) (v_ix (zaA 0) (zaE)) (zaA 1)) (λcl C s H fp ω=>zaA 0)) zaI.nd) (zaF (s_if (b_eq (zbG hr) (zb7 (zaA 1) (zaE)) (zaE)) (zaF (zm6 3 (zaA 5) (vc (zdZ T) T.q5 hr (zaC (zaA 2) (zaR)))) (zaJ (zbB (zgV (zaC (zd3 rfl T.b_tuple (ziM 3)) (zaC (v_ix (zaA 0) (zaE)) (zaR))))))) (zbU)) (zaF (s_if (PBW.b (zf7 (b_eq (zbG hr) (zb7 (zaA 1) (zaE)) (zaE)) (zeD (b_gt (zdK rfl T.b_len (v_ix (zaA 0) (zaE))) (zaE))))) (zaF (zx0 (v_ix (v_ix (zaA 0) (zaE)) (zb7 (zeM (zaA 1) (zaE)) (zdK rfl T.b_len (v_ix (zaA 0) (zaE))))) (zm2 rfl (zeN (zaY 7 zaI.nd) (zeN (zaY 8 zaI.nd) (zeN (zaY 9 zaI.nd) (zm1)))))) (zaF (zbM 10 (zb7 (ze9 (ze9 (zaA 7) (zaE)) (zb7 (zeM (zaA 1) (zaE)) (zjN (zaA 4) (zaE)))) (zaA 4)) zaI.nd) (zaF (zg8 6 rfl (cO zaI (fr:=["one"]) (by decide +kernel)) (zfB (v_ix (zaA 0) (zaE))) (blk1 (by decide +kernel) rfl (λcl C s H fp ω=>b_ne (zbG hr) (v_ix (zaA 0) (zaE)) (zaA 1)) (λcl C s H fp ω=>zaA 0)) zaI.nd) (zaJ (s_if (b_eq (zbG hr) (zkS (zr9 (zaA 9) (zaA 10)) (zaE)) (zaE)) (zaJ (zb8 6 (zgV (zaC (zaA 7) (zaC (zaA 8) (zaC (zjN (zaA 9) (zr8 (zaE) (zaA 10))) (zaR))))))) (zaJ (zb8 6 (zgV (zaC (zaA 7) (zaC (zaA 8) (zaC (ze9 (zaA 9) (zr8 (zaE) (zaA 10))) (zaR)))))))))))) (zaJ (s_if (b_lt (zb7 (zaA 1) (zaE)) (zaE)) (zaJ (zb8 6 (vc (ze3 T) T.q18 hr (zaC (zeM (zaA 1) (zaE)) (zaC (zaA 5) (zaC (zaA 4) (zaC (v_bl) (zaR)))))))) (zbU)))) (zaJ (zbB (zgV (zaC (v_ix (zaA 0) (zaE)) (zaC (zd3 rfl T.b_tuple (PO.sh (zkY rfl T.b_sorted (ziM 6)))) (zaR)))))))))))) rfl
theorem zgO:FnScope ["run","hand","rounds","fall"] ["run","hand","rounds"] (defScope zfH):=fO (by decide +kernel)
def zfM:FS:=seqS (forS (seqI (bin dIx (gv 0) (cst (.int 1)))) (tgN 3) (ifS (andB (cmpB dEq (bin dIx (gv 3) (cst (.int 0))) (gv 1)) (cmpB dLe (bin dIx (gv 3) (cst (.int 1))) (gv 2))) (retS (cst (.bool false))) (nxS))) (retS (cst (.bool true)))
def zbY:List D->Option D:=runV 3 4 zfM
theorem zkE (T:Txt K mg t):FnOk P w K mg base CX0 1 t.a_q22 t.d_q22 ["run","hand","rounds"] (spV K zbY) :=
 okV T.q22.F zgO λ_ _ _ _ _ _ hr=>zaF (zc6 PassesOwn.never rfl (zfB (v_ix (zaA 0) (zaE))) (zaY 3 zgO.nd) (zaJ (s_if (PBW.b (zf7 (b_eq (zbG hr) (v_ix (zaA 3) (zaE)) (zaA 1)) (zeD (b_le (v_ix (zaA 3) (zaE)) (zaA 2))))) (zaJ (zbB (v_bl))) (zbU)))) (zaJ (zbB (v_bl)))
theorem zeJ:FnScope ["run","by","to","at","fall"] ["run","by","to","at"] (defScope zdB):=fO (by decide +kernel)
def zdI:FS:=seqS (forS (seqI (bin dIx (gv 0) (cst (.int 1)))) (tgN 4) (seqS (ifS (orB (andB (cmpB dEq (bin dIx (gv 4) (cst (.int 0))) (gv 2)) (cmpB dLe (bin dIx (gv 4) (cst (.int 1))) (gv 3))) (andB (cmpB dEq (bin dIx (gv 4) (cst (.int 0))) (gv 1)) (cmpB dLt (bin dIx (gv 4) (cst (.int 1))) (gv 3)))) (retS (cst (.bool false))) (nxS)) (ifS (andB (cmpB dEq (bin dIx (gv 4) (cst (.int 0))) (gv 1)) (andB (cmpB dEq (bin dIx (gv 4) (cst (.int 1))) (gv 3)) (cmpB dEq (bin dAnd (bin dShr (bin dIx (gv 4) (cst (.int 2))) (gv 2)) (cst (.int 1))) (cst (.int 0))))) (retS (cst (.bool false))) (nxS)))) (retS (cst (.bool true)))
def za7:List D->Option D:=runV 4 5 zdI
theorem zgZ (T:Txt K mg t):FnOk P w K mg base CX0 1 t.a_q11 t.d_q11 ["run","by","to","at"] (spV K za7) :=
 okV T.q11.F zeJ λ_ _ _ _ _ _ hr=>zaF (zc6 PassesOwn.never rfl (zfB (v_ix (zaA 0) (zaE))) (zaY 4 zeJ.nd) (zaF (s_if (PBW.b (b_or (PBW.b (zf7 (b_eq (zbG hr) (v_ix (zaA 4) (zaE)) (zaA 2)) (zeD (b_le (v_ix (zaA 4) (zaE)) (zaA 3))))) (ziK (PBW.b (zf7 (b_eq (zbG hr) (v_ix (zaA 4) (zaE)) (zaA 1)) (zeD (b_lt (v_ix (zaA 4) (zaE)) (zaA 3)))))))) (zaJ (zbB (v_bl))) (zbU)) (zaJ (s_if (PBW.b (zf7 (b_eq (zbG hr) (v_ix (zaA 4) (zaE)) (zaA 1)) (zf7 (b_eq (zbG hr) (v_ix (zaA 4) (zaE)) (zaA 3)) (zeD (b_eq (zbG hr) (zkS (zr9 (v_ix (zaA 4) (zaE)) (zaA 2)) (zaE)) (zaE)))))) (zaJ (zbB (v_bl))) (zbU))))) (zaJ (zbB (v_bl)))
theorem zaS:FnScope ["run","rounds","hand","rows","hands","at","row","parts","by"] ["run","rounds"] (defScope zdC):=fO (by decide +kernel)
def zdJ:FS:=seqS (setO 3 (consL (lstV (compF (un1L enuT (bin dIx (gv 0) (cst (.int 0)))) (lift2 λ_=>Ga true) (lift2 (tupV (consL (gv 0) (consL (gv 1) (nilL))))) [])) (nilL))) (seqS (setS 4 (un dLen (bin dIx (gv 0) (cst (.int 0))))) (seqS (forS (binL rng2 (cst (.int 1)) (bin dAdd (gv 1) (cst (.int 1)))) (tgN 5) (seqS (setO 6 (nilL)) (seqS (forS (un1L rng1 (gv 4)) (tgN 2) (seqS (setO 7 (repL (consL (cst .none) (nilL)) (gv 4))) (seqS (forS (un1L rng1 (gv 4)) (tgN 8) (ifS (orB (cmpB dEq (gv 8) (gv 2)) (tst (callV za7 (consL (gv 0) (consL (gv 8) (consL (gv 2) (consL (gv 5) (nilL)))))))) (stoS 7 (gv 8) (bin dIx (ixS (gl 3) (un dNeg (cst (.int 1)))) (gv 8))) (nxS))) (ifS (tst (callV zbY (consL (gv 0) (consL (gv 2) (consL (gv 5) (nilL)))))) (appS 6 (tupV (consL (gv 2) (consL (unL dTupL (gl 7)) (nilL))))) (appS 6 (cst .none)))))) (frzS 6 (appS 3 (gv 6)))))) (retO (go 3))))
def zbN:List D->Option D:=runV 2 9 zdJ
theorem zg0 (T:Txt K mg t):FnOk P w K mg base CX0 2 t.a_q12 t.d_q12 ["run","rounds"] (spV K zbN) :=
 okV T.q12.F zaS λ_ _ _ _ _ _ hr=>zaF (zeW 3 (zhO (zaC (PO.v (zsG rfl (cO zaS (fr:=[]) (by decide +kernel)) (zsF rfl T.b_enumerate (v_ix (zaA 0) (zaE))) (blk20 rfl (by decide +kernel) rfl rfl (λcl C s H fp ω=>zgV (zaC (zaA 0) (zaC (zaA 1) (zaR))))))) (zaR))) zaS.nd) (zaF (zbM 4 (zdK rfl T.b_len (v_ix (zaA 0) (zaE))) zaS.nd) (zaF (zc6 PassesOwn.never rfl (zmZ rfl T.b_range (zaE) (ze9 (zaA 1) (zaE))) (zaY 5 zaS.nd) (zaF (zeW 6 (zhO (zaR)) zaS.nd) (zaF (zc6 PassesOwn.never rfl (zcP rfl T.b_range (zaA 4)) (zaY 2 zaS.nd) (zaF (zeW 7 (zx6 (zhO (zaC (zeK) (zaR))) (zaA 4)) zaS.nd) (zaF (zc6 PassesOwn.never rfl (zcP rfl T.b_range (zaA 4)) (zaY 8 zaS.nd) (zaJ (s_if (PBW.b (b_or (b_eq (zbG hr) (zaA 8) (zaA 2)) (ziK (zfU (vc (zgZ T) T.q11 hr (zaC (zaA 0) (zaC (zaA 8) (zaC (zaA 2) (zaC (zaA 5) (zaR)))))))))) (zaJ (zm6 7 (zaA 8) (v_ix (zmX (ziM 3) (zx1 (zaE))) (zaA 8)))) (zbU)))) (zaJ (s_if (zfU (vc (zkE T) T.q22 hr (zaC (zaA 0) (zaC (zaA 2) (zaC (zaA 5) (zaR)))))) (zaJ (zb8 6 (zgV (zaC (zaA 2) (zaC (zd3 rfl T.b_tuple (ziM 7)) (zaR)))))) (zaJ (zb8 6 (zeK)))))))) (zaJ (zu2 6 (zb8 3 (zaA 6))))))) (zaJ (zkT 3))))
theorem zbE:FnScope ["script","hands","cells","runs","k","mixed","run"] ["script","hands"] (defScope zdU):=fO (by decide +kernel)
def zd1:FS:=zaD (znV 2 (zbV 2 (compF (zcA rng1 (gv 1)) (λ_=>Ga true) (zaK zaQ (zaB (gv 1) (zaB (binN dAdd (cstN (.int 2)) (gv 0)) (zaL)))) [0]))) (zaD (zbV 3 (zaB (zaK zcR (zaB (gv 2) (zaB (gv 1) (zaB (cstN (.int 0)) (zaL))))) (zaL))) (zaD (zbW (zsV rng2 (cstN (.int 1)) (binN dMin2 (unN dLen (gv 0)) (cstN (.int 26)))) (tgNN 4) (zaD (za5 5 (zaK zaX (zaB (binN dIx (gv 0) (gv 4)) (zaB (gv 4) (zaL))))) (zaD (za5 6 (zaK za2 (zaB (ixSN (gl 3) (binN dMod (gv 5) (unLN dLenL (gl 3)))) (zaB (binN dDiv (gv 5) (cstN (.int 30))) (zaB (binN dDiv (binN dIx (gv 0) (gv 4)) (cstN (.int 4))) (zaL)))))) (ifSN (zaG dNin (gv 6) (gv 3)) (zcB 3 (gv 6)) (nxSN))))) (zi0 (go 3))))
def zbT:List D->Option D:=runV 2 7 zd1
theorem zh5 (T:Txt K mg t):FnOk P w K mg base CX0 3 t.a_q16 t.d_q16 ["script","hands"] (spV K zbT) :=
 cV (okV T.q16.F zbE λ_ _ _ _ _ _ hr=>zaF (zpE 2 (zg8 2 rfl (cO zbE (fr:=["script"]) (by decide +kernel)) (zcP rfl T.b_range (zaA 1)) (blk0 (by decide +kernel) rfl (λcl C s H fp ω=>vc (zb5 T) T.q1 hr (zaC (zaA 1) (zaC (ze9 (zaE) (zaA 0)) (zaR))))) zbE.nd)) (zaF (zeW 3 (zhO (zaC (vc (zi9 T) T.q20 hr (zaC (zaA 2) (zaC (zaA 1) (zaC (zaE) (zaR))))) (zaR))) zbE.nd) (zaF (zc6 PassesOwn.never rfl (zmZ rfl T.b_range (zaE) (zrD rfl rfl T.b_min (zdK rfl T.b_len (zaA 0)) (zaE))) (zaY 4 zbE.nd) (zaF (zbM 5 (vc (zeI T) T.q9 hr (zaC (v_ix (zaA 0) (zaA 4)) (zaC (zaA 4) (zaR)))) zbE.nd) (zaF (zbM 6 (vc (zfY T) T.q2 hr (zaC (zmX (ziM 3) (zb7 (zaA 5) (zq7 rfl T.b_len (ziM 3)))) (zaC (zeM (zaA 5) (zaE)) (zaC (zeM (v_ix (zaA 0) (zaA 4)) (zaE)) (zaR))))) zbE.nd) (zaJ (s_if (zu9 (zbG hr) (zaA 6) (zaA 3)) (zaJ (zb8 3 (zaA 6))) (zbU)))))) (zaJ (zkT 3))))) rfl
theorem ze4:FnScope ["one","other","k"] ["one","other"] (defScope zdV):=fO (by decide +kernel)
def zcS:FS:=zaD (zbW (zcA rng1 (unN dLen (gv 0))) (tgNN 2) (ifSN (zc7 (zaG dIsnt (binN dIx (gv 0) (gv 2)) (cstN .none)) (zaG dEq (binN dIx (gv 0) (gv 2)) (binN dIx (gv 1) (gv 2)))) (za1 (cstN (.bool true))) (nxSN))) (za1 (cstN (.bool false)))
def zaM:List D->Option D:=runV 2 3 zcS
theorem ze5 (T:Txt K mg t):FnOk P w K mg base CX0 1 t.a_q14 t.d_q14 ["one","other"] (spV K zaM) :=
 cV (okV T.q14.F ze4 λ_ _ _ _ _ _ hr=>zaF (zc6 PassesOwn.never rfl (zcP rfl T.b_range (zdK rfl T.b_len (zaA 0))) (zaY 2 ze4.nd) (zaJ (s_if (PBW.b (zf7 (zrB (v_ix (zaA 0) (zaA 2)) (zeK)) (zeD (b_eq (zbG hr) (v_ix (zaA 0) (zaA 2)) (v_ix (zaA 1) (zaA 2)))))) (zaJ (zbB (v_bl))) (zbU)))) (zaJ (zbB (v_bl)))) rfl
theorem zbF:FnScope ["views","group","found","k","other"] ["views","group"] (defScope zcH):=fO (by decide +kernel)
def zcN:FS:=zaD (zbV 2 (zaB (binN dIx (gv 1) (cstN (.int 0))) (zaL))) (zaD (za5 3 (cstN (.int 0))) (zaD (whileD (zaG dLt (gv 3) (unN dLen (gv 2))) (zaD (zbW (za6 (gv 1)) (tgNN 4) (ifSN (zc7 (zaG dNin (gv 4) (gv 2)) (tstN (zaK zaM (zaB (binN dIx (gv 0) (binN dIx (gv 2) (gv 3))) (zaB (binN dIx (gv 0) (gv 4)) (zaL)))))) (zcB 2 (gv 4)) (nxSN))) (za5 3 (binN dAdd (gv 3) (cstN (.int 1))))) 100) (zi0 (go 2))))
def za3:List D->Option D:=runV 2 5 zcN
theorem zfZ (T:Txt K mg t):FnOk P w K mg base CX0 2 t.a_q3 t.d_q3 ["views","group"] (spV K za3) :=
 cV (okV T.q3.F zbF λ_ _ _ _ _ _ hr=>zaF (zeW 2 (zhO (zaC (v_ix (zaA 1) (zaE)) (zaR))) zbF.nd) (zaF (zbM 3 (zaE) zbF.nd) (zaF (zm7 100 PassesOwn.never (b_lt (zaA 3) (zdK rfl T.b_len (zaA 2))) (zaF (zc6 PassesOwn.never rfl (zfB (zaA 1)) (zaY 4 zbF.nd) (zaJ (s_if (PBW.b (zf7 (zu9 (zbG hr) (zaA 4) (zaA 2)) (zeD (zfU (vc (ze5 T) T.q14 hr (zaC (v_ix (zaA 0) (v_ix (zaA 2) (zaA 3))) (zaC (v_ix (zaA 0) (zaA 4)) (zaR)))))))) (zaJ (zb8 2 (zaA 4))) (zbU)))) (zaJ (zbM 3 (ze9 (zaA 3) (zaE)) zbF.nd)))) (zaJ (zkT 2))))) rfl
theorem zg1:FnScope ["found"] ["found"] (defScope zdD):=fO (by decide +kernel)
def zh6:FS:=retS (andV (un (dIsT "int") (gv 0)) (notV (un (dIsT "bool") (gv 0))))
def za8:List D->Option D:=runV 1 1 zh6
theorem zg2 (T:Txt K mg t):FnOk P w K mg base CX0 1 t.a_q8 t.d_q8 ["found"] (spV K za8) :=
 okV T.q8.F zg1 λ_ _ _ _ _ _ hr=>zaJ (zbB (zu0 (zpD (T:="int") (by decide) rfl T.b_isinstance rfl T.b_int boot_int (zaA 0)) (zrW (zxV (zpD (T:="bool") (by decide) rfl T.b_isinstance rfl T.b_bool boot_bool (zaA 0))))))
theorem za0:FnScope ["found","many","where","k","group","place"] ["found","many"] (defScope zcY):=fO (by decide +kernel)
def zc1:FS:=zaD (ifSN (zgE (tstN (unN (dIsT "list") (gv 0)))) (za1 (cstN .none)) (nxSN)) (zaD (zs9 2) (zaD (zbW (zcA enuD (gv 0)) (tgTN (zaT (tgNN 3) (zaT (tgNN 4) (zdP)))) (zaD (ifSN (orBN (zgE (tstN (unN (dIsT "list") (gv 4)))) (orBN (zaG dEq (unN dLen (gv 4)) (cstN (.int 0))) (zaG dNe (gv 4) (zdO (setQ (shVN (gv 4))))))) (za1 (cstN .none)) (nxSN)) (zbW (za6 (gv 4)) (tgNN 5) (zaD (ifSN (orBN (zgE (tstN (zaK za8 (zaB (gv 5) (zaL))))) (zaG dInI (gv 5) (gv 2))) (za1 (cstN .none)) (nxSN)) (setI 2 (gv 5) (gv 3)))))) (zaD (ifSN (zaG dNe (zdO (srtL (zcA keysI (gv 2)))) (zdO (zcA rngN (gv 1)))) (za1 (cstN .none)) (nxSN)) (zaD (ifSN (zaG dNe (zdO (compF (za6 (gv 0)) (λ_=>Ga true) (binN dIx (gv 0) (cstN (.int 0))) [])) (zdO (srtL (compF (za6 (gv 0)) (λ_=>Ga true) (binN dIx (gv 0) (cstN (.int 0))) [])))) (za1 (cstN .none)) (nxSN)) (zs3 2 (za1 (gv 2)))))))
def zbH:List D->Option D:=runV 2 6 zc1
theorem zgP (T:Txt K mg t):FnOk P w K mg base CX0 2 t.a_q7 t.d_q7 ["found","many"] (spV K zbH) :=
 cV (okV T.q7.F za0 λ_ _ _ _ _ _ hr=>zaF (s_if (zmV (zfU (zpD (T:="list") (by decide) rfl T.b_isinstance rfl T.b_list boot_list (zaA 0)))) (zaJ (zbB (zeK))) (zbU)) (zaF (zsB 2 za0.nd) (zaF (zc6 PassesOwn.never rfl (zvI rfl T.b_enumerate (zaA 0)) (zm2 rfl (zeN (zaY 3 za0.nd) (zeN (zaY 4 za0.nd) (zm1)))) (zaF (s_if (PBW.b (b_or (zmV (zfU (zpD (T:="list") (by decide) rfl T.b_isinstance rfl T.b_list boot_list (zaA 4)))) (b_or (b_eq (zbG hr) (zdK rfl T.b_len (zaA 4)) (zaE)) (ziK (b_ne (zbG hr) (zaA 4) (PO.v (zmG rfl rfl T.b_sorted rfl T.b_set (PV.sh (zaA 4))))))))) (zaJ (zbB (zeK))) (zbU)) (zaJ (zc6 PassesOwn.never rfl (zfB (zaA 4)) (zaY 5 za0.nd) (zaF (s_if (PBW.b (b_or (zmV (zfU (vc (zg2 T) T.q8 hr (zaC (zaA 5) (zaR))))) (ziK (zx7 (zaA 5) (zaA 2))))) (zaJ (zbB (zeK))) (zbU)) (zaJ (zsD 2 (zaA 5) (zaA 3)))))))) (zaF (s_if (b_ne (zbG hr) (PO.v (zmF rfl rfl T.b_sorted (zaA 2))) (PO.v (zi6 rfl rfl T.b_list rfl T.b_range (zaA 1)))) (zaJ (zbB (zeK))) (zbU)) (zaF (s_if (b_ne (zbG hr) (PO.v (ziP rfl (cO za0 (fr:=[]) (by decide +kernel)) (zfB (zaA 0)) (blk0 (by decide +kernel) rfl (λcl C s H fp ω=>v_ix (zaA 0) (zaE))))) (PO.v (zi4 rfl T.b_sorted (PO.sh (ziP rfl (cO za0 (fr:=[]) (by decide +kernel)) (zfB (zaA 0)) (blk0 (by decide +kernel) rfl (λcl C s H fp ω=>v_ix (zaA 0) (zaE)))))))) (zaJ (zbB (zeK))) (zbU)) (zaJ (zu2 2 (zbB (zaA 2))))))))) rfl
theorem zbQ:FnScope ["script","hands","rounds","runs","handed","found","where","views","k","j","group"] ["script"] (defScope zkB):=fO (by decide +kernel)
def zkF:FS:=zaD (za5 1 (binN dAdd (cstN (.int 2)) (binN dMod (zaK zaQ (zaB (gv 0) (zaB (cstN (.int 0)) (zaL)))) (cstN (.int 3))))) (zaD (za5 2 (binN dMod (binN dDiv (zaK zaQ (zaB (gv 0) (zaB (cstN (.int 0)) (zaL)))) (cstN (.int 3))) (cstN (.int 3)))) (zaD (za5 3 (zaK zbT (zaB (gv 0) (zaB (gv 1) (zaL))))) (zaD (za5 4 (zdO (sL1N (gv 3)))) (zaD (za5 5 (zaK zbZ (zaB (gv 4) (zaB (gv 2) (zaL))))) (zaD (za5 6 (zaK zbH (zaB (gv 5) (zaB (unN dLen (gv 3)) (zaL))))) (zaD (ifSN (orBN (zaG dIs (gv 6) (cstN .none)) (zaG dNe (gv 4) (gv 3))) (za1 (cstN (.bool false))) (nxSN)) (zaD (znV 7 (zbV 7 (compF (za6 (gv 3)) (λ_=>Ga true) (binN dIx (zaK zbN (zaB (gv 0) (zaB (gv 1) (zaL)))) (gv 1)) [2]))) (zaD (zbW (zcA rng1 (unN dLen (gv 3))) (tgNN 8) (zbW (zcA rng1 (gv 8)) (tgNN 9) (ifSN (zc7 (tstN (zaK zaM (zaB (binN dIx (gv 7) (gv 8)) (zaB (binN dIx (gv 7) (gv 9)) (zaL))))) (zaG dNe (binN dIxI (gv 6) (gv 8)) (binN dIxI (gv 6) (gv 9)))) (za1 (cstN (.bool false))) (nxSN)))) (zaD (zbW (za6 (gv 5)) (tgNN 10) (ifSN (zaG dNe (zdO (srtL (shVN (zaK za3 (zaB (gv 7) (zaB (gv 10) (zaL))))))) (gv 10)) (za1 (cstN (.bool false))) (nxSN))) (za1 (cstN (.bool true))))))))))))
def ze6:List D->Option D:=runV 1 11 zkF
theorem zqM (T:Txt K mg t):FnOk P w K mg base CX0 9 t.a_q28 t.d_q28 ["script"] (spV K ze6) :=
 cV (okV T.q28.F zbQ λ_ _ _ _ _ _ hr=>zaF (zbM 1 (ze9 (zaE) (zb7 (vc (zb5 T) T.q1 hr (zaC (zaA 0) (zaC (zaE) (zaR)))) (zaE))) zbQ.nd) (zaF (zbM 2 (zb7 (zeM (vc (zb5 T) T.q1 hr (zaC (zaA 0) (zaC (zaE) (zaR)))) (zaE)) (zaE)) zbQ.nd) (zaF (zbM 3 (vc (zh5 T) T.q16 hr (zaC (zaA 0) (zaC (zaA 1) (zaR)))) zbQ.nd) (zaF (zbM 4 (PO.v (znB rfl T.b_list (zaA 3))) zbQ.nd) (zaF (zbM 5 (vc (zi8 T) T.q21 hr (zaC (zaA 4) (zaC (zaA 2) (zaR)))) zbQ.nd) (zaF (zbM 6 (vc (zgP T) T.q7 hr (zaC (zaA 5) (zaC (zdK rfl T.b_len (zaA 3)) (zaR)))) zbQ.nd) (zaF (s_if (PBW.b (b_or (b_is (zaA 6) (zeK)) (ziK (b_ne (zbG hr) (zaA 4) (zaA 3))))) (zaJ (zbB (v_bl))) (zbU)) (zaF (zpE 7 (zg8 7 rfl (cO zbQ (fr:=["rounds"]) (by decide +kernel)) (zfB (zaA 3)) (blk0 (by decide +kernel) rfl (λcl C s H fp ω=>v_ix (vc (zg0 T) T.q12 hr (zaC (zaA 0) (zaC (zaA 1) (zaR)))) (zaA 1))) zbQ.nd)) (zaF (zc6 PassesOwn.never rfl (zcP rfl T.b_range (zdK rfl T.b_len (zaA 3))) (zaY 8 zbQ.nd) (zaJ (zc6 PassesOwn.never rfl (zcP rfl T.b_range (zaA 8)) (zaY 9 zbQ.nd) (zaJ (s_if (PBW.b (zf7 (zfU (vc (ze5 T) T.q14 hr (zaC (v_ix (zaA 7) (zaA 8)) (zaC (v_ix (zaA 7) (zaA 9)) (zaR))))) (zeD (b_ne (zbG hr) (zvK (zaA 6) (zaA 8)) (zvK (zaA 6) (zaA 9)))))) (zaJ (zbB (v_bl))) (zbU)))))) (zaF (zc6 PassesOwn.never rfl (zfB (zaA 5)) (zaY 10 zbQ.nd) (zaJ (s_if (b_ne (zbG hr) (PO.v (zi4 rfl T.b_sorted (PV.sh (vc (zfZ T) T.q3 hr (zaC (zaA 7) (zaC (zaA 10) (zaR))))))) (zaA 10)) (zaJ (zbB (v_bl))) (zbU)))) (zaJ (zbB (v_bl))))))))))))) rfl
theorem zw1 {K:ja}{mg:Str->Option Gg}{h:Heap}(X:K.In h)(G:h.Ns mainGlobals mg)
  {a_q23:Gj} {d_q23:Gi} {cd_q23:Gg} (w_q23:FnW K "bit_of" zfF cd_q23 a_q23 d_q23)
  {a_q17:Gj} {d_q17:Gi} {cd_q17:Gg} (w_q17:FnW K "has_hand" zdQ cd_q17 a_q17 d_q17)
  {a_q6:Gj} {d_q6:Gi} {cd_q6:Gg} (w_q6:FnW K "many_hands" zcW cd_q6 a_q6 d_q6)
  {a_q19:Gj} {d_q19:Gi} {cd_q19:Gg} (w_q19:FnW K "fall_of" zeP cd_q19 a_q19 d_q19)
  {a_q27:Gj} {d_q27:Gi} {cd_q27:Gg} (w_q27:FnW K "is_up" zgH cd_q27 a_q27 d_q27)
  {a_q10:Gj} {d_q10:Gi} {cd_q10:Gg} (w_q10:FnW K "who_is_up" zc9 cd_q10 a_q10 d_q10)
  {a_q25:Gj} {d_q25:Gi} {cd_q25:Gg} (w_q25:FnW K "comes" zgI cd_q25 a_q25 d_q25)
  {a_q4:Gj} {d_q4:Gi} {cd_q4:Gg} (w_q4:FnW K "view_behind" zcE cd_q4 a_q4 d_q4)
  {a_q0:Gj} {d_q0:Gi} {cd_q0:Gg} (w_q0:FnW K "views_behind" zb2 cd_q0 a_q0 d_q0)
  {a_q15:Gj} {d_q15:Gi} {cd_q15:Gg} (w_q15:FnW K "views_of" zdR cd_q15 a_q15 d_q15)
  {a_q13:Gj} {d_q13:Gi} {cd_q13:Gg} (w_q13:FnW K "first_of" zdS cd_q13 a_q13 d_q13)
  {a_q26:Gj} {d_q26:Gi} {cd_q26:Gg} (w_q26:FnW K "unite" zgJ cd_q26 a_q26 d_q26)
  {a_q24:Gj} {d_q24:Gi} {cd_q24:Gg} (w_q24:FnW K "joined" zfG cd_q24 a_q24 d_q24)
  {a_q21:Gj} {d_q21:Gi} {cd_q21:Gg} (w_q21:FnW K "classes" zeQ cd_q21 a_q21 d_q21)
  {a_q1:Gj} {d_q1:Gi} {cd_q1:Gg} (w_q1:FnW K "_law_cell_at" zcF cd_q1 a_q1 d_q1)
  {a_q9:Gj} {d_q9:Gi} {cd_q9:Gg} (w_q9:FnW K "_law_mixed" zdA cd_q9 a_q9 d_q9)
  {a_q5:Gj} {d_q5:Gi} {cd_q5:Gg} (w_q5:FnW K "_law_number" zcX cd_q5 a_q5 d_q5)
  {a_q18:Gj} {d_q18:Gi} {cd_q18:Gg} (w_q18:FnW K "_law_fall" zdT cd_q18 a_q18 d_q18)
  {a_q20:Gj} {d_q20:Gi} {cd_q20:Gg} (w_q20:FnW K "_law_run" zeR cd_q20 a_q20 d_q20)
  {a_q2:Gj} {d_q2:Gi} {cd_q2:Gg} (w_q2:FnW K "_law_changed" zcG cd_q2 a_q2 d_q2)
  {a_q22:Gj} {d_q22:Gi} {cd_q22:Gg} (w_q22:FnW K "_law_up" zfH cd_q22 a_q22 d_q22)
  {a_q11:Gj} {d_q11:Gi} {cd_q11:Gg} (w_q11:FnW K "_law_comes" zdB cd_q11 a_q11 d_q11)
  {a_q12:Gj} {d_q12:Gi} {cd_q12:Gg} (w_q12:FnW K "_law_views" zdC cd_q12 a_q12 d_q12)
  {a_q16:Gj} {d_q16:Gi} {cd_q16:Gg} (w_q16:FnW K "_law_list" zdU cd_q16 a_q16 d_q16)
  {a_q14:Gj} {d_q14:Gi} {cd_q14:Gg} (w_q14:FnW K "_law_meet" zdV cd_q14 a_q14 d_q14)
  {a_q3:Gj} {d_q3:Gi} {cd_q3:Gg} (w_q3:FnW K "_law_reached" zcH cd_q3 a_q3 d_q3)
  {a_q8:Gj} {d_q8:Gi} {cd_q8:Gg} (w_q8:FnW K "_law_whole" zdD cd_q8 a_q8 d_q8)
  {a_q7:Gj} {d_q7:Gi} {cd_q7:Gg} (w_q7:FnW K "_law_groups" zcY cd_q7 a_q7 d_q7)
  {a_q28:Gj} {d_q28:Gi} {cd_q28:Gg} (w_q28:FnW K "law" zkB cd_q28 a_q28 d_q28)
  (z_bool:kT K mainGlobals "bool"=Ga Gb)
  (z_enumerate:kT K mainGlobals "enumerate"=Ga Gb)
  (z_int:kT K mainGlobals "int"=Ga Gb)
  (z_isinstance:kT K mainGlobals "isinstance"=Ga Gb)
  (z_len:kT K mainGlobals "len"=Ga Gb)
  (z_list:kT K mainGlobals "list"=Ga Gb)
  (z_max:kT K mainGlobals "max"=Ga Gb)
  (z_min:kT K mainGlobals "min"=Ga Gb)
  (z_range:kT K mainGlobals "range"=Ga Gb)
  (z_set:kT K mainGlobals "set"=Ga Gb)
  (z_sorted:kT K mainGlobals "sorted"=Ga Gb)
  (z_tuple:kT K mainGlobals "tuple"=Ga Gb)
  : ∃ t,Txt K mg t/\t.a_q28=a_q28/\∀ (s:Gh) (v:Gg),BindsTo s t.d_q28 ⟨[v],[]⟩ [("script",v)]:=by
 exact⟨⟨a_q23,d_q23,a_q17,d_q17,a_q6,d_q6,a_q19,d_q19,a_q27,d_q27,a_q10,d_q10,a_q25,d_q25,a_q4,d_q4,a_q0,d_q0,a_q15,d_q15,a_q13,d_q13,a_q26,d_q26,a_q24,d_q24,a_q21,d_q21,a_q1,d_q1,a_q9,d_q9,a_q5,d_q5,a_q18,d_q18,a_q20,d_q20,a_q2,d_q2,a_q22,d_q22,a_q11,d_q11,a_q12,d_q12,a_q16,d_q16,a_q14,d_q14,a_q3,d_q3,a_q8,d_q8,a_q7,d_q7,a_q28,d_q28⟩,⟨za4 X G w_q23,za4 X G w_q17,za4 X G w_q6,za4 X G w_q19,za4 X G w_q27,za4 X G w_q10,za4 X G w_q25,za4 X G w_q4,za4 X G w_q0,za4 X G w_q15,za4 X G w_q13,za4 X G w_q26,za4 X G w_q24,za4 X G w_q21,za4 X G w_q1,za4 X G w_q9,za4 X G w_q5,za4 X G w_q18,za4 X G w_q20,za4 X G w_q2,za4 X G w_q22,za4 X G w_q11,za4 X G w_q12,za4 X G w_q16,za4 X G w_q14,za4 X G w_q3,za4 X G w_q8,za4 X G w_q7,za4 X G w_q28,kq X G z_bool,kq X G z_enumerate,kq X G z_int,kq X G z_isinstance,kq X G z_len,kq X G z_list,kq X G z_max,kq X G z_min,kq X G z_range,kq X G z_set,kq X G z_sorted,kq X G z_tuple⟩,rfl,w_q28.bt (Q:=λfd=>∀ (s:Gh) (v:Gg),BindsTo s fd ⟨[v],[]⟩ [("script",v)]) λ_ _ _ _ _ _ _ _=>.of_eq rfl⟩
theorem zw2 {l:Program}{w:World}{K:ja}{mg:Str->Option Gg}{h:Heap}{fa a:Gj}(X:K.In h)(G:h.Ns mainGlobals mg)(hmg:mg "law"=Ga (.ref fa))
  (z:∃ t,Txt K mg t/\t.a_q28=a/\∀ (s:Gh) (v:Gg),BindsTo s t.d_q28 ⟨[v],[]⟩ [("script",v)]) :
  ∃ fd:Gi,(∀ (s:Gh) (v:Gg),BindsTo s fd ⟨[v],[]⟩ [("script",v)])/\∀ base:Heap,K.In base->base.Ns mainGlobals mg->FnOk l w K mg base CX0 9 fa fd ["script"] (spV K ze6):=by
 obtain⟨t,T,_,hb⟩:=z;have e:=hmg.symm.trans T.q28.m;cases e;exact⟨t.d_q28,hb,λbase _ _=>zqM T⟩
end
end Law
namespace Law
noncomputable section
open PySem PySem.Spec PyProof.Rows L2 T3
def zjA:FS:=zaD (whileD (zaG dNe (binN dIx (gv 0) (gv 1)) (gv 1)) (zaD (stoK 0 (gv 1) (ixSN (glk 0) (ixSN (glk 0) (gv 1)))) (za5 1 (ixSN (glk 0) (gv 1)))) 100) (zp9 (gv 1))
theorem zh7:zaH=zjA:=rfl
def zn9:FS:=zaD (callC 3 2 zaH (zj5 0 (zj4 (gv 1) (zj3)))) (zaD (callC 4 2 zaH (zj5 0 (zj4 (gv 2) (zj3)))) (stoK 0 (binN dMax2 (gv 3) (gv 4)) (binN dMin2 (gv 3) (gv 4))))
theorem zmK:zfL=zn9:=rfl
theorem zkG (x0 x1:D):zcK [x0,x1]=outO (zhI [.val x0,.val x1,.no,.no,.no,.no]):=rfl
theorem zjB (x0 x1:D):zbZ [x0,x1]=outV (zeU [.val x0,.val x1,.no,.no,.no]):=rfl
theorem zf0 (x0 x1 x2:D):za2 [x0,x1,x2]=outV (zcM [.val x0,.val x1,.val x2,.no,.no,.no,.no,.no,.no,.no,.no]):=rfl
theorem zh8 (x0 x1:D):zbT [x0,x1]=outV (zd1 [.val x0,.val x1,.no,.no,.no,.no,.no]):=rfl
theorem zh9 (x0 x1:D):zaM [x0,x1]=outV (zcS [.val x0,.val x1,.no]):=rfl
theorem zf1 (x0 x1:D):za3 [x0,x1]=outV (zcN [.val x0,.val x1,.no,.no,.no]):=rfl
theorem zgQ (x0 x1:D):zbH [x0,x1]=outV (zc1 [.val x0,.val x1,.no,.no,.no,.no]):=rfl
theorem zqN (x0:D):ze6 [x0]=outV (zkF [.val x0,.no,.no,.no,.no,.no,.no,.no,.no,.no,.no]):=rfl
end
end Law
namespace Law
open PySem T3
local macro_rules|`(tactic| simp_arith[$a,*])=>`(tactic| simp only[zvN,zvO,zyA,zvP,zvQ,zsN,zsO,zsP,zvR,zsQ,zpU,zsR,zsS,zpV,zpW,zvS,zvT,zsT,zsU,zsW,zpX,zvU,zvV,zsX,zsY,zsZ,zrH,zs0,zs1,zs2,zs4,zs5,zs6,zs7,zs8,ztA,zvW,zpY,znW,zvX,zl8,zd6,zl9,zj2,zpZ,znX,znY,znZ,zvY,zvZ,ztB,zv0,zv1,ztC,zv2,ztD,zv3,zv4,zv5,ztE,zv6,ztF,zv7,ztG,zv8,zv9,zwA,ztH,zwB,ztI,zwC,zwD,ztJ,zwE,ztK,ztL,zp0,zp1,zp3,zwF,ztM,zp4,zwG,zp5,zwH,zwI,ztN,zwJ,zwK,zyB,zyC,zwL,ztO,ztP,zwM,zp6,zwN,zwO,zc4,zrI,zwP,zwQ,zwR,zp7,ztQ,ztR,ztS,jf,Option.bind_none,qU,qP,zmA,ite_true,ite_false,decide_true,decide_false,ztT,zn0,ztU,zqA,$a,*])
theorem zw3 (r:Nat)(hr:r<1000):rng2 (.int 1) (.int ((r:Int)+1))=Ga ((uK 1 r).map λ(k:Nat)=>jb (k:Int)):=by
 unfold rng2;dsimp only;rw[Ge (by constructor<;>(try constructor)<;>(try constructor)<;>omega),show((r:Int)+1-1).toNat=r by omega,List.range'_eq_map_range];unfold rngD;rw[ka];refine congrArg Ga (jQ λk _=>?_);show jb (1+(k:Int))=jb ((1+k:Nat):Int);rw[Int.natCast_add];rfl
theorem zlE (a:Sl):∀ (ds:List D) (b:Int) (x:Sl),∃ x',forD (tgN 2) (setS 1 (bin dMul (gv 1) (cst (.int 2)))) ds [a,.val (.int b),x]=Ga (.nx [a,.val (.int (b*2^ds.length)),x'])
 | [],b,x=>⟨x,by simp[forD]⟩
 | d::r,b,x=>by
  obtain⟨x',e⟩:=zlE a r (b*2) (.val d);refine⟨x',?_⟩;have hm:dMul (.int b) (.int 2)=Ga (.int (b*2)):=by simp[dMul,dI,cMul]
  unfold forD;simp only[tgN,setS,bin,cst,gv,List.set_cons_succ,List.set_cons_zero,List.getElem?_cons_succ,uQ,jf,hm];rw[show(bin dMul (gv 1) (cst (.int 2)):FV)=λψ=>(gv 1 ψ).bind λx=>(cst (.int 2) ψ).bind λy=>dMul x y from rfl] at e;refine e.trans ?_;rw[ul,Int.pow_succ',Int.mul_assoc]
theorem zoA (n:Int)(h0:0<=n)(h1:n<1000):zeS [.int n]=Ga (.int (2^n.toNat)):=by
 show outV (zfI [.val (.int n),.no,.no])=_;have hr:rng1 (.int n)=Ga (rngD 0 n.toNat):=by unfold rng1;dsimp only;rw[Ge (by constructor<;>omega)]
 obtain⟨x',e⟩:=zlE (.val (.int n)) (rngD 0 n.toNat) 1 .no;have hl:(rngD 0 n.toNat).length=n.toNat:=by simp[rngD]
 rw[hl,Jv] at e;unfold zfI;have e1:setS 1 (cst (.int 1)) [.val (.int n),.no,.no]=Ga (.nx [.val (.int n),.val (.int 1),.no]):=rfl;have e2:forS (un1L rng1 (gv 0)) (tgN 2) (setS 1 (bin dMul (gv 1) (cst (.int 2)))) [.val (.int n),.val (.int 1),.no]=Ga (.nx [.val (.int n),.val (.int (2^n.toNat)),x']):=by
  show(rng1 (.int n)).bind (λds=>forD _ _ ds _)=_;rw[hr];exact e
 show outV (thenD (setS 1 (cst (.int 1)) [.val (.int n),.no,.no]) _)=_;rw[e1];show outV (thenD (forS (un1L rng1 (gv 0)) (tgN 2) (setS 1 (bin dMul (gv 1) (cst (.int 2)))) [.val (.int n),.val (.int 1),.no]) _)=_;rw[e2];rfl
theorem zkH (m h:Int)(h0:0<=h)(h1:h<1000):zbR [.int m,.int h]=Ga (.bool (!(kJ m (2^h.toNat)==0))):=by
 refine congrArg outV (zfV (ψ:=[.val (.int m),.val (.int h)]) ((zaU ((zaU rfl ((zb6 rfl).trans (zoA h h0 h1))).trans rfl) rfl).trans ?_));exact zjT _ _
structure Fl where
 h:Nat
 a:Int
 m:Nat
def fd (f:Fl):D:=.tuple [.int f.h,.int f.a,.int f.m]
def rd (ns:List D)(fs:List Fl):D:=.tuple [.tuple ns,.tuple (fs.map fd)]
structure Good (n:Nat)(fs:List Fl):Prop where
 n2:2<=n
 n5:n<=5
 hb:∀ f∈fs,f.h<n
 mb:∀ f∈fs,f.m<32
 nd:(fs.map Fl.h).Nodup
 ab:∀ f∈fs,1<=f.a
 a5:∀ f∈fs,f.a<=5
theorem zgR {t:FT}{g:FS}(I:Nat->En->Prop)(n:Nat)(st:∀ k,k<n->∀ ψ,I k ψ->∃ e1 e2,t (.int k) ψ=Ga e1/\g e1=Ga (.nx e2)/\I (k+1) e2):∀ (m s:Nat) (ψ:En),s+m=n->I s ψ ->
  ∃ e,forD t g ((uK s m).map λ(k:Nat)=>jb (k:Int)) ψ=Ga (.nx e)/\I n e
 | 0,s,ψ,h,hI=>⟨ψ,rfl,by rw[<- h];exact hI⟩
 | m+1,s,ψ,h,hI=>by
  obtain⟨e1,e2,q1,q2,q3⟩:=st s (by omega) ψ hI;obtain⟨e,z1,z2⟩:=zgR I n st m (s+1) e2 (by omega) q3;refine⟨e,?_,z2⟩;rw[vO,jR];unfold forD;rw[q1,jf,q2];exact z1
def bk (d:D):Fl:=match d with
 | .tuple [.int a,.int b,.int c]=>⟨a.toNat,b,c.toNat⟩
 | _=>⟨0,0,0⟩
theorem zw4 (f:Fl):bk (fd f)=f:=by
 show(⟨(f.h:Int).toNat,f.a,(f.m:Int).toNat⟩:Fl)=f;rw[jD,jD]
theorem ziA (X:List Fl)(hl:X.length<7):∃ fs:List Fl,sortD (X.map fd)=Ga (fs.map fd)/\fs.Perm X:=by
 have ok:okSort (X.map fd)=true:=by
  unfold okSort;rw[u4];refine kc (kB.mpr λx hx=>?_);obtain⟨f,_,rfl⟩:=jr.mp hx;rfl
 obtain⟨rs,e,hp⟩:=zm8 (by rw[jd];exact hl) ok;have hb:(rs.map bk).map fd=rs:=by
  rw[ka];refine(jQ (g:=id) λd hd=>?_).trans (Ju _);obtain⟨f,_,rfl⟩:=jr.mp (hp.mem_iff.mp hd);show fd (bk (fd f))=fd f;rw[zw4]
 refine⟨rs.map bk,by rw[hb];exact e,?_⟩;have h2:=hp.map bk;have:(X.map fd).map bk=X:=by
  rw[ka];exact(jQ (g:=id) λf _=>zw4 f).trans (Ju _)
 rw[this] at h2;exact h2
theorem zkI (ns:List Int)(k:Nat):∃ c:Int,zaQ [.list (ns.map jb),.int k]=Ga (.int c):=by
 show ∃ c:Int,outV (zcL [.val (.list (ns.map jb)),.val (.int k)])=Ga (.int c);unfold zcL;have cc:cmpB dLt (gv 1) (un dLen (gv 0)) (frz [.val (.list (ns.map jb)),.val (.int k)])=Ga (decide ((k:Int)<((ns.map jb).length:Int))):=zcD (x:=.int k) (y:=.int ((ns.map jb).length:Int)) rfl rfl rfl;by_cases q:(k:Int)<((ns.map jb).length:Int)
 .have hk:k<ns.length:=by rw[jd] at q;omega
  refine⟨ns[k],?_⟩;rw[zeF (d:=.int ns[k]) ((if_t (cc.trans (congrArg Ga (Gc q)))).trans (zfV ((zaU (a:=.list (ns.map jb)) (b:=.int k) rfl rfl).trans (zc3 (by rw[jq,jc hk];rfl)))))];rfl
 .exact⟨0,by rw[zaP (if_f (cc.trans (congrArg Ga (Gd q))))];rfl⟩
theorem zoB {i j:Int}(h1:-(2^64)<i)(h2:i<2^64):cMul i j=true:=by unfold cMul;rw[Gc h1,Gc h2];rfl
theorem zrO {i j:Int}(h1:-(2^64)<j)(h2:j<2^64):cMul i j=true:=by unfold cMul;rw[Gc h1,Gc h2,Bool.and_self,Bool.or_true]
theorem zw5 {i j:Int}(h:(decide (0<=j)&&decide (j<=1000000)&&decide (i.natAbs<2^64))=true):dPow (.int i) (.int j)=Ga (.int (i^j.toNat)):=by
 unfold dPow dI;dsimp only;rw[Ge h]
theorem zoC {i:Nat}{f:FL}{ψ e:En}{d:List D}(h:f ψ=Ga d)(he:frzAt i (ψ.set i (.own d))=e):fixS i (setO i f) ψ=Ga (.nx e):=by rw[zx4 (zr5 h),he]
theorem zlF (c:Int)(k:Int)(h0:0<=k)(h1:k<100):∃ x:Int,0<=x/\x<2147483629/\zaX [.int c,.int k]=Ga (.int x):=by
 generalize hv:(c%(10^64)*48271+k*k*7919+1)%2147483647=v;have hv0:0<=v:=by rw[<- hv];exact ku _ (by decide)
 have hv1:v<2147483647:=by rw[<- hv];exact j8 _ (by decide)
 refine⟨v*v%2147483629,ku _ (by decide),j8 _ (by decide),?_⟩;show outV (zdH [.val (.int c),.val (.int k),.no])=_;unfold zdH;have p10:bin dPow (cst (.int 10)) (cst (.int 64)) [.val (.int c),.val (.int k),.no]=Ga (.int (10^64)):=(zaU (a:=.int 10) (b:=.int 64) rfl rfl).trans (zw5 (by decide));have m1:bin dMul (bin dMod (gv 0) (bin dPow (cst (.int 10)) (cst (.int 64)))) (cst (.int 48271)) [.val (.int c),.val (.int k),.no]=Ga (.int (c%(10^64)*48271)) :=
  (zaU (a:=.int (c%(10^64))) (b:=.int 48271) ((zaU (a:=.int c) rfl p10).trans (zb1 (by decide))) rfl).trans (zm9 (zrO (by decide) (by decide)))
 have m2:bin dMul (bin dMul (gv 1) (gv 1)) (cst (.int 7919)) [.val (.int c),.val (.int k),.no]=Ga (.int (k*k*7919)) :=
  (zaU (a:=.int (k*k)) (b:=.int 7919) ((zaU (a:=.int k) (b:=.int k) rfl rfl).trans (zm9 (zoB (by omega) (by omega)))) rfl).trans (zm9 (zrO (by decide) (by decide)))
 have m3:bin dMod (bin dAdd (bin dAdd (bin dMul (bin dMod (gv 0) (bin dPow (cst (.int 10)) (cst (.int 64)))) (cst (.int 48271))) (bin dMul (bin dMul (gv 1) (gv 1)) (cst (.int 7919)))) (cst (.int 1))) (cst (.int 2147483647)) [.val (.int c),.val (.int k),.no]=Ga (.int v) :=
  (zaU (a:=.int (c%(10^64)*48271+k*k*7919+1)) (b:=.int 2147483647) ((zaU (a:=.int (c%(10^64)*48271+k*k*7919)) (b:=.int 1) ((zaU m1 m2).trans rfl) rfl).trans rfl) rfl).trans ((zb1 (by decide)).trans (congrArg (λz=>Ga (jb z)) hv))
 rw[zaP (e:=[.val (.int c),.val (.int k),.val (.int v)]) (zeX m3)];rw[zfV (d:=.int (v*v%2147483629)) ((zaU (a:=.int (v*v)) (b:=.int 2147483629) ((zaU (a:=.int v) (b:=.int v) rfl rfl).trans (zm9 (zoB (by omega) (by omega)))) rfl).trans (zb1 (by decide)))];rfl
theorem zgS (c:Int):∃ v:Int,zaO [.int c]=Ga (.int v):=by
 show ∃ v:Int,outV (zc0 [.val (.int c)])=Ga (.int v);unfold zc0;have p10:bin dPow (cst (.int 10)) (cst (.int 59)) [.val (.int c)]=Ga (.int (10^59)):=(zaU (a:=.int 10) (b:=.int 59) rfl rfl).trans (zw5 (by decide));have d3:bin dDiv (gv 0) (cst (.int 3)) [.val (.int c)]=Ga (.int (c/3)):=(zaU (a:=.int c) (b:=.int 3) rfl rfl).trans (zd9 (by decide) (by decide));have cc:cmpB dEq (bin dMod (gv 0) (cst (.int 3))) (cst (.int 0)) (frz [.val (.int c)])=Ga (c%3==0):=zcD (x:=.int (c%3)) (y:=.int 0) ((zaU (a:=.int c) (b:=.int 3) rfl rfl).trans (zb1 (by decide))) rfl (zb0 _ _);cases q:(c%3==0) with
 | true =>
  refine⟨c/3%4-1,?_⟩;rw[zeF (d:=.int (c/3%4-1)) ((if_t (cc.trans (congrArg Ga q))).trans (zfV ((zaU (a:=.int (c/3%4)) (b:=.int 1) ((zaU (b:=.int 4) d3 rfl).trans (zb1 (by decide))) rfl).trans rfl)))];rfl
 | false =>
  refine⟨c/3%(2*10^59)-10^59,?_⟩;rw[zaP (if_f (cc.trans (congrArg Ga q)))];have e1:bin dMul (cst (.int 2)) (bin dPow (cst (.int 10)) (cst (.int 59))) [.val (.int c)]=Ga (.int (2*10^59)):=(zaU (a:=.int 2) rfl p10).trans (zm9 (zoB (by decide) (by decide)));rw[zfV (d:=.int (c/3%(2*10^59)-10^59)) ((zaU ((zaU d3 e1).trans (zb1 (by decide))) p10).trans rfl)];rfl
theorem zw6:∀ (r:Fin 32) (h:Fin 5),((r.val:Int)/2^h.val)%2=1->(2:Int)^h.val<=r.val:=by decide +kernel
theorem zt4:∀ (r:Fin 32) (h:Fin 5),kJ ((r.val:Int)/2^h.val) 1=((r.val:Int)/2^h.val)%2:=by decide +kernel
theorem zoD {f g:FV}{ψ:En}(m h:Nat)(hm:m<32)(hh:h<5)(e1:f ψ=Ga (.int m))(e2:g ψ=Ga (.int h)):bin dAnd (bin dShr f g) (cst (.int 1)) ψ=Ga (.int ((m:Int)/2^h%2)):=by
 have s1:bin dShr f g ψ=Ga (.int ((m:Int)/2^h)):=by
  refine(zaU e1 e2).trans ?_;unfold dShr dI;dsimp only;rw[Ge (Gc (by omega)),jD]
 refine(zaU s1 rfl).trans ?_;show Ga (jb (kJ ((m:Int)/2^h) 1))=_;rw[zt4 ⟨m,hm⟩ ⟨h,hh⟩]
theorem ix4 (n:Nat)(h2:2<=n)(h5:n<=5):∃ q:Int,0<q/\q<=32/\dIx (.list [.int 4,.int 8,.int 16,.int 32]) (.int ((n:Int)-2))=Ga (.int q):=by
 have:n=2\/n=3\/n=4\/n=5:=by omega
 rcases this with rfl|rfl|rfl|rfl<;>exact⟨_,by decide,by decide,rfl⟩
theorem ix3 (n:Nat)(h2:2<=n)(h5:n<=5):∃ q:Nat,q<32/\dIx (.list [.int 3,.int 7,.int 15,.int 31]) (.int ((n:Int)-2))=Ga (.int q):=by
 have:n=2\/n=3\/n=4\/n=5:=by omega
 rcases this with rfl|rfl|rfl|rfl
 .exact⟨3,by decide,rfl⟩
 .exact⟨7,by decide,rfl⟩
 .exact⟨15,by decide,rfl⟩
 .exact⟨31,by decide,rfl⟩
theorem zlG (x:Int)(h n:Nat)(hh:h<n)(h2:2<=n)(h5:n<=5)(e:Bool):∃ (a:Int) (m:Nat),1<=a/\a<=5/\m<32/\zaW [.int x,.int h,.int n,.bool e]=Ga (fd ⟨h,a,m⟩):=by
 obtain⟨q,q0,q32,hq⟩:=ix4 n h2 h5;have r0:=ku x (show q≠0 by omega);have r1:=j8 x q0;obtain⟨m0,hm0⟩:=kC r0;obtain⟨q3,hq3,eq3⟩:=ix3 n h2 h5;have s4:setS 4 (bin dMod (gv 0) (bin dIx (lstV (consL (cst (.int 4)) (consL (cst (.int 8)) (consL (cst (.int 16)) (consL (cst (.int 32)) (nilL)))))) (bin dSub (gv 2) (cst (.int 2))))) [.val (.int x),.val (.int h),.val (.int n),.val (.bool e),.no,.no]=Ga (.nx [.val (.int x),.val (.int h),.val (.int n),.val (.bool e),.val (.int m0),.no]) :=
  zeX ((zaU (a:=.int x) (b:=.int q) rfl ((zaU (a:=.list [.int 4,.int 8,.int 16,.int 32]) (b:=.int ((n:Int)-2)) rfl rfl).trans hq)).trans ((zb1 q0).trans (congrArg (λz=>Ga (jb z)) hm0)))
 have s5:∃ m1:Nat,m1<32/\ifS (andB (cmpB dEq (bin dMod (bin dDiv (gv 0) (cst (.int 32))) (cst (.int 3))) (cst (.int 0))) (notB (tst (gv 3)))) (setS 4 (bin dIx (lstV (consL (cst (.int 3)) (consL (cst (.int 7)) (consL (cst (.int 15)) (consL (cst (.int 31)) (nilL)))))) (bin dSub (gv 2) (cst (.int 2))))) (nxS) [.val (.int x),.val (.int h),.val (.int n),.val (.bool e),.val (.int m0),.no]=Ga (.nx [.val (.int x),.val (.int h),.val (.int n),.val (.bool e),.val (.int m1),.no]):=by
  have c1:cmpB dEq (bin dMod (bin dDiv (gv 0) (cst (.int 32))) (cst (.int 3))) (cst (.int 0)) (frz [.val (.int x),.val (.int h),.val (.int n),.val (.bool e),.val (.int m0),.no])=Ga (x/32%3==0):=zcD (x:=.int (x/32%3)) (y:=.int 0) ((zaU (a:=.int (x/32)) (b:=.int 3) ((zaU (a:=.int x) (b:=.int 32) rfl rfl).trans (zd9 (by decide) (by decide))) rfl).trans (zb1 (by decide))) rfl (zb0 _ _);have c2:notB (tst (gv 3)) (frz [.val (.int x),.val (.int h),.val (.int n),.val (.bool e),.val (.int m0),.no])=Ga (!e):=zvF (ziR rfl rfl);cases z:(x/32%3==0) with
  | false=>rw[z] at c1;exact⟨m0,by omega,(if_f (zpH c1)).trans rfl⟩
  | true =>
   rw[z] at c1;cases e with
   | true=>exact⟨m0,by omega,(if_f ((zjS c1).trans c2)).trans rfl⟩
   | false=>exact⟨q3,hq3,(if_t ((zjS c1).trans c2)).trans (zeX ((zaU (a:=.list [.int 3,.int 7,.int 15,.int 31]) (b:=.int ((n:Int)-2)) rfl rfl).trans eq3))⟩
 obtain⟨m1,hm1,s5⟩:=s5;have s6:∃ m2:Nat,m2<32/\ifS (cmpB dEq (bin dAnd (bin dShr (gv 4) (gv 1)) (cst (.int 1))) (cst (.int 1))) (setS 4 (bin dSub (gv 4) (bin dShl (cst (.int 1)) (gv 1)))) (nxS) [.val (.int x),.val (.int h),.val (.int n),.val (.bool e),.val (.int m1),.no]=Ga (.nx [.val (.int x),.val (.int h),.val (.int n),.val (.bool e),.val (.int m2),.no]):=by
  have c1:cmpB dEq (bin dAnd (bin dShr (gv 4) (gv 1)) (cst (.int 1))) (cst (.int 1)) (frz [.val (.int x),.val (.int h),.val (.int n),.val (.bool e),.val (.int m1),.no])=Ga ((m1:Int)/2^h%2==1):=zcD (zoD m1 h hm1 (by omega) rfl rfl) rfl (zb0 _ _);cases z:((m1:Int)/2^h%2==1) with
  | false=>rw[z] at c1;exact⟨m1,hm1,(if_f c1).trans rfl⟩
  | true =>
   rw[z] at c1;have gb:=zw6 ⟨m1,hm1⟩ ⟨h,by omega⟩ (eq_of_beq z);dsimp only at gb;have pp:(0:Int)<2^h:=Int.pow_pos (by decide);obtain⟨m2,hm2⟩:=kC (show 0<=(m1:Int)-2^h by omega);refine⟨m2,by omega,(if_t c1).trans (zeX ((zaU (a:=.int m1) (b:=.int (2^h)) rfl ((zaU (a:=.int 1) (b:=.int h) rfl rfl).trans ?_)).trans (congrArg (λz=>Ga (jb z)) hm2)))⟩;unfold dShl dI;dsimp only;rw[Ge (by rw[Gc (show(0:Int)<=h by omega),Gc (show(h:Int)<=1000000 by omega)];decide),Jv,jD]
 obtain⟨m2,hm2,s6⟩:=s6;have a0:=ku (x/96) (show(3:Int)≠0 by decide);have a1:=j8 (x/96) (show(0:Int)<3 by decide);have b0:=ku (x/2016) (show(5:Int)≠0 by decide);have b1:=j8 (x/2016) (show(0:Int)<5 by decide);have s7:setS 5 (bin dAdd (cst (.int 1)) (bin dMod (bin dDiv (gv 0) (cst (.int 96))) (cst (.int 3)))) [.val (.int x),.val (.int h),.val (.int n),.val (.bool e),.val (.int m2),.no]=Ga (.nx [.val (.int x),.val (.int h),.val (.int n),.val (.bool e),.val (.int m2),.val (.int (1+x/96%3))]) :=
  zeX ((zaU (a:=.int 1) (b:=.int (x/96%3)) rfl ((zaU (a:=.int (x/96)) (b:=.int 3) ((zaU (a:=.int x) (b:=.int 96) rfl rfl).trans (zd9 (by decide) (by decide))) rfl).trans (zb1 (by decide)))).trans rfl)
 have s8:∃ a:Int,1<=a/\a<=5/\ifS (cmpB dEq (bin dMod (bin dDiv (gv 0) (cst (.int 288))) (cst (.int 7))) (cst (.int 0))) (setS 5 (bin dAdd (cst (.int 1)) (bin dMod (bin dDiv (gv 0) (cst (.int 2016))) (cst (.int 5))))) (nxS) [.val (.int x),.val (.int h),.val (.int n),.val (.bool e),.val (.int m2),.val (.int (1+x/96%3))]=Ga (.nx [.val (.int x),.val (.int h),.val (.int n),.val (.bool e),.val (.int m2),.val (.int a)]):=by
  have c1:cmpB dEq (bin dMod (bin dDiv (gv 0) (cst (.int 288))) (cst (.int 7))) (cst (.int 0)) (frz [.val (.int x),.val (.int h),.val (.int n),.val (.bool e),.val (.int m2),.val (.int (1+x/96%3))])=Ga (x/288%7==0):=zcD (x:=.int (x/288%7)) (y:=.int 0) ((zaU (a:=.int (x/288)) (b:=.int 7) ((zaU (a:=.int x) (b:=.int 288) rfl rfl).trans (zd9 (by decide) (by decide))) rfl).trans (zb1 (by decide))) rfl (zb0 _ _);cases z:(x/288%7==0) with
  | false=>rw[z] at c1;exact⟨_,by omega,by omega,(if_f c1).trans rfl⟩
  | true =>
   rw[z] at c1;exact⟨1+x/2016%5,by omega,by omega,(if_t c1).trans (zeX ((zaU (a:=.int 1) (b:=.int (x/2016%5)) rfl ((zaU (a:=.int (x/2016)) (b:=.int 5) ((zaU (a:=.int x) (b:=.int 2016) rfl rfl).trans (zd9 (by decide) (by decide))) rfl).trans (zb1 (by decide)))).trans rfl))⟩
 obtain⟨a,ha1,ha5,s8⟩:=s8;have s9:∃ b:Int,1<=b/\b<=5/\ifS (tst (gv 3)) (setS 5 (cst (.int 1))) (nxS) [.val (.int x),.val (.int h),.val (.int n),.val (.bool e),.val (.int m2),.val (.int a)]=Ga (.nx [.val (.int x),.val (.int h),.val (.int n),.val (.bool e),.val (.int m2),.val (.int b)]):=by
  cases e with
  | true=>exact⟨1,by decide,by decide,(if_t (ziR (d:=.bool true) rfl rfl)).trans rfl⟩
  | false=>exact⟨a,ha1,ha5,(if_f (ziR (d:=.bool false) rfl rfl)).trans rfl⟩
 obtain⟨b,hb1,hb5,s9⟩:=s9;refine⟨b,m2,hb1,hb5,hm2,?_⟩;show outV (zd0 [.val (.int x),.val (.int h),.val (.int n),.val (.bool e),.no,.no])=_;unfold zd0;rw[zaP s4,zaP s5,zaP s6,zaP s7,zaP s8,zaP s9];rfl
theorem zw7 {n:Nat}(h2:2<=n)(h5:n<=5)(f:Int)(j k:Nat)(hj:j<k)(hk:k<n):(f+(j:Int))%(n:Int)≠(f+(k:Int))%(n:Int):=by
 have:n=2\/n=3\/n=4\/n=5:=by omega
 rcases this with rfl|rfl|rfl|rfl<;>omega
theorem ze7 {n:Nat}{fs fs':List Fl}(G:Good n fs)(hp:fs'.Perm fs):Good n fs' :=
 ⟨G.n2,G.n5,λf hf=>G.hb f (hp.mem_iff.mp hf),λf hf=>G.mb f (hp.mem_iff.mp hf),((hp.map Fl.h).nodup_iff).mpr G.nd,λf hf=>G.ab f (hp.mem_iff.mp hf),λf hf=>G.a5 f (hp.mem_iff.mp hf)⟩
theorem zt5 (cs:List Int)(h2:2<=cs.length)(h5:cs.length<=5)(most first:Int):∃ (ns:List D) (fs:List Fl),(∀ d∈ns,∃ i:Int,d=.int i)/\ns.length=cs.length/\Good cs.length fs/\((fs.length:Int)<=most\/fs=[])/\zcR [.list (cs.map jb),.int most,.int first]=Ga (rd ns fs):=by
 have hcell:∀ h:Nat,h<cs.length->∃ c:Int,dIx (.list (cs.map jb)) (.int h)=Ga (.int c):=λh hh=>⟨cs[h],zc3 (by rw[jq,jc hh];rfl)⟩;have hlenC:dLen (.list (cs.map jb))=Ga (.int cs.length):=by
  show Ga (jb ((cs.map jb).length:Nat))=_;rw[jd]
 have hnum:∃ F:Int->Int,∀ c,zaO [.int c]=Ga (.int (F c)):=⟨λc=>(zgS c).choose,λc=>(zgS c).choose_spec⟩;obtain⟨F,hF⟩:=hnum;have hcs:toS (.list (cs.map jb))=Ga (cs.map jb):=rfl;show ∃ (ns:List D) (fs:List Fl),_/\_/\_/\_/\outV (zeV [.val (.list (cs.map jb)),.val (.int most),.val (.int first),.no,.no,.no,.no,.no,.no])=_;generalize hn:cs.length=n at h2 h5 hcell hlenC;generalize hC:kE (cs.map jb)=C at hcell hlenC hcs;generalize hev:(first/8%2==1)=ev;have L:=zgR (t:=tgN 6) (g:=seqS (setS 7 (bin dMod (bin dAdd (gv 2) (gv 6)) (gv 3))) (seqS (setS 8 (callV zaX (consL (bin dIx (gv 0) (gv 7)) (consL (gv 7) (nilL))))) (ifS (andB (cmpB dLt (bin dMod (gv 8) (cst (.int 5))) (cst (.int 4))) (cmpB dLt (un dLen (gv 4)) (gv 1))) (appS 4 (callV zaW (consL (bin dDiv (gv 8) (cst (.int 5))) (consL (gv 7) (consL (gv 3) (consL (gv 5) (nilL))))))) (nxS))))
  (λk ψ=>∃ (fs:List Fl) (x6 x7 x8:Sl),ψ=[.val C,.val (.int most),.val (.int first),.val (.int n),.own (fs.map fd),.val (.bool ev),x6,x7,x8]/\(∀ f∈fs,f.h<n/\f.m<32/\1<=f.a/\f.a<=5/\∃ j,j<k/\(f.h:Int)=(first+(j:Int))%(n:Int))/\(fs.map Fl.h).Nodup/\((fs.length:Int)<=most\/fs=[])/\fs.length<=k) n (by
   intro k hk ψ hI;obtain⟨fs,x6,x7,x8,rfl,i1,i2,i3,i4⟩:=hI;have w0:=ku (first+(k:Int)) (show(n:Int)≠0 by omega);have w1:=j8 (first+(k:Int)) (show(0:Int)<n by omega);obtain⟨h,hh⟩:=kC w0;have hn':h<n:=by omega
   obtain⟨c,hc⟩:=hcell h hn';obtain⟨x,hx0,_,hx⟩:=zlF c h (by omega) (by omega);obtain⟨a,m,ha1,ha5,hm,hfall⟩:=zlG (x/5) h n hn' h2 h5 ev;refine⟨[.val C,.val (.int most),.val (.int first),.val (.int n),.own (fs.map fd),.val (.bool ev),.val (.int k),x7,x8],?_⟩;have b7:setS 7 (bin dMod (bin dAdd (gv 2) (gv 6)) (gv 3)) [.val C,.val (.int most),.val (.int first),.val (.int n),.own (fs.map fd),.val (.bool ev),.val (.int k),x7,x8]=Ga (.nx [.val C,.val (.int most),.val (.int first),.val (.int n),.own (fs.map fd),.val (.bool ev),.val (.int k),.val (.int h),x8]) :=
    zeX ((zaU (a:=.int (first+k)) (b:=.int n) rfl rfl).trans ((zb1 (by omega)).trans (congrArg (λz=>Ga (jb z)) hh)))
   have b8:setS 8 (callV zaX (consL (bin dIx (gv 0) (gv 7)) (consL (gv 7) (nilL)))) [.val C,.val (.int most),.val (.int first),.val (.int n),.own (fs.map fd),.val (.bool ev),.val (.int k),.val (.int h),x8]=Ga (.nx [.val C,.val (.int most),.val (.int first),.val (.int n),.own (fs.map fd),.val (.bool ev),.val (.int k),.val (.int h),.val (.int x)]) :=
    zeX ((zb6 (ds:=[.int c,.int h]) (zfP ((zaU (a:=C) (b:=.int h) rfl rfl).trans hc) (zfP rfl rfl))).trans hx)
   have keep:∀ f∈fs,f.h<n/\f.m<32/\1<=f.a/\f.a<=5/\∃ j,j<k+1/\(f.h:Int)=(first+(j:Int))%(n:Int):=λf hf=>by
    obtain⟨z1,z2,z3,z4,j,z5,z6⟩:=i1 f hf;exact⟨z1,z2,z3,z4,j,by omega,z6⟩
   have c1:cmpB dLt (bin dMod (gv 8) (cst (.int 5))) (cst (.int 4)) (frz [.val C,.val (.int most),.val (.int first),.val (.int n),.own (fs.map fd),.val (.bool ev),.val (.int k),.val (.int h),.val (.int x)])=Ga (decide (x%5<4)):=zcD (x:=.int (x%5)) (y:=.int 4) ((zaU (a:=.int x) (b:=.int 5) rfl rfl).trans (zb1 (by decide))) rfl rfl;have c2:cmpB dLt (un dLen (gv 4)) (gv 1) (frz [.val C,.val (.int most),.val (.int first),.val (.int n),.own (fs.map fd),.val (.bool ev),.val (.int k),.val (.int h),.val (.int x)])=Ga (decide ((fs.length:Int)<most)):=by
    refine zcD (x:=.int (fs.length:Nat)) (y:=.int most) ?_ rfl rfl;show Ga (jb ((fs.map fd).length:Nat))=_;rw[jd]
   by_cases q1:x%5<4
   .by_cases q2:(fs.length:Int)<most
    .rw[Gc q1] at c1;rw[Gc q2] at c2;refine⟨[.val C,.val (.int most),.val (.int first),.val (.int n),.own (fs.map fd++[fd ⟨h,a,m⟩]),.val (.bool ev),.val (.int k),.val (.int h),.val (.int x)],rfl,?_,fs++[⟨h,a,m⟩],_,_,_,(by rw[jO];rfl),λf hf=>?_,?_,.inl (by rw[jB,kL];omega),by rw[jB,kL];omega⟩
     .rw[zaP b7,zaP b8];exact(if_t ((zjS c1).trans c2)).trans (zpI (ds:=fs.map fd) rfl ((zb6 (ds:=[.int (x/5),.int h,.int n,.bool ev]) (zfP ((zaU (a:=.int x) (b:=.int 5) rfl rfl).trans (zd9 (by decide) (by decide))) rfl)).trans hfall) (by rw[jd];omega))
     .rcases jN.mp hf with z|z
      .exact keep f z
      .rw[jh.mp z];exact⟨hn',hm,ha1,ha5,k,by omega,hh.symm⟩
     .rw[jO,ky];refine⟨i2,jH.mpr ⟨by simp,j6⟩,λy hy z hz=>?_⟩;obtain⟨f,hf,rfl⟩:=jr.mp hy;have:z=h:=jh.mp hz;subst this;obtain⟨_,_,_,_,j,hj,e⟩:=i1 f hf;intro ee;exact zw7 h2 h5 first j k hj hk (by rw[<- e,hh,ee])
    .rw[Gc q1] at c1;rw[Gd q2] at c2;exact⟨[.val C,.val (.int most),.val (.int first),.val (.int n),.own (fs.map fd),.val (.bool ev),.val (.int k),.val (.int h),.val (.int x)],rfl,(by rw[zaP b7,zaP b8];exact(if_f ((zjS c1).trans c2)).trans rfl),fs,_,_,_,rfl,keep,i2,i3,by omega⟩
   .rw[Gd q1] at c1;exact⟨[.val C,.val (.int most),.val (.int first),.val (.int n),.own (fs.map fd),.val (.bool ev),.val (.int k),.val (.int h),.val (.int x)],rfl,(by rw[zaP b7,zaP b8];exact(if_f (zpH c1)).trans rfl),fs,_,_,_,rfl,keep,i2,i3,by omega⟩)
  n 0 [.val C,.val (.int most),.val (.int first),.val (.int n),.own [],.val (.bool ev),.no,.no,.no] (by omega) ⟨[],_,_,_,rfl,λf hf=>(by cases hf),j6,.inr rfl,jY _⟩
 obtain⟨e,e1,fs,x6,x7,x8,rfl,i1,i2,i3,i4⟩:=L;obtain⟨fs',es,hp⟩:=ziA fs (by omega);have G:Good n fs:=⟨h2,h5,λf hf=>(i1 f hf).1,λf hf=>(i1 f hf).2.1,i2,λf hf=>(i1 f hf).2.2.1,λf hf=>(i1 f hf).2.2.2.1⟩;refine⟨cs.map λc=>.int (F c),fs',λd hd=>(by obtain⟨c,_,rfl⟩:=jr.mp hd;exact⟨_,rfl⟩),by rw[jd];exact hn,ze7 G hp,?_,?_⟩
 .rcases i3 with z|z
  .exact .inl (by rw[hp.length_eq];exact z)
  .subst z;exact .inr (List.perm_nil.mp hp)
 .unfold zeV;rw[zaP (e:=[.val C,.val (.int most),.val (.int first),.val (.int n),.no,.no,.no,.no,.no]) (zeX ((un_v (a:=C) rfl).trans hlenC))];rw[zaP (e:=[.val C,.val (.int most),.val (.int first),.val (.int n),.own [],.no,.no,.no,.no]) rfl];have e5:bin dEq (bin dMod (bin dDiv (gv 2) (cst (.int 8))) (cst (.int 2))) (cst (.int 1)) [.val C,.val (.int most),.val (.int first),.val (.int n),.own [],.no,.no,.no,.no]=Ga (.bool ev) :=
   (zaU (a:=.int (first/8%2)) (b:=.int 1) ((zaU (a:=.int (first/8)) (b:=.int 2) ((zaU (a:=.int first) (b:=.int 8) rfl rfl).trans (zd9 (by decide) (by decide))) rfl).trans (zb1 (by decide))) rfl).trans ((zb0 _ _).trans (congrArg (λz=>Ga (uJ z)) hev))
  rw[zaP (e:=[.val C,.val (.int most),.val (.int first),.val (.int n),.own [],.val (.bool ev),.no,.no,.no]) (zeX e5)];have er:un1L rng1 (gv 3) [.val C,.val (.int most),.val (.int first),.val (.int n),.own [],.val (.bool ev),.no,.no,.no]=Ga ((uK 0 n).map λ(k:Nat)=>jb (k:Int)):=(zjR (a:=.int n) rfl).trans ((zbO (by omega)).trans (by rw[zbC,kh]));rw[zaP ((zf8 er).trans e1)];have ec:compF (seqI (gv 0)) (λ_=>Ga true) (callV zaO (consL (gv 0) (nilL))) [] [.val C,.val (.int most),.val (.int first),.val (.int n),.own (fs.map fd),.val (.bool ev),x6,x7,x8]=Ga (cs.map λc=>jb (F c)):=by
   refine(zeY (ds:=cs.map jb) (zx5 rfl hcs) (by rw[jd];omega)).trans ((zeZ (F:=λd=>match d with|.int c=>.int (F c)|_=>.none) (λd hd=>?_)).trans ?_)
   .obtain⟨c,_,rfl⟩:=jr.mp hd;exact(zb6 (ds:=[.int c]) rfl).trans (hF c)
   .rw[ka];rfl
  have es':sortL (gl 4) [.val C,.val (.int most),.val (.int first),.val (.int n),.own (fs.map fd),.val (.bool ev),x6,x7,x8]=Ga (fs'.map fd):=es;exact(congrArg outV (zfV (zvD (zfP ((zvB ec).trans rfl) (zfP ((zvB es').trans rfl) rfl))))).trans rfl
def fof (fs:List Fl)(h:Nat):Option Fl:=fs.find? λf=>f.h==h
def up (fs:List Fl)(h:Nat)(r:Int):Bool:=match fof fs h with|some f=>decide (r<f.a)|none=>true
theorem eqH (f:Fl)(h:Nat):dEq (.int f.h) (.int h)=Ga (.bool (f.h==h)):=by
 rw[zb0];congr 2;rw[kS,beq_iff_eq,beq_iff_eq];omega
theorem ziB {fs:List Fl}{h:Nat}{f:Fl}(e:fof fs h=Ga f):f∈fs/\f.h=h:=⟨vb e,by have:=v8 e;exact beq_iff_eq.mp this⟩
def bt (m h:Nat):Bool:=decide ((m:Int)/(2^h)%2=1)
theorem zkJ {t:FT}{g:FS}{α:Type}(f:α->D)(p:α->Bool)(I:List α->En->Prop)(xs:List α)
  (st:∀ pre x suf,xs=pre++x::suf->∀ ψ,I pre ψ->∃ e1,t (f x) ψ=Ga e1/\(p x=true->∃ e2,g e1=Ga (.nx e2)/\I (pre++[x]) e2)/\(p x=false->g e1=Ga (.rt (.bool false)))) :
  ∀ suf pre ψ,xs=pre++suf->I pre ψ->(suf.all p=true->∃ e,forD t g (suf.map f) ψ=Ga (.nx e)/\I xs e)/\(suf.all p=false->forD t g (suf.map f) ψ=Ga (.rt (.bool false)))
 | [],pre,ψ,h,hI=>⟨λ_=>⟨ψ,rfl,(by rw[h,jX];exact hI)⟩,λz=>(by cases z)⟩
 | x::suf,pre,ψ,h,hI=>by
  obtain⟨e1,h1,h2,h3⟩:=st pre x suf h ψ hI;rw[jR];unfold forD;rw[h1,jf,List.all_cons];cases c:p x with
  | true =>
   obtain⟨e2,h4,h5⟩:=h2 c;rw[h4,u7];exact zkJ f p I xs st suf (pre++[x]) e2 (by rw[h,kD];rfl) h5
  | false =>
   rw[h3 c,qJ];exact⟨λz=>(by cases z),λ_=>rfl⟩
theorem zrP (fs:List Fl)(nd:(fs.map Fl.h).Nodup)(h:Nat)(r:Int):fs.all (λf=>!(f.h==h&&decide (f.a<=r)))=up fs h r:=by
 unfold up;rw[kS,kB];cases e:fof fs h with
 | none =>
  refine⟨λ_=>rfl,λ_ f hf=>?_⟩;have:=k9.mp e f hf;rw[vQ] at this;rw[this];rfl
 | some g =>
  obtain⟨g1,g2⟩:=ziB e;dsimp only;rw[decide_eq_true_eq];constructor
  .intro z;have:=z g g1;rw[g2,beq_self_eq_true,u7,vI,decide_eq_false_iff_not] at this;omega
  .intro z f hf;rw[vI,Bool.and_eq_false_iff];by_cases q:f.h=h
   .have:f=g:=by
     obtain⟨i,hi,ei⟩:=qS hf;obtain⟨j,hj,ej⟩:=qS g1;have a1:(fs.map Fl.h)[i]?=Ga h:=by rw[jq,jc hi,ei,v6,q]
     have a2:(fs.map Fl.h)[j]?=Ga h:=by rw[jq,jc hj,ej,v6,g2]
     have:=(vJ (by rw[jd];exact hi) nd).mp (a1.trans a2.symm);subst this;rw[<- ei,<- ej]
    rw[this];exact .inr (Gd (by omega))
   .exact .inl (by rw[<- vQ,beq_iff_eq];exact q)
theorem zoE (ns:List D)(fs:List Fl)(nd:(fs.map Fl.h).Nodup)(h:Nat)(r:Int):zbY [rd ns fs,.int h,.int r]=Ga (.bool (up fs h r)):=by
 rw[<- zrP fs nd h r];show outV (zfM [.val (rd ns fs),.val (.int h),.val (.int r),.no])=_;have hs:seqI (bin dIx (gv 0) (cst (.int 1))) [.val (rd ns fs),.val (.int h),.val (.int r),.no]=Ga (fs.map fd):=rfl;generalize rd ns fs=R at hs;have L:=zkJ (t:=tgN 3) (g:=ifS (andB (cmpB dEq (bin dIx (gv 3) (cst (.int 0))) (gv 1)) (cmpB dLe (bin dIx (gv 3) (cst (.int 1))) (gv 2))) (retS (cst (.bool false))) (nxS)) fd (λf=>!(f.h==h&&decide (f.a<=r)))
  (λ_ ψ=>∃ x3,ψ=[.val R,.val (.int h),.val (.int r),x3]) fs (by
   intro pre f suf hx ψ hI;obtain⟨x3,rfl⟩:=hI;refine⟨[.val R,.val (.int h),.val (.int r),.val (fd f)],rfl,?_⟩;have c1:cmpB dEq (bin dIx (gv 3) (cst (.int 0))) (gv 1) (frz [.val R,.val (.int h),.val (.int r),.val (fd f)])=Ga (f.h==h):=zcD (x:=.int f.h) (y:=.int h) rfl rfl (eqH f h);have c2:cmpB dLe (bin dIx (gv 3) (cst (.int 1))) (gv 2) (frz [.val R,.val (.int h),.val (.int r),.val (fd f)])=Ga (decide (f.a<=r)):=zcD (x:=.int f.a) (y:=.int r) rfl rfl rfl;cases q1:(f.h==h) with
   | false =>
    rw[q1] at c1;exact⟨λ_=>⟨_,(if_f (zpH c1)).trans rfl,_,rfl⟩,λz=>(by cases z)⟩
   | true =>
    rw[q1] at c1;cases q2:decide (f.a<=r) with
    | false=>rw[q2] at c2;exact⟨λ_=>⟨_,(if_f ((zjS c1).trans c2)).trans rfl,_,rfl⟩,λz=>(by cases z)⟩
    | true=>rw[q2] at c2;exact⟨λz=>(by cases z),λ_=>(if_t ((zjS c1).trans c2)).trans rfl⟩)
  fs [] [.val R,.val (.int h),.val (.int r),.no] rfl ⟨_,rfl⟩
 unfold zfM;cases q:fs.all (λf=>!(f.h==h&&decide (f.a<=r))) with
 | true =>
  obtain⟨e,e1,x3,rfl⟩:=L.1 q;rw[zaP ((zf8 hs).trans e1)];rfl
 | false =>
  rw[zeF ((zf8 hs).trans (L.2 q))];rfl
theorem zlH {f g:FB}{ψ:En}{a b:Bool}(h1:f ψ=Ga a)(h2:g ψ=Ga b):andB f g ψ=Ga (a&&b):=by
 cases a with
 | true=>exact(zjS h1).trans h2
 | false=>exact zpH h1
theorem zw8 {f g:FB}{ψ:En}{a b:Bool}(h1:f ψ=Ga a)(h2:g ψ=Ga b):orB f g ψ=Ga (a||b):=by
 cases a with
 | true=>exact or_t h1
 | false=>exact(or_f h1).trans h2
def cmB (b t:Nat)(at_:Int)(f:Fl):Bool:=!((f.h==t&&decide (f.a<=at_))||(f.h==b&&decide (f.a<at_)))&&!(f.h==b&&(decide (f.a=at_)&&!bt f.m t))
def cm (fs:List Fl)(b t:Nat)(at_:Int):Bool:=fs.all (cmB b t at_)
abbrev cmBody:FS:=(seqS (ifS (orB (andB (cmpB dEq (bin dIx (gv 4) (cst (.int 0))) (gv 2)) (cmpB dLe (bin dIx (gv 4) (cst (.int 1))) (gv 3))) (andB (cmpB dEq (bin dIx (gv 4) (cst (.int 0))) (gv 1)) (cmpB dLt (bin dIx (gv 4) (cst (.int 1))) (gv 3)))) (retS (cst (.bool false))) (nxS)) (ifS (andB (cmpB dEq (bin dIx (gv 4) (cst (.int 0))) (gv 1)) (andB (cmpB dEq (bin dIx (gv 4) (cst (.int 1))) (gv 3)) (cmpB dEq (bin dAnd (bin dShr (bin dIx (gv 4) (cst (.int 2))) (gv 2)) (cst (.int 1))) (cst (.int 0))))) (retS (cst (.bool false))) (nxS)))
theorem zt6 (m h:Nat):((m:Int)/2^h%2==0)=!bt m h:=by
 unfold bt;generalize (m:Int)/2^h=x;have:x%2=0\/x%2=1:=by omega
 rcases this with z|z<;>rw[z]<;>decide
theorem zjC (ns:List D)(fs:List Fl)(G:Good ns.length fs)(b t:Nat)(ht:t<5)(r:Int):za7 [rd ns fs,.int b,.int t,.int r]=Ga (.bool (cm fs b t r)):=by
 show outV (zdI [.val (rd ns fs),.val (.int b),.val (.int t),.val (.int r),.no])=_;have hs:seqI (bin dIx (gv 0) (cst (.int 1))) [.val (rd ns fs),.val (.int b),.val (.int t),.val (.int r),.no]=Ga (fs.map fd):=rfl;generalize rd ns fs=R at hs;have L:=zkJ (t:=tgN 4) (g:=cmBody) fd (cmB b t r)
  (λ_ ψ=>∃ x4,ψ=[.val R,.val (.int b),.val (.int t),.val (.int r),x4]) fs (by
   intro pre f suf hx ψ hI;obtain⟨x4,rfl⟩:=hI;have hm:f.m<32:=G.mb f (by rw[hx];exact jJ _ jn);refine⟨[.val R,.val (.int b),.val (.int t),.val (.int r),.val (fd f)],rfl,?_⟩;have c1:cmpB dEq (bin dIx (gv 4) (cst (.int 0))) (gv 2) (frz [.val R,.val (.int b),.val (.int t),.val (.int r),.val (fd f)])=Ga (f.h==t):=zcD (x:=.int f.h) (y:=.int t) rfl rfl (eqH f t);have c2:cmpB dLe (bin dIx (gv 4) (cst (.int 1))) (gv 3) (frz [.val R,.val (.int b),.val (.int t),.val (.int r),.val (fd f)])=Ga (decide (f.a<=r)):=zcD (x:=.int f.a) (y:=.int r) rfl rfl rfl;have c3:cmpB dEq (bin dIx (gv 4) (cst (.int 0))) (gv 1) (frz [.val R,.val (.int b),.val (.int t),.val (.int r),.val (fd f)])=Ga (f.h==b):=zcD (x:=.int f.h) (y:=.int b) rfl rfl (eqH f b);have c4:cmpB dLt (bin dIx (gv 4) (cst (.int 1))) (gv 3) (frz [.val R,.val (.int b),.val (.int t),.val (.int r),.val (fd f)])=Ga (decide (f.a<r)):=zcD (x:=.int f.a) (y:=.int r) rfl rfl rfl;have c5:cmpB dEq (bin dIx (gv 4) (cst (.int 1))) (gv 3) (frz [.val R,.val (.int b),.val (.int t),.val (.int r),.val (fd f)])=Ga (decide (f.a=r)):=zcD (x:=.int f.a) (y:=.int r) rfl rfl ((zb0 _ _).trans (by rw[show(f.a==r)=decide (f.a=r) from rfl]));have c6:cmpB dEq (bin dAnd (bin dShr (bin dIx (gv 4) (cst (.int 2))) (gv 2)) (cst (.int 1))) (cst (.int 0)) (frz [.val R,.val (.int b),.val (.int t),.val (.int r),.val (fd f)])=Ga (!bt f.m t) :=
    zcD (x:=.int ((f.m:Int)/2^t%2)) (y:=.int 0) (zoD f.m t hm ht rfl rfl) rfl ((zb0 _ _).trans (by rw[zt6]))
   have t1:orB (andB (cmpB dEq (bin dIx (gv 4) (cst (.int 0))) (gv 2)) (cmpB dLe (bin dIx (gv 4) (cst (.int 1))) (gv 3))) (andB (cmpB dEq (bin dIx (gv 4) (cst (.int 0))) (gv 1)) (cmpB dLt (bin dIx (gv 4) (cst (.int 1))) (gv 3))) (frz [.val R,.val (.int b),.val (.int t),.val (.int r),.val (fd f)])=Ga ((f.h==t&&decide (f.a<=r))||(f.h==b&&decide (f.a<r))):=zw8 (zlH c1 c2) (zlH c3 c4);have t2:andB (cmpB dEq (bin dIx (gv 4) (cst (.int 0))) (gv 1)) (andB (cmpB dEq (bin dIx (gv 4) (cst (.int 1))) (gv 3)) (cmpB dEq (bin dAnd (bin dShr (bin dIx (gv 4) (cst (.int 2))) (gv 2)) (cst (.int 1))) (cst (.int 0)))) (frz [.val R,.val (.int b),.val (.int t),.val (.int r),.val (fd f)])=Ga (f.h==b&&(decide (f.a=r)&&!bt f.m t)):=zlH c3 (zlH c5 c6);unfold cmB;generalize ((f.h==t&&decide (f.a<=r))||(f.h==b&&decide (f.a<r)))=A at t1;generalize (f.h==b&&(decide (f.a=r)&&!bt f.m t))=B at t2;cases A with
   | true=>exact⟨λz=>(by cases z),λ_=>(zeF ((if_t t1).trans rfl)).trans rfl⟩
   | false =>
    cases B with
    | true=>exact⟨λz=>(by cases z),λ_=>(zaP ((if_f t1).trans rfl)).trans ((if_t t2).trans rfl)⟩
    | false=>exact⟨λ_=>⟨_,(zaP ((if_f t1).trans rfl)).trans ((if_f t2).trans rfl),_,rfl⟩,λz=>(by cases z)⟩)
  fs [] [.val R,.val (.int b),.val (.int t),.val (.int r),.no] rfl ⟨_,rfl⟩
 unfold zdI;unfold cm;cases q:fs.all (cmB b t r) with
 | true =>
  obtain⟨e,e1,x3,rfl⟩:=L.1 q;rw[zaP ((zf8 hs).trans e1)];rfl
 | false =>
  rw[zeF ((zf8 hs).trans (L.2 q))];rfl
def Vw (ns:List D)(fs:List Fl):Nat->Nat->D
 | 0,h=>.tuple [.int h,ns.getD h .none]
 | r+1,h=>if up fs h ((r:Int)+1) then .tuple [.int h,.tuple ((jk ns.length).map λb=>if b==h||cm fs b h ((r:Int)+1) then Vw ns fs r b else .none)] else .none
def prt (ns:List D)(fs:List Fl)(r h b:Nat):D:=if b==h||cm fs b h ((r:Int)+1) then Vw ns fs r b else .none
def rowV (ns:List D)(fs:List Fl)(r:Nat):List D:=(jk ns.length).map (Vw ns fs r)
def ptS (p:Nat->D)(n s:Nat):List D:=(jk n).map λb=>if b<s then p b else .none
theorem zt7 (p:Nat->D)(n s:Nat):(ptS p n s).set s (p s)=ptS p n (s+1):=by
 refine ql λi=>?_;unfold ptS;rw[List.getElem?_set,jq,jq,jd,jz];by_cases hi:i<n
 .rw[uj hi];by_cases e:s=i
  .subst e;rw[Ge rfl,Ge hi];show Ga (p s)=Ga (if s<s+1 then p s else .none);rw[Ge (vN s)]
  .rw[Gf e];show Ga (if i<s then p i else .none)=Ga (if i<s+1 then p i else .none);by_cases c:i<s
   .rw[Ge c,Ge (by omega)]
   .rw[Gf c,Gf (by omega)]
 .rw[kr (l:=jk n) (by rw[jz];omega)];by_cases e:s=i
  .rw[Ge e,Gf (by omega)];rfl
  .rw[Gf e];rfl
theorem zqO {p:Nat->D}{s:Nat}(n:Nat)(h:p s=.none):ptS p n s=ptS p n (s+1):=by
 unfold ptS;refine jQ λb _=>?_;by_cases c:b<s
 .rw[Ge c,Ge (by omega)]
 .rw[Gf c];by_cases e:b=s
  .subst e;rw[Ge (by omega),h]
  .rw[Gf (by omega)]
theorem zqP (p:Nat->D)(n:Nat):ptS p n 0=jF n .none:=by
 unfold ptS;rw[jQ (g:=λ_=>uR) λb _=>Gf (by omega)];rw[List.map_const',jz]
theorem zt8 (p:Nat->D)(n:Nat):ptS p n n=(jk n).map p:=by
 unfold ptS;exact jQ λb hb=>Ge (jK.mp hb)
theorem zyD {f:FL}{g:FV}{ψ:En}{xs:List D}{y:D}(h1:f ψ=Ga xs)(h2:g ψ=Ga y):repL f g ψ=repD xs y:=by show(f ψ).bind _=_;rw[h1];show(g ψ).bind _=_;rw[h2];rfl
theorem zqQ (n:Nat)(x:D):(jF n [x]).flatten=jF n x:=by
 induction n with
 | zero=>rfl
 | succ k ih=>rw[kX,uv,ih];rfl
theorem zqR (x:D)(n:Nat)(h:n<1000):repD [x] (.int (n:Int))=Ga (jF n x):=by
 have c:0<=(n:Int)/\(n:Int)<1000000/\[x].length*(n:Int).toNat<=1000000:=⟨by omega,by omega,by rw[kL,jD];omega⟩;unfold repD;dsimp only;rw[Ge c,jD,zqQ]
theorem zjD {fe:FV}{base:En}{F:D->D}:∀ {ds:List D},(∀ d∈ds,∃ a b,d=.tuple [a,b]/\fe (.val a::.val b::base)=Ga (F d))->compD (lift2 λ_=>Ga true) (lift2 fe) base ds=Ga (ds.map F)
 | [],_=>rfl
 | x::r,h=>by
  obtain⟨a,b,e,hf⟩:=h x jn;unfold compD;have e1:lift2 (λ_=>Ga true) (Sl.val x::base)=Ga true:=by rw[e];rfl
  have e2:lift2 fe (Sl.val x::base)=Ga (F x):=by rw[<- hf,e];rfl
  rw[e1,jf,Ge rfl,e2,jf,zjD λd hd=>h d (jm _ hd)];rfl
theorem zyE {i:Nat}{fi f:FV}{ψ:En}{ds es:List D}{k v:D}(h1:f ψ=Ga v)(h2:go i ψ=Ga ds)(h3:fi ψ=Ga k)(h4:stoL ds k v=Ga es):stoS i fi f ψ=Ga (.nx (ψ.set i (.own es))):=by
 show(f ψ).bind _=_;rw[h1];show(go i ψ).bind _=_;rw[h2];show(fi ψ).bind _=_;rw[h3];show(stoL ds k v).bind _=_;rw[h4];rfl
theorem zyF {f:FL}{g:FV}{ψ:En}{x:List D}{y:D}(h1:f ψ=Ga x)(h2:g ψ=Ga y):ixS f g ψ=dIxL x y:=by show(f ψ).bind _=_;rw[h1];show(g ψ).bind _=_;rw[h2];rfl
abbrev inBody:FS:=(ifS (orB (cmpB dEq (gv 8) (gv 2)) (tst (callV za7 (consL (gv 0) (consL (gv 8) (consL (gv 2) (consL (gv 5) (nilL)))))))) (stoS 7 (gv 8) (bin dIx (ixS (gl 3) (un dNeg (cst (.int 1)))) (gv 8))) (nxS))
abbrev midBody:FS:=(seqS (setO 7 (repL (consL (cst .none) (nilL)) (gv 4))) (seqS (forS (un1L rng1 (gv 4)) (tgN 8) (ifS (orB (cmpB dEq (gv 8) (gv 2)) (tst (callV za7 (consL (gv 0) (consL (gv 8) (consL (gv 2) (consL (gv 5) (nilL)))))))) (stoS 7 (gv 8) (bin dIx (ixS (gl 3) (un dNeg (cst (.int 1)))) (gv 8))) (nxS))) (ifS (tst (callV zbY (consL (gv 0) (consL (gv 2) (consL (gv 5) (nilL)))))) (appS 6 (tupV (consL (gv 2) (consL (unL dTupL (gl 7)) (nilL))))) (appS 6 (cst .none)))))
abbrev outBody:FS:=(seqS (setO 6 (nilL)) (seqS (forS (un1L rng1 (gv 4)) (tgN 2) (seqS (setO 7 (repL (consL (cst .none) (nilL)) (gv 4))) (seqS (forS (un1L rng1 (gv 4)) (tgN 8) (ifS (orB (cmpB dEq (gv 8) (gv 2)) (tst (callV za7 (consL (gv 0) (consL (gv 8) (consL (gv 2) (consL (gv 5) (nilL)))))))) (stoS 7 (gv 8) (bin dIx (ixS (gl 3) (un dNeg (cst (.int 1)))) (gv 8))) (nxS))) (ifS (tst (callV zbY (consL (gv 0) (consL (gv 2) (consL (gv 5) (nilL)))))) (appS 6 (tupV (consL (gv 2) (consL (unL dTupL (gl 7)) (nilL))))) (appS 6 (cst .none)))))) (frzS 6 (appS 3 (gv 6)))))
theorem zt9 (ns:List D)(fs:List Fl)(r k:Nat)(h:k<ns.length):(rowV ns fs r)[k]?=Ga (Vw ns fs r k):=by
 unfold rowV;rw[jq,uj h];rfl
theorem zuA (ns:List D)(fs:List Fl)(G:Good ns.length fs)(r h:Nat)(hh:h<ns.length)(w1 x6 x8:Sl)(rs:List D)(at_:Int)(ha:at_=(r:Int)+1) :
  ∃ y8,forD (tgN 8) inBody (rngD 0 ns.length) [.val (rd ns fs),w1,.val (.int h),.own (rs++[.list (rowV ns fs r)]),.val (.int ns.length),.val (.int at_),x6,.own (ptS (prt ns fs r h) ns.length 0),x8] =
   Ga (.nx [.val (rd ns fs),w1,.val (.int h),.own (rs++[.list (rowV ns fs r)]),.val (.int ns.length),.val (.int at_),x6,.own ((jk ns.length).map (prt ns fs r h)),y8]):=by
 have n5:=G.n5;have hcm:=λk=>zjC ns fs G k h (by omega) at_;have hrow:=zt9 ns fs r;have hprt:∀ b,prt ns fs r h b=if b==h||cm fs b h at_ then Vw ns fs r b else .none:=λb=>by rw[ha];rfl
 have hlen:∀ s,(ptS (prt ns fs r h) ns.length s).length=ns.length:=λs=>by unfold ptS;rw[jd,jz]
 have hset:=zt7 (prt ns fs r h) ns.length;have hskip:=λ(s:Nat)=>zqO (p:=prt ns fs r h) (s:=s) ns.length;rw[<- zt8];generalize prt ns fs r h=p at hprt hlen hset hskip;generalize rowV ns fs r=W at hrow;generalize rd ns fs=R at hcm;have L:=zgR (t:=tgN 8) (g:=inBody) (λs ψ=>∃ y8,ψ=[.val R,w1,.val (.int h),.own (rs++[.list W]),.val (.int ns.length),.val (.int at_),x6,.own (ptS p ns.length s),y8]) ns.length (by
  intro k hk ψ hI;obtain⟨y8,rfl⟩:=hI;refine⟨[.val R,w1,.val (.int h),.own (rs++[.list W]),.val (.int ns.length),.val (.int at_),x6,.own (ptS p ns.length k),.val (.int k)],?_⟩;have c1:cmpB dEq (gv 8) (gv 2) (frz [.val R,w1,.val (.int h),.own (rs++[.list W]),.val (.int ns.length),.val (.int at_),x6,.own (ptS p ns.length k),.val (.int k)])=Ga (k==h):=zcD (x:=.int k) (y:=.int h) rfl rfl (eqH ⟨k,0,0⟩ h);have c2:tst (callV za7 (consL (gv 0) (consL (gv 8) (consL (gv 2) (consL (gv 5) (nilL)))))) (frz [.val R,w1,.val (.int h),.own (rs++[.list W]),.val (.int ns.length),.val (.int at_),x6,.own (ptS p ns.length k),.val (.int k)])=Ga (cm fs k h at_):=ziR ((zb6 (ds:=[R,.int k,.int h,.int at_]) rfl).trans (hcm k)) rfl;have c:=zw8 c1 c2;have hp:=hprt k;cases q:(k==h||cm fs k h at_) with
  | true =>
   rw[q] at c hp;rw[Ge rfl] at hp;refine⟨[.val R,w1,.val (.int h),.own (rs++[.list W]),.val (.int ns.length),.val (.int at_),x6,.own (ptS p ns.length (k+1)),.val (.int k)],rfl,(if_t c).trans ?_,⟨_,rfl⟩⟩
   .have e1:bin dIx (ixS (gl 3) (un dNeg (cst (.int 1)))) (gv 8) [.val R,w1,.val (.int h),.own (rs++[.list W]),.val (.int ns.length),.val (.int at_),x6,.own (ptS p ns.length k),.val (.int k)]=Ga (p k):=by
     rw[hp];exact(zaU (a:=.list W) (b:=.int k) ((zyF (x:=rs++[kE W]) (y:=jb (-1)) rfl rfl).trans (show dIxL (rs++[kE W]) (jb (-1))=Ga (kE W) from L2.atI_last rs (kE W))) rfl).trans (L2.atI_nat (hrow k hk))
    have e2:stoL (ptS p ns.length k) (.int k) (p k)=Ga (ptS p ns.length (k+1)):=by
     show(L2.ixN (ptS p ns.length k).length (k:Int)).bind _=_;have:L2.ixN (ptS p ns.length k).length (k:Int)=Ga k:=by
      unfold L2.ixN;rw[hlen,Ge (by omega),Ge (by omega)];simp
     rw[this,jf,hset]
    exact(zyE e1 rfl rfl e2).trans rfl
  | false =>
   rw[q] at c hp;rw[Gf jx] at hp;exact⟨_,rfl,(if_f c).trans rfl,⟨_,by rw[hskip k hp]⟩⟩) ns.length 0 [.val R,w1,.val (.int h),.own (rs++[.list W]),.val (.int ns.length),.val (.int at_),x6,.own (ptS p ns.length 0),x8] (ud _) ⟨_,rfl⟩
 obtain⟨e,e1,y8,rfl⟩:=L;refine⟨y8,?_⟩;rw[zbC,kh];exact e1
theorem zqS (ns:List D)(fs:List Fl)(G:Good ns.length fs)(r:Nat)(w1 x2 x7 x8:Sl)(rs:List D)(at_:Int)(ha:at_=(r:Int)+1) :
  ∃ y2 y7 y8,forD (tgN 2) midBody (rngD 0 ns.length) [.val (rd ns fs),w1,x2,.own (rs++[.list (rowV ns fs r)]),.val (.int ns.length),.val (.int at_),.own [],x7,x8] =
   Ga (.nx [.val (rd ns fs),w1,y2,.own (rs++[.list (rowV ns fs r)]),.val (.int ns.length),.val (.int at_),.own (rowV ns fs (r+1)),y7,y8]):=by
 have n5:=G.n5;have hin:=λh hh=>zuA ns fs G r h hh w1;have hup:=λk=>zoE ns fs G.nd k at_;have hV:∀ k,Vw ns fs (r+1) k=if up fs k at_ then .tuple [.int k,.tuple ((jk ns.length).map (prt ns fs r k))] else .none:=λk=>by rw[ha];rfl
 unfold rowV at hin ⊢;generalize (jk ns.length).map (Vw ns fs r)=W at hin ⊢;generalize rd ns fs=R at hin hup ⊢;have L:=zgR (t:=tgN 2) (g:=midBody) (λs ψ=>∃ y2 y7 y8,ψ=[.val R,w1,y2,.own (rs++[.list W]),.val (.int ns.length),.val (.int at_),.own ((jk s).map (Vw ns fs (r+1))),y7,y8]) ns.length (by
  intro k hk ψ hI;obtain⟨y2,y7,y8,rfl⟩:=hI;obtain⟨z8,hl⟩:=hin k hk (.own ((jk k).map (Vw ns fs (r+1)))) y8 rs at_ ha;have hu:=hup k;have hv:=hV k;have hle:((jk k).map (Vw ns fs (r+1))).length<1000000:=by rw[jd,jz];omega
  have hsn:(jk (k+1)).map (Vw ns fs (r+1))=(jk k).map (Vw ns fs (r+1))++[Vw ns fs (r+1) k]:=by rw[vn,jO];rfl
  rw[hsn];generalize Vw ns fs (r+1) k=v at hv ⊢;generalize (jk k).map (Vw ns fs (r+1))=row at hl hle ⊢;rw[zqP] at hl;generalize (jk ns.length).map (prt ns fs r k)=P at hl hv;have s7:setO 7 (repL (consL (cst .none) (nilL)) (gv 4)) [.val R,w1,.val (.int k),.own (rs++[.list W]),.val (.int ns.length),.val (.int at_),.own row,y7,y8]=Ga (.nx [.val R,w1,.val (.int k),.own (rs++[.list W]),.val (.int ns.length),.val (.int at_),.own row,.own (jF ns.length .none),y8]):=by
   refine zr5 ((zyD (xs:=[uR]) (y:=jb ns.length) rfl rfl).trans (zqR .none ns.length (by omega)))
  have fr:un1L rng1 (gv 4) [.val R,w1,.val (.int k),.own (rs++[.list W]),.val (.int ns.length),.val (.int at_),.own row,.own (jF ns.length .none),y8]=Ga (rngD 0 ns.length):=(zjR rfl).trans (zbO (by omega));have cu:tst (callV zbY (consL (gv 0) (consL (gv 2) (consL (gv 5) (nilL))))) (frz [.val R,w1,.val (.int k),.own (rs++[.list W]),.val (.int ns.length),.val (.int at_),.own row,.own P,z8])=Ga (up fs k at_):=ziR ((zb6 (ds:=[R,.int k,.int at_]) rfl).trans hu) rfl;refine⟨[.val R,w1,.val (.int k),.own (rs++[.list W]),.val (.int ns.length),.val (.int at_),.own row,y7,y8],[.val R,w1,.val (.int k),.own (rs++[.list W]),.val (.int ns.length),.val (.int at_),.own (row++[v]),.own P,z8],rfl,?_,⟨_,_,_,rfl⟩⟩;unfold midBody;rw[zaP s7,zaP ((zf8 fr).trans hl)];cases q:up fs k at_ with
  | true =>
   rw[q] at cu hv;rw[Ge rfl] at hv;rw[if_t cu,hv];exact(zpI (ds:=row) (d:=.tuple [.int k,.tuple P]) rfl rfl hle).trans rfl
  | false =>
   rw[q] at cu hv;rw[Gf jx] at hv;rw[if_f cu,hv];exact(zpI (ds:=row) (d:=.none) rfl rfl hle).trans rfl) ns.length 0 [.val R,w1,x2,.own (rs++[.list W]),.val (.int ns.length),.val (.int at_),.own [],x7,x8] (ud _) ⟨_,_,_,rfl⟩
 obtain⟨e,e1,y2,y7,y8,rfl⟩:=L;refine⟨y2,y7,y8,?_⟩;rw[zbC,kh];rw[kh] at e1;exact e1
def rowsV (ns:List D)(fs:List Fl)(m:Nat):List D:=(jk m).map λr=>.list (rowV ns fs r)
theorem zjE (ns:List D)(fs:List Fl)(G:Good ns.length fs)(r:Nat)(hr:r<3):zbN [rd ns fs,.int (r:Int)]=Ga (.list (rowsV ns fs (r+1))):=by
 have n5:=G.n5;show outV (zdJ [.val (rd ns fs),.val (.int (r:Int)),.no,.no,.no,.no,.no,.no,.no])=_;have s3:setO 3 (consL (lstV (compF (un1L enuT (bin dIx (gv 0) (cst (.int 0)))) (lift2 λ_=>Ga true) (lift2 (tupV (consL (gv 0) (consL (gv 1) (nilL))))) [])) (nilL)) [.val (rd ns fs),.val (.int (r:Int)),.no,.no,.no,.no,.no,.no,.no]=Ga (.nx [.val (rd ns fs),.val (.int (r:Int)),.no,.own (rowsV ns fs 1),.no,.no,.no,.no,.no]):=by
  refine zr5 (zfP (zr6 ((zeY (ds:=(jk ns.length).map λ(i:Nat)=>kH [.int (i:Int),ns.getD i .none]) rfl (by rw[jd,jz];omega)).trans ((zjD (F:=λd=>d) λd hd=>?_).trans ?_))) rfl)
  .obtain⟨i,_,rfl⟩:=jr.mp hd;exact⟨_,_,rfl,rfl⟩
  .rw[List.map_id'];rfl
 have s4:setS 4 (un dLen (bin dIx (gv 0) (cst (.int 0)))) [.val (rd ns fs),.val (.int (r:Int)),.no,.own (rowsV ns fs 1),.no,.no,.no,.no,.no]=Ga (.nx [.val (rd ns fs),.val (.int (r:Int)),.no,.own (rowsV ns fs 1),.val (.int ns.length),.no,.no,.no,.no]):=rfl;have hmid:=λr w1=>zqS ns fs G r w1;have hsn:∀ m,rowsV ns fs (m+1)=rowsV ns fs m++[.list (rowV ns fs m)]:=λm=>by unfold rowsV;rw[vn,jO];rfl
 have hlen:∀ m,(rowsV ns fs m).length=m:=λm=>by unfold rowsV;rw[jd,jz]
 unfold zdJ;rw[zaP s3,zaP s4];generalize rowsV ns fs=rw_ at hsn hlen ⊢;generalize rd ns fs=R at hmid ⊢;have L:=zgR (t:=tgN 5) (g:=outBody) (λs ψ=>1<=s/\∃ y2 y5 y6 y7 y8,ψ=[.val R,.val (.int (r:Int)),y2,.own (rw_ s),.val (.int ns.length),y5,y6,y7,y8]) (r+1) (by
  intro k hk ψ hI;obtain⟨h1,y2,y5,y6,y7,y8,rfl⟩:=hI;obtain⟨j,rfl⟩:∃ j,k=j+1:=⟨k-1,by omega⟩;obtain⟨z2,z7,z8,hl⟩:=hmid j (.val (.int (r:Int))) y2 y7 y8 (rw_ j) ((j+1:Nat):Int) (by omega);rw[<- hsn] at hl;have fr:un1L rng1 (gv 4) [.val R,.val (.int (r:Int)),y2,.own (rw_ (j+1)),.val (.int ns.length),.val (.int ((j+1:Nat):Int)),.own [],y7,y8]=Ga (rngD 0 ns.length):=(zjR rfl).trans (zbO (by omega));have hz:=hlen (j+1);rw[hsn (j+1)];generalize rowV ns fs (j+1)=W at hl ⊢;refine⟨[.val R,.val (.int (r:Int)),y2,.own (rw_ (j+1)),.val (.int ns.length),.val (.int ((j+1:Nat):Int)),y6,y7,y8],[.val R,.val (.int (r:Int)),z2,.own (rw_ (j+1)++[.list W]),.val (.int ns.length),.val (.int ((j+1:Nat):Int)),.val (.list W),z7,z8],rfl,?_,by omega,⟨_,_,_,_,_,rfl⟩⟩;exact(zaP (e:=[.val R,.val (.int (r:Int)),y2,.own (rw_ (j+1)),.val (.int ns.length),.val (.int ((j+1:Nat):Int)),.own [],y7,y8]) rfl).trans ((zaP ((zf8 fr).trans hl)).trans ((zpI (ds:=rw_ (j+1)) (d:=.list W) rfl rfl (by rw[hz];omega)).trans rfl))) r 1 [.val R,.val (.int (r:Int)),.no,.own (rw_ 1),.val (.int ns.length),.no,.no,.no,.no] (Nat.add_comm 1 r) ⟨jo _,⟨_,_,_,_,_,rfl⟩⟩
 obtain⟨e,e1,_,y2,y5,y6,y7,y8,rfl⟩:=L;have fr:binL rng2 (cst (.int 1)) (bin dAdd (gv 1) (cst (.int 1))) [.val R,.val (.int (r:Int)),.no,.own (rw_ 1),.val (.int ns.length),.no,.no,.no,.no]=Ga ((uK 1 r).map λ(k:Nat)=>jb (k:Int)):=(zvE (a:=.int 1) (b:=.int ((r:Int)+1)) rfl rfl).trans (zw3 r (by omega));rw[zaP ((zf8 fr).trans e1)];rfl
theorem zkK {n:Nat}{fs:List Fl}(G:Good n fs)(b t:Nat)(r:Int):cm fs b t r=true↔∀ f∈fs,(f.h=t->r<f.a)/\(f.h=b->r<=f.a/\(f.a=r->bt f.m t=true)):=by
 unfold cm;rw[kB];refine forall_congr' λf=>forall_congr' λ_=>?_;unfold cmB;by_cases h1:f.h=t<;>by_cases h2:f.h=b<;>by_cases h3:f.a<r<;>by_cases h4:f.a=r<;>by_cases h5:f.a<=r<;>cases h6:bt f.m t<;>simp[h1,h2,h3,h4,h5,h6]<;>omega
theorem ziC {n:Nat}{fs:List Fl}(G:Good n fs)(h:Nat)(r:Int):up fs h r=true↔∀ f∈fs,f.h=h->r<f.a:=by
 rw[<- zrP fs G.nd h r,kB];refine forall_congr' λf=>forall_congr' λ_=>?_;by_cases h1:f.h=h<;>by_cases h2:f.a<=r<;>simp[h1,h2]<;>omega
def vw (ns:List D)(fs:List Fl):Nat->Nat->D
 | 0,h=>.tuple [.int h,ns.getD h .none]
 | r+1,h=>.tuple [.int h,.tuple ((jk ns.length).map λo=>if o=h\/cm fs o h ((r+1:Nat):Int)=true then vw ns fs r o else .none)]
theorem zuB (ns:List D)(fs:List Fl)(r h:Nat):dIsnt (vw ns fs r h) .none=Ga (.bool true):=by cases r<;>rfl
theorem zd8:∀ {xs:List D} {n:Nat},(∀ x∈xs,keyD x n=true)->keyAll xs n=true
 | [],_,_=>by rw[keyAll]
 | x::xs,n,h=>by rw[keyAll,h x jn,zd8 λy hy=>h y (jm _ hy)];rfl
theorem zrQ (ns:List D)(fs:List Fl)(hi:∀ d∈ns,∃ i:Int,d=.int i):∀ (r h m:Nat),2*r+1<=m->keyD (vw ns fs r h) m=true
 | 0,h,m,hm=>by
  obtain⟨m',rfl⟩:∃ m',m=m'+1:=⟨m-1,by omega⟩;show keyD (.tuple [.int h,ns.getD h .none]) (m'+1)=true;rw[keyD];refine zd8 λx hx=>?_;rcases ju.mp hx with rfl|hx
  .rw[keyD]
  .cases jh.mp hx;by_cases hh:h<ns.length
   .obtain⟨i,e⟩:=hi _ (kU hh);rw[ji,jc hh];show keyD ns[h] m'=true;rw[e,keyD]
   .rw[ji,kr (by omega)];show keyD uR m'=true;rw[keyD]
 | r+1,h,m,hm=>by
  obtain⟨m',rfl⟩:∃ m',m=m'+2:=⟨m-2,by omega⟩;show keyD (.tuple [.int h,.tuple ((jk ns.length).map λo=>if o=h\/cm fs o h ((r+1:Nat):Int)=true then vw ns fs r o else .none)]) (m'+1+1)=true;rw[keyD];refine zd8 λx hx=>?_;rcases ju.mp hx with rfl|hx
  .rw[keyD]
  .cases jh.mp hx;rw[keyD];refine zd8 λy hy=>?_;obtain⟨o,_,rfl⟩:=jr.mp hy;split
   .exact zrQ ns fs hi r o m' (by omega)
   .rw[keyD]
theorem zuC (ns:List D)(fs:List Fl)(r h:Nat):isTup (vw ns fs r h)=true:=by cases r<;>rfl
def hd (fs:List Fl)(h:Nat)(r:Nat)(o:Nat):Bool:=decide (o=h)||cm fs o h (r:Int)
theorem zkL {α:Type}{fc:FB}{fe:FV}{base:En}(f:α->D)(p:α->Bool)(F:α->D):∀ {l:List α},(∀ a∈l,fc (.val (f a)::base)=Ga (p a))->(∀ a∈l,p a=true->fe (.val (f a)::base)=Ga (F a))->compD fc fe base (l.map f)=Ga ((l.filter p).map F)
 | [],_,_=>rfl
 | x::r,h1,h2=>by
  have ih:=zkL (fc:=fc) (fe:=fe) (base:=base) f p F (l:=r) (λa ha=>h1 a (jm _ ha)) (λa ha=>h2 a (jm _ ha));rw[jR];unfold compD;rw[h1 x jn,jf];cases c:p x with
  | true=>rw[Ge rfl,h2 x jn c,jf,ih,ua c];rfl
  | false=>rw[Gf jx,ih,ub (by rw[c];exact jx)]
theorem zkM {α:Type}{fe:FV}{base:En}(f:α->D)(F:α->D){l:List α}(h2:∀ a∈l,fe (.val (f a)::base)=Ga (F a)):compD (λ_=>Ga true) fe base (l.map f)=Ga (l.map F):=by
 rw[zkL (fc:=λ_=>Ga true) f (λ_=>true) F (λ_ _=>rfl) (λa ha _=>h2 a ha)];rw[List.filter_eq_self.mpr (λ_ _=>rfl)]
theorem V_eq (ns:List D)(fs:List Fl)(G:Good ns.length fs):∀ r h:Nat,up fs h (r:Int)=true->Vw ns fs r h=vw ns fs r h
 | 0,h,_=>rfl
 | r+1,h,hu=>by
  have ec:((r+1:Nat):Int)=(r:Int)+1:=by omega
  have hu':up fs h ((r:Int)+1)=true:=by rw[<- ec];exact hu
  show(if up fs h ((r:Int)+1)=true then _ else _)=_;rw[Ge hu'];show _=kH [.int h,.tuple ((jk ns.length).map λo=>if o=h\/cm fs o h ((r+1:Nat):Int)=true then vw ns fs r o else .none)];refine congrArg (λl=>kH [.int (h:Int),.tuple l]) (jQ λb hb=>?_);rw[ec];by_cases c:b=h\/cm fs b h ((r:Int)+1)=true
  .have c':(b==h||cm fs b h ((r:Int)+1))=true:=by rw[u4,beq_iff_eq];exact c
   rw[Ge c,Ge c'];refine V_eq ns fs G r b ?_;rw[ziC G] at hu' ⊢;intro f hf e;rcases c with rfl|c
   .have:=hu' f hf e;omega
   .have:=((zkK G b h _).mp c f hf).2 e;omega
  .have c':¬(b==h||cm fs b h ((r:Int)+1))=true:=by rw[u4,beq_iff_eq];exact c
   rw[Gf c,Gf c']
theorem zw9 {ns:List D}{fs:List Fl}(G:Good ns.length fs){r h:Nat}(hu:up fs h (r:Int)=false):Vw ns fs r h=.none:=by
 cases r with
 | zero =>
  have:up fs h ((0:Nat):Int)=true:=by
   rw[ziC G];intro f hf _;have:=G.ab f hf;omega
  rw[this] at hu;cases hu
 | succ r =>
  have ec:((r+1:Nat):Int)=(r:Int)+1:=by omega
  rw[ec] at hu;show(if up fs h ((r:Int)+1)=true then _ else _)=_;rw[hu,Gf jx]
theorem zyG (ns:List D)(fs:List Fl)(r h:Nat):∃ ds,vw ns fs r h=.tuple ds:=by cases r<;>exact⟨_,rfl⟩
def hl (n:Nat)(p:Nat->Bool):List D:=(jk n).map λo=>.bool (p o)
def fofD (fs:List Fl)(h:Nat):D:=match fof fs h with|some f=>fd f|none=>.none
theorem zjF (a:Sl)(h:Nat):∀ (fs:List Fl) (x:Sl),
  (fof fs h=Gb->∃ x',forD (tgN 2) (ifS (cmpB dEq (bin dIx (gv 2) (cst (.int 0))) (gv 1)) (retS (gv 2)) (nxS)) (fs.map fd) [a,.val (.int h),x]=Ga (.nx [a,.val (.int h),x'])) /\
  (∀ f,fof fs h=Ga f->forD (tgN 2) (ifS (cmpB dEq (bin dIx (gv 2) (cst (.int 0))) (gv 1)) (retS (gv 2)) (nxS)) (fs.map fd) [a,.val (.int h),x]=Ga (.rt (fd f)))
 | [],x=>⟨λ_=>⟨x,rfl⟩,λf e=>by cases e⟩
 | f::r,x=>by
  obtain⟨i1,i2⟩:=zjF a h r (.val (fd f));have hc:cmpB dEq (bin dIx (gv 2) (cst (.int 0))) (gv 1) (frz [a,.val (.int h),.val (fd f)])=Ga (f.h==h):=zcD (x:=.int f.h) (y:=.int h) rfl rfl (eqH f h);by_cases hh:(f.h==h)=true
  .have ef:fof (f::r) h=Ga f:=by unfold fof;exact kA (p:=λ(f:Fl)=>f.h==h) hh
   rw[ef];refine⟨λe=>by(cases e),λf' e=>?_⟩;cases e;rw[jR];unfold forD;rw[show tgN 2 (fd f) [a,.val (.int h),x]=Ga [a,.val (.int h),.val (fd f)] from rfl,jf,if_t (hc.trans (congrArg Ga hh))];rfl
  .have ef:fof (f::r) h=fof r h:=by unfold fof;exact kI (p:=λ(f:Fl)=>f.h==h) hh
   have hf:(f.h==h)=false:=by cases hq:(f.h==h) with|true=>exact absurd hq hh|false=>rfl
   have st:∀ o,forD (tgN 2) (ifS (cmpB dEq (bin dIx (gv 2) (cst (.int 0))) (gv 1)) (retS (gv 2)) (nxS)) (r.map fd) [a,.val (.int h),.val (fd f)]=o->forD (tgN 2) (ifS (cmpB dEq (bin dIx (gv 2) (cst (.int 0))) (gv 1)) (retS (gv 2)) (nxS)) ((f::r).map fd) [a,.val (.int h),x]=o:=by
    intro o e;rw[jR];rw[show ∀ t g d (ds:List D) ψ,forD t g (d::ds) ψ=(t d ψ).bind λe1=>(g e1).bind λo=>match o with|.nx e=>forD t g ds e|.ct e=>forD t g ds e|.bk e=>Ga (.nx e)|.rt d=>Ga (.rt d)|.ro ds=>Ga (.ro ds)|.rm a k=>Ga (.rm a k)|.rc d e=>Ga (.rc d e) from λ_ _ _ _ _=>rfl];rw[show tgN 2 (fd f) [a,.val (.int h),x]=Ga [a,.val (.int h),.val (fd f)] from rfl,jf,if_f (hc.trans (congrArg Ga hf))];exact e
   rw[ef];exact⟨λe=>by obtain⟨x',e'⟩:=i1 e;exact⟨x',st _ e'⟩,λf' e=>st _ (i2 f' e)⟩
theorem zhJ (ns:List D)(fs:List Fl)(h:Nat):zcQ [rd ns fs,.int h]=Ga (fofD fs h):=by
 obtain⟨i1,i2⟩:=zjF (.val (rd ns fs)) h fs .no;show outV (zeT [.val (rd ns fs),.val (.int h),.no])=_;unfold zeT fofD;cases e:fof fs h with
 | none =>
  obtain⟨x',e'⟩:=i1 e;rw[zaP ((zf8 (ds:=fs.map fd) rfl).trans e')];rfl
 | some f=>rw[zeF ((zf8 (ds:=fs.map fd) rfl).trans (i2 f e))];rfl
theorem zlI (ns:List D)(fs:List Fl)(h:Nat)(r:Int):zcC [rd ns fs,.int h,.int r]=Ga (.bool (up fs h r)):=by
 show outV (zgL [.val (rd ns fs),.val (.int h),.val (.int r),.no])=_;unfold zgL;rw[zaP (e:=[.val (rd ns fs),.val (.int h),.val (.int r),.val (fofD fs h)]) (zeX ((zb6 (ds:=[rd ns fs,.int h]) rfl).trans (zhJ ns fs h)))];unfold fofD up;cases fof fs h<;>rfl
theorem zoF (ns:List D)(fs:List Fl):za9 [rd ns fs]=Ga (.int ns.length):=rfl
theorem zxA (ns:List D)(fs:List Fl)(r:Int)(hn:ns.length<=5):zcZ [rd ns fs,.int r]=Ga (((jk ns.length).filter λh=>up fs h r).map λ(h:Nat)=>jb (h:Int)):=by
 show outO (zdF [.val (rd ns fs),.val (.int r)])=_;have ei:(un1L rng1 (callV za9 (consL (gv 0) (nilL)))) [.val (rd ns fs),.val (.int r)]=Ga (rngD 0 ns.length) :=
  (zjR (a:=.int ns.length) ((zb6 (ds:=[rd ns fs]) rfl).trans (zoF ns fs))).trans (zbO (by omega))
 have e:=zx3 ((zeY (fc:=tst (callV zcC (consL (gv 2) (consL (gv 0) (consL (gv 1) (nilL)))))) (fe:=gv 0) (ix:=[1,0]) ei (by rw[zf4];omega)).trans (zf9 (p:=λd=>match d with|.int h=>up fs h.toNat r|_=>false) (F:=id) (λd hd=>by
  rw[zbC] at hd;obtain⟨k,hk,rfl⟩:=jr.mp hd;exact ziR ((zb6 (ds:=[rd ns fs,.int (k:Int),.int r]) rfl).trans (zlI _ _ _ _)) rfl) (λd hd _=>rfl)))
 unfold zdF;rw[e,zr4,zbC,List.filter_map,ka];rfl
theorem zqT:∀ (m:Fin 32) (h:Fin 5),(!(kJ (m.val:Int) (2^h.val)==0))=decide ((m.val:Int)/(2^h.val)%2=1):=by decide +kernel
theorem zxB (m h:Nat)(hm:m<32)(hh:h<5):zbR [.int m,.int h]=Ga (.bool (decide ((m:Int)/(2^h)%2=1))):=by
 rw[zkH _ _ (by omega) (by omega),jD];exact congrArg (λb=>Ga (uJ b)) (zqT ⟨m,hm⟩ ⟨h,hh⟩)
def cmP (fs:List Fl)(b t:Nat)(at_:Int):Bool :=
 if b=t then false else if up fs t at_=false then false else match fof fs b with
  | none=>true
  | some f=>if at_<f.a then true else decide (f.a=at_)&&decide ((f.m:Int)/(2^t)%2=1)
theorem zqU (ns:List D)(fs:List Fl)(b t:Nat)(at_:Int)(G:Good ns.length fs)(ht:t<ns.length):zc5 [rd ns fs,.int b,.int t,.int at_]=Ga (.bool (cmP fs b t at_)):=by
 have h5:=G.n5;show outV (zgM [.val (rd ns fs),.val (.int b),.val (.int t),.val (.int at_),.no])=_;unfold zgM;have c1:cmpB dEq (gv 1) (gv 2) (frz [.val (rd ns fs),.val (.int b),.val (.int t),.val (.int at_),.no])=Ga (decide (b=t)):=by
  refine zcD (x:=.int b) (y:=.int t) rfl rfl ((zb0 _ _).trans ?_)
  congr 2;rw[kS,beq_iff_eq,decide_eq_true_eq];omega
 have c2:notB (tst (callV zcC (consL (gv 0) (consL (gv 2) (consL (gv 3) (nilL)))))) (frz [.val (rd ns fs),.val (.int b),.val (.int t),.val (.int at_),.no])=Ga (!(up fs t at_)) :=
  zvF (ziR ((zb6 (ds:=[rd ns fs,.int t,.int at_]) rfl).trans (zlI _ _ _ _)) rfl)
 unfold cmP;by_cases hbt:b=t
 .rw[Ge hbt,zeF ((if_t (or_t (c1.trans (congrArg Ga (Gc hbt))))).trans (zfV rfl))];rfl
 rw[Gf hbt];by_cases hu:up fs t at_=false
 .rw[Ge hu,zeF ((if_t ((or_f (c1.trans (congrArg Ga (Gd hbt)))).trans (c2.trans (by rw[hu];rfl)))).trans (zfV rfl))];rfl
 rw[Gf hu];have hu':up fs t at_=true:=by cases h:up fs t at_ with|true=>rfl|false=>exact absurd h hu
 rw[zaP (if_f ((or_f (c1.trans (congrArg Ga (Gd hbt)))).trans (c2.trans (by rw[hu'];rfl))))];rw[zaP (e:=[.val (rd ns fs),.val (.int b),.val (.int t),.val (.int at_),.val (fofD fs b)]) (zeX ((zb6 (ds:=[rd ns fs,.int b]) rfl).trans (zhJ ns fs b)))];unfold fofD;cases e:fof fs b with
 | none=>rw[zeF ((if_t (or_t (zcD (x:=.none) (y:=.none) rfl rfl rfl))).trans (zfV rfl))];rfl
 | some f =>
  have hm:=G.mb f (ziB e).1;dsimp only;have d1:cmpB dIs (gv 4) (cst .none) (frz [.val (rd ns fs),.val (.int b),.val (.int t),.val (.int at_),.val (fd f)])=Ga false:=zcD (x:=fd f) (y:=.none) rfl rfl rfl;have d2:cmpB dGt (bin dIx (gv 4) (cst (.int 1))) (gv 3) (frz [.val (rd ns fs),.val (.int b),.val (.int t),.val (.int at_),.val (fd f)])=Ga (decide (at_<f.a)):=zcD (x:=.int f.a) (y:=.int at_) rfl rfl rfl;by_cases hl:at_<f.a
  .rw[Ge hl,zeF ((if_t ((or_f d1).trans (d2.trans (congrArg Ga (Gc hl))))).trans (zfV rfl))];rfl
  rw[Gf hl,zaP (if_f ((or_f d1).trans (d2.trans (congrArg Ga (Gd hl)))))];have d3:bin dEq (bin dIx (gv 4) (cst (.int 1))) (gv 3) [.val (rd ns fs),.val (.int b),.val (.int t),.val (.int at_),.val (fd f)]=Ga (.bool (decide (f.a=at_))):=by
   refine(zaU (a:=.int f.a) (b:=.int at_) rfl rfl).trans ((zb0 _ _).trans ?_)
   congr 2
  have d4:callV zbR (consL (bin dIx (gv 4) (cst (.int 2))) (consL (gv 2) (nilL))) [.val (rd ns fs),.val (.int b),.val (.int t),.val (.int at_),.val (fd f)]=Ga (.bool (decide ((f.m:Int)/(2^t)%2=1))) :=
   (zb6 (ds:=[.int f.m,.int t]) rfl).trans (zxB _ _ hm (by omega))
  rw[zfV (d:=.bool (decide (f.a=at_)&&decide ((f.m:Int)/(2^t)%2=1))) ?_]
  .rfl
  .show((bin dEq (bin dIx (gv 4) (cst (.int 1))) (gv 3) [.val (rd ns fs),.val (.int b),.val (.int t),.val (.int at_),.val (fd f)]).bind toB).bind _=_;rw[d3,jf,show toB (.bool (decide (f.a=at_)))=Ga (decide (f.a=at_)) from rfl,jf];cases decide (f.a=at_) with
   | false=>rfl
   | true=>exact d4
def vAt (ns:List D)(fs:List Fl)(r h:Nat):D:=if up fs h r=true then vw ns fs r h else .none
def vL (ns:List D)(fs:List Fl)(r:Nat):List D:=(jk ns.length).map λh=>vAt ns fs r h
theorem zlJ (ns:List D)(fs:List Fl)(r:Nat):(vL ns fs r).length=ns.length:=by unfold vL;rw[jd,jz]
theorem zoG {ns:List D}{fs:List Fl}{r h:Nat}(hh:h<ns.length):dIx (.list (vL ns fs r)) (.int h)=Ga (vAt ns fs r h):=by
 refine zc3 ?_;unfold vL;rw[jq,uj hh];rfl
theorem zuD {fs:List Fl}{h:Nat}{r r':Int}(hr:r<=r')(u:up fs h r'=true):up fs h r=true:=by
 unfold up at u ⊢;cases e:fof fs h with
 | none=>rfl
 | some f=>rw[e] at u;dsimp only at u ⊢;rw[decide_eq_true_eq] at u ⊢;omega
theorem zoH:∀ {fs:List Fl},(fs.map Fl.h).Nodup->∀ {f g:Fl},f∈fs->g∈fs->f.h=g.h->f=g
 | [],_,f,g,hf,_,_=>by cases hf
 | x::r,nd,f,g,hf,hg,e=>by
  rw[jR,jH] at nd;rcases ju.mp hf with z|z
  .rcases ju.mp hg with w|w
   .exact z.trans w.symm
   .exact absurd (jr.mpr ⟨g,w,by rw[<- e,z]⟩) nd.1
  .rcases ju.mp hg with w|w
   .exact absurd (jr.mpr ⟨f,z,by rw[e,w]⟩) nd.1
   .exact zoH nd.2 z w e
theorem zyH {n:Nat}{fs:List Fl}(G:Good n fs){o h:Nat}{r:Nat}(c:cm fs o h ((r+1:Nat):Int)=true):up fs o r=true:=by
 rw[zkK G] at c;rw[ziC G];intro f hf e;have:=((c f hf).2 e).1;omega
theorem zxC {n:Nat}{fs:List Fl}(G:Good n fs){b t:Nat}{r:Int}(q:¬b=t):cmP fs b t r=cm fs b t r:=by
 rw[kS,zkK G];unfold cmP;rw[Gf q];have us:=ziC G t r;cases u:up fs t r with
 | false =>
  rw[Ge rfl];constructor
  .intro z;cases z
  .intro z;have:=us.mpr λf hf e=>(z f hf).1 e;rw[u] at this;cases this
 | true =>
  rw[Gf (by decide)];have ut:=us.mp u;cases e:fof fs b with
  | none =>
   refine⟨λ_ f hf=>⟨ut f hf,λeb=>?_⟩,λ_=>rfl⟩;have:=k9.mp e f hf;rw[eb] at this;exact absurd (beq_self_eq_true b) this
  | some f0 =>
   obtain⟨m0,e0⟩:=ziB e;dsimp only;constructor
   .intro z f hf;refine⟨ut f hf,λeb=>?_⟩;have:f=f0:=zoH G.nd hf m0 (eb.trans e0.symm);subst this;split at z
    .exact⟨by omega,λw=>by omega⟩
    .rw[jE,decide_eq_true_eq] at z;exact⟨by omega,λ_=>z.2⟩
   .intro z;have z:=(z f0 m0).2 e0;split
    .rfl
    .have:f0.a=r:=by omega
     rw[Gc this,u7];exact z.2 this
theorem if_v {c:FB}{f g:FV}{ψ:En}{b:Bool}(h:c ψ=Ga b):ifV c f g ψ=if b then f ψ else g ψ:=by show(c ψ).bind _=_;rw[h];rfl
theorem zg3 (ns:List D)(fs:List Fl)(G:Good ns.length fs)(r h:Nat)(hh:h<ns.length)(u:up fs h ((r+1:Nat):Int)=true) :
  zbP [rd ns fs,.list (vL ns fs r),.int h,.int ((r+1:Nat):Int)]=Ga (vw ns fs (r+1) h):=by
 have h5:=G.n5;show outV (zcI [.val (rd ns fs),.val (.list (vL ns fs r)),.val (.int h),.val (.int ((r+1:Nat):Int)),.no])=_;unfold zcI;have el:un dLen (gv 1) [.val (rd ns fs),.val (.list (vL ns fs r)),.val (.int h),.val (.int ((r+1:Nat):Int)),.no]=Ga (.int ns.length):=by
  rw[un_v (a:=.list (vL ns fs r)) rfl];show Ga (jb ((vL ns fs r).length:Nat))=_;rw[zlJ]
 have ec:compF (un1L rng1 (un dLen (gv 1))) (λ_=>Ga true) (ifV (orB (cmpB dEq (gv 0) (gv 2)) (tst (callV zc5 (consL (gv 3) (consL (gv 0) (consL (gv 2) (consL (gv 1) (nilL)))))))) (bin dIx (gv 4) (gv 0)) (cst .none)) [3,2,0,1] [.val (rd ns fs),.val (.list (vL ns fs r)),.val (.int h),.val (.int ((r+1:Nat):Int)),.no]=Ga ((jk ns.length).map λo=>if o=h\/cm fs o h ((r+1:Nat):Int)=true then vw ns fs r o else .none):=by
  refine(zeY (ds:=rngD 0 ns.length) ((zjR el).trans (zbO (by omega))) (by rw[zf4];omega)).trans ((zeZ (F:=λd=>match d with|.int t=>(if t.toNat=h\/cm fs t.toNat h ((r+1:Nat):Int)=true then vw ns fs r t.toNat else .none)|_=>.none) (λd hd=>?_)).trans ?_)
  .rw[zbC] at hd;obtain⟨o,ho,rfl⟩:=jr.mp hd;have ho':=jK.mp ho;show ifV _ _ _ [.val (.int o),.val (.int ((r+1:Nat):Int)),.val (.int h),.val (rd ns fs),.val (.list (vL ns fs r))]=Ga (if (o:Int).toNat=h\/cm fs (o:Int).toNat h ((r+1:Nat):Int)=true then vw ns fs r (o:Int).toNat else .none);rw[jD];have c1:cmpB dEq (gv 0) (gv 2) [.val (.int o),.val (.int ((r+1:Nat):Int)),.val (.int h),.val (rd ns fs),.val (.list (vL ns fs r))]=Ga (decide (o=h)):=by
    refine zcD (x:=.int o) (y:=.int h) rfl rfl ((zb0 _ _).trans ?_)
    congr 2;rw[kS,beq_iff_eq,decide_eq_true_eq];omega
   have c2:¬o=h->tst (callV zc5 (consL (gv 3) (consL (gv 0) (consL (gv 2) (consL (gv 1) (nilL)))))) [.val (.int o),.val (.int ((r+1:Nat):Int)),.val (.int h),.val (rd ns fs),.val (.list (vL ns fs r))]=Ga (cm fs o h ((r+1:Nat):Int)) :=
    λq=>ziR ((zb6 (ds:=[rd ns fs,.int o,.int h,.int ((r+1:Nat):Int)]) rfl).trans ((zqU ns fs o h _ G hh).trans (congrArg (λb=>Ga (uJ b)) (zxC G q)))) rfl
   have ix:∀ (w:up fs o r=true),bin dIx (gv 4) (gv 0) [.val (.int o),.val (.int ((r+1:Nat):Int)),.val (.int h),.val (rd ns fs),.val (.list (vL ns fs r))]=Ga (vw ns fs r o):=λw=>by
    refine(zaU (a:=.list (vL ns fs r)) (b:=.int o) rfl rfl).trans ((zoG ho').trans ?_);unfold vAt;rw[Ge w]
   by_cases q:o=h
   .rw[if_v (b:=true) (or_t (c1.trans (congrArg Ga (Gc q)))),Ge rfl,Ge (kR q)];exact ix (by rw[q];exact zuD (by omega) u)
   .cases hc:cm fs o h ((r+1:Nat):Int) with
    | true =>
     rw[if_v (b:=true) ((or_f (c1.trans (congrArg Ga (Gd q)))).trans ((c2 q).trans (congrArg Ga hc))),Ge rfl,Ge (kc rfl)];exact ix (zyH G hc)
    | false =>
     rw[if_v (b:=false) ((or_f (c1.trans (congrArg Ga (Gd q)))).trans ((c2 q).trans (congrArg Ga hc))),Gf jx,Gf (λz=>by rcases z with z|z;exact q z;cases z)]
  .rw[zbC,ka];rfl
 rw[zaP (zoC ec rfl)];rfl
theorem zjG {n:Nat}{fs:List Fl}{r:Int}{h:Nat}(hh:h<n):(((jk n).filter λh=>up fs h r).map λ(k:Nat)=>(k:Int)).contains (h:Int)=up fs h r:=by
 rw[kS,uE,jr];constructor
 .rintro⟨k,hk,e⟩;have:k=h:=by omega
  subst this;exact(kn.mp hk).2
 .intro u;exact⟨h,kn.mpr ⟨jK.mpr hh,u⟩,rfl⟩
theorem zgT (ns:List D)(fs:List Fl)(G:Good ns.length fs)(r:Nat):zbK [rd ns fs,.list (vL ns fs r),.int ((r+1:Nat):Int)]=Ga (.list (vL ns fs (r+1))):=by
 have h5:=G.n5;show outV (zb4 [.val (rd ns fs),.val (.list (vL ns fs r)),.val (.int ((r+1:Nat):Int)),.no])=_;unfold zb4;have hw:=zxA ns fs ((r+1:Nat):Int) h5;generalize hU:(((jk ns.length).filter λh=>up fs h ((r+1:Nat):Int)).map λ(h:Nat)=>jb (h:Int))=U at hw;have hU':U=((((jk ns.length).filter λh=>up fs h ((r+1:Nat):Int)).map λ(k:Nat)=>(k:Int))).map jb:=by rw[ka,<- hU];rfl
 rw[zaP (e:=[.val (rd ns fs),.val (.list (vL ns fs r)),.val (.int ((r+1:Nat):Int)),.val (.list U)]) (zeX (zr6 ((zvC (ds:=[rd ns fs,.int ((r+1:Nat):Int)]) rfl).trans hw)))];have el:un dLen (gv 1) [.val (rd ns fs),.val (.list (vL ns fs r)),.val (.int ((r+1:Nat):Int)),.val (.list U)]=Ga (.int ns.length):=by
  rw[un_v (a:=.list (vL ns fs r)) rfl];show Ga (jb ((vL ns fs r).length:Nat))=_;rw[zlJ]
 have ec:compF (un1L rng1 (un dLen (gv 1))) (λ_=>Ga true) (ifV (cmpB dIn (gv 0) (gv 3)) (callV zbP (consL (gv 2) (consL (gv 4) (consL (gv 0) (consL (gv 1) (nilL)))))) (cst .none)) [2,0,3,1] [.val (rd ns fs),.val (.list (vL ns fs r)),.val (.int ((r+1:Nat):Int)),.val (.list U)]=Ga (vL ns fs (r+1)):=by
  refine(zeY (ds:=rngD 0 ns.length) ((zjR el).trans (zbO (by omega))) (by rw[zf4];omega)).trans ((zeZ (F:=λd=>match d with|.int t=>vAt ns fs (r+1) t.toNat|_=>.none) (λd hd=>?_)).trans ?_)
  .rw[zbC] at hd;obtain⟨h,ho,rfl⟩:=jr.mp hd;have ho':=jK.mp ho;show ifV _ _ _ [.val (.int h),.val (.int ((r+1:Nat):Int)),.val (rd ns fs),.val (.list U),.val (.list (vL ns fs r))]=Ga (vAt ns fs (r+1) (h:Int).toNat);rw[jD];have c1:cmpB dIn (gv 0) (gv 3) [.val (.int h),.val (.int ((r+1:Nat):Int)),.val (rd ns fs),.val (.list U),.val (.list (vL ns fs r))]=Ga (up fs h ((r+1:Nat):Int)) :=
    zcD (x:=.int h) (y:=.list U) rfl rfl (by rw[hU',zpK,zjG ho'])
   rw[if_v c1];unfold vAt;cases u:up fs h ((r+1:Nat):Int) with
   | true=>rw[Ge rfl,Ge rfl];exact(zb6 (ds:=[rd ns fs,.list (vL ns fs r),.int h,.int ((r+1:Nat):Int)]) rfl).trans (zg3 ns fs G r h ho' u)
   | false=>rw[Gf jx,Gf jx]
  .rw[zbC,ka];rfl
 exact(congrArg outV (zfV (zr6 ec))).trans rfl
theorem up0 {n:Nat}{fs:List Fl}(G:Good n fs)(h:Nat):up fs h ((0:Nat):Int)=true:=by
 unfold up;cases e:fof fs h with
 | none=>rfl
 | some f=>dsimp only;rw[decide_eq_true_eq];have:=G.ab f (ziB e).1;omega
theorem zuE {ns:List D}{h:Nat}(hh:h<ns.length):dIx (.tuple ns) (.int h)=Ga (ns.getD h .none):=by
 refine zc3 ?_;rw[ji,jc hh];rfl
theorem zhK (ns:List D)(fs:List Fl)(G:Good ns.length fs)(a b:Sl)(hb:a=.val (rd ns fs)):∀ (m s:Nat) (x:Sl),∃ x',forD (tgN 3) (setS 2 (callV zbK (consL (gv 0) (consL (gv 2) (consL (gv 3) (nilL)))))) ((uK s m).map λ(k:Nat)=>jb ((k+1:Nat):Int)) [a,b,.val (.list (vL ns fs s)),x]=Ga (.nx [a,b,.val (.list (vL ns fs (s+m))),x'])
 | 0,s,x=>⟨x,rfl⟩
 | m+1,s,x=>by
  subst hb;obtain⟨x',e⟩:=zhK ns fs G (.val (rd ns fs)) b rfl m (s+1) (.val (.int ((s+1:Nat):Int)));refine⟨x',?_⟩;rw[vO,jR];unfold forD;rw[show tgN 3 (jb ((s+1:Nat):Int)) [.val (rd ns fs),b,.val (.list (vL ns fs s)),x]=Ga [.val (rd ns fs),b,.val (.list (vL ns fs s)),.val (.int ((s+1:Nat):Int))] from rfl,jf];rw[zeX (d:=.list (vL ns fs (s+1))) ((zb6 (ds:=[rd ns fs,.list (vL ns fs s),.int ((s+1:Nat):Int)]) rfl).trans (zgT ns fs G s))];rw[show s+(m+1)=s+1+m by omega];exact e
theorem zkN (ns:List D)(fs:List Fl)(G:Good ns.length fs)(r:Nat)(hr:r<100):zaV [rd ns fs,.int r]=Ga (.list (vL ns fs r)):=by
 have h5:=G.n5;show outV (zdX [.val (rd ns fs),.val (.int r),.no,.no])=_;unfold zdX;have ec:compF (un1L rng1 (callV za9 (consL (gv 0) (nilL)))) (λ_=>Ga true) (tupV (consL (gv 0) (consL (bin dIx (bin dIx (gv 1) (cst (.int 0))) (gv 0)) (nilL)))) [0] [.val (rd ns fs),.val (.int r),.no,.no]=Ga (vL ns fs 0):=by
  refine(zeY (ds:=rngD 0 ns.length) ((zjR (a:=.int ns.length) ((zb6 (ds:=[rd ns fs]) rfl).trans (zoF ns fs))).trans (zbO (by omega))) (by rw[zf4];omega)).trans ((zeZ (F:=λd=>match d with|.int t=>vAt ns fs 0 t.toNat|_=>.none) (λd hd=>?_)).trans ?_)
  .rw[zbC] at hd;obtain⟨h,ho,rfl⟩:=jr.mp hd;have ho':=jK.mp ho;show tupV _ [.val (.int h),.val (rd ns fs)]=Ga (vAt ns fs 0 (h:Int).toNat);rw[jD];unfold vAt;rw[Ge (up0 G h)];exact zvD (zfP rfl (zfP ((zaU (a:=.tuple ns) (b:=.int h) rfl rfl).trans (zuE ho')) rfl))
  .rw[zbC,ka];rfl
 rw[zaP (zoC ec rfl)];obtain⟨x',e⟩:=zhK ns fs G (.val (rd ns fs)) (.val (.int r)) rfl r 0 .no;rw[ud] at e;have er:binL rng2 (cst (.int 1)) (bin dAdd (gv 1) (cst (.int 1))) [.val (rd ns fs),.val (.int r),.val (.list (vL ns fs 0)),.no]=Ga ((uK 0 r).map λ(k:Nat)=>jb ((k+1:Nat):Int)):=by
  refine(zvE (a:=.int 1) (b:=.int ((r:Int)+1)) rfl rfl).trans ?_;unfold rng2;dsimp only;rw[Ge (by omega),show((r:Int)+1-1).toNat=r by omega,<- kh];unfold rngD;refine congrArg Ga (jQ λk _=>?_);rw[show(1:Int)+(k:Nat)=((k+1:Nat):Int) by omega]
 show outV (seqS _ _ [.val (rd ns fs),.val (.int r),.val (.list (vL ns fs 0)),.no])=_;rw[zaP ((zf8 er).trans e)];rfl
def il (A:List Nat):List D:=A.map λ(k:Nat)=>jb (k:Int)
def mx (a b:Int):Int:=if a<b then b else a
theorem ndG {α:Type}[BEq α][LawfulBEq α]:∀ {l m:List α},l.Nodup->(∀ i∈l,i∈m)->l.length<=m.length
 | [],_,_,_=>jY _
 | x::l,m,nd,h=>by
  obtain⟨n1,n2⟩:=jH.mp nd;have hx:x∈m:=h x jn;have:=ndG (m:=m.erase x) n2 λi hi=>(List.mem_erase_of_ne (λe=>n1 (by rw[<- e];exact hi))).mpr (h i (jm _ hi));rw[List.length_erase_of_mem hx] at this;have:=List.length_pos_of_mem hx;rw[ul];omega
noncomputable def fr (Φ:Nat->D):Nat->Nat->D
 | _,0=>.none
 | a,m+1=>if Φ a=.none then fr Φ (a+1) m else .tuple [.int (a:Int),Φ a]
theorem zoI (ns:List D)(fs:List Fl)(hi:∀ d∈ns,∃ i:Int,d=.int i):∀ (r h:Nat),(vw ns fs r h).canLay0=true/\(vw ns fs r h).depth<=2*r+1
 | 0,h=>by
  have:(ns.getD h .none).canLay0=true/\(ns.getD h .none).depth<=0:=by
   rw[ji];by_cases hh:h<ns.length
   .obtain⟨i,e⟩:=hi _ (kU hh);rw[jc hh,Option.getD_some,e];exact⟨rfl,jo _⟩
   .rw[kr (by omega)];exact⟨rfl,jo _⟩
  constructor
  .show jZ [.int h,ns.getD h .none]=true;exact lay_all (λx hx=>by rcases ju.mp hx with rfl|hx;exact rfl;rw[jh.mp hx];exact this.1)
  .have:=zdN (n:=0) (xs:=[.int h,ns.getD h .none]) (λx hx=>by rcases ju.mp hx with rfl|hx;exact jo _;rw[jh.mp hx];exact this.2);unfold vw;rw[qB];omega
 | r+1,h=>by
  have ih:=zoI ns fs hi r;have hm:∀ x∈((jk ns.length).map λo=>if o=h\/cm fs o h ((r+1:Nat):Int)=true then vw ns fs r o else .none),x.canLay0=true/\x.depth<=2*r+1:=λx hx=>by
   obtain⟨o,_,rfl⟩:=jr.mp hx;by_cases q:o=h\/cm fs o h ((r+1:Nat):Int)=true
   .rw[Ge q];exact ih o
   .rw[Gf q];exact⟨rfl,jY _⟩
  have d1:=zdN (λx hx=>(hm x hx).2);have l1:=lay_all (λx hx=>(hm x hx).1);unfold vw;generalize ((jk ns.length).map λo=>if o=h\/cm fs o h ((r+1:Nat):Int)=true then vw ns fs r o else uR)=l at d1 l1;have h1:(kH l).canLay0=true:=l1;have h2:(kH l).depth<=2*r+2:=by rw[qB];omega
  constructor
  .show jZ [.int h,.tuple l]=true;exact lay_all (λx hx=>by rcases ju.mp hx with rfl|hx;exact rfl;rw[jh.mp hx];exact h1)
  .have:=zdN (n:=2*r+2) (xs:=[.int h,.tuple l]) (λx hx=>by rcases ju.mp hx with rfl|hx;exact jY _;rw[jh.mp hx];exact h2);rw[qB];omega
theorem zuF (ns:List D)(fs:List Fl)(hi:∀ d∈ns,∃ i:Int,d=.int i)(r h:Nat):(vAt ns fs r h).canLay0=true/\(vAt ns fs r h).depth<=2*r+1:=by
 unfold vAt;by_cases q:up fs h r=true
 .rw[Ge q];exact zoI ns fs hi r h
 .rw[Gf q];exact⟨rfl,jY _⟩
mutual
def plain:D->Bool
 | .none=>true
 | .int _=>true
 | .tuple xs=>plainAll xs
 | _=>false
def plainAll:List D->Bool
 | []=>true
 | x::xs=>plain x&&plainAll xs
end
mutual
theorem zjH:∀ (a b:D),plain a=true->plain b=true->jV a b=true->a=b
 | .none,.none,_,_,_=>rfl
 | .none,.int _,_,_,h=>by simp[jV] at h
 | .none,.tuple _,_,_,h=>by simp[jV] at h
 | .int _,.none,_,_,h=>by simp[jV] at h
 | .int i,.int j,_,_,h=>by rw[zhQ,beq_iff_eq] at h;rw[h]
 | .int _,.tuple _,_,_,h=>by simp[jV] at h
 | .tuple _,.none,_,_,h=>by simp[jV] at h
 | .tuple _,.int _,_,_,h=>by simp[jV] at h
 | .tuple xs,.tuple ys,p,q,h=>by rw[jV] at h;rw[plain] at p q;rw[zfT xs ys p q h]
 | .bool _,_,p,_,_=>by simp[plain] at p
 | .str _,_,p,_,_=>by simp[plain] at p
 | .list _,_,p,_,_=>by simp[plain] at p
 | .dict _,_,p,_,_=>by simp[plain] at p
 | .none,.bool _,_,q,_=>by simp[plain] at q
 | .none,.str _,_,q,_=>by simp[plain] at q
 | .none,.list _,_,q,_=>by simp[plain] at q
 | .none,.dict _,_,q,_=>by simp[plain] at q
 | .int _,.bool _,_,q,_=>by simp[plain] at q
 | .int _,.str _,_,q,_=>by simp[plain] at q
 | .int _,.list _,_,q,_=>by simp[plain] at q
 | .int _,.dict _,_,q,_=>by simp[plain] at q
 | .tuple _,.bool _,_,q,_=>by simp[plain] at q
 | .tuple _,.str _,_,q,_=>by simp[plain] at q
 | .tuple _,.list _,_,q,_=>by simp[plain] at q
 | .tuple _,.dict _,_,q,_=>by simp[plain] at q
theorem zfT:∀ (xs ys:List D),plainAll xs=true->plainAll ys=true->uL xs ys=true->xs=ys
 | [],[],_,_,_=>rfl
 | [],_::_,_,_,h=>by simp[uL] at h
 | _::_,[],_,_,h=>by simp[uL] at h
 | x::xs,y::ys,p,q,h=>by
  rw[uL,jE] at h;rw[plainAll,jE] at p q;rw[zjH x y p.1 q.1 h.1,zfT xs ys p.2 q.2 h.2]
end
theorem zcT:∀ {xs:List D},(∀ x∈xs,plain x=true)->plainAll xs=true
 | [],_=>by rw[plainAll]
 | x::xs,h=>by rw[plainAll,h x jn,zcT λy hy=>h y (jm _ hy)];rfl
theorem ziD (ns:List D)(fs:List Fl)(hi:∀ d∈ns,∃ i:Int,d=.int i):∀ (r h:Nat),plain (vw ns fs r h)=true
 | 0,h=>by
  show plain (.tuple [.int h,ns.getD h .none])=true;rw[plain];refine zcT λx hx=>?_;rcases ju.mp hx with rfl|hx
  .rw[plain]
  .cases jh.mp hx;by_cases hh:h<ns.length
   .rw[ji,jc hh];obtain⟨i,e⟩:=hi _ (kU hh);show plain ns[h]=true;rw[e,plain]
   .rw[ji,kr (by omega)];show plain uR=true;rw[plain]
 | r+1,h=>by
  show plain (.tuple [.int h,.tuple ((jk ns.length).map λo=>if o=h\/cm fs o h ((r+1:Nat):Int)=true then vw ns fs r o else .none)])=true;rw[plain];refine zcT λx hx=>?_;rcases ju.mp hx with rfl|hx
  .rw[plain]
  .cases jh.mp hx;rw[plain];refine zcT λy hy=>?_;obtain⟨o,_,rfl⟩:=jr.mp hy;split
   .exact ziD ns fs hi r o
   .rw[plain]
theorem zkO (ns:List D)(fs:List Fl)(r h:Nat):vw ns fs r h≠.none:=by
 cases r<;>exact λz=>PyData.noConfusion z
theorem zxD (ns ms:List D)(fs gs:List Fl)(hi:∀ d∈ns,∃ i:Int,d=.int i)(hj:∀ d∈ms,∃ i:Int,d=.int i)(r h:Nat)(hr:r<=4):dEq (vw ns fs r h) (vAt ms gs r h)=Ga (.bool (up gs h r&&decide (vw ns fs r h=vw ms gs r h))):=by
 have l1:=zoI ns fs hi r h;have l2:=zuF ms gs hj r h;have ok:okEq (vw ns fs r h) (vAt ms gs r h)=true:=by
  unfold okEq;rw[l1.1,l2.1,Gc (show min (vw ns fs r h).depth (vAt ms gs r h).depth<=100 by omega)];rfl
 unfold dEq;rw[Ge ok];refine congrArg (λb=>Ga (uJ b)) ?_;have pl:plain (vAt ms gs r h)=true:=by
  unfold vAt;split
  .exact ziD ms gs hj r h
  .rw[plain]
 rw[kS,jE,decide_eq_true_eq];constructor
 .intro e;have q:=zjH _ _ (ziD ns fs hi r h) pl e;unfold vAt at q;split at q
  .rename_i u;exact⟨u,q⟩
  .exact absurd q (zkO ns fs r h)
 .rintro⟨u,q⟩;unfold vAt;rw[Ge u,<- q];exact SeqAt.eqv_refl _ l1.1
section
variable (Nu Fa:List D->Option D)(Rn N Fs:D)(ns F1:List D)(mx cell n h:Int)
theorem chg0 (h0:dIx Rn (.int 0)=Ga N)(hs:toS N=Ga ns)(h1:dIx Rn (.int 1)=Ga Fs)(hn:(ns.length:Int)=n)(hm:dMod (.int (mx/4)) (.int n)=Ga (.int h))
  (cF:compF (za6 (binN dIx (gv 0) (cstN (.int 1)))) (zaG dNe (binN dIx (gv 0) (cstN (.int 0))) (gv 1)) (gv 0) [5] [.val Rn,.val (.int mx),.val (.int cell),.own ns,.val (.int n),.val (.int h),.no,.no,.no,.no,.no]=Ga F1)
  (c:mx%4=0) (v:D) (hv:Nu [.int cell]=Ga v) (ns':List D) (hst:stoL ns (.int h) v=Ga ns'):outV ((zaD (zbV 3 (sL1N (binN dIx (gv 0) (cstN (.int 0))))) (zaD (za5 4 (unLN dLenL (gl 3))) (zaD (za5 5 (binN dMod (binN dDiv (gv 1) (cstN (.int 4))) (gv 4))) (zaD (zbV 6 (compF (za6 (binN dIx (gv 0) (cstN (.int 1)))) (zaG dNe (binN dIx (gv 0) (cstN (.int 0))) (gv 1)) (gv 0) [5])) (zaD (ifSN (zaG dEq (binN dMod (gv 1) (cstN (.int 4))) (cstN (.int 0))) (zaD (zl7 3 (gv 5) (zaK Nu (zaB (gv 2) (zaL)))) (za1 (zcV (zaB (unLN dTupL (gl 3)) (zaB (binN dIx (gv 0) (cstN (.int 1))) (zaL)))))) (nxSN)) (zaD (ifSN (zc7 (zaG dEq (binN dMod (gv 1) (cstN (.int 4))) (cstN (.int 1))) (zaG dGt (unN dLen (binN dIx (gv 0) (cstN (.int 1)))) (cstN (.int 0)))) (zaD (zl6 (binN dIx (binN dIx (gv 0) (cstN (.int 1))) (binN dMod (binN dDiv (gv 1) (cstN (.int 4))) (unN dLen (binN dIx (gv 0) (cstN (.int 1)))))) (tgTN (zaT (tgNN 7) (zaT (tgNN 8) (zaT (tgNN 9) (zdP)))))) (zaD (za5 10 (binN dMod (binN dAdd (binN dAdd (gv 7) (cstN (.int 1))) (binN dMod (binN dDiv (gv 1) (cstN (.int 20))) (binN dSub (gv 4) (cstN (.int 1))))) (gv 4))) (zaD (zbV 6 (compF (za6 (binN dIx (gv 0) (cstN (.int 1)))) (zaG dNe (binN dIx (gv 0) (cstN (.int 0))) (gv 1)) (gv 0) [7])) (ifSN (zaG dEq (binN dAnd (binN dShr (gv 9) (gv 10)) (cstN (.int 1))) (cstN (.int 1))) (zcB 6 (zcV (zaB (gv 7) (zaB (gv 8) (zaB (binN dSub (gv 9) (binN dShl (cstN (.int 1)) (gv 10))) (zaL)))))) (zcB 6 (zcV (zaB (gv 7) (zaB (gv 8) (zaB (binN dAdd (gv 9) (binN dShl (cstN (.int 1)) (gv 10))) (zaL)))))))))) (ifSN (zaG dLt (binN dMod (gv 1) (cstN (.int 4))) (cstN (.int 3))) (zcB 6 (zaK Fa (zaB (binN dDiv (gv 1) (cstN (.int 20))) (zaB (gv 5) (zaB (gv 4) (zaB (cstN (.bool false)) (zaL))))))) (nxSN))) (za1 (zcV (zaB (binN dIx (gv 0) (cstN (.int 0))) (zaB (unLN dTupL (zhC (gl 6))) (zaL))))))))))) [.val Rn,.val (.int mx),.val (.int cell),.no,.no,.no,.no,.no,.no,.no,.no])=Ga (.tuple [.tuple ns',Fs]):=by
 have d4:dDiv (.int mx) (.int 4)=Ga (.int (mx/4)):=zd9 (by decide) (by decide);have m4:dMod (.int mx) (.int 4)=Ga (.int (mx%4)):=zb1 (by decide);rw[c] at m4;have e0:dEq (.int 0) (.int 0)=Ga (.bool true):=by rw[zc4];rfl
 simp_arith[h0,hs,h1,hn,hm,cF,d4,m4,e0,hv,hst]
theorem chg1 (h0:dIx Rn (.int 0)=Ga N)(hs:toS N=Ga ns)(h1:dIx Rn (.int 1)=Ga Fs)(hn:(ns.length:Int)=n)(hm:dMod (.int (mx/4)) (.int n)=Ga (.int h))
  (cF:compF (za6 (binN dIx (gv 0) (cstN (.int 1)))) (zaG dNe (binN dIx (gv 0) (cstN (.int 0))) (gv 1)) (gv 0) [5] [.val Rn,.val (.int mx),.val (.int cell),.own ns,.val (.int n),.val (.int h),.no,.no,.no,.no,.no]=Ga F1)
  (c:mx%4=1) (k j o m y x s t p w:Int) (a:D) (F2 S:List D) (hl:dLen Fs=Ga (.int k)) (kp:0<k) (hj:dMod (.int (mx/4)) (.int k)=Ga (.int j)) (hf:dIx Fs (.int j)=Ga (.tuple [.int o,a,.int m])) (hy:dMod (.int (mx/20)) (.int (n-1))=Ga (.int y)) (hx:dMod (.int (o+1+y)) (.int n)=Ga (.int x))
  (cF2:compF (za6 (binN dIx (gv 0) (cstN (.int 1)))) (zaG dNe (binN dIx (gv 0) (cstN (.int 0))) (gv 1)) (gv 0) [7] [.val Rn,.val (.int mx),.val (.int cell),.own ns,.val (.int n),.val (.int h),.own F1,.val (.int o),.val a,.val (.int m),.val (.int x)]=Ga F2)
  (h2:dShr (.int m) (.int x)=Ga (.int s)) (h3:kJ s 1=t) (h4:dShl (.int 1) (.int x)=Ga (.int p)) (hw:(t=1/\w=m-p)\/(¬t=1/\w=m+p)) (lF:F2.length<1000000) (hS:sortD (F2++[.tuple [.int o,a,.int w]])=Ga S) :
  outV ((zaD (zbV 3 (sL1N (binN dIx (gv 0) (cstN (.int 0))))) (zaD (za5 4 (unLN dLenL (gl 3))) (zaD (za5 5 (binN dMod (binN dDiv (gv 1) (cstN (.int 4))) (gv 4))) (zaD (zbV 6 (compF (za6 (binN dIx (gv 0) (cstN (.int 1)))) (zaG dNe (binN dIx (gv 0) (cstN (.int 0))) (gv 1)) (gv 0) [5])) (zaD (ifSN (zaG dEq (binN dMod (gv 1) (cstN (.int 4))) (cstN (.int 0))) (zaD (zl7 3 (gv 5) (zaK Nu (zaB (gv 2) (zaL)))) (za1 (zcV (zaB (unLN dTupL (gl 3)) (zaB (binN dIx (gv 0) (cstN (.int 1))) (zaL)))))) (nxSN)) (zaD (ifSN (zc7 (zaG dEq (binN dMod (gv 1) (cstN (.int 4))) (cstN (.int 1))) (zaG dGt (unN dLen (binN dIx (gv 0) (cstN (.int 1)))) (cstN (.int 0)))) (zaD (zl6 (binN dIx (binN dIx (gv 0) (cstN (.int 1))) (binN dMod (binN dDiv (gv 1) (cstN (.int 4))) (unN dLen (binN dIx (gv 0) (cstN (.int 1)))))) (tgTN (zaT (tgNN 7) (zaT (tgNN 8) (zaT (tgNN 9) (zdP)))))) (zaD (za5 10 (binN dMod (binN dAdd (binN dAdd (gv 7) (cstN (.int 1))) (binN dMod (binN dDiv (gv 1) (cstN (.int 20))) (binN dSub (gv 4) (cstN (.int 1))))) (gv 4))) (zaD (zbV 6 (compF (za6 (binN dIx (gv 0) (cstN (.int 1)))) (zaG dNe (binN dIx (gv 0) (cstN (.int 0))) (gv 1)) (gv 0) [7])) (ifSN (zaG dEq (binN dAnd (binN dShr (gv 9) (gv 10)) (cstN (.int 1))) (cstN (.int 1))) (zcB 6 (zcV (zaB (gv 7) (zaB (gv 8) (zaB (binN dSub (gv 9) (binN dShl (cstN (.int 1)) (gv 10))) (zaL)))))) (zcB 6 (zcV (zaB (gv 7) (zaB (gv 8) (zaB (binN dAdd (gv 9) (binN dShl (cstN (.int 1)) (gv 10))) (zaL)))))))))) (ifSN (zaG dLt (binN dMod (gv 1) (cstN (.int 4))) (cstN (.int 3))) (zcB 6 (zaK Fa (zaB (binN dDiv (gv 1) (cstN (.int 20))) (zaB (gv 5) (zaB (gv 4) (zaB (cstN (.bool false)) (zaL))))))) (nxSN))) (za1 (zcV (zaB (binN dIx (gv 0) (cstN (.int 0))) (zaB (unLN dTupL (zhC (gl 6))) (zaL))))))))))) [.val Rn,.val (.int mx),.val (.int cell),.no,.no,.no,.no,.no,.no,.no,.no])=Ga (.tuple [N,.tuple S]):=by
 have d4:dDiv (.int mx) (.int 4)=Ga (.int (mx/4)):=zd9 (by decide) (by decide);have d20:dDiv (.int mx) (.int 20)=Ga (.int (mx/20)):=zd9 (by decide) (by decide);have m4:dMod (.int mx) (.int 4)=Ga (.int (mx%4)):=zb1 (by decide);rw[c] at m4;have e0:dEq (.int 1) (.int 0)=Ga (.bool false):=by rw[zc4];rfl
 have e1:dEq (.int 1) (.int 1)=Ga (.bool true):=by rw[zc4];rfl
 have kd:=Gc kp;rcases hw with ⟨ht,rfl⟩|⟨ht,rfl⟩
 .have et:dEq (.int t) (.int 1)=Ga (.bool true):=by rw[zc4,Gc ht]
  simp_arith[h0,hs,h1,hn,hm,cF,d4,m4,e0,e1,hl,kd,hj,hf,d20,hy,hx,cF2,h2,h3,et,h4,Ge lF,hS]
 .have et:dEq (.int t) (.int 1)=Ga (.bool false):=by rw[zc4,Gd ht]
  simp_arith[h0,hs,h1,hn,hm,cF,d4,m4,e0,e1,hl,kd,hj,hf,d20,hy,hx,cF2,h2,h3,et,h4,Ge lF,hS]
theorem chg2 (h0:dIx Rn (.int 0)=Ga N)(hs:toS N=Ga ns)(h1:dIx Rn (.int 1)=Ga Fs)(hn:(ns.length:Int)=n)(hm:dMod (.int (mx/4)) (.int n)=Ga (.int h))
  (cF:compF (za6 (binN dIx (gv 0) (cstN (.int 1)))) (zaG dNe (binN dIx (gv 0) (cstN (.int 0))) (gv 1)) (gv 0) [5] [.val Rn,.val (.int mx),.val (.int cell),.own ns,.val (.int n),.val (.int h),.no,.no,.no,.no,.no]=Ga F1)
  (u k:Int) (c:mx%4=u) (hl:dLen Fs=Ga (.int k)) (q:(u=1/\¬0<k)\/u=2) (f:D) (hf:Fa [.int (mx/20),.int h,.int n,.bool false]=Ga f) (S:List D) (lF:F1.length<1000000) (hS:sortD (F1++[f])=Ga S) :
  outV ((zaD (zbV 3 (sL1N (binN dIx (gv 0) (cstN (.int 0))))) (zaD (za5 4 (unLN dLenL (gl 3))) (zaD (za5 5 (binN dMod (binN dDiv (gv 1) (cstN (.int 4))) (gv 4))) (zaD (zbV 6 (compF (za6 (binN dIx (gv 0) (cstN (.int 1)))) (zaG dNe (binN dIx (gv 0) (cstN (.int 0))) (gv 1)) (gv 0) [5])) (zaD (ifSN (zaG dEq (binN dMod (gv 1) (cstN (.int 4))) (cstN (.int 0))) (zaD (zl7 3 (gv 5) (zaK Nu (zaB (gv 2) (zaL)))) (za1 (zcV (zaB (unLN dTupL (gl 3)) (zaB (binN dIx (gv 0) (cstN (.int 1))) (zaL)))))) (nxSN)) (zaD (ifSN (zc7 (zaG dEq (binN dMod (gv 1) (cstN (.int 4))) (cstN (.int 1))) (zaG dGt (unN dLen (binN dIx (gv 0) (cstN (.int 1)))) (cstN (.int 0)))) (zaD (zl6 (binN dIx (binN dIx (gv 0) (cstN (.int 1))) (binN dMod (binN dDiv (gv 1) (cstN (.int 4))) (unN dLen (binN dIx (gv 0) (cstN (.int 1)))))) (tgTN (zaT (tgNN 7) (zaT (tgNN 8) (zaT (tgNN 9) (zdP)))))) (zaD (za5 10 (binN dMod (binN dAdd (binN dAdd (gv 7) (cstN (.int 1))) (binN dMod (binN dDiv (gv 1) (cstN (.int 20))) (binN dSub (gv 4) (cstN (.int 1))))) (gv 4))) (zaD (zbV 6 (compF (za6 (binN dIx (gv 0) (cstN (.int 1)))) (zaG dNe (binN dIx (gv 0) (cstN (.int 0))) (gv 1)) (gv 0) [7])) (ifSN (zaG dEq (binN dAnd (binN dShr (gv 9) (gv 10)) (cstN (.int 1))) (cstN (.int 1))) (zcB 6 (zcV (zaB (gv 7) (zaB (gv 8) (zaB (binN dSub (gv 9) (binN dShl (cstN (.int 1)) (gv 10))) (zaL)))))) (zcB 6 (zcV (zaB (gv 7) (zaB (gv 8) (zaB (binN dAdd (gv 9) (binN dShl (cstN (.int 1)) (gv 10))) (zaL)))))))))) (ifSN (zaG dLt (binN dMod (gv 1) (cstN (.int 4))) (cstN (.int 3))) (zcB 6 (zaK Fa (zaB (binN dDiv (gv 1) (cstN (.int 20))) (zaB (gv 5) (zaB (gv 4) (zaB (cstN (.bool false)) (zaL))))))) (nxSN))) (za1 (zcV (zaB (binN dIx (gv 0) (cstN (.int 0))) (zaB (unLN dTupL (zhC (gl 6))) (zaL))))))))))) [.val Rn,.val (.int mx),.val (.int cell),.no,.no,.no,.no,.no,.no,.no,.no])=Ga (.tuple [N,.tuple S]):=by
 have d4:dDiv (.int mx) (.int 4)=Ga (.int (mx/4)):=zd9 (by decide) (by decide);have d20:dDiv (.int mx) (.int 20)=Ga (.int (mx/20)):=zd9 (by decide) (by decide);have m4:dMod (.int mx) (.int 4)=Ga (.int (mx%4)):=zb1 (by decide);rw[c] at m4;rcases q with ⟨rfl,kp⟩|rfl
 .have e0:dEq (.int 1) (.int 0)=Ga (.bool false):=by rw[zc4];rfl
  have e1:dEq (.int 1) (.int 1)=Ga (.bool true):=by rw[zc4];rfl
  have e3:dLt (.int 1) (.int 3)=Ga (.bool true):=rfl;have kd:=Gd kp;simp_arith[h0,hs,h1,hn,hm,cF,d4,m4,e0,e1,hl,kd,e3,d20,hf,Ge lF,hS]
 .have e0:dEq (.int 2) (.int 0)=Ga (.bool false):=by rw[zc4];rfl
  have e1:dEq (.int 2) (.int 1)=Ga (.bool false):=by rw[zc4];rfl
  have e3:dLt (.int 2) (.int 3)=Ga (.bool true):=rfl;simp_arith[h0,hs,h1,hn,hm,cF,d4,m4,e0,e1,e3,d20,hf,Ge lF,hS]
theorem chg3 (h0:dIx Rn (.int 0)=Ga N)(hs:toS N=Ga ns)(h1:dIx Rn (.int 1)=Ga Fs)(hn:(ns.length:Int)=n)(hm:dMod (.int (mx/4)) (.int n)=Ga (.int h))
  (cF:compF (za6 (binN dIx (gv 0) (cstN (.int 1)))) (zaG dNe (binN dIx (gv 0) (cstN (.int 0))) (gv 1)) (gv 0) [5] [.val Rn,.val (.int mx),.val (.int cell),.own ns,.val (.int n),.val (.int h),.no,.no,.no,.no,.no]=Ga F1)
  (c:mx%4=3) (S:List D) (hS:sortD F1=Ga S) :
  outV ((zaD (zbV 3 (sL1N (binN dIx (gv 0) (cstN (.int 0))))) (zaD (za5 4 (unLN dLenL (gl 3))) (zaD (za5 5 (binN dMod (binN dDiv (gv 1) (cstN (.int 4))) (gv 4))) (zaD (zbV 6 (compF (za6 (binN dIx (gv 0) (cstN (.int 1)))) (zaG dNe (binN dIx (gv 0) (cstN (.int 0))) (gv 1)) (gv 0) [5])) (zaD (ifSN (zaG dEq (binN dMod (gv 1) (cstN (.int 4))) (cstN (.int 0))) (zaD (zl7 3 (gv 5) (zaK Nu (zaB (gv 2) (zaL)))) (za1 (zcV (zaB (unLN dTupL (gl 3)) (zaB (binN dIx (gv 0) (cstN (.int 1))) (zaL)))))) (nxSN)) (zaD (ifSN (zc7 (zaG dEq (binN dMod (gv 1) (cstN (.int 4))) (cstN (.int 1))) (zaG dGt (unN dLen (binN dIx (gv 0) (cstN (.int 1)))) (cstN (.int 0)))) (zaD (zl6 (binN dIx (binN dIx (gv 0) (cstN (.int 1))) (binN dMod (binN dDiv (gv 1) (cstN (.int 4))) (unN dLen (binN dIx (gv 0) (cstN (.int 1)))))) (tgTN (zaT (tgNN 7) (zaT (tgNN 8) (zaT (tgNN 9) (zdP)))))) (zaD (za5 10 (binN dMod (binN dAdd (binN dAdd (gv 7) (cstN (.int 1))) (binN dMod (binN dDiv (gv 1) (cstN (.int 20))) (binN dSub (gv 4) (cstN (.int 1))))) (gv 4))) (zaD (zbV 6 (compF (za6 (binN dIx (gv 0) (cstN (.int 1)))) (zaG dNe (binN dIx (gv 0) (cstN (.int 0))) (gv 1)) (gv 0) [7])) (ifSN (zaG dEq (binN dAnd (binN dShr (gv 9) (gv 10)) (cstN (.int 1))) (cstN (.int 1))) (zcB 6 (zcV (zaB (gv 7) (zaB (gv 8) (zaB (binN dSub (gv 9) (binN dShl (cstN (.int 1)) (gv 10))) (zaL)))))) (zcB 6 (zcV (zaB (gv 7) (zaB (gv 8) (zaB (binN dAdd (gv 9) (binN dShl (cstN (.int 1)) (gv 10))) (zaL)))))))))) (ifSN (zaG dLt (binN dMod (gv 1) (cstN (.int 4))) (cstN (.int 3))) (zcB 6 (zaK Fa (zaB (binN dDiv (gv 1) (cstN (.int 20))) (zaB (gv 5) (zaB (gv 4) (zaB (cstN (.bool false)) (zaL))))))) (nxSN))) (za1 (zcV (zaB (binN dIx (gv 0) (cstN (.int 0))) (zaB (unLN dTupL (zhC (gl 6))) (zaL))))))))))) [.val Rn,.val (.int mx),.val (.int cell),.no,.no,.no,.no,.no,.no,.no,.no])=Ga (.tuple [N,.tuple S]):=by
 have d4:dDiv (.int mx) (.int 4)=Ga (.int (mx/4)):=zd9 (by decide) (by decide);have m4:dMod (.int mx) (.int 4)=Ga (.int (mx%4)):=zb1 (by decide);rw[c] at m4;have e0:dEq (.int 3) (.int 0)=Ga (.bool false):=by rw[zc4];rfl
 have e1:dEq (.int 3) (.int 1)=Ga (.bool false):=by rw[zc4];rfl
 have e3:dLt (.int 3) (.int 3)=Ga (.bool false):=rfl;simp_arith[h0,hs,h1,hn,hm,cF,d4,m4,e0,e1,e3,hS]
end
theorem cf_x (f o:Nat)(a m:D):(zaG dNe (binN dIx (gv 0) (cstN (.int 0))) (gv 1)) [.val (.tuple [.int f,a,m]),.val (.int o)]=Ga (!(f==o)):=by
 have e:dNe (.int f) (.int o)=Ga (.bool (!(f==o))):=by
  rw[zjT];have:((f:Int)==(o:Int))=(f==o):=by rw[kS,beq_iff_eq,beq_iff_eq];omega
  rw[this]
 simp_arith[e]
theorem zxE (ns:List D)(fs:List Fl)(o:Nat)(ix:List Nat)(ψ:En)(h5:fs.length<=5)(h0:za6 (binN dIx (gv 0) (cstN (.int 1))) ψ=Ga (fs.map fd))(hp:prjE ix ψ=[.val (.int o)]) :
  compF (za6 (binN dIx (gv 0) (cstN (.int 1)))) (zaG dNe (binN dIx (gv 0) (cstN (.int 0))) (gv 1)) (gv 0) ix ψ=Ga ((fs.filter λf=>!(f.h==o)).map fd):=by
 rw[zp8,h0,jf,Ge (by rw[jd];omega),hp];exact zkL fd (λf=>!(f.h==o)) fd (λf _=>cf_x f.h o _ _) (λf _ _=>rfl)
theorem zoJ {n:Nat}{fs:List Fl}(G:Good n fs)(o:Nat):Good n (fs.filter λf=>!(f.h==o)) :=
 ⟨G.n2,G.n5,λf hf=>G.hb f (kn.mp hf).1,λf hf=>G.mb f (kn.mp hf).1,qX (List.Sublist.map _ uy) G.nd,λf hf=>G.ab f (kn.mp hf).1,λf hf=>G.a5 f (kn.mp hf).1⟩
theorem zlK {n:Nat}{fs:List Fl}(G:Good n fs)(f:Fl)(h1:f.h<n)(h2:f.m<32)(h3:1<=f.a)(h4:f.a<=5):Good n ((fs.filter λg=>!(g.h==f.h))++[f]):=by
 have W:=zoJ G f.h;refine⟨G.n2,G.n5,λg hg=>?_,λg hg=>?_,?_,λg hg=>?_,λg hg=>?_⟩
 .rcases jN.mp hg with z|z
  .exact W.hb g z
  .rw[jh.mp z];exact h1
 .rcases jN.mp hg with z|z
  .exact W.mb g z
  .rw[jh.mp z];exact h2
 .rw[jO,ky];refine⟨W.nd,jH.mpr ⟨by simp,j6⟩,λy hy z hz=>?_⟩;obtain⟨g,hg,rfl⟩:=jr.mp hy;have:z=f.h:=jh.mp hz;subst this;intro e;have:=(kn.mp hg).2;rw[e,beq_self_eq_true] at this;cases this
 .rcases jN.mp hg with z|z
  .exact W.ab g z
  .rw[jh.mp z];exact h3
 .rcases jN.mp hg with z|z
  .exact W.a5 g z
  .rw[jh.mp z];exact h4
theorem zqV {n:Nat}{fs:List Fl}(G:Good n fs):fs.length<=n:=by
 have:=ndG (l:=fs.map Fl.h) (m:=jk n) G.nd λx hx=>by
  obtain⟨f,hf,rfl⟩:=jr.mp hx;exact jK.mpr (G.hb f hf)
 rw[jd,jz] at this;exact this
theorem zuG:∀ (m:Fin 32) (x:Fin 5),kJ ((m.val:Int)/2^x.val) 1≠1->(m.val:Int)+2^x.val<32:=by decide +kernel
theorem zuH:∀ (m:Fin 32) (x:Fin 5),kJ ((m.val:Int)/2^x.val) 1=1->0<=(m.val:Int)-2^x.val:=by decide +kernel
theorem zmL (ns:List D)(fs:List Fl)(G:Good ns.length fs)(hi:∀ d∈ns,∃ i:Int,d=.int i)(mx cell:Int)(m0:0<=mx) :
  ∃ (ns':List D) (fs':List Fl),ns'.length=ns.length/\(∀ d∈ns',∃ i:Int,d=.int i)/\Good ns.length fs'/\za2 [rd ns fs,.int mx,.int cell]=Ga (rd ns' fs'):=by
 have n2:=G.n2;have n5:=G.n5;have gl:=zqV G;have w0:=ku (mx/4) (show(ns.length:Int)≠0 by omega);have w1:=j8 (mx/4) (show(0:Int)<ns.length by omega);obtain⟨h,hh⟩:=kC w0;have hm:dMod (.int (mx/4)) (.int (ns.length:Int))=Ga (.int (h:Int)):=(zb1 (by omega)).trans (congrArg (λz=>Ga (jb z)) hh);have cF:compF (za6 (binN dIx (gv 0) (cstN (.int 1)))) (zaG dNe (binN dIx (gv 0) (cstN (.int 0))) (gv 1)) (gv 0) [5] [.val (rd ns fs),.val (.int mx),.val (.int cell),.own ns,.val (.int (ns.length:Int)),.val (.int (h:Int)),.no,.no,.no,.no,.no]=Ga ((fs.filter λf=>!(f.h==h)).map fd):=zxE ns fs h [5] _ (by omega) rfl rfl;have l1:(fs.filter λf=>!(f.h==h)).length<=fs.length:=kN _ _;rw[zf0];unfold zcM;have hl:dLen (.tuple (fs.map fd))=Ga (.int (fs.length:Int)):=by
  show Ga (jb ((fs.map fd).length:Nat))=_;rw[jd]
 have r0:=ku mx (show(4:Int)≠0 by decide);have r1:=j8 mx (show(0:Int)<4 by decide);have q:mx%4=0\/(mx%4=1/\0<(fs.length:Int))\/((mx%4=1/\¬0<(fs.length:Int))\/mx%4=2)\/mx%4=3:=by omega
 rcases q with c|⟨c,kp⟩|c|c
 .obtain⟨v,hv⟩:=zgS cell;refine⟨ns.set h (.int v),fs,uY ..,λd hd=>?_,G,chg0 zaO zaW _ (.tuple ns) (.tuple (fs.map fd)) ns _ mx cell ns.length h rfl rfl rfl rfl hm cF c _ hv _ ?_⟩
  .rcases List.mem_or_eq_of_mem_set hd with z|z
   .exact hi d z
   .exact⟨v,z⟩
  .show(L2.ixN ns.length (h:Int)).bind (λj=>Ga (ns.set j (.int v)))=_;unfold L2.ixN;rw[Ge (by omega),Ge (by omega),jD];rfl
 .have z0:=ku (mx/4) (show(fs.length:Int)≠0 by omega);have z1:=j8 (mx/4) kp;obtain⟨j,hj⟩:=kC z0;have jl:j<fs.length:=by omega
  obtain⟨⟨o,a,m⟩,hf⟩:∃ f,f=fs[j]:=⟨_,rfl⟩;have mem:(⟨o,a,m⟩:Fl)∈fs:=by rw[hf];exact kU jl
  have y0:=ku (mx/20) (show(ns.length:Int)-1≠0 by omega);have y1:=j8 (mx/20) (show(0:Int)<(ns.length:Int)-1 by omega);have x0:=ku ((o:Int)+1+mx/20%((ns.length:Int)-1)) (show(ns.length:Int)≠0 by omega);have x1:=j8 ((o:Int)+1+mx/20%((ns.length:Int)-1)) (show(0:Int)<(ns.length:Int) by omega);obtain⟨x,hx⟩:=kC x0;have ob:o<ns.length:=G.hb _ mem;have mb:m<32:=G.mb _ mem;have a1:1<=a:=G.ab _ mem;have a5:a<=5:=G.a5 _ mem;have x5:x<5:=by omega
  have h2:dShr (.int (m:Int)) (.int (x:Int))=Ga (.int ((m:Int)/2^x)):=by
   unfold dShr dI;dsimp only;rw[Ge (Gc (by omega)),jD]
  have h4:dShl (.int 1) (.int (x:Int))=Ga (.int (2^x)):=by
   unfold dShl dI;dsimp only;rw[Ge (by rw[Gc (show(0:Int)<=x by omega),Gc (show(x:Int)<=1000000 by omega)];decide),Jv,jD]
  have pp:(0:Int)<2^x:=Int.pow_pos (by decide);obtain⟨w,hw,w32⟩:∃ w:Nat,((kJ ((m:Int)/2^x) 1=1/\(w:Int)=m-2^x)\/(¬kJ ((m:Int)/2^x) 1=1/\(w:Int)=m+2^x))/\w<32:=by
   by_cases t:kJ ((m:Int)/2^x) 1=1
   .have:=zuH ⟨m,mb⟩ ⟨x,x5⟩ t;dsimp only at this;obtain⟨w,hw⟩:=kC this;exact⟨w,.inl ⟨t,hw.symm⟩,by omega⟩
   .have:=zuG ⟨m,mb⟩ ⟨x,x5⟩ t;dsimp only at this;obtain⟨w,hw⟩:=kC (show 0<=(m:Int)+2^x by omega);exact⟨w,.inr ⟨t,hw.symm⟩,by omega⟩
  have cF2:∀ e6,compF (za6 (binN dIx (gv 0) (cstN (.int 1)))) (zaG dNe (binN dIx (gv 0) (cstN (.int 0))) (gv 1)) (gv 0) [7] [.val (rd ns fs),.val (.int mx),.val (.int cell),.own ns,.val (.int (ns.length:Int)),.val (.int (h:Int)),e6,.val (.int (o:Int)),.val (.int a),.val (.int (m:Int)),.val (.int (x:Int))]=Ga ((fs.filter λf=>!(f.h==o)).map fd):=λe6=>zxE ns fs o [7] _ (by omega) rfl rfl;have l2:(fs.filter λf=>!(f.h==o)).length<=fs.length:=kN _ _;obtain⟨fs',es,hp⟩:=ziA ((fs.filter λf=>!(f.h==o))++[⟨o,a,w⟩]) (by rw[jB,kL];omega);refine⟨ns,fs',rfl,hi,ze7 (zlK G ⟨o,a,w⟩ ob w32 a1 a5) hp,chg1 zaO zaW _ (.tuple ns) (.tuple (fs.map fd)) ns _ mx cell ns.length h rfl rfl rfl rfl hm cF c fs.length j o m _ x _ _ _ w (.int a) _ _ hl kp ((zb1 (by omega)).trans (congrArg (λz=>Ga (jb z)) hj)) (zc3 (by rw[jq,jc jl,<- hf];rfl)) (zb1 (by omega)) ((zb1 (by omega)).trans (congrArg (λz=>Ga (jb z)) hx)) (cF2 _) h2 rfl h4 hw (by rw[jd];omega) ?_⟩;rw[<- es,jO];rfl
 .obtain⟨a,m,ha1,ha5,hm32,hfall⟩:=zlG (mx/20) h ns.length (by omega) n2 n5 false;obtain⟨fs',es,hp⟩:=ziA ((fs.filter λf=>!(f.h==h))++[⟨h,a,m⟩]) (by rw[jB,kL];omega);refine⟨ns,fs',rfl,hi,ze7 (zlK G ⟨h,a,m⟩ (show h<ns.length by omega) hm32 ha1 ha5) hp,chg2 zaO zaW _ (.tuple ns) (.tuple (fs.map fd)) ns _ mx cell ns.length h rfl rfl rfl rfl hm cF _ fs.length rfl hl c _ hfall _ (by rw[jd];omega) ?_⟩;rw[<- es,jO];rfl
 .obtain⟨fs',es,hp⟩:=ziA (fs.filter λf=>!(f.h==h)) (by omega);exact⟨ns,fs',rfl,hi,ze7 (zoJ G h) hp,chg3 zaO zaW _ (.tuple ns) (.tuple (fs.map fd)) ns _ mx cell ns.length h rfl rfl rfl rfl hm cF c _ es⟩
theorem zuI (ns:List D)(fs:List Fl)(G:Good ns.length fs)(r:Nat):rowV ns fs r=vL ns fs r:=by
 unfold rowV vL;refine jQ λh _=>?_;unfold vAt;cases u:up fs h (r:Int) with
 | true=>rw[Ge rfl];exact V_eq ns fs G r h u
 | false=>rw[Gf (by decide)];exact zw9 G u
theorem zrR (L1 L2 a b:D)(k:Int)(y:Sl)(u e:Bool)(h1:dIx L1 (.int k)=Ga a)(h2:dIx L2 (.int k)=Ga b)(h3:dIsnt a .none=Ga (.bool u))(h4:u=true->dEq a b=Ga (.bool e)) :
  ((tgNN 2) (.int k) [.val L1,.val L2,y]).bind (ifSN (zc7 (zaG dIsnt (binN dIx (gv 0) (gv 2)) (cstN .none)) (zaG dEq (binN dIx (gv 0) (gv 2)) (binN dIx (gv 1) (gv 2)))) (za1 (cstN (.bool true))) (nxSN))=if (u&&e)=true then Ga (.rt (.bool true)) else Ga (.nx [.val L1,.val L2,.val (.int k)]):=by
 cases u with
 | false=>simp_arith[h1,h2,h3];rfl
 | true =>
  have h4:=h4 rfl;cases e with
  | false=>simp_arith[h1,h2,h3,h4];rfl
  | true=>simp_arith[h1,h2,h3,h4];rfl
theorem zrS (L1 L2:D)(n:Int)(Ks:List D)(R:D)(h1:dLen L1=Ga (.int n))(h2:rng1 (.int n)=Ga Ks)
  (q:outV (thenD (forD (tgNN 2) (ifSN (zc7 (zaG dIsnt (binN dIx (gv 0) (gv 2)) (cstN .none)) (zaG dEq (binN dIx (gv 0) (gv 2)) (binN dIx (gv 1) (gv 2)))) (za1 (cstN (.bool true))) (nxSN)) Ks [.val L1,.val L2,.no]) (za1 (cstN (.bool false))))=Ga R):outV (zcS [.val L1,.val L2,.no])=Ga R:=by
 unfold zcS;simp_arith[h1,h2];exact q
def pa (L:List Nat)(i:Nat):Nat:=L.getD i 0
def UF (L:List Nat):Prop:=∀ i,i<L.length->pa L i<=i
def rtF (L:List Nat):Nat->Nat->Nat
 | 0,i=>i
 | n+1,i=>if pa L i=i then i else rtF L n (pa L i)
def root (L:List Nat)(i:Nat):Nat:=rtF L i i
theorem zuJ {L:List Nat}(U:UF L):∀ (i n m:Nat),i<L.length->i<=n->i<=m->rtF L n i=rtF L m i:=by
 intro i;induction i using vt with
 | ind i ih =>
  intro n m hi hn hm;by_cases c:pa L i=i
  .have e:∀ n,rtF L n i=i:=λn=>by cases n with
    | zero=>rfl
    | succ n=>unfold rtF;rw[Ge c]
   rw[e n,e m]
  .have h:=U i hi;obtain⟨n',rfl⟩:∃ n',n=n'+1:=⟨n-1,by omega⟩;obtain⟨m',rfl⟩:∃ m',m=m'+1:=⟨m-1,by omega⟩;unfold rtF;rw[Gf c,Gf c];exact ih _ (by omega) n' m' (by omega) (by omega) (by omega)
theorem zbI {L:List Nat}{i:Nat}(c:pa L i=i):root L i=i:=by
 unfold root;cases i with
 | zero=>rfl
 | succ n=>unfold rtF;rw[Ge c]
theorem zbJ {L:List Nat}(U:UF L){i:Nat}(hi:i<L.length)(c:pa L i≠i):root L i=root L (pa L i):=by
 have h:=U i hi;unfold root;obtain⟨n,rfl⟩:∃ n,i=n+1:=⟨i-1,by omega⟩;have e:rtF L (n+1) (n+1)=rtF L n (pa L (n+1)):=by
  show(if pa L (n+1)=n+1 then n+1 else rtF L n (pa L (n+1)))=_;rw[Gf c]
 rw[e];exact zuJ U _ _ _ (by omega) (by omega) (jo _)
theorem zfN {L:List Nat}(U:UF L):∀ i,i<L.length->pa L (root L i)=root L i/\root L i<=i:=by
 intro i;induction i using vt with
 | ind i ih =>
  intro hi;by_cases c:pa L i=i
  .rw[zbI c];exact⟨c,jo _⟩
  .have h:=U i hi;rw[zbJ U hi c];have:=ih (pa L i) (by omega) (by omega);exact⟨this.1,by omega⟩
theorem ze8 {L:List Nat}{p v i:Nat}(hp:p<L.length):pa (L.set p v) i=if i=p then v else pa L i:=by
 unfold pa;rw[ji,ji];by_cases c:i=p
 .subst c;rw[jM hp,Ge rfl];rfl
 .rw[jI (kY c),Gf c]
structure Alike (L L':List Nat):Prop where
 uf:UF L'
 len:L'.length=L.length
 rt:∀ x,x<L.length->root L' x=root L x
theorem Alike.refl {L:List Nat}(U:UF L):Alike L L:=⟨U,rfl,λ_ _=>rfl⟩
theorem Alike.trans {L L1 L2:List Nat}(a:Alike L L1)(b:Alike L1 L2):Alike L L2:=⟨b.uf,b.len.trans a.len,λx hx=>(b.rt x (by rw[a.len];exact hx)).trans (a.rt x hx)⟩
theorem halve {L:List Nat}(U:UF L){p:Nat}(hp:p<L.length)(c:pa L p≠p):Alike L (L.set p (pa L (pa L p))):=by
 have h1:=U p hp;have h2:=U (pa L p) (by omega);have hl:(L.set p (pa L (pa L p))).length=L.length:=uY ..;have U':UF (L.set p (pa L (pa L p))):=λi hi=>by
  rw[hl] at hi;rw[ze8 hp];split
  .omega
  .exact U i hi
 refine⟨U',hl,λx=>?_⟩;induction x using vt with
 | ind x ih =>
  intro hx;by_cases d:x=p
  .subst d;have e:pa (L.set x (pa L (pa L x))) x=pa L (pa L x):=by rw[ze8 hp,Ge rfl]
   rw[zbJ U' (by rw[hl];exact hx) (by rw[e];omega),e,ih _ (by omega) (by omega),zbJ U hx c];by_cases f:pa L (pa L x)=pa L x
   .rw[f]
   .rw[zbJ U (by omega) f]
  .have e:pa (L.set p (pa L (pa L p))) x=pa L x:=by rw[ze8 hp,Gf d]
   by_cases f:pa L x=x
   .rw[zbI (e.trans f),zbI f]
   .have h3:=U x hx;rw[zbJ U' (by rw[hl];exact hx) (by rw[e];exact f),e,ih _ (by omega) (by omega),zbJ U hx f]
theorem joinU {L:List Nat}(U:UF L){a b:Nat}(hb:b<L.length)(hab:a<=b)(ra:pa L a=a)(rb:pa L b=b):UF (L.set b a)/\(L.set b a).length=L.length/\∀ x,x<L.length->root (L.set b a) x=if root L x=b then a else root L x:=by
 have hl:(L.set b a).length=L.length:=uY ..;have U':UF (L.set b a):=λi hi=>by
  rw[hl] at hi;rw[ze8 hb];split
  .omega
  .exact U i hi
 refine⟨U',hl,λx=>?_⟩;induction x using vt with
 | ind x ih =>
  intro hx;by_cases f:pa L x=x
  .rw[zbI f];by_cases d:x=b
   .subst d;rw[Ge rfl];have e:pa (L.set x a) x=a:=by rw[ze8 hb,Ge rfl]
    by_cases g:a=x
    .rw[zbI (e.trans g)];exact g.symm
    .rw[zbJ U' (by rw[hl];exact hx) (by rw[e];exact g),e];exact zbI (by rw[ze8 hb,Gf g];exact ra)
   .rw[Gf d];exact zbI (by rw[ze8 hb,Gf d];exact f)
  .have d:x≠b:=λz=>f (z▸rb);have h3:=U x hx;have e:pa (L.set b a) x=pa L x:=by rw[ze8 hb,Gf d]
   rw[zbJ U' (by rw[hl];exact hx) (by rw[e];exact f),e,ih _ (by omega) (by omega),zbJ U hx f]
theorem zhL (L:List Nat):(il L).length=L.length:=jd ..
theorem zoK {L:List Nat}{i:Nat}(h:i<L.length):L2.atI (il L) (i:Int)=Ga (.int (pa L i:Nat)):=by
 refine zc3 ?_;unfold il pa;rw[jq,jc h,ji,jc h];rfl
theorem zrT {L:List Nat}{i v:Nat}(h:i<L.length):stoL (il L) (.int (i:Int)) (.int (v:Int))=Ga (il (L.set i v)):=by
 show(L2.ixN (il L).length (i:Int)).bind _=_;have e:L2.ixN (il L).length (i:Int)=Ga i:=by
  unfold L2.ixN;rw[zhL,Ge (by omega),Ge (by omega),jD]
 rw[e];unfold il;rw[List.map_set];rfl
theorem zoL (A:List D)(a:Gj)(p x:Int)(h:L2.atI A p=Ga (.int x)):(zaG dNe (binN dIx (gv 0) (gv 1)) (gv 1)) (frz [.owk a A,.val (.int p)])=Ga (decide (¬x=p)):=by
 simp_arith[h]
theorem zuK (A A':List D)(a:Gj)(p x y:Int)(h1:L2.atI A p=Ga (.int x))(h2:L2.atI A x=Ga (.int y))(h3:stoL A (.int p) (.int y)=Ga A')(h4:L2.atI A' p=Ga (.int y)):(zaD (stoK 0 (gv 1) (ixSN (glk 0) (ixSN (glk 0) (gv 1)))) (za5 1 (ixSN (glk 0) (gv 1)))) [.owk a A,.val (.int p)]=Ga (.nx [.owk a A',.val (.int y)]):=by
 simp_arith[h1,h2,h3,h4]
theorem zqW:∀ (p n:Nat) (L:List Nat),UF L->p<L.length->p<n->∃ L',Alike L L'/\∀ a,whileD (zaG dNe (binN dIx (gv 0) (gv 1)) (gv 1)) (zaD (stoK 0 (gv 1) (ixSN (glk 0) (ixSN (glk 0) (gv 1)))) (za5 1 (ixSN (glk 0) (gv 1)))) n [.owk a (il L),.val (.int (p:Int))]=Ga (.nx [.owk a (il L'),.val (.int (root L p:Nat))]):=by
 intro p;induction p using vt with
 | ind p ih =>
  intro n L U hp hn;obtain⟨m,rfl⟩:∃ m,n=m+1:=⟨n-1,by omega⟩;have u1:=U p hp;by_cases c:pa L p=p
  .refine⟨L,.refl U,λa=>?_⟩;unfold whileD;have hd:decide (¬((pa L p:Nat):Int)=(p:Int))=false:=decide_eq_false_iff_not.mpr λz=>z (by rw[c]);rw[zoL (il L) a p _ (zoK hp),jf,hd,Gf (by decide),zbI c]
  .have u2:=U (pa L p) (by omega);have A1:=halve U hp c;have e1:pa (L.set p (pa L (pa L p))) p=pa L (pa L p):=by rw[ze8 hp,Ge rfl]
   have hp1:p<(L.set p (pa L (pa L p))).length:=by rw[A1.len];exact hp
   obtain⟨L',A2,w⟩:=ih (pa L (pa L p)) (by omega) m (L.set p (pa L (pa L p))) A1.uf (by rw[A1.len];omega) (by omega);refine⟨L',A1.trans A2,λa=>?_⟩;have hb:=zuK (il L) (il (L.set p (pa L (pa L p)))) a p (pa L p:Nat) (pa L (pa L p):Nat) (zoK hp) (zoK (by omega)) (zrT hp) (by rw[zoK hp1,e1]);have hd:decide (¬((pa L p:Nat):Int)=(p:Int))=true:=decide_eq_true_iff.mpr λz=>c (by omega);unfold whileD;rw[zoL (il L) a p _ (zoK hp),jf,hd,Ge rfl,hb,jf];dsimp only;rw[w a,A1.rt _ (by omega),zbJ U hp c];by_cases f:pa L (pa L p)=pa L p
   .rw[f]
   .rw[zbJ U (by omega) f]
theorem zxF (a:Gj)(A:List D)(d:D):thenD (Ga (.nx [.owk a A,.val d])) (zp9 (gv 1))=Ga (.rc d [.owk a A,.val d]):=by simp_arith[]
theorem ziE {L:List Nat}(U:UF L){p:Nat}(hp:p<L.length)(h100:L.length<100):∃ L',Alike L L'/\∀ a,zaH [.owk a (il L),.val (.int (p:Int))]=Ga (.rc (.int (root L p:Nat)) [.owk a (il L'),.val (.int (root L p:Nat))]):=by
 obtain⟨L',A,w⟩:=zqW p 100 L U hp (by omega);refine⟨L',A,λa=>?_⟩;rw[zh7];show thenD (whileD (zaG dNe (binN dIx (gv 0) (gv 1)) (gv 1)) (zaD (stoK 0 (gv 1) (ixSN (glk 0) (ixSN (glk 0) (gv 1)))) (za5 1 (ixSN (glk 0) (gv 1)))) 100 [.owk a (il L),.val (.int (p:Int))]) (zp9 (gv 1))=_;rw[w a];exact zxF a _ _
theorem zmM {L L':List Nat}{p i:Nat}{ψ:En}{r:D}{e1:Sl}(h:ψ[i]?=Ga (.own (il L)))(w:∀ a,zaH [.owk a (il L),.val (.int (p:Int))]=Ga (.rc r [.owk a (il L'),e1])):pickC 2 zaH [.inr i,.inl (.int (p:Int))] ψ=Ga (r,ψ.set i (.own (il L'))):=by
 refine zhW λt=>?_;have e0:slIn ψ t (.inr i)=Ga (.owk (t i) (il L)):=by unfold slIn;dsimp only;rw[h]
 have e1:slsIn ψ t [.inr i,.inl (.int (p:Int))]=Ga [.owk (t i) (il L),.val (.int (p:Int))]:=by
  unfold slsIn;rw[e0];rfl
 unfold runC;rw[e1,jf,show[Sl.owk (t i) (il L),.val (.int (p:Int))]++jF (2-[Sl.owk (t i) (il L),.val (.int (p:Int))].length) .no=[.owk (t i) (il L),.val (.int (p:Int))] from rfl,w,jf];dsimp only;simp only[backE,h,slBack,jf,uQ,if_true]
theorem zhM {L L':List Nat}{p i:Nat}{ψ:En}{c:Gj}{r:D}{e1:Sl}(h:ψ[i]?=Ga (.owk c (il L)))(w:∀ a,zaH [.owk a (il L),.val (.int (p:Int))]=Ga (.rc r [.owk a (il L'),e1])):pickC 2 zaH [.inr i,.inl (.int (p:Int))] ψ=Ga (r,ψ.set i (.owk c (il L'))):=by
 refine zhW λt=>?_;have e0:slIn ψ t (.inr i)=Ga (.owk (t i) (il L)):=by unfold slIn;dsimp only;rw[h]
 have e1:slsIn ψ t [.inr i,.inl (.int (p:Int))]=Ga [.owk (t i) (il L),.val (.int (p:Int))]:=by
  unfold slsIn;rw[e0];rfl
 unfold runC;rw[e1,jf,show[Sl.owk (t i) (il L),.val (.int (p:Int))]++jF (2-[Sl.owk (t i) (il L),.val (.int (p:Int))].length) .no=[.owk (t i) (il L),.val (.int (p:Int))] from rfl,w,jf];dsimp only;simp only[backE,h,slBack,jf,uQ,if_true]
theorem zlL {j n:Nat}{g:FS}{a:FA}{ψ env2:En}{as:List T3.Arg}{d:D}(h1:a ψ=Ga as)(h2:(inrs as).Nodup)(h3:∀ i∈inrs as,∃ s,ψ[i]?=Ga s/\ownS s=true)(h4:pickC n g as ψ=Ga (d,env2)):callC j n g a ψ=Ga (.nx (env2.set j (.val d))):=by
 unfold callC;rw[h1,jf,Ge ⟨h2,h3⟩,h4];rfl
theorem zuL (a:Gj)(A A':List D)(x y:Sl)(f o M m:Int)(hM:(if o>f then o else f)=M)(hm:(if o<f then o else f)=m)(h:stoL A (.int M) (.int m)=Ga A'):(stoK 0 (binN dMax2 (gv 3) (gv 4)) (binN dMin2 (gv 3) (gv 4))) [.owk a A,x,y,.val (.int f),.val (.int o)]=Ga (.nx [.owk a A',x,y,.val (.int f),.val (.int o)]):=by
 simp_arith[hM,hm,h]
theorem zlM {L:List Nat}(U:UF L){q p:Nat}(hq:q<L.length)(hp:p<L.length)(h100:L.length<100):∃ L3,UF L3/\L3.length=L.length/\(∀ x,x<L.length->root L3 x=if root L x=max (root L q) (root L p) then min (root L q) (root L p) else root L x) /\
  ∃ e,∀ a,zaZ [.owk a (il L),.val (.int (q:Int)),.val (.int (p:Int)),.no,.no]=Ga (.rc .none (.owk a (il L3)::e)):=by
 obtain⟨L1,A1,w1⟩:=ziE U hq h100;obtain⟨L2,A2,w2⟩:=ziE A1.uf (p:=p) (by rw[A1.len];exact hp) (by rw[A1.len];exact h100);have A:=A1.trans A2;obtain⟨i1,i2⟩:=zfN U q hq;obtain⟨j1,j2⟩:=zfN U p hp;have k1:pa L2 (root L q)=root L q:=by
  have:=zfN A.uf q (by rw[A.len];exact hq);rw[A.rt q hq] at this;exact this.1
 have k2:pa L2 (root L p)=root L p:=by
  have:=zfN A.uf p (by rw[A.len];exact hp);rw[A.rt p hp] at this;exact this.1
 have hM:max (root L q) (root L p)<L2.length:=by rw[A.len];omega
 have kM:pa L2 (max (root L q) (root L p))=max (root L q) (root L p):=by
  rcases Nat.le_total (root L q) (root L p) with c|c
  .rw[Nat.max_eq_right c];exact k2
  .rw[Nat.max_eq_left c];exact k1
 have km:pa L2 (min (root L q) (root L p))=min (root L q) (root L p):=by
  rcases Nat.le_total (root L q) (root L p) with c|c
  .rw[Nat.min_eq_left c];exact k1
  .rw[Nat.min_eq_right c];exact k2
 obtain⟨U3,l3,r3⟩:=joinU A.uf hM (show min (root L q) (root L p)<=max (root L q) (root L p) by omega) km kM;refine⟨_,U3,l3.trans A.len,λx hx=>?_,[.val (.int (q:Int)),.val (.int (p:Int)),.val (.int (root L q:Nat)),.val (.int (root L p:Nat))],λa=>?_⟩
 .rw[r3 x (by rw[A.len];exact hx),A.rt x hx]
 .rw[A1.rt p hp] at w2;have c1:(callC 3 2 zaH (zj5 0 (zj4 (gv 1) (zj3)))) [.owk a (il L),.val (.int (q:Int)),.val (.int (p:Int)),.no,.no]=Ga (.nx [.owk a (il L1),.val (.int (q:Int)),.val (.int (p:Int)),.val (.int (root L q:Nat)),.no]) :=
   zlL (as:=[.inr 0,.inl (.int (q:Int))]) rfl (jH.mpr ⟨by simp[inrs],j6⟩) (λi hi=>by rw[show inrs [Sum.inr 0,.inl (.int (q:Int))]=[0] from rfl] at hi;rw[jh.mp hi];exact⟨_,rfl,rfl⟩) (zhM (c:=a) rfl w1)
  have c2:(callC 4 2 zaH (zj5 0 (zj4 (gv 2) (zj3)))) [.owk a (il L1),.val (.int (q:Int)),.val (.int (p:Int)),.val (.int (root L q:Nat)),.no]=Ga (.nx [.owk a (il L2),.val (.int (q:Int)),.val (.int (p:Int)),.val (.int (root L q:Nat)),.val (.int (root L p:Nat))]) :=
   zlL (as:=[.inr 0,.inl (.int (p:Int))]) rfl (jH.mpr ⟨by simp[inrs],j6⟩) (λi hi=>by rw[show inrs [Sum.inr 0,.inl (.int (p:Int))]=[0] from rfl] at hi;rw[jh.mp hi];exact⟨_,rfl,rfl⟩) (zhM (c:=a) rfl w2)
  have c3:=zuL a (il L2) (il (L2.set (max (root L q) (root L p)) (min (root L q) (root L p)))) (.val (.int (q:Int))) (.val (.int (p:Int))) (root L q:Nat) (root L p:Nat) (max (root L q) (root L p):Nat) (min (root L q) (root L p):Nat) (by split<;>omega) (by split<;>omega) (zrT hM);show(zfL _).bind _=_;rw[zmK];show(thenD ((callC 3 2 zaH (zj5 0 (zj4 (gv 1) (zj3)))) [.owk a (il L),.val (.int (q:Int)),.val (.int (p:Int)),.no,.no]) (zaD (callC 4 2 zaH (zj5 0 (zj4 (gv 2) (zj3)))) (stoK 0 (binN dMax2 (gv 3) (gv 4)) (binN dMin2 (gv 3) (gv 4))))).bind _=_;rw[c1];show(thenD ((callC 4 2 zaH (zj5 0 (zj4 (gv 2) (zj3)))) [.owk a (il L1),.val (.int (q:Int)),.val (.int (p:Int)),.val (.int (root L q:Nat)),.no]) (stoK 0 (binN dMax2 (gv 3) (gv 4)) (binN dMin2 (gv 3) (gv 4)))).bind _=_;rw[c2,zd6,c3];rfl
theorem zoM {n:Nat}{g:FS}{a:FAD}{ψ env1 env2:En}{as:List T3.Arg}{d:D}(h1:a ψ=Ga (as,env1))(h2:(inrs as).Nodup)(h3:∀ i∈inrs as,∃ s,env1[i]?=Ga s/\ownS s=true)(h4:pickC n g as env1=Ga (d,env2)):evC n g a ψ=Ga (d,env2):=by
 unfold evC;rw[h1,jf];dsimp only;rw[Ge ⟨h2,h3⟩];exact h4
theorem uniteC {L L3:List Nat}{q p:Nat}{ψ e:En}(h:ψ[2]?=Ga (.own (il L)))(w:∀ a,zaZ [.owk a (il L),.val (.int (q:Int)),.val (.int (p:Int)),.no,.no]=Ga (.rc .none (.owk a (il L3)::e))):pickC 5 zaZ [.inr 2,.inl (.int (q:Int)),.inl (.int (p:Int))] ψ=Ga (.none,ψ.set 2 (.own (il L3))):=by
 refine zhW λt=>?_;have e0:slIn ψ t (.inr 2)=Ga (.owk (t 2) (il L)):=by unfold slIn;dsimp only;rw[h]
 have e1:slsIn ψ t [.inr 2,.inl (.int (q:Int)),.inl (.int (p:Int))]=Ga [.owk (t 2) (il L),.val (.int (q:Int)),.val (.int (p:Int))]:=by
  unfold slsIn;rw[e0];rfl
 unfold runC;rw[e1,jf,show[Sl.owk (t 2) (il L),.val (.int (q:Int)),.val (.int (p:Int))]++jF (5-[Sl.owk (t 2) (il L),.val (.int (q:Int)),.val (.int (p:Int))].length) .no=[.owk (t 2) (il L),.val (.int (q:Int)),.val (.int (p:Int)),.no,.no] from rfl,w,jf];dsimp only;simp only[backE,h,slBack,jf,uQ,if_true]
def Mt (rows:Nat->List D)(x y:Nat):Prop:=∃ v,v≠.none/\v∈rows x/\v∈rows y
inductive Cn (rows:Nat->List D)(N:Nat):Nat->Nat->Prop where
 | refl (x:Nat):Cn rows N x x
 | step {x y z:Nat} (a:Cn rows N x y) (hy:y<N) (hz:z<N) (m:Mt rows y z):Cn rows N x z
theorem Mt.symm {rows:Nat->List D}{x y:Nat}(m:Mt rows x y):Mt rows y x:=by obtain⟨v,h1,h2,h3⟩:=m;exact⟨v,h1,h3,h2⟩
theorem Cn.trans {rows:Nat->List D}{N x y z:Nat}(a:Cn rows N x y)(b:Cn rows N y z):Cn rows N x z:=by
 induction b with
 | refl=>exact a
 | step b hy hz m ih=>exact .step ih hy hz m
theorem Cn.symm {rows:Nat->List D}{N x y:Nat}(a:Cn rows N x y):Cn rows N y x:=by
 induction a with
 | refl=>exact .refl _
 | step b hy hz m ih=>exact(Cn.step (.refl _) hz hy m.symm).trans ih
structure JI (rows:Nat->List D)(N:Nat)(done:Nat->D->Prop)(L:List Nat)(kvs:List (D×D)):Prop where
 uf:UF L
 len:L.length=N
 i1:∀ x v,done x v->∃ q:Nat,atT kvs v=Ga (.int (q:Int))/\q<N/\root L q=root L x
 i2:∀ v d,atT kvs v=Ga d->∃ q:Nat,d=.int (q:Int)/\q<N/\v∈rows q/\v≠.none
 i3:∀ x y,x<N->y<N->root L x=root L y->Cn rows N x y
theorem zlN {kvs:List (D×D)}{v d:D}(h:atT kvs v=Gb)(w:D):atT (kvs++[(v,d)]) w=if w=v then Ga d else atT kvs w:=by
 unfold atT at h ⊢;rw[List.find?_append];by_cases c:w=v
 .subst c;rw[Ge rfl];rw[uX] at h;rw[h,Option.none_or,kA (p:=λ(p:D×D)=>decide (p.1=w)) (Gc rfl)];rfl
 .rw[Gf c,kI (p:=λ(p:D×D)=>decide (p.1=w)) (by simpa using λz=>c z.symm),List.find?_nil,Option.or_none]
theorem pick2 {ra rb c d M m:Nat}(hM:M=max ra rb)(hm:m=min ra rb)(e:(if c=M then m else c)=(if d=M then m else d)):c=d\/(c=ra/\d=rb)\/(c=rb/\d=ra):=by
 split at e<;>split at e<;>omega
theorem zoN {rows:Nat->List D}{N:Nat}{done:Nat->D->Prop}{L L3:List Nat}{kvs kvs':List (D×D)}{v:D}{q p:Nat}(J:JI rows N done L kvs)(hp:p<N)(hq:q<N)(hv:v≠.none)(vp:v∈rows p)(vq:v∈rows q)
  (hk:atT kvs' v=Ga (.int (q:Int))) (hk2:∀ w,w≠v->atT kvs' w=atT kvs w) (hk3:∀ x,done x v->atT kvs v=Ga (.int (q:Int))) (U:UF L3) (hl:L3.length=L.length) (hr:∀ x,x<L.length->root L3 x=if root L x=max (root L q) (root L p) then min (root L q) (root L p) else root L x) :
  (∀ x w,done x w->x<N)->JI rows N (λx w=>done x w\/(x=p/\w=v)) L3 kvs':=λdN=>by
 have hN:=J.len;have rr:∀ x y,x<N->y<N->root L x=root L y->root L3 x=root L3 y:=λx y hx hy e=>by rw[hr x (by omega),hr y (by omega),e]
 have rqp:root L3 q=root L3 p:=by
  rw[hr q (by omega),hr p (by omega)];split<;>split<;>omega
 refine⟨U,hl.trans hN,λx w h=>?_,λw d h=>?_,λx y hx hy e=>?_⟩
 .rcases h with h|⟨rfl,rfl⟩
  .obtain⟨q',h1,h2,h3⟩:=J.i1 x w h;by_cases c:w=v
   .subst c;have:=hk3 x h;rw[h1] at this;have:q'=q:=by have:=jw this;have:=qf this;omega
    subst this;exact⟨q',hk,hq,rr _ _ h2 (dN x w h) h3⟩
   .exact⟨q',by rw[hk2 w c];exact h1,h2,rr _ _ h2 (dN x w h) h3⟩
  .exact⟨q,hk,hq,rqp⟩
 .by_cases c:w=v
  .subst c;rw[hk] at h;exact⟨q,(jw h).symm,hq,vq,hv⟩
  .rw[hk2 w c] at h;exact J.i2 w d h
 .rw[hr x (by omega),hr y (by omega)] at e;have mqp:Cn rows N q p:=.step (.refl _) hq hp ⟨v,hv,vq,vp⟩;rcases pick2 rfl rfl e with c|⟨c1,c2⟩|⟨c1,c2⟩
  .exact J.i3 x y hx hy c
  .exact((J.i3 x q hx hq c1).trans mqp).trans (J.i3 y p hy hp c2).symm
  .exact((J.i3 x p hx hp c1).trans mqp.symm).trans (J.i3 y q hy hq c2).symm
def RowOk (l:List D):Prop:=∀ v∈l,v=.none\/((keyD v 8&&isTup v)=true/\dIsnt v .none=Ga (.bool true)/\v≠.none)
theorem zoO {i:Nat}{fk fv:FV}{ψ:En}{k d d':D}{kvs:List (D×D)}(h1:fk ψ=Ga k)(h2:fv ψ=Ga d)(h3:ψ[i]?=Ga (.dkt kvs))(h4:(keyD k 8&&isTup k)=true)(h5:kvs.length<1000000)(h6:atT kvs k=Ga d'):setdD i fk fv ψ=Ga (d',ψ):=by
 unfold setdD;rw[h1,jf,h2,jf,h3];dsimp only;rw[Ge ⟨h4,h5⟩,h6]
theorem zoP {i:Nat}{fk fv:FV}{ψ:En}{k d:D}{kvs:List (D×D)}(h1:fk ψ=Ga k)(h2:fv ψ=Ga d)(h3:ψ[i]?=Ga (.dkt kvs))(h4:(keyD k 8&&isTup k)=true)(h5:kvs.length<1000000)(h6:atT kvs k=Gb):setdD i fk fv ψ=Ga (d,ψ.set i (.dkt (kvs++[(k,d)]))):=by
 unfold setdD;rw[h1,jf,h2,jf,h3];dsimp only;rw[Ge ⟨h4,h5⟩,h6]
theorem zoQ {sd:FD}{ψ env1:En}{d p:D}{s s':Sl}(h0:ψ[2]?=Ga s)(h1:ownS s=true)(h2:sd ψ=Ga (d,env1))(h3:gv 4 env1=Ga p):ownD 2 (chgD sd (valD (gv 4) nilD)) ψ=Ga ([.inr 2,.inl d,.inl p],env1):=by
 unfold ownD;rw[h0];dsimp only;rw[Ge h1];unfold chgD;rw[h2,jf];unfold valD;dsimp only;rw[h3];rfl
theorem zuM (V:D)(b:Bool)(R r lo dk pl:Sl)(E:Option (D×En))(hE:(evC 5 zaZ (ownD 2 (chgD (setdD 3 (gv 5) (gv 4)) (valD (gv 4) nilD)))) [R,r,lo,dk,pl,.val V]=E)(h:dIsnt V .none=Ga (.bool b)):(ifSN (zaG dIsnt (gv 5) (cstN .none)) (exprC (evC 5 zaZ (ownD 2 (chgD (setdD 3 (gv 5) (gv 4)) (valD (gv 4) nilD))))) nxSN) [R,r,lo,dk,pl,.val V]=if b=true then E.bind (λr=>Ga (.nx r.2)) else Ga (.nx [R,r,lo,dk,pl,.val V]):=by
 have e1:exprC (evC 5 zaZ (ownD 2 (chgD (setdD 3 (gv 5) (gv 4)) (valD (gv 4) nilD)))) [R,r,lo,dk,pl,.val V]=E.bind (λr=>Ga (.nx r.2)):=by unfold exprC;rw[hE]
 rw[zrH];have e2:zaG dIsnt (gv 5) (cstN .none) (frz [R,r,lo,dk,pl,.val V])=Ga b:=by
  show((gv 5 (frz [R,r,lo,dk,pl,.val V])).bind _).bind _=_;rw[show gv 5 (frz [R,r,lo,dk,pl,.val V])=Ga V from rfl,jf];show((dIsnt V .none)).bind toB=_;rw[h];rfl
 rw[e2,jf];cases b with
 | true=>rw[Ge rfl,Ge rfl];exact e1
 | false=>rw[Gf (by decide),Gf (by decide)];rfl
theorem zuN (rows:Nat->List D)(N:Nat)(h100:N<100)(done:Nat->D->Prop)(dN:∀ x w,done x w->x<N)(L:List Nat)(kvs:List (D×D))(J:JI rows N done L kvs)(hz:kvs.length<1000)(p:Nat)(hp:p<N)(V:D)(vp:V∈rows p)(ok:V=.none\/((keyD V 8&&isTup V)=true/\dIsnt V .none=Ga (.bool true)/\V≠.none))(R r:Sl) :
  ∃ L' kvs',(ifSN (zaG dIsnt (gv 5) (cstN .none)) (exprC (evC 5 zaZ (ownD 2 (chgD (setdD 3 (gv 5) (gv 4)) (valD (gv 4) nilD))))) nxSN) [R,r,.own (il L),.dkt kvs,.val (.int (p:Int)),.val V]=Ga (.nx [R,r,.own (il L'),.dkt kvs',.val (.int (p:Int)),.val V])/\JI rows N (λx w=>done x w\/(x=p/\w=V/\V≠.none)) L' kvs'/\kvs'.length<=kvs.length+1:=by
 rcases ok with rfl|⟨hk,hi,hn⟩
 .refine⟨L,kvs,?_,⟨J.uf,J.len,λx v h=>J.i1 x v (h.resolve_right λz=>z.2.2 rfl),J.i2,J.i3⟩,by omega⟩;rw[zuM .none false _ _ _ _ _ _ rfl rfl,Gf (by decide)]
 .have nd:(inrs [Sum.inr 2,.inl (jb 0),.inl (jb 0)]).Nodup:=jH.mpr ⟨by simp[inrs],j6⟩;cases q:atT kvs V with
  | some d =>
   obtain⟨q',rfl,hq,vq,_⟩:=J.i2 V d q;obtain⟨L3,U3,l3,r3,e,w⟩:=zlM J.uf (q:=q') (p:=p) (by rw[J.len];exact hq) (by rw[J.len];exact hp) (by rw[J.len];exact h100);have ev:(evC 5 zaZ (ownD 2 (chgD (setdD 3 (gv 5) (gv 4)) (valD (gv 4) nilD)))) [R,r,.own (il L),.dkt kvs,.val (.int (p:Int)),.val V]=Ga (.none,[R,r,.own (il L3),.dkt kvs,.val (.int (p:Int)),.val V]) :=
    zoM (zoQ (s:=.own (il L)) (s':=.no) rfl rfl (zoO (k:=V) rfl rfl rfl hk (by omega) q) rfl) nd (λi hi=>by rw[show inrs [Sum.inr 2,.inl (jb (q':Int)),.inl (jb (p:Int))]=[2] from rfl] at hi;rw[jh.mp hi];exact⟨_,rfl,rfl⟩) (uniteC rfl w)
   refine⟨L3,kvs,?_,?_,by omega⟩
   .rw[zuM V true _ _ _ _ _ _ ev hi,Ge rfl];rfl
   .have:=zoN J hp hq hn vp vq q (λ_ _=>rfl) (λ_ _=>q) U3 l3 r3 dN;exact⟨this.uf,this.len,λx v h=>this.i1 x v (h.imp id λz=>⟨z.1,z.2.1⟩),this.i2,this.i3⟩
  | none =>
   obtain⟨L3,U3,l3,r3,e,w⟩:=zlM J.uf (q:=p) (p:=p) (by rw[J.len];exact hp) (by rw[J.len];exact hp) (by rw[J.len];exact h100);have ev:(evC 5 zaZ (ownD 2 (chgD (setdD 3 (gv 5) (gv 4)) (valD (gv 4) nilD)))) [R,r,.own (il L),.dkt kvs,.val (.int (p:Int)),.val V]=Ga (.none,[R,r,.own (il L3),.dkt (kvs++[(V,.int (p:Int))]),.val (.int (p:Int)),.val V]) :=
    zoM (zoQ (s:=.own (il L)) (s':=.no) rfl rfl (zoP (k:=V) (d:=.int (p:Int)) rfl rfl rfl hk (by omega) q) rfl) nd (λi hi=>by rw[show inrs [Sum.inr 2,.inl (jb (p:Int)),.inl (jb (p:Int))]=[2] from rfl] at hi;rw[jh.mp hi];exact⟨_,rfl,rfl⟩) (uniteC rfl w)
   refine⟨L3,kvs++[(V,.int (p:Int))],?_,?_,by rw[jB];exact jo _⟩
   .rw[zuM V true _ _ _ _ _ _ ev hi,Ge rfl];rfl
   .have:=zoN (kvs':=kvs++[(V,.int (p:Int))]) J hp hp hn vp vp (by rw[zlN q,Ge rfl]) (λw hw=>by rw[zlN q,Gf hw]) (λx h=>by obtain⟨q',z,_⟩:=J.i1 x V h;rw[q] at z;cases z) U3 l3 r3 dN;exact⟨this.uf,this.len,λx v h=>this.i1 x v (h.imp id λz=>⟨z.1,z.2.1⟩),this.i2,this.i3⟩
theorem zxG (Vs:List D->Option D)(B:FS)(Rs:List D)(rr run:D)(W:List D)(p:Int)(lo dk y:Sl)(h1:L2.atI Rs p=Ga run)(h2:Vs [run,rr]=Ga (.list W)):zbW (za6 (zaK Vs (zaB (binN dIx (gv 0) (gv 4)) (zaB (gv 1) (zaL))))) (tgNN 5) B [.val (.list Rs),.val rr,lo,dk,.val (.int p),y]=forD (tgNN 5) B W [.val (.list Rs),.val rr,lo,dk,.val (.int p),y]:=by
 simp_arith[h1,h2]
theorem jn_t (Bd:FS)(Rs:List D)(rr:D)(n:Int)(A Ks:List D)(X:Option (List D))(hn:(Rs.length:Int)=n)(h1:rngN (.int n)=Ga A)(h2:rng1 (.int n)=Ga Ks)(q:outO (thenD (forD (tgNN 4) Bd Ks [.val (.list Rs),.val rr,.own A,.dkt [],.no,.no]) (zi0 (go 2)))=X) :
  outO ((zaD (zbV 2 (zcA rngN (unN dLen (gv 0)))) (zaD (newT 3) (zaD (zbW (zcA rng1 (unN dLen (gv 0))) (tgNN 4) Bd) (zi0 (go 2))))) [.val (.list Rs),.val rr,.no,.no,.no,.no])=X:=by
 have nt:∀ a b c d e f:Sl,newT 3 [a,b,c,d,e,f]=Ga (.nx [a,b,c,.dkt [],e,f]):=λ_ _ _ _ _ _=>rfl;simp_arith[hn,h1,h2,nt];exact q
structure RowsOk (fm:List D->Option D)(Rs:List D)(rr:D)(rows:Nat->List D)(N:Nat):Prop where
 len:Rs.length=N
 h100:N<100
 at_:∀ p,p<N->∃ run,L2.atI Rs (p:Int)=Ga run/\fm [run,rr]=Ga (.list (rows p))
 ok:∀ p,p<N->RowOk (rows p)
 l5:∀ p,p<N->(rows p).length<=5
theorem ziF {N i:Nat}(h:i<N):pa (jk N) i=i:=by
 unfold pa;rw[ji,uj h];rfl
theorem zoR {Rs:List D}{rr:D}{rows:Nat->List D}{N:Nat}(O:RowsOk zaV Rs rr rows N):∃ L,UF L/\L.length=N/\(∀ x y,x<N->y<N->Mt rows x y->root L x=root L y)/\(∀ x y,x<N->y<N->root L x=root L y->Cn rows N x y)/\zcK [.list Rs,rr]=Ga (il L):=by
 have h100:=O.h100
 let I:Nat->En->Prop:=λp ψ=>∃ L kvs y4 y5,ψ=[.val (.list Rs),.val rr,.own (il L),.dkt kvs,y4,y5]/\kvs.length<=5*p/\JI rows N (λx v=>x<p/\v∈rows x/\v≠.none) L kvs
 have I0:I 0 [.val (.list Rs),.val rr,.own (il (jk N)),.dkt [],.no,.no]:=by
  refine⟨_,_,_,_,rfl,jo _,⟨λi hi=>?_,jz,λx v h=>absurd h.1 (Nat.not_lt_zero _),λv d h=>?_,λx y hx hy e=>?_⟩⟩
  .rw[jz] at hi;rw[ziF hi];exact jo _
  .cases h
  .rw[zbI (ziF hx),zbI (ziF hy)] at e;rw[e];exact .refl _
 have rn:rngN (.int (N:Int))=Ga (il (jk N)):=by
  unfold rngN;dsimp only;rw[Ge (by constructor<;>omega),jD,zbC];rfl
 have rg:rng1 (.int (N:Int))=Ga ((jk N).map λ(k:Nat)=>.int (k:Int)):=by rw[<- zbC];exact zbO (by omega)
 have G:=zd7 (t:=tgNN 4) (g:=(zbW (za6 (zaK zaV (zaB (binN dIx (gv 0) (gv 4)) (zaB (gv 1) (zaL))))) (tgNN 5) (ifSN (zaG dIsnt (gv 5) (cstN .none)) (exprC (evC 5 zaZ (ownD 2 (chgD (setdD 3 (gv 5) (gv 4)) (valD (gv 4) (nilD)))))) (nxSN)))) (f:=λ(k:Nat)=>jb (k:Int)) I N (λp hp ψ hI=>by
  obtain⟨L,kvs,y4,y5,rfl,hz,J⟩:=hI;obtain⟨run,a1,a2⟩:=O.at_ p hp;show Goes _ ((zbW (za6 (zaK zaV (zaB (binN dIx (gv 0) (gv 4)) (zaB (gv 1) (zaL))))) (tgNN 5) (ifSN (zaG dIsnt (gv 5) (cstN .none)) (exprC (evC 5 zaZ (ownD 2 (chgD (setdD 3 (gv 5) (gv 4)) (valD (gv 4) (nilD)))))) (nxSN))) [.val (.list Rs),.val rr,.own (il L),.dkt kvs,.val (.int (p:Int)),y5]);rw[zxG zaV _ Rs rr run (rows p) p _ _ _ a1 a2];have l5:=O.l5 p hp;have inner:=ze0 (t:=tgNN 5) (g:=(ifSN (zaG dIsnt (gv 5) (cstN .none)) (exprC (evC 5 zaZ (ownD 2 (chgD (setdD 3 (gv 5) (gv 4)) (valD (gv 4) (nilD)))))) (nxSN))) (ψ:=[.val (.list Rs),.val rr,.own (il L),.dkt kvs,.val (.int (p:Int)),y5]) (λd=>d) (λpre ψ=>∃ L kvs y5,ψ=[.val (.list Rs),.val rr,.own (il L),.dkt kvs,.val (.int (p:Int)),y5]/\kvs.length<=5*p+pre.length/\JI rows N (λx v=>(x<p/\v∈rows x/\v≠.none)\/(x=p/\v∈pre/\v≠.none)) L kvs) (rows p) ⟨L,kvs,y5,rfl,by simpa using hz,⟨J.uf,J.len,λx v h=>J.i1 x v (h.resolve_right λz=>by have:=z.2.1;cases this),J.i2,J.i3⟩⟩ (λpre V suf e ψ hI=>by
   obtain⟨L,kvs,y5,rfl,hz,J⟩:=hI;have vp:V∈rows p:=by rw[e];simp
   have hlen:pre.length<(rows p).length:=by rw[e,jB,ul];omega
   obtain⟨L',kvs',w,J',hz'⟩:=zuN rows N h100 _ (λx w h=>by rcases h with h|h<;>omega) L kvs J (by omega) p hp V vp (O.ok p hp V vp) (.val (.list Rs)) (.val rr);show Goes _ ((ifSN (zaG dIsnt (gv 5) (cstN .none)) (exprC (evC 5 zaZ (ownD 2 (chgD (setdD 3 (gv 5) (gv 4)) (valD (gv 4) (nilD)))))) (nxSN)) [.val (.list Rs),.val rr,.own (il L),.dkt kvs,.val (.int (p:Int)),.val V]);rw[w];refine zeO ⟨L',kvs',_,rfl,by rw[jB];show kvs'.length<=5*p+(pre.length+1);omega,⟨J'.uf,J'.len,λx v h=>J'.i1 x v ?_,J'.i2,J'.i3⟩⟩;rcases h with h|⟨h1,h2,h3⟩
   .exact .inl (.inl h)
   .rcases jN.mp h2 with z|z
    .exact .inl (.inr ⟨h1,z,h3⟩)
    .exact .inr ⟨h1,jh.mp z,by rw[<- jh.mp z];exact h3⟩)
  rw[List.map_id'] at inner;refine zgF inner λe he=>?_;obtain⟨L',kvs',y,rfl,hz',J'⟩:=he;refine⟨L',kvs',_,_,rfl,by omega,⟨J'.uf,J'.len,λx v h=>J'.i1 x v ?_,J'.i2,J'.i3⟩⟩;obtain⟨h1,h2,h3⟩:=h;by_cases c:x=p
  .subst c;exact .inr ⟨rfl,h2,h3⟩
  .exact .inl ⟨by omega,h2,h3⟩) N 0 _ (ud N) I0
 rw[<- kh] at G;obtain⟨e,e1,L,kvs,y4,y5,rfl,hz,J⟩:=G;refine⟨L,J.uf,J.len,λx y hx hy m=>?_,J.i3,?_⟩
 .obtain⟨v,h1,h2,h3⟩:=m;obtain⟨q,z1,_,z3⟩:=J.i1 x v ⟨hx,h2,h1⟩;obtain⟨q',y1,_,y3⟩:=J.i1 y v ⟨hy,h3,h1⟩;rw[z1] at y1;have:q=q':=by have:=qf (jw y1);omega
  subst this;exact z3.symm.trans y3
 .rw[zkG];refine jn_t _ Rs rr N _ _ _ (by rw[O.len]) rn rg ?_;rw[e1];rfl
def gk (rt:Nat->Nat)(s:Nat):List (Int×List D):=((jk s).filter λi=>rt i==i).map λ(a:Nat)=>((a:Int),il ((jk s).filter λi=>rt i==a))
theorem zyI {rt:Nat->Nat}{s k:Nat}:atL (gk rt s) (k:Int)=if (k<s/\rt k=k) then Ga (il ((jk s).filter λi=>rt i==k)) else Gb:=by
 unfold atL gk;rw[List.find?_map,Option.map_map];have e:(λp:Int×List D=>decide (p.1=(k:Int)))∘(λ(a:Nat)=>((a:Int),il ((jk s).filter λi=>rt i==a)))=λa=>decide (a=k):=by
  funext a
  show decide ((a:Int)=(k:Int))=_;rw[decide_eq_decide];omega
 rw[e];by_cases c:k<s/\rt k=k
 .rw[Ge c];have hm:k∈(jk s).filter λi=>rt i==i:=kn.mpr ⟨jK.mpr c.1,beq_iff_eq.mpr c.2⟩;cases q:((jk s).filter λi=>rt i==i).find? λa=>decide (a=k) with
  | none=>exact absurd (Gc rfl) (k9.mp q k hm)
  | some a =>
   have:=of_decide_eq_true (v8 (p:=λa=>decide (a=k)) q);subst this;rfl
 .rw[Gf c];have:((jk s).filter λi=>rt i==i).find? (λa=>decide (a=k))=Gb:=k9.mpr λa ha z=>by
   have z:=of_decide_eq_true z;subst z;have:=kn.mp ha;exact c ⟨jK.mp this.1,beq_iff_eq.mp this.2⟩
  rw[this];rfl
theorem zuO {rt:Nat->Nat}{s:Nat}(h1:rt s<=s)(h2:rt (rt s)=rt s)(h3:∀ i,i<s->rt i<=i):appL (addE (gk rt s) (rt s:Nat)) (rt s:Nat) (.int (s:Int))=gk rt (s+1):=by
 have rs:(jk (s+1))=jk s++[s]:=vn;unfold addE;rw[zyI];by_cases c:rt s=s
 .have n:¬(rt s<s/\rt (rt s)=rt s):=by omega
  rw[Gf n];show appL (gk rt s++[(((rt s:Nat):Int),([]:List D))]) (rt s:Nat) (.int (s:Int))=_;unfold appL gk;rw[jO,rs,uD,jO,ka,ua (by rw[beq_iff_eq];exact c),u5];have e0:((jk s).filter λi=>rt i==s)=[]:=List.filter_eq_nil_iff.mpr λi hi z=>by
   have:=h3 i (jK.mp hi);have z:=beq_iff_eq.mp z;have:=jK.mp hi;omega
  have app2:∀ {a b c d:List (Int×List D)},a=b->c=d->a++c=b++d:=λh1 h2=>by rw[h1,h2]
  refine app2 (jQ λa ha=>?_) ?_
  .have ha1:=jK.mp (kn.mp ha).1;show(if (a:Int)=(rt s:Nat) then _ else _)=_;rw[Gf (by omega),uD,ub (by rw[beq_iff_eq];omega),u5,jX]
  .show[(if ((rt s:Nat):Int)=(rt s:Nat) then _ else _)]=[_];rw[Ge rfl];dsimp only;rw[uD,e0,ua (by rw[beq_iff_eq];exact c),u5,c];rfl
 .have pp:rt s<s/\rt (rt s)=rt s:=⟨by omega,h2⟩;rw[Ge pp];show appL (gk rt s) (rt s:Nat) (.int (s:Int))=_;unfold appL gk;rw[rs,uD,ub (by rw[beq_iff_eq];exact c),u5,jX,ka];refine jQ λa ha=>?_;show(if (a:Int)=(rt s:Nat) then _ else _)=_;by_cases d:a=rt s
  .subst d;rw[Ge rfl,uD,ua (by rw[beq_iff_eq]),u5];unfold il;rw[jO];rfl
  .rw[Gf (by omega),uD,ub (by rw[beq_iff_eq];exact λz=>d z.symm),u5,jX]
theorem zxH (rt:Nat->Nat)(s:Nat):(gk rt s).length<=s/\∀ p∈gk rt s,p.2.length<=s:=by
 unfold gk;constructor
 .rw[jd];exact j9 (kN _ _) (by rw[jz];exact jo _)
 .intro p hp;obtain⟨a,_,rfl⟩:=jr.mp hp;show(il _).length<=s;rw[zhL];exact j9 (kN _ _) (by rw[jz];exact jo _)
theorem fargs {ψ:En}{p:D}{s:Sl}(h0:ψ[2]?=Ga s)(h1:ownS s=true)(h3:gv 4 ψ=Ga p):ownD 2 (valD (gv 4) nilD) ψ=Ga ([.inr 2,.inl p],ψ):=by
 unfold ownD;rw[h0];dsimp only;rw[Ge h1];unfold valD;rw[h3];rfl
theorem zoS {rt:Nat->Nat}{N:Nat}(h100:N<100)(h1:∀ i,i<N->rt i<=i)(h2:∀ i,i<N->rt (rt i)=rt i)(a b:Sl):∀ (m s:Nat) (L:List Nat) (y:Sl),s+m=N->UF L->L.length=N->(∀ x,x<N->root L x=rt x) ->
  ∃ ψ,grpL 4 (evC 2 zaH (ownD 2 (valD (gv 4) nilD))) (gv 4) ((uK s m).map λ(k:Nat)=>jb (k:Int)) [a,b,.own (il L),.no,y] (gk rt s)=Ga (ψ,gk rt N)
 | 0,s,L,y,hs,_,_,_=>by
  have e:s=N:=by omega
  subst e;exact⟨_,rfl⟩
 | m+1,s,L,y,hs,U,hl,hr=>by
  obtain⟨L',A,w⟩:=ziE U (p:=s) (by omega) (by omega);rw[hr s (by omega)] at w;have ev:evC 2 zaH (ownD 2 (valD (gv 4) nilD)) [a,b,.own (il L),.no,.val (.int (s:Int))]=Ga (.int (rt s:Nat),[a,b,.own (il L'),.no,.val (.int (s:Int))]) :=
   zoM (fargs (s:=.own (il L)) rfl rfl rfl) (jH.mpr ⟨by simp[inrs],j6⟩) (λi hi=>by rw[show inrs [Sum.inr 2,.inl (jb (s:Int))]=[2] from rfl] at hi;rw[jh.mp hi];exact⟨_,rfl,rfl⟩) (zmM rfl w)
  have gl:=zxH rt s;obtain⟨ψ,e⟩:=zoS h100 h1 h2 a b m (s+1) L' (.val (.int (s:Int))) (by omega) A.uf (by rw[A.len];exact hl) (λx hx=>(A.rt x (by omega)).trans (hr x hx));refine⟨ψ,?_⟩;rw[vO,jR];unfold grpL;show(evC 2 zaH (ownD 2 (valD (gv 4) nilD)) [a,b,.own (il L),.no,.val (.int (s:Int))]).bind _=_;rw[ev,jf];show(Ga (jb (s:Int))).bind _=_;rw[jf];dsimp only;rw[Ge ⟨by omega,kB.mpr λp hp=>Gc (by have:=gl.2 p hp;omega)⟩,zuO (h1 s (by omega)) (h2 s (by omega)) (λi hi=>h1 i (by omega))];exact e
def rts (rt:Nat->Nat)(N:Nat):List Nat:=(jk N).filter λi=>rt i==i
def grp (rt:Nat->Nat)(N a:Nat):List Nat:=(jk N).filter λi=>rt i==a
theorem cl_t (J:List D->Option (List D))(G:FS)(Rs rr:D)(A:List D)(X:Option Out)(h1:J [Rs,rr]=Ga A)(q:G [.val Rs,.val rr,.own A,.no,.no]=X):(zaD (zbV 2 (znU J (zaB (gv 0) (zaB (gv 1) (zaL))))) G) [.val Rs,.val rr,.no,.no,.no]=X:=by
 simp_arith[h1];exact q
theorem zxI (Rs:D)(n:Int)(x1 x2 x3 x4:Sl)(Ks:List D)(h1:dLen Rs=Ga (.int n))(h2:rng1 (.int n)=Ga Ks):zcA rng1 (unN dLen (gv 0)) [.val Rs,x1,x2,x3,x4]=Ga Ks:=by
 simp_arith[h1,h2]
theorem zmN {Rs:List D}{rr:D}{rows:Nat->List D}{N:Nat}(O:RowsOk zaV Rs rr rows N):∃ rt:Nat->Nat,(∀ i,i<N->rt i<=i)/\(∀ i,i<N->rt (rt i)=rt i)/\(∀ x y,x<N->y<N->Mt rows x y->rt x=rt y)/\(∀ x y,x<N->y<N->rt x=rt y->Cn rows N x y) /\
  zbZ [.list Rs,rr]=Ga (.list ((rts rt N).map λa=>.list (il (grp rt N a)))):=by
 have h100:=O.h100;obtain⟨L,U,hl,hA,hB,e⟩:=zoR O;have r1:∀ i,i<N->root L i<=i:=λi hi=>(zfN U i (by omega)).2;have r2:∀ i,i<N->root L (root L i)=root L i:=λi hi=>zbI (zfN U i (by omega)).1;refine⟨root L,r1,r2,hA,hB,?_⟩;obtain⟨ψ,g⟩:=zoS h100 r1 r2 (.val (.list Rs)) (.val rr) N 0 L .no (ud N) U hl (λ_ _=>rfl);have rg:zcA rng1 (unN dLen (gv 0)) [.val (.list Rs),.val rr,.own (il L),.no,.no]=Ga ((uK 0 N).map λ(k:Nat)=>jb (k:Int)):=by
  have r0:rng1 (.int (N:Int))=Ga ((uK 0 N).map λ(k:Nat)=>jb (k:Int)):=by rw[<- kh,<- zbC];exact zbO (by omega)
  exact zxI (.list Rs) N _ _ _ _ _ (by show Ga (jb (Rs.length:Nat))=_;rw[O.len]) r0
 rw[zjB];have q:(grpS 3 4 (zcA rng1 (unN dLen (gv 0))) (evC 2 zaH (ownD 2 (valD (gv 4) (nilD)))) (gv 4)) [.val (.list Rs),.val rr,.own (il L),.no,.no]=Ga (.rt (.list ((rts (root L) N).map λa=>.list (il (grp (root L) N a))))):=by
  unfold grpS;rw[show[Sl.val (.list Rs),.val rr,.own (il L),.no,.no].set 3 .no=[.val (.list Rs),.val rr,.own (il L),.no,.no] from rfl,rg,jf];have g0:gk (root L) 0=[]:=rfl;rw[g0] at g;rw[g,jf];dsimp only;have e3:(gk (root L) N).map (λp=>kE p.2)=(rts (root L) N).map λa=>.list (il (grp (root L) N a)):=by unfold gk rts grp;rw[ka];rfl
  rw[e3]
 unfold zeU;rw[cl_t zcK _ _ _ _ _ e q];rfl
theorem zoT (f:FL)(ψ:En):srtL f ψ=(f ψ).bind zj6:=(rfl)
def setQD (ds:List D):Option (List D):=(intsD ds).bind λns=>if (ns.all λx=>decide (0<=x/\x<32))=true then Ga ((ris32 ns).map jb) else Gb
theorem zuP (f:FL)(ψ:En):setQ f ψ=(f ψ).bind setQD:=(rfl)
theorem zyJ (Wh:List D->Option D)(F M t g:Sl)(kvs kvs':List (Int×D))(i:Int)(T:D)(h1:Wh [.int i]=Ga (.bool true))(h2:atK kvs i=Gb)(h3:(if kvs.length<1000000 then Ga (putD kvs i T) else Gb)=Ga kvs'):(zaD (ifSN (orBN (zgE (tstN (zaK Wh (zaB (gv 5) (zaL))))) (zaG dInI (gv 5) (gv 2))) (za1 (cstN .none)) (nxSN)) (setI 2 (gv 5) (gv 3))) [F,M,.dki Gb kvs,.val T,g,.val (.int i)]=Ga (.nx [F,M,.dki Gb kvs',.val T,g,.val (.int i)]):=by
 have e0:(Gb:Option D).isSome=false:=rfl;simp_arith[h1,h2,h3,e0]
theorem zuQ (Bi:FS)(F M t y:Sl)(dk:Sl)(A:List D)(n:Int)(hn:(A.length:Int)=n)(h0:dEq (.int n) (.int 0)=Ga (.bool false))(hq:setQD A=Ga A)(hne:dNe (.list A) (.list A)=Ga (.bool false)):(zaD (ifSN (orBN (zgE (tstN (unN (dIsT "list") (gv 4)))) (orBN (zaG dEq (unN dLen (gv 4)) (cstN (.int 0))) (zaG dNe (gv 4) (zdO (setQ (shVN (gv 4))))))) (za1 (cstN .none)) (nxSN)) (zbW (za6 (gv 4)) (tgNN 5) Bi)) [F,M,dk,t,.val (.list A),y]=forD (tgNN 5) Bi A [F,M,dk,t,.val (.list A),y]:=by
 have hl:dLen (.list A)=Ga (.int n):=by rw[<- hn];rfl
 have hi:dIsT "list" (.list A)=Ga (.bool true):=rfl;simp_arith[hl,h0,zuP,hq,hne,hi]
theorem zxJ (Gs:List D)(N:D)(kvs:List (Int×D))(y3 y4 y5:Sl)(A B:List D)(h1:zj6 (kvs.map λp=>.int p.1)=Ga A)(h2:rngN N=Ga A)(h3:dNe (.list A) (.list A)=Ga (.bool false))(h4:∀ e,compF (za6 (gv 0)) (λ_=>Ga true) (binN dIx (gv 0) (cstN (.int 0))) [] (.val (.list Gs)::e)=Ga B)(h5:zj6 B=Ga B)(h6:dNe (.list B) (.list B)=Ga (.bool false)) :
  (zaD (ifSN (zaG dNe (zdO (srtL (zcA keysI (gv 2)))) (zdO (zcA rngN (gv 1)))) (za1 (cstN .none)) (nxSN)) (zaD (ifSN (zaG dNe (zdO (compF (za6 (gv 0)) (λ_=>Ga true) (binN dIx (gv 0) (cstN (.int 0))) [])) (zdO (srtL (compF (za6 (gv 0)) (λ_=>Ga true) (binN dIx (gv 0) (cstN (.int 0))) [])))) (za1 (cstN .none)) (nxSN)) (zs3 2 (za1 (gv 2))))) [.val (.list Gs),.val N,.dki Gb kvs,y3,y4,y5]=Ga (.rt (diD kvs)):=by
 simp_arith[zoT,h1,h2,h3,h4,h5,h6]
theorem gr_t (Bd R:FS)(Gs:List D)(N X:D)(Ks:List D)(h1:enuD (.list Gs)=Ga Ks)(q:outV (thenD (forD (tgTN (zaT (tgNN 3) (zaT (tgNN 4) (zdP)))) Bd Ks [.val (.list Gs),.val N,.dki Gb [],.no,.no,.no]) R)=Ga X):outV ((zaD (ifSN (zgE (tstN (unN (dIsT "list") (gv 0)))) (za1 (cstN .none)) (nxSN)) (zaD (zs9 2) (zaD (zbW (zcA enuD (gv 0)) (tgTN (zaT (tgNN 3) (zaT (tgNN 4) (zdP)))) Bd) R))) [.val (.list Gs),.val N,.no,.no,.no,.no])=Ga X:=by
 have hi:dIsT "list" (.list Gs)=Ga (.bool true):=rfl;simp_arith[h1,hi];exact q
def ntI (l:List Nat):List Int:=l.map λ(k:Nat)=>(k:Int)
theorem zgU (l:List Nat):il l=(ntI l).map jb:=by unfold il ntI;rw[ka];rfl
theorem zrU {l:List Nat}(h:l.Pairwise (·<·)):(ntI l).Pairwise (·<=·):=uw.mpr (h.imp λz=>by omega)
theorem zxK {l:List Nat}(h:l.Nodup):(ntI l).Nodup:=uw.mpr (h.imp λz w=>z (by omega))
theorem zmO {l:List Nat}(h:l.Pairwise (·<·)):l.Nodup:=h.imp λz=>jC z
theorem zuR {l:List Nat}(h:l.Pairwise (·<·))(h32:∀ x∈l,x<32):setQD (il l)=Ga (il l):=by
 have rg:∀ x∈ntI l,0<=x/\x<32:=λx hx=>by
  obtain⟨k,h1,rfl⟩:=jr.mp hx;have:=h32 k h1;omega
 unfold setQD;rw[zgU,zc2,jf,Ge (kB.mpr λx hx=>Gc (rg x hx))];refine congrArg (λz=>Ga (List.map jb z)) ?_;refine zn7 ?_ (zlD _) (zrU h);exact(uh (zlC _) (zxK (zmO h))).mpr λx=>zi5 rg x
theorem zd2 {l m:List Nat}(p:l.Perm m)(h:m.Pairwise (·<·))(hl:l.length<64):zj6 (il l)=Ga (il m):=by
 unfold zj6;rw[zgU,zc2,jf,Ge (by unfold ntI;rw[jd];exact hl),zgU];refine congrArg (λz=>Ga (List.map jb z)) ?_;exact zh1 (p.symm.map _) (zrU h)
theorem zqX (l:List Nat):dNe (.list (il l)) (.list (il l))=Ga (.bool false):=by
 refine zkX ?_ ?_
 .show jZ (il l)=true;rw[zgU];exact PyProof.Rows.canLayAll_ints _
 .show jU (il l)+1<=100;rw[zgU,PyProof.Rows.depthAll_ints];decide
section
variable {rt:Nat->Nat}{N:Nat}(h1:∀ i,i<N->rt i<=i)(h2:∀ i,i<N->rt (rt i)=rt i)
theorem zjI (a:Nat):(grp rt N a).Pairwise (·<·):=ug.sublist uy
theorem zoU:(rts rt N).Pairwise (·<·):=ug.sublist uy
theorem zcO {a i:Nat}:i∈grp rt N a↔i<N/\rt i=a:=by unfold grp;rw[kn,jK,beq_iff_eq]
theorem zkP {i:Nat}:i∈rts rt N↔i<N/\rt i=i:=by unfold rts;rw[kn,jK,beq_iff_eq]
include h1 in
theorem ziG {a:Nat}(ha:a∈rts rt N):∃ r,grp rt N a=a::r:=by
 have ha:=zkP.mp ha;have m:a∈grp rt N a:=zcO.mpr ha;have up:=zjI (rt:=rt) (N:=N) a;cases q:grp rt N a with
 | nil=>rw[q] at m;cases m
 | cons x r =>
  rw[q] at m up;have hx:x∈grp rt N a:=by rw[q];exact jn
  have hx:=zcO.mp hx;have:=h1 x hx.1;rcases ju.mp m with z|z
  .exact⟨r,by rw[z]⟩
  .have:=(qe.mp up).1 a z;omega
def wk (rt:Nat->Nat)(N n:Nat):List (Int×D):=(jk n).flatMap λt=>(grp rt N ((rts rt N).getD t 0)).map λ(i:Nat)=>((i:Int),jb (t:Int))
theorem zoV (n:Nat):wk rt N (n+1)=wk rt N n++(grp rt N ((rts rt N).getD n 0)).map λ(i:Nat)=>((i:Int),jb (n:Int)):=by
 unfold wk;rw[vn,List.flatMap_append,List.flatMap_cons,List.flatMap_nil,jX]
theorem zxL {n:Nat}{p:Int×D}(h:p∈wk rt N n):∃ t i:Nat,t<n/\i<N/\rt i=(rts rt N).getD t 0/\p=((i:Int),.int (t:Int)):=by
 unfold wk at h;obtain⟨t,h3,h4⟩:=vR.mp h;obtain⟨i,h5,rfl⟩:=jr.mp h4;have:=zcO.mp h5;exact⟨t,i,jK.mp h3,this.1,this.2,rfl⟩
theorem zhN {t:Nat}(ht:t<(rts rt N).length):(rts rt N).getD t 0=(rts rt N)[t]:=by rw[ji,jc ht];rfl
theorem zuS {s t:Nat}(hs:s<(rts rt N).length)(ht:t<(rts rt N).length)(e:(rts rt N).getD s 0=(rts rt N).getD t 0):s=t:=by
 rw[zhN hs,zhN ht] at e;exact(vJ hs (zmO zoU)).mp (by rw[jc hs,jc ht,e])
theorem zqY {kvs:List (Int×D)}{k:Int}(h:∀ p∈kvs,p.1≠k):atK kvs k=Gb:=by
 unfold atK;rw[uX,k9];exact λp hp z=>h p hp (of_decide_eq_true z)
theorem zqZ {kvs:List (Int×D)}{k:Int}{d:D}(h:∀ p∈kvs,p.1≠k):putD kvs k d=kvs++[(k,d)]:=by
 unfold putD;rw[Gf];intro z;obtain⟨p,h1,h2⟩:=uP.mp z;exact h p h1 (of_decide_eq_true h2)
theorem zoW {n:Nat}(hn:n<(rts rt N).length){i:Nat}(hi:i∈grp rt N ((rts rt N).getD n 0)):∀ p∈wk rt N n,p.1≠(i:Int):=λp hp z=>by
 obtain⟨t,j,h3,h4,h5,rfl⟩:=zxL hp;have hj:j=i:=by dsimp only at z;omega
 subst hj;have:=(zcO.mp hi).2;have:=zuS (by omega) hn (h5.symm.trans this);omega
theorem zuT:∀ n,n<=(rts rt N).length->((wk rt N n).map (·.1)).Nodup
 | 0,_=>j6
 | n+1,h=>by
  rw[zoV,jO,ky];refine⟨zuT n (by omega),?_,λx hx y hy z=>?_⟩
  .rw[ka];exact uw.mpr ((zmO (zjI _)).imp λz w=>z (by have w2:((_:Nat):Int)=((_:Nat):Int):=w;omega))
  .obtain⟨p,h3,rfl⟩:=jr.mp hx;obtain⟨q,h4,rfl⟩:=jr.mp hy;obtain⟨i,h5,rfl⟩:=jr.mp h4;exact zoW (by omega) h5 p h3 z
theorem zxM {i:Nat}(hi:i<N)(h2:∀ i,i<N->rt (rt i)=rt i)(h1:∀ i,i<N->rt i<=i):∃ t:Nat,(rts rt N)[t]?=Ga (rt i)/\atK (wk rt N (rts rt N).length) (i:Int)=Ga (.int (t:Int)):=by
 have hr:rt i∈rts rt N:=zkP.mpr ⟨by have:=h1 i hi;omega,h2 i hi⟩;obtain⟨t,ht,e⟩:=ur.mp hr;refine⟨t,by rw[jc ht,e],?_⟩;have m:((i:Int),jb (t:Int))∈wk rt N (rts rt N).length:=by
  unfold wk;exact vR.mpr ⟨t,jK.mpr ht,jr.mpr ⟨i,zcO.mpr ⟨hi,by rw[zhN ht];exact e.symm⟩,rfl⟩⟩
 have nd:=zuT (rt:=rt) (N:=N) _ (jo _);generalize wk rt N (rts rt N).length=W at m nd;unfold atK;cases q:W.find? (λp=>decide (p.1=(i:Int))) with
 | none=>exact absurd (Gc rfl) (k9.mp q _ m)
 | some p =>
  have h3:=of_decide_eq_true (v8 (p:=λ(p:Int×D)=>decide (p.1=(i:Int))) q);have h4:=vb q;obtain⟨a,ha,ea⟩:=ur.mp h4;obtain⟨b,hb,eb⟩:=ur.mp m;have:a=b:=(vJ (by rw[jd];exact ha) nd).mp (by rw[jq,jq,jc ha,jc hb,ea,eb];exact congrArg Ga h3);subst this;rw[ea] at eb;rw[eb];rfl
theorem zuU (h2:∀ i,i<N->rt (rt i)=rt i)(h1:∀ i,i<N->rt i<=i):∃ l:List Nat,(wk rt N (rts rt N).length).map (λp=>jb p.1)=il l/\l.Perm (jk N):=by
 refine⟨(jk (rts rt N).length).flatMap λt=>grp rt N ((rts rt N).getD t 0),?_,?_⟩
 .unfold wk il;rw[vS,vS];refine congrArg (λf=>List.flatMap f (jk (rts rt N).length)) (funext λt=>?_);rw[ka];rfl
 .have e:(wk rt N (rts rt N).length).map (·.1)=ntI ((jk (rts rt N).length).flatMap λt=>grp rt N ((rts rt N).getD t 0)):=by
   unfold wk ntI;rw[vS,vS];refine congrArg (λf=>List.flatMap f (jk (rts rt N).length)) (funext λt=>?_);rw[ka];rfl
  have nd:=zuT (rt:=rt) (N:=N) _ (jo _);rw[e] at nd;have nd2:((jk (rts rt N).length).flatMap λt=>grp rt N ((rts rt N).getD t 0)).Nodup:=(uw.mp nd).imp λz w=>z (by rw[w]);refine(uh nd2 qy).mpr λx=>?_;rw[jK];constructor
  .intro h;obtain⟨t,_,h4⟩:=vR.mp h;exact(zcO.mp h4).1
  .intro hx;obtain⟨t,ht,_⟩:=zxM hx h2 h1;have hl:=(je.mp ht).1;refine vR.mpr ⟨t,jK.mpr hl,zcO.mpr ⟨hx,?_⟩⟩;rw[zhN hl];rw[jc hl] at ht;exact(jw ht).symm
end
theorem zyK (a b:D)(F M dk y3 y4 y5:Sl):tgTN (zaT (tgNN 3) (zaT (tgNN 4) (zdP))) (.tuple [a,b]) [F,M,dk,y3,y4,y5]=Ga [F,M,dk,.val a,.val b,y5]:=by simp_arith[]
theorem zq0 (i:Int):za8 [.int i]=Ga (.bool true):=rfl
theorem zq1 {rt:Nat->Nat}{N:Nat}(h1:∀ i,i<N->rt i<=i)(hN:N<=26)(e:En):compF (za6 (gv 0)) (λ_=>Ga true) (binN dIx (gv 0) (cstN (.int 0))) [] (.val (.list ((rts rt N).map λa=>.list (il (grp rt N a))))::e)=Ga (il (rts rt N)):=by
 have hl:(rts rt N).length<=N:=by unfold rts;exact j9 (kN _ _) (by rw[jz];exact jo _)
 refine(zeY (ds:=(rts rt N).map λa=>kE (il (grp rt N a))) rfl (by rw[jd];omega)).trans ?_;refine(zkM (λa=>kE (il (grp rt N a))) (λ(a:Nat)=>jb (a:Int)) λa ha=>?_).trans rfl;obtain⟨r,er⟩:=ziG h1 ha;show dIx (.list (il (grp rt N a))) (.int ((0:Nat):Int))=_;rw[er];exact zc3 (xs:=il (a::r)) rfl
theorem zoX {rt:Nat->Nat}{N:Nat}(h1:∀ i,i<N->rt i<=i)(h2:∀ i,i<N->rt (rt i)=rt i)(hN:N<=26):zbH [.list ((rts rt N).map λa=>.list (il (grp rt N a))),.int (N:Int)]=Ga (diD (wk rt N (rts rt N).length)):=by
 have hl:(rts rt N).length<=N:=by unfold rts;exact j9 (kN _ _) (by rw[jz];exact jo _)
 have gl:∀ a,(grp rt N a).length<=N:=λa=>by unfold grp;exact j9 (kN _ _) (by rw[jz];exact jo _)
 have g32:∀ a,∀ x∈grp rt N a,x<32:=λa x hx=>by have:=(zcO.mp hx).1;omega
 have wl:∀ n,n<=(rts rt N).length->(wk rt N n).length<=26*n:=λn=>by
  induction n with
  | zero=>intro _;exact jo _
  | succ n ih=>intro h;rw[zoV,jB,jd];have:=ih (by omega);have:=gl ((rts rt N).getD n 0);omega
 have en:enuD (.list ((rts rt N).map λa=>kE (il (grp rt N a))))=Ga ((jk (rts rt N).length).map λ(k:Nat)=>kH [.int (k:Int),.list (il (grp rt N ((rts rt N).getD k 0)))]):=by
  show Ga ((jk ((rts rt N).map λa=>kE (il (grp rt N a))).length).map _)=_;rw[jd];refine congrArg Ga (jQ λk hk=>?_);have hk:=jK.mp hk;have:((rts rt N).map λa=>kE (il (grp rt N a))).getD k .none=.list (il (grp rt N ((rts rt N).getD k 0))):=by
   rw[ji,jq,jc hk,zhN hk];rfl
  rw[this]
 have he:=zq1 h1 hN;obtain⟨l,e1,e2⟩:=zuU h2 h1;have rn:rngN (.int (N:Int))=Ga (il (jk N)):=by
  unfold rngN;dsimp only;rw[Ge (by constructor<;>omega),jD,zbC];rfl
 rw[zgQ];generalize hF:((rts rt N).map λa=>kE (il (grp rt N a)))=Gs at en he ⊢
 let I:Nat->En->Prop:=λk ψ=>∃ y3 y4 y5,ψ=[.val (.list Gs),.val (.int (N:Int)),.dki Gb (wk rt N k),y3,y4,y5]
 have G:=zd7 (t:=tgTN (zaT (tgNN 3) (zaT (tgNN 4) (zdP)))) (g:=(zaD (ifSN (orBN (zgE (tstN (unN (dIsT "list") (gv 4)))) (orBN (zaG dEq (unN dLen (gv 4)) (cstN (.int 0))) (zaG dNe (gv 4) (zdO (setQ (shVN (gv 4))))))) (za1 (cstN .none)) (nxSN)) (zbW (za6 (gv 4)) (tgNN 5) (zaD (ifSN (orBN (zgE (tstN (zaK za8 (zaB (gv 5) (zaL))))) (zaG dInI (gv 5) (gv 2))) (za1 (cstN .none)) (nxSN)) (setI 2 (gv 5) (gv 3)))))) (f:=λ(k:Nat)=>kH [.int (k:Int),.list (il (grp rt N ((rts rt N).getD k 0)))]) I (rts rt N).length (λk hk ψ hI=>by
  obtain⟨y3,y4,y5,rfl⟩:=hI;rw[zyK,jf];have hm:(rts rt N).getD k 0∈rts rt N:=by rw[zhN hk];exact kU hk
  obtain⟨r,er⟩:=ziG h1 hm;have hz:((il (grp rt N ((rts rt N).getD k 0))).length:Int)≠0:=by rw[zhL,er,ul];omega
  have inner:=ze0 (t:=tgNN 5) (g:=(zaD (ifSN (orBN (zgE (tstN (zaK za8 (zaB (gv 5) (zaL))))) (zaG dInI (gv 5) (gv 2))) (za1 (cstN .none)) (nxSN)) (setI 2 (gv 5) (gv 3)))) (ψ:=[.val (.list Gs),.val (.int (N:Int)),.dki Gb (wk rt N k),.val (.int (k:Int)),.val (.list (il (grp rt N ((rts rt N).getD k 0)))),y5]) (λ(i:Nat)=>jb (i:Int)) (λpre ψ=>∃ y5,ψ=[.val (.list Gs),.val (.int (N:Int)),.dki Gb (wk rt N k++pre.map λ(i:Nat)=>((i:Int),jb (k:Int))),.val (.int (k:Int)),.val (.list (il (grp rt N ((rts rt N).getD k 0)))),y5]) (grp rt N ((rts rt N).getD k 0)) ⟨_,by rw[Ja,jX]⟩ (λpre i suf e ψ hI=>by
   obtain⟨y5,rfl⟩:=hI;have nd:=zmO (zjI (rt:=rt) (N:=N) ((rts rt N).getD k 0));rw[e] at nd;have ni:i∉pre:=λz=>(ky.mp nd).2.2 i z i jn rfl;have fr:∀ p∈wk rt N k++pre.map (λ(i:Nat)=>((i:Int),jb (k:Int))),p.1≠(i:Int):=λp hp=>by
    rcases jN.mp hp with z|z
    .exact zoW hk (by rw[e];simp) p z
    .obtain⟨j,h3,rfl⟩:=jr.mp z;intro w;have:j=i:=by dsimp only at w;omega
     exact ni (this▸h3)
   have lz:(wk rt N k++pre.map (λ(i:Nat)=>((i:Int),jb (k:Int)))).length<1000000:=by
    rw[jB,jd];have:=wl k (by omega);have h5:=gl ((rts rt N).getD k 0);rw[e,jB] at h5;omega
   show Goes _ ((zaD (ifSN (orBN (zgE (tstN (zaK za8 (zaB (gv 5) (zaL))))) (zaG dInI (gv 5) (gv 2))) (za1 (cstN .none)) (nxSN)) (setI 2 (gv 5) (gv 3))) [.val (.list Gs),.val (.int (N:Int)),.dki Gb (wk rt N k++pre.map λ(i:Nat)=>((i:Int),jb (k:Int))),.val (.int (k:Int)),.val (.list (il (grp rt N ((rts rt N).getD k 0)))),.val (.int (i:Int))]);rw[zyJ za8 _ _ .no _ _ _ i _ (zq0 i) (zqY fr) (by rw[Ge lz,zqZ fr])];refine zeO ⟨.val (.int (i:Int)),?_⟩;rw[jO,kD];rfl)
  rw[zuQ _ _ _ _ _ _ (il (grp rt N ((rts rt N).getD k 0))) _ rfl (by rw[zc4,Gd hz]) (zuR (zjI _) (g32 _)) (zqX _)];refine zgF inner λψ he=>?_;obtain⟨y,rfl⟩:=he;exact⟨_,_,_,by rw[zoV]⟩) (rts rt N).length 0 [.val (.list Gs),.val (.int (N:Int)),.dki Gb [],.no,.no,.no] (ud _) ⟨_,_,_,rfl⟩
 rw[<- kh] at G;obtain⟨e,g1,y3,y4,y5,rfl⟩:=G;unfold zc1;refine gr_t _ _ Gs _ _ _ en ?_;rw[g1,zd6,zxJ Gs (.int (N:Int)) (wk rt N (rts rt N).length) y3 y4 y5 (il (jk N)) (il (rts rt N)) (by rw[e1];exact zd2 e2 ug (by rw[e2.length_eq,jz];omega)) rn (zqX _) he (zd2 (.refl _) zoU (by omega)) (zqX _)];rfl
theorem zoY {t:FT}{g:FS}{α:Type}(f:α->D)(p:α->Bool)(I:En->Prop)(v:D):∀ (xs:List α) (ψ:En),I ψ->(∀ x∈xs,∀ e,I e->(p x=true->(t (f x) e).bind g=Ga (.rt v))/\(p x=false->Goes I ((t (f x) e).bind g)))->(xs.any p=true->forD t g (xs.map f) ψ=Ga (.rt v))/\(xs.any p=false->Goes I (forD t g (xs.map f) ψ))
 | [],ψ,h,_=>⟨λz=>(by cases z),λ_=>⟨ψ,rfl,h⟩⟩
 | x::r,ψ,h,st=>by
  obtain⟨s1,s2⟩:=st x jn ψ h;rw[vi,jR];cases c:p x with
  | true =>
   obtain⟨e1,z1,z2⟩:=bind_some (s1 c);refine⟨λ_=>?_,λz=>by rw[Bool.true_or] at z;cases z⟩;unfold forD;rw[z1,jf,z2];rfl
  | false =>
   obtain⟨e,w1,w2⟩:=s2 c;obtain⟨e1,z1,z2⟩:=bind_some w1;have:=zoY f p I v r e w2 λx hx=>st x (jm _ hx);unfold forD;rw[z1,jf,z2,Bool.false_or];exact this
theorem zxN (ns ms:List D)(fs gs:List Fl)(n5:ns.length<=5)(hl:ms.length=ns.length)(hi:∀ d∈ns,∃ i:Int,d=.int i)(hj:∀ d∈ms,∃ i:Int,d=.int i)(r:Nat)(hr:r<=4) :
  zaM [.list (vL ns fs r),.list (vL ms gs r)]=Ga (.bool ((jk ns.length).any λk=>up fs k (r:Int)&&(up gs k (r:Int)&&decide (vw ns fs r k=vw ms gs r k)))):=by
 rw[zh9];have ln:dLen (.list (vL ns fs r))=Ga (.int (ns.length:Int)):=by
  show Ga (jb ((vL ns fs r).length:Nat))=_;rw[zlJ]
 have rg:rng1 (.int (ns.length:Int))=Ga ((jk ns.length).map λ(k:Nat)=>.int (k:Int)):=by rw[<- zbC];exact zbO (by omega)
 obtain⟨s1,s2⟩:=zoY (t:=tgNN 2) (g:=ifSN (zc7 (zaG dIsnt (binN dIx (gv 0) (gv 2)) (cstN .none)) (zaG dEq (binN dIx (gv 0) (gv 2)) (binN dIx (gv 1) (gv 2)))) (za1 (cstN (.bool true))) (nxSN)) (λ(k:Nat)=>jb (k:Int)) (λk=>up fs k (r:Int)&&(up gs k (r:Int)&&decide (vw ns fs r k=vw ms gs r k))) (λψ=>∃ y,ψ=[.val (.list (vL ns fs r)),.val (.list (vL ms gs r)),y]) (.bool true) (jk ns.length) [.val (.list (vL ns fs r)),.val (.list (vL ms gs r)),.no] ⟨_,rfl⟩ (λk hk e he=>by
  have hk:=jK.mp hk;obtain⟨y,rfl⟩:=he;have g1:=zoG (ns:=ns) (fs:=fs) (r:=r) hk;have g2:=zoG (ns:=ms) (fs:=gs) (r:=r) (h:=k) (by omega);have d1:=zxD ns ms fs gs hi hj r k hr;cases u:up fs k (r:Int) with
  | false =>
   have e:vAt ns fs r k=.none:=by unfold vAt;rw[u,Gf (by decide)]
   rw[e] at g1;rw[zrR _ _ _ _ k y false false g1 g2 rfl (λz=>by cases z),Gf (by decide),qJ];exact⟨λz=>(by cases z),λ_=>⟨_,rfl,_,rfl⟩⟩
  | true =>
   have e:vAt ns fs r k=vw ns fs r k:=by unfold vAt;rw[u,Ge rfl]
   rw[e] at g1;have nn:dIsnt (vw ns fs r k) .none=Ga (.bool true):=by
    obtain⟨ds,z⟩:=zyG ns fs r k;rw[z];rfl
   rw[zrR _ _ _ _ k y true _ g1 g2 nn (λ_=>d1),u7];exact⟨λz=>by rw[Ge z],λz=>by rw[Gf (by rw[z];decide)];exact⟨_,rfl,_,rfl⟩⟩)
 cases c:(jk ns.length).any λk=>up fs k (r:Int)&&(up gs k (r:Int)&&decide (vw ns fs r k=vw ms gs r k)) with
 | true =>
  refine zrS _ _ _ _ _ ln rg ?_;rw[s1 c];rfl
 | false =>
  refine zrS _ _ _ _ _ ln rg ?_;obtain⟨e,e1,_⟩:=s2 c;rw[e1];rfl
theorem zxO (o:Nat)(F:List Nat):dNin (.int (o:Int)) (.list (il F))=Ga (.bool (!F.contains o)):=by
 have c1:jZ (il F)=true:=by rw[zgU];exact PyProof.Rows.canLayAll_ints _
 have c2:jU (il F)=0:=by rw[zgU];exact PyProof.Rows.depthAll_ints _
 have ok:okIn (.int (o:Int)) (il F)=true:=by
  unfold okIn;rw[c1,c2];rfl
 show(toS (.list (il F))).bind _=_;show(if okIn (.int (o:Int)) (il F) then Ga (uJ (!(il F).any λy=>jV y (.int (o:Int)))) else Gb)=_;rw[Ge ok];have:((il F).any λy=>jV y (.int (o:Int)))=F.contains o:=by
  unfold il;rw[List.any_map,kS,uP,uE];constructor
  .rintro⟨k,h1,h2⟩;have h2:jV (.int (k:Int)) (.int (o:Int))=true:=h2;rw[jV,beq_iff_eq] at h2;have:k=o:=by omega
   exact this▸h1
  .intro h;refine⟨o,h,?_⟩;show jV (.int (o:Int)) (.int (o:Int))=true;rw[jV];exact beq_self_eq_true _
 rw[this]
theorem zjJ {c:FB}{g:FS}(I:Nat->En->Prop)(hI:∀ m ψ,I m ψ->c (frz ψ)=Ga false\/(c (frz ψ)=Ga true/\∃ m' e,m'<m/\g ψ=Ga (.nx e)/\I m' e)):∀ (n m:Nat) (ψ:En),m<n->I m ψ->∃ m' e,whileD c g n ψ=Ga (.nx e)/\I m' e/\c (frz e)=Ga false
 | 0,m,ψ,h,_=>by omega
 | n+1,m,ψ,h,h0=>by
  unfold whileD;rcases hI m ψ h0 with z|⟨z,m',e,h1,h2,h3⟩
  .rw[z,jf,Gf (by decide)];exact⟨m,ψ,rfl,h0,z⟩
  .rw[z,jf,Ge rfl,h2,jf];exact zjJ I hI n m' e (by omega) h3
theorem zyL (Mt:List D->Option D)(VS:D)(A F:List D)(k o x:Int)(y:Sl)(vx vo:D)(b c:Bool)(h1:dNin (.int o) (.list F)=Ga (.bool b))(h2:L2.atI F k=Ga (.int x))(h3:dIx VS (.int x)=Ga vx)(h4:dIx VS (.int o)=Ga vo)(h5:Mt [vx,vo]=Ga (.bool c))(hl:F.length<1000000) :
  ((tgNN 4) (.int o) [.val VS,.val (.list A),.own F,.val (.int k),y]).bind (ifSN (zc7 (zaG dNin (gv 4) (gv 2)) (tstN (zaK Mt (zaB (binN dIx (gv 0) (binN dIx (gv 2) (gv 3))) (zaB (binN dIx (gv 0) (gv 4)) (zaL)))))) (zcB 2 (gv 4)) (nxSN))=if (b&&c)=true then Ga (.nx [.val VS,.val (.list A),.own (F++[.int o]),.val (.int k),.val (.int o)]) else Ga (.nx [.val VS,.val (.list A),.own F,.val (.int k),.val (.int o)]):=by
 cases b with
 | false=>simp_arith[h1];rfl
 | true =>
  cases c with
  | false=>simp_arith[h1,h2,h3,h4,h5];rfl
  | true=>simp_arith[h1,h2,h3,h4,h5,Ge hl];rfl
theorem zoZ (VS A:D)(F:List D)(k l:Int)(y:Sl)(hl:dLen (.list F)=Ga (.int l)):(zaG dLt (gv 3) (unN dLen (gv 2))) (frz [.val VS,.val A,.own F,.val (.int k),y])=Ga (decide (k<l)):=by
 simp_arith[hl]
theorem zuV (Bi:FS)(VS:D)(A F F':List D)(k:Int)(y y':Sl)(q:forD (tgNN 4) Bi A [.val VS,.val (.list A),.own F,.val (.int k),y]=Ga (.nx [.val VS,.val (.list A),.own F',.val (.int k),y'])):(zaD (zbW (za6 (gv 1)) (tgNN 4) Bi) (za5 3 (binN dAdd (gv 3) (cstN (.int 1))))) [.val VS,.val (.list A),.own F,.val (.int k),y]=Ga (.nx [.val VS,.val (.list A),.own F',.val (.int (k+1)),y']):=by
 simp_arith[q]
theorem re_t (W:FS)(VS:D)(A:List D)(a F:D)(Fs:List D)(y3 y4:Sl)(h1:L2.atI A 0=Ga a)(q:W [.val VS,.val (.list A),.own [a],.val (.int 0),.no]=Ga (.nx [.val VS,.val (.list A),.own Fs,y3,y4])):outV ((zaD (zbV 2 (zaB (binN dIx (gv 1) (cstN (.int 0))) (zaL))) (zaD (za5 3 (cstN (.int 0))) (zaD W (zi0 (go 2))))) [.val VS,.val (.list A),.no,.no,.no])=Ga (.list Fs):=by
 simp_arith[h1,q]
structure RI (g:List Nat)(Mb:Nat->Nat->Bool)(a:Nat)(F:List Nat)(k:Nat):Prop where
 nd:F.Nodup
 sub:∀ x∈F,x∈g
 hd:a∈F
 le:k<=F.length
 cl:∀ j,j<k->∀ o∈g,Mb (F.getD j 0) o=true->o∈F
theorem zmP {N:Nat}(hN:N<=26)(VS:D)(row:Nat->D)(Mb:Nat->Nat->Bool)(hv:∀ x,x<N->dIx VS (.int (x:Int))=Ga (row x))(hm:∀ x y,x<N->y<N->zaM [row x,row y]=Ga (.bool (Mb x y)))(a:Nat)(r:List Nat)(nd:(a::r).Nodup)(lt:∀ x∈a::r,x<N) :
  ∃ F:List Nat,F.Nodup/\(∀ x∈F,x∈a::r)/\a∈F/\(∀ x∈F,∀ o∈a::r,Mb x o=true->o∈F)/\za3 [VS,.list (il (a::r))]=Ga (.list (il F)):=by
 have gl:(a::r).length<=N:=by
  have:=um nd (l₂:=jk N) λx hx=>jK.mpr (lt x hx)
  rwa [jz] at this
 have fl:∀ F:List Nat,F.Nodup->(∀ x∈F,x∈a::r)->F.length<=(a::r).length:=λF h1 h2=>um h1 h2;have step:∀ (F:List Nat) (k:Nat) (y:Sl),RI (a::r) Mb a F k->k<F.length->∃ F' y',RI (a::r) Mb a F' (k+1)/\(zaD (zbW (za6 (gv 1)) (tgNN 4) (ifSN (zc7 (zaG dNin (gv 4) (gv 2)) (tstN (zaK zaM (zaB (binN dIx (gv 0) (binN dIx (gv 2) (gv 3))) (zaB (binN dIx (gv 0) (gv 4)) (zaL)))))) (zcB 2 (gv 4)) (nxSN))) (za5 3 (binN dAdd (gv 3) (cstN (.int 1))))) [.val VS,.val (.list (il (a::r))),.own (il F),.val (.int (k:Int)),y]=Ga (.nx [.val VS,.val (.list (il (a::r))),.own (il F'),.val (.int ((k+1:Nat):Int)),y']):=λF k y R hk=>by
  have inner:=ze0 (t:=tgNN 4) (g:=(ifSN (zc7 (zaG dNin (gv 4) (gv 2)) (tstN (zaK zaM (zaB (binN dIx (gv 0) (binN dIx (gv 2) (gv 3))) (zaB (binN dIx (gv 0) (gv 4)) (zaL)))))) (zcB 2 (gv 4)) (nxSN))) (ψ:=[.val VS,.val (.list (il (a::r))),.own (il F),.val (.int (k:Int)),y]) (λ(i:Nat)=>jb (i:Int)) (λpre ψ=>∃ (F2:List Nat) (y':Sl),ψ=[.val VS,.val (.list (il (a::r))),.own (il F2),.val (.int (k:Int)),y']/\F2.Nodup/\(∀ x∈F2,x∈a::r)/\(∃ s,F2=F++s)/\∀ o∈pre,Mb (F.getD k 0) o=true->o∈F2) (a::r) ⟨F,y,rfl,R.nd,R.sub,⟨[],by rw[jX]⟩,λo ho=>by cases ho⟩ (λpre o suf e ψ hI=>by
   obtain⟨F2,y2,rfl,n2,s2,⟨s,es⟩,c2⟩:=hI;have ho:o∈a::r:=by rw[e];simp
   have hx:F.getD k 0=F[k]:=by rw[ji,jc hk];rfl
   have hxg:F.getD k 0∈a::r:=by rw[hx];exact R.sub _ (kU hk)
   have at2:L2.atI (il F2) (k:Int)=Ga (.int (F.getD k 0:Nat)):=by
    refine zc3 ?_;unfold il;rw[jq,es,jW hk,jc hk,hx];rfl
   have l2:=fl F2 n2 s2;rw[zyL zaM VS (il (a::r)) (il F2) k o (F.getD k 0:Nat) y2 (row (F.getD k 0)) (row o) _ _ (zxO o F2) at2 (hv _ (lt _ hxg)) (hv _ (lt _ ho)) (hm _ _ (lt _ hxg) (lt _ ho)) (by rw[zhL];omega)];by_cases c:(!F2.contains o&&Mb (F.getD k 0) o)=true
   .rw[Ge c];rw[jE,vI,<- vQ,uE] at c;refine zeO ⟨F2++[o],.val (.int (o:Int)),by unfold il;rw[jO];rfl,?_,λx hx=>?_,⟨s++[o],by rw[es,kD]⟩,λx hx hb=>?_⟩
    .rw[ky];refine⟨n2,jH.mpr ⟨by simp,j6⟩,λx hx y hy z=>?_⟩;rw[jh.mp hy] at z;exact c.1 (z▸hx)
    .rcases jN.mp hx with z|z
     .exact s2 x z
     .rw[jh.mp z];exact ho
    .rcases jN.mp hx with z|z
     .exact uo _ (c2 x z hb)
     .exact jJ _ z
   .rw[Gf c];refine zeO ⟨F2,.val (.int (o:Int)),rfl,n2,s2,⟨s,es⟩,λx hx hb=>?_⟩;rcases jN.mp hx with z|z
    .exact c2 x z hb
    .rw[jh.mp z] at hb ⊢;apply qh;intro w;refine c ?_;rw[hb,Bool.and_true,vI,<- vQ,uE];exact w)
  obtain⟨e,e1,F2,y2,rfl,n2,s2,⟨s,es⟩,c2⟩:=inner;refine⟨F2,y2,⟨n2,s2,by rw[es];exact uo _ R.hd,by rw[es,jB];omega,λj hj o ho hb=>?_⟩,?_⟩
  .have hjF:j<F.length:=by omega
   have ej:F2.getD j 0=F.getD j 0:=by rw[ji,ji,es,jW hjF]
   rw[ej] at hb;by_cases c:j=k
   .subst c;exact c2 o ho hb
   .rw[es];exact uo _ (R.cl j (by omega) o ho hb)
  .exact zuV _ VS (il (a::r)) (il F) (il F2) k y y2 e1
 obtain⟨m',e,w1,⟨F,k,y,rfl,R,hm'⟩,w2⟩:=zjJ (c:=(zaG dLt (gv 3) (unN dLen (gv 2)))) (g:=(zaD (zbW (za6 (gv 1)) (tgNN 4) (ifSN (zc7 (zaG dNin (gv 4) (gv 2)) (tstN (zaK zaM (zaB (binN dIx (gv 0) (binN dIx (gv 2) (gv 3))) (zaB (binN dIx (gv 0) (gv 4)) (zaL)))))) (zcB 2 (gv 4)) (nxSN))) (za5 3 (binN dAdd (gv 3) (cstN (.int 1)))))) (λm ψ=>∃ (F:List Nat) (k:Nat) (y:Sl),ψ=[.val VS,.val (.list (il (a::r))),.own (il F),.val (.int (k:Int)),y]/\RI (a::r) Mb a F k/\m+k=(a::r).length) (λm ψ hI=>by
  obtain⟨F,k,y,rfl,R,hmk⟩:=hI;have hl:dLen (.list (il F))=Ga (.int (F.length:Int)):=by show Ga (jb ((il F).length:Nat))=_;rw[zhL]
  rw[zoZ VS _ (il F) k _ y hl];by_cases c:k<F.length
  .rw[Gc (by omega)];obtain⟨F',y',R',w⟩:=step F k y R c;have:=fl F R.nd R.sub;exact .inr ⟨rfl,m-1,_,by omega,w,F',k+1,y',rfl,R',by omega⟩
  .rw[Gd (by omega)];exact .inl rfl) 100 (a::r).length [.val VS,.val (.list (il (a::r))),.own [.int (a:Int)],.val (.int 0),.no] (by omega) ⟨[a],0,.no,rfl,⟨jH.mpr ⟨by simp,j6⟩,λx hx=>by rw[jh.mp hx];exact jn,jn,jY _,λj hj=>by omega⟩,rfl⟩
 have hl:dLen (.list (il F))=Ga (.int (F.length:Int)):=by show Ga (jb ((il F).length:Nat))=_;rw[zhL]
 rw[zoZ VS _ (il F) k _ y hl] at w2;have hk:¬((k:Int)<(F.length:Int)):=of_decide_eq_false (jw w2);refine⟨F,R.nd,R.sub,R.hd,λx hx o ho hb=>?_,?_⟩
 .obtain⟨j,hj,ej⟩:=ur.mp hx;refine R.cl j (by omega) o ho ?_;rw[ji,jc hj,ej];exact hb
 .rw[zf1];unfold zcN;exact re_t _ VS (il (a::r)) (.int (a:Int)) .none (il F) _ _ (zc3 (j:=0) rfl) w1
theorem lay_all {xs:List D}{n:Nat}(h:∀ x∈xs,x.canLay0=true/\x.depth<=n):jZ xs=true/\jU xs<=n:=by
 induction xs with
 | nil=>exact⟨rfl,jY _⟩
 | cons x xs ih =>
  obtain⟨a,b⟩:=h x jn;obtain⟨c,d⟩:=ih λy hy=>h y (jm _ hy);refine⟨by rw[jZ,a,c];rfl,?_⟩;rw[jU];omega
theorem zrV (ns:List D)(fs:List Fl)(hi:∀ d∈ns,∃ i:Int,d=.int i):(rd ns fs).canLay0=true/\(rd ns fs).depth<=3:=by
 have a:=lay_all (xs:=ns) (n:=0) λx hx=>by obtain⟨i,rfl⟩:=hi x hx;exact⟨rfl,jo _⟩
 have b:=lay_all (xs:=fs.map fd) (n:=1) λx hx=>by obtain⟨f,_,rfl⟩:=jr.mp hx;exact⟨rfl,jo _⟩
 have c:=lay_all (xs:=[kH ns,.tuple (fs.map fd)]) (n:=2) λx hx=>by
  rcases ju.mp hx with rfl|hx
  .exact⟨a.1,by show jU ns+1<=2;omega⟩
  .rw[jh.mp hx];exact⟨b.1,by show jU (fs.map fd)+1<=2;omega⟩
 exact⟨c.1,by show jU [kH ns,.tuple (fs.map fd)]+1<=3;omega⟩
abbrev RunD:=List D×List Fl
def rdP (p:RunD):D:=rd p.1 p.2
structure RunOk (n:Nat)(p:RunD):Prop where
 len:p.1.length=n
 it:∀ d∈p.1,∃ i:Int,d=.int i
 gd:Good n p.2
theorem zlO {n:Nat}{rs:List RunD}(h:∀ p∈rs,RunOk n p):jZ (rs.map rdP)=true/\jU (rs.map rdP)<=3 :=
 lay_all λx hx=>by obtain⟨p,h1,rfl⟩:=jr.mp hx;exact zrV _ _ (h p h1).it
theorem zuW {n:Nat}{rs:List RunD}(h:∀ p∈rs,RunOk n p){p:RunD}(hp:RunOk n p):∃ b,dNin (rdP p) (.list (rs.map rdP))=Ga (.bool b):=by
 obtain⟨a1,a2⟩:=zlO h;obtain⟨b1,b2⟩:=zrV p.1 p.2 hp.it;refine⟨!((rs.map rdP).any λy=>jV y (rdP p)),?_⟩;show(if okIn (rdP p) (rs.map rdP) then Ga _ else Gb)=_;rw[Ge];unfold okIn;rw[show(rdP p).canLay0=true from b1,a1,Gc (by have:(rdP p).depth<=3:=b2;omega)];rfl
theorem zuX {n:Nat}{rs:List RunD}(h:∀ p∈rs,RunOk n p):dNe (.list (rs.map rdP)) (.list (rs.map rdP))=Ga (.bool false):=by
 obtain⟨a1,a2⟩:=zlO h;exact zkX a1 (by show jU (rs.map rdP)+1<=100;omega)
theorem zyM (Mx Ch:List D->Option D)(S h cs:Sl)(script:List D)(Rs:List D)(k c x i l:Int)(y5 y6:Sl)(run nw:D)(b:Bool)(h1:L2.atI script k=Ga (.int c))(h2:Mx [.int c,.int k]=Ga (.int x))(hl:(Rs.length:Int)=l)(h3:dMod (.int x) (.int l)=Ga (.int i))(h4:L2.atI Rs i=Ga run)(h5:dDiv (.int x) (.int 30)=Ga (.int (x/30)))(h6:dDiv (.int c) (.int 4)=Ga (.int (c/4)))(h7:Ch [run,.int (x/30),.int (c/4)]=Ga nw)(h8:dNin nw (.list Rs)=Ga (.bool b))(hz:Rs.length<1000000) :
  ((tgNN 4) (.int k) [.val (.list script),h,cs,.own Rs,S,y5,y6]).bind (zaD (za5 5 (zaK Mx (zaB (binN dIx (gv 0) (gv 4)) (zaB (gv 4) (zaL))))) (zaD (za5 6 (zaK Ch (zaB (ixSN (gl 3) (binN dMod (gv 5) (unLN dLenL (gl 3)))) (zaB (binN dDiv (gv 5) (cstN (.int 30))) (zaB (binN dDiv (binN dIx (gv 0) (gv 4)) (cstN (.int 4))) (zaL)))))) (ifSN (zaG dNin (gv 6) (gv 3)) (zcB 3 (gv 6)) (nxSN))))=Ga (.nx [.val (.list script),h,cs,.own (if b=true then Rs++[nw] else Rs),.val (.int k),.val (.int x),.val nw]):=by
 cases b with
 | false=>simp_arith[h1,h2,hl,h3,h4,h5,h6,h7,h8]
 | true=>simp_arith[h1,h2,hl,h3,h4,h5,h6,h7,h8,Ge hz]
theorem li_t (Ru:List D->Option D)(Bd:FS)(cF:FL)(S:D)(n sl m:Int)(cs Ks Fs:List D)(run:D)(y4 y5 y6:Sl)(hc:cF [.val S,.val (.int n),.no,.no,.no,.no,.no]=Ga cs)(h1:Ru [.list cs,.int n,.int 0]=Ga run)(h2:dLen S=Ga (.int sl))(h3:(if 26<sl then 26 else sl)=m)(h4:rng2 (.int 1) (.int m)=Ga Ks)
  (q:forD (tgNN 4) Bd Ks [.val S,.val (.int n),.val (.list cs),.own [run],.no,.no,.no]=Ga (.nx [.val S,.val (.int n),.val (.list cs),.own Fs,y4,y5,y6])):outV ((zaD (znV 2 (zbV 2 cF)) (zaD (zbV 3 (zaB (zaK Ru (zaB (gv 2) (zaB (gv 1) (zaB (cstN (.int 0)) (zaL))))) (zaL))) (zaD (zbW (zsV rng2 (cstN (.int 1)) (binN dMin2 (unN dLen (gv 0)) (cstN (.int 26)))) (tgNN 4) Bd) (zi0 (go 3))))) [.val S,.val (.int n),.no,.no,.no,.no,.no])=Ga (.list Fs):=by
 simp_arith[hc,h1,h2,h3,h4,q]
theorem zxP (S:Sl)(n:Int)(e:En)(Ks:List D)(h:rng1 (.int n)=Ga Ks):zcA rng1 (gv 1) (S::.val (.int n)::e)=Ga Ks:=by
 simp_arith[h]
theorem zo0 {rs:List RunD}{i:Nat}(h:i<rs.length):L2.atI (rs.map rdP) (i:Int)=Ga (rdP rs[i]):=zc3 (by rw[jq,jc h];rfl)
theorem zuY (ns:List Int)(hn:ns.length<=63)(n:Nat)(n2:2<=n)(n4:n<=4):∃ rs:List RunD,(∀ p∈rs,RunOk n p)/\1<=rs.length/\rs.length<=26/\zbT [.list (ns.map jb),.int (n:Int)]=Ga (.list (rs.map rdP)):=by
 obtain⟨C,hC⟩:∃ C:Nat->Int,∀ k:Nat,zaQ [.list (ns.map jb),.int (k:Int)]=Ga (.int (C k)):=⟨λk=>(zkI ns k).choose,λk=>(zkI ns k).choose_spec⟩;have hcs:∃ cs:List Int,cs.length=n/\(compF (zcA rng1 (gv 1)) (λ_=>Ga true) (zaK zaQ (zaB (gv 1) (zaB (binN dAdd (cstN (.int 2)) (gv 0)) (zaL)))) [0]) [.val (.list (ns.map jb)),.val (.int (n:Int)),.no,.no,.no,.no,.no]=Ga (cs.map jb):=by
  refine⟨(jk n).map λj=>C (2+j),by rw[jd,jz],?_⟩;refine(zeY (ds:=(jk n).map λ(k:Nat)=>jb (k:Int)) (zxP _ _ _ _ (by rw[<- zbC];exact zbO (by omega))) (by rw[jd,jz];omega)).trans ?_;refine(zkM (λ(k:Nat)=>jb (k:Int)) (λj=>jb (C (2+j))) λj _=>?_).trans (by rw[ka];rfl);have:=hC (2+j);rw[show((2+j:Nat):Int)=2+(j:Int) by omega] at this;exact this
 obtain⟨cs,lc,ec⟩:=hcs;obtain⟨N0,f0,i0,l0,g0,_,e0⟩:=zt5 cs (by omega) (by omega) n 0;have R0:RunOk n (N0,f0):=⟨by rw[<- lc];exact l0,i0,by rw[<- lc];exact g0⟩;obtain⟨m,hm,hm26⟩:∃ m:Nat,(if (26:Int)<(ns.length:Int) then 26 else(ns.length:Int))=((m:Nat):Int)/\m<=26/\m<=ns.length:=by
  by_cases c:(26:Int)<(ns.length:Int)
  .exact⟨26,by rw[Ge c];rfl,by omega,by omega⟩
  .exact⟨ns.length,by rw[Gf c],by omega,by omega⟩
 have rg:rng2 (.int 1) (.int (m:Int))=Ga ((jk (m-1)).map λ(k:Nat)=>jb ((k+1:Nat):Int)):=by
  unfold rng2;dsimp only;rw[Ge (by refine⟨?_,?_,?_,?_⟩<;>omega),show((m:Int)-1).toNat=m-1 by omega];unfold rngD;refine congrArg Ga (jQ λk _=>?_);rw[show(1:Int)+(k:Int)=((k+1:Nat):Int) by omega]
 have G:=zd7 (t:=tgNN 4) (g:=(zaD (za5 5 (zaK zaX (zaB (binN dIx (gv 0) (gv 4)) (zaB (gv 4) (zaL))))) (zaD (za5 6 (zaK za2 (zaB (ixSN (gl 3) (binN dMod (gv 5) (unLN dLenL (gl 3)))) (zaB (binN dDiv (gv 5) (cstN (.int 30))) (zaB (binN dDiv (binN dIx (gv 0) (gv 4)) (cstN (.int 4))) (zaL)))))) (ifSN (zaG dNin (gv 6) (gv 3)) (zcB 3 (gv 6)) (nxSN))))) (f:=λ(k:Nat)=>jb ((k+1:Nat):Int)) (λk ψ=>∃ (rs:List RunD) (y4 y5 y6:Sl),ψ=[.val (.list (ns.map jb)),.val (.int (n:Int)),.val (.list (cs.map jb)),.own (rs.map rdP),y4,y5,y6]/\(∀ p∈rs,RunOk n p)/\1<=rs.length/\rs.length<=k+1) (m-1) (λk hk ψ hI=>by
  obtain⟨rs,y4,y5,y6,rfl,ok,l1,lk⟩:=hI;have hk2:k+1<ns.length:=by omega
  obtain⟨x,x0,x1,ex⟩:=zlF ns[k+1] ((k+1:Nat):Int) (by omega) (by omega);have a1:L2.atI (ns.map jb) ((k+1:Nat):Int)=Ga (.int ns[k+1]):=zc3 (by rw[jq,jc hk2];rfl);have w0:=ku x (show(rs.length:Int)≠0 by omega);have w1:=j8 x (show(0:Int)<(rs.length:Int) by omega);have hi:(x%(rs.length:Int)).toNat<rs.length:=by omega
  have a4:L2.atI (rs.map rdP) (x%(rs.length:Int))=Ga (rdP rs[(x%(rs.length:Int)).toNat]):=by
   have:=zo0 hi
   rwa [show(((x%(rs.length:Int)).toNat:Nat):Int)=x%(rs.length:Int) by omega] at this
  have okr:=ok _ (kU hi);obtain⟨N1,f1,l1',i1,g1,e1⟩:=zmL rs[(x%(rs.length:Int)).toNat].1 rs[(x%(rs.length:Int)).toNat].2 (by rw[okr.len];exact okr.gd) okr.it (x/30) (ns[k+1]/4) (by omega);have R1:RunOk n (N1,f1):=⟨l1'.trans okr.len,i1,by rw[okr.len] at g1;exact g1⟩;obtain⟨b,eb⟩:=zuW ok R1;rw[zyM zaX za2 _ _ _ (ns.map jb) (rs.map rdP) ((k+1:Nat):Int) ns[k+1] x (x%(rs.length:Int)) (rs.length:Int) y5 y6 _ (rdP (N1,f1)) b a1 ex (by rw[jd]) (zb1 (by omega)) a4 (zd9 (by decide) (by decide)) (zd9 (by decide) (by decide)) e1 eb (by rw[jd];omega)];refine zeO ⟨if b=true then rs++[(N1,f1)] else rs,.val (.int ((k+1:Nat):Int)),.val (.int x),.val (rdP (N1,f1)),?_,?_,?_,?_⟩
  .cases b with
   | false=>rfl
   | true=>rw[Ge rfl,Ge rfl,jO];rfl
  .intro p hp;split at hp
   .rcases jN.mp hp with z|z
    .exact ok p z
    .rw[jh.mp z];exact R1
   .exact ok p hp
  .split
   .rw[jB];omega
   .exact l1
  .split
   .rw[jB];show rs.length+1<=_;omega
   .omega) (m-1) 0 [.val (.list (ns.map jb)),.val (.int (n:Int)),.val (.list (cs.map jb)),.own [rdP (N0,f0)],.no,.no,.no] (ud _) ⟨[(N0,f0)],_,_,_,rfl,λp hp=>by rw[jh.mp hp];exact R0,jo _,jo _⟩
 rw[<- kh] at G;obtain⟨e,g1,rs,y4,y5,y6,rfl,ok,l1,lk⟩:=G;refine⟨rs,ok,l1,by omega,?_⟩;rw[zh8];unfold zd1;exact li_t zcR _ _ (.list (ns.map jb)) n (ns.length:Int) m (cs.map jb) _ _ (rdP (N0,f0)) _ _ _ ec e0 (by show Ga (jb ((ns.map jb).length:Nat))=_;rw[jd]) hm rg g1
theorem zyN (Mt:List D->Option D)(S h r Rs Hd F:Sl)(W VS vk vj:D)(kvs:List (Int×D))(k j t u:Int)(y y10:Sl)(b:Bool)(h1:dIx VS (.int k)=Ga vk)(h2:dIx VS (.int j)=Ga vj)(h3:Mt [vk,vj]=Ga (.bool b))(h4:kvI W=Ga kvs)(h5:atK kvs k=Ga (.int t))(h6:atK kvs j=Ga (.int u))(h7:b=true->t=u) :
  ((tgNN 9) (.int j) [S,h,r,Rs,Hd,F,.val W,.val VS,.val (.int k),y,y10]).bind (ifSN (zc7 (tstN (zaK Mt (zaB (binN dIx (gv 7) (gv 8)) (zaB (binN dIx (gv 7) (gv 9)) (zaL))))) (zaG dNe (binN dIxI (gv 6) (gv 8)) (binN dIxI (gv 6) (gv 9)))) (za1 (cstN (.bool false))) (nxSN))=Ga (.nx [S,h,r,Rs,Hd,F,.val W,.val VS,.val (.int k),.val (.int j),y10]):=by
 cases b with
 | false=>simp_arith[h1,h2,h3]
 | true =>
  have e:=h7 rfl;subst e;have n0:dNe (.int t) (.int t)=Ga (.bool false):=by rw[zrI];exact congrArg (λz=>Ga (uJ z)) (decide_eq_false_iff_not.mpr λz=>z rfl)
  simp_arith[h1,h2,h3,h4,h5,h6,n0]
theorem zxQ (Re:List D->Option D)(S h r Rs Hd F W y8 y9 y:Sl)(VS:D)(A Fs:List D)(h1:Re [VS,.list A]=Ga (.list Fs))(h2:zj6 Fs=Ga A)(h3:dNe (.list A) (.list A)=Ga (.bool false)) :
  ((tgNN 10) (.list A) [S,h,r,Rs,Hd,F,W,.val VS,y8,y9,y]).bind (ifSN (zaG dNe (zdO (srtL (shVN (zaK Re (zaB (gv 7) (zaB (gv 10) (zaL))))))) (gv 10)) (za1 (cstN (.bool false))) (nxSN))=Ga (.nx [S,h,r,Rs,Hd,F,W,.val VS,y8,y9,.val (.list A)]):=by
 simp_arith[zoT,h1,h2,h3]
theorem zxR (Bi:FS)(S h r Rs Hd F W VS y9 y10:Sl)(k:Int)(Ks:List D)(h1:rng1 (.int k)=Ga Ks):(zbW (zcA rng1 (gv 8)) (tgNN 9) Bi) [S,h,r,Rs,Hd,F,W,VS,.val (.int k),y9,y10]=forD (tgNN 9) Bi Ks [S,h,r,Rs,Hd,F,W,VS,.val (.int k),y9,y10]:=by
 simp_arith[h1]
theorem lw_t (Ca Li Cl Gr:List D->Option D)(cF:FL)(B1 B2:FS)(S F W X:D)(Rs VS Fs Ks:List D)(c m:Int)(N r:Int)(h0:Ca [S,.int 0]=Ga (.int c))(hm:dMod (.int c) (.int 3)=Ga (.int m))(hd:dDiv (.int c) (.int 3)=Ga (.int (c/3)))(hr:dMod (.int (c/3)) (.int 3)=Ga (.int r))(h1:Li [S,.int (2+m)]=Ga (.list Rs))(h2:Cl [.list Rs,.int r]=Ga (.list Fs))(hN:(Rs.length:Int)=N)(h3:Gr [.list Fs,.int N]=Ga W)(h4:dIs W .none=Ga (.bool false))(h5:dNe (.list Rs) (.list Rs)=Ga (.bool false))
  (h6:cF [.val S,.val (.int (2+m)),.val (.int r),.val (.list Rs),.val (.list Rs),.val (.list Fs),.val W,.no,.no,.no,.no]=Ga VS) (h7:rng1 (.int N)=Ga Ks)
  (q:outV (thenD (forD (tgNN 8) B1 Ks [.val S,.val (.int (2+m)),.val (.int r),.val (.list Rs),.val (.list Rs),.val (.list Fs),.val W,.val (.list VS),.no,.no,.no]) (zaD (zbW (za6 (gv 5)) (tgNN 10) B2) (za1 (cstN (.bool true)))))=Ga X) :
  outV ((zaD (za5 1 (binN dAdd (cstN (.int 2)) (binN dMod (zaK Ca (zaB (gv 0) (zaB (cstN (.int 0)) (zaL)))) (cstN (.int 3))))) (zaD (za5 2 (binN dMod (binN dDiv (zaK Ca (zaB (gv 0) (zaB (cstN (.int 0)) (zaL)))) (cstN (.int 3))) (cstN (.int 3)))) (zaD (za5 3 (zaK Li (zaB (gv 0) (zaB (gv 1) (zaL))))) (zaD (za5 4 (zdO (sL1N (gv 3)))) (zaD (za5 5 (zaK Cl (zaB (gv 4) (zaB (gv 2) (zaL))))) (zaD (za5 6 (zaK Gr (zaB (gv 5) (zaB (unN dLen (gv 3)) (zaL))))) (zaD (ifSN (orBN (zaG dIs (gv 6) (cstN .none)) (zaG dNe (gv 4) (gv 3))) (za1 (cstN (.bool false))) (nxSN)) (zaD (znV 7 (zbV 7 cF)) (zaD (zbW (zcA rng1 (unN dLen (gv 3))) (tgNN 8) B1) (zaD (zbW (za6 (gv 5)) (tgNN 10) B2) (za1 (cstN (.bool true)))))))))))))
   [.val S,.no,.no,.no,.no,.no,.no,.no,.no,.no,.no])=Ga X:=by
 simp_arith[h0,hm,hd,hr,h1,h2,hN,h3,h4,h5,h6,h7];exact q
theorem zxS (B2:FS)(Fs:List D)(S h r Rs Hd W VS y8 y9 y10:Sl)(e:En)(q:forD (tgNN 10) B2 Fs [S,h,r,Rs,Hd,.val (.list Fs),W,VS,y8,y9,y10]=Ga (.nx e)):outV ((zaD (zbW (za6 (gv 5)) (tgNN 10) B2) (za1 (cstN (.bool true)))) [S,h,r,Rs,Hd,.val (.list Fs),W,VS,y8,y9,y10])=Ga (.bool true):=by
 simp_arith[q]
theorem zyO (Vi:List D->Option D)(run:D)(r:Int)(V:List D)(v:D)(h1:Vi [run,.int r]=Ga (.list V))(h2:L2.atI V r=Ga v):(binN dIx (zaK Vi (zaB (gv 0) (zaB (gv 1) (zaL)))) (gv 1)) [.val run,.val (.int r)]=Ga v:=by
 simp_arith[h1,h2]
theorem zq2 (ns:List D)(fs:List Fl)(r:Nat):L2.atI (rowsV ns fs (r+1)) (r:Int)=Ga (.list (rowV ns fs r)):=zc3 (by unfold rowsV;rw[jq,uj (vN r)];rfl)
theorem zo1 {ns:List D}{fs:List Fl}{r k:Nat}(h:vAt ns fs r k≠.none):up fs k (r:Int)=true/\vAt ns fs r k=vw ns fs r k:=by
 unfold vAt at h ⊢;split at h
 .rename_i u;exact⟨u,Ge u⟩
 .exact absurd rfl h
theorem zuZ {ns ms:List D}{fs gs:List Fl}{r a b:Nat}(h:vw ns fs r a=vw ms gs r b):a=b:=by
 cases r with
 | zero=>have:=Js h;have:=(JL this).1;have:=qf this;omega
 | succ r=>have:=Js h;have:=(JL this).1;have:=qf this;omega
theorem zxT (ns:List D)(fs:List Fl)(hi:∀ d∈ns,∃ i:Int,d=.int i)(r:Nat)(hr:r<3):RowOk (vL ns fs r):=λv hv=>by
 obtain⟨k,_,rfl⟩:=jr.mp hv;by_cases c:vAt ns fs r k=.none
 .exact .inl c
 .obtain⟨_,e⟩:=zo1 c;rw[e];refine .inr ⟨?_,zuB ns fs r k,zkO ns fs r k⟩;rw[zrQ ns fs hi r k 8 (by omega),zuC];rfl
theorem zyP (d:D)(a b c e f g h i x y z:Sl):tgNN 8 d [a,b,c,e,f,g,h,i,x,y,z]=Ga [a,b,c,e,f,g,h,i,.val d,y,z]:=rfl
theorem zo2 (ns:List Int)(hn:ns.length<=63):ze6 [.list (ns.map jb)]=Ga (.bool true):=by
 obtain⟨c,hc⟩:=zkI ns 0;have m0:=ku c (show(3:Int)≠0 by decide);have m1:=j8 c (show(0:Int)<3 by decide);have q0:=ku (c/3) (show(3:Int)≠0 by decide);have q1:=j8 (c/3) (show(0:Int)<3 by decide);obtain⟨n,en⟩:∃ n:Nat,2+c%3=(n:Int):=⟨(2+c%3).toNat,by omega⟩;obtain⟨r,er⟩:∃ r:Nat,c/3%3=(r:Int):=⟨(c/3%3).toNat,by omega⟩;have hr:r<3:=by omega
 obtain⟨rs,ok,l1,l26,el⟩:=zuY ns hn n (by omega) (by omega);have okA:∀ x,x<rs.length->RunOk n (rs.getD x ([],[])):=λx hx=>by
  rw[ji,jc hx];exact ok _ (kU hx)
 have atA:∀ x,x<rs.length->L2.atI (rs.map rdP) (x:Int)=Ga (rdP (rs.getD x ([],[]))):=λx hx=>by
  rw[zo0 hx,ji,jc hx];rfl
 have O:RowsOk zaV (rs.map rdP) (.int (r:Int)) (λx=>vL (rs.getD x ([],[])).1 (rs.getD x ([],[])).2 r) rs.length:=by
  refine⟨jd ..,by omega,λp hp=>⟨_,atA p hp,?_⟩,λp hp=>zxT _ _ (okA p hp).it r hr,λp hp=>?_⟩
  .exact zkN _ _ (by rw[(okA p hp).len];exact(okA p hp).gd) r (by omega)
  .show(vL _ _ r).length<=5;rw[zlJ,(okA p hp).len];exact(okA p hp).gd.n5
 obtain⟨rt,h1,h2,hA,hB,ecl⟩:=zmN O;have egr:=zoX h1 h2 l26;have hM:∀ x y,x<rs.length->y<rs.length->∃ b:Bool,zaM [.list (vL (rs.getD x ([],[])).1 (rs.getD x ([],[])).2 r),.list (vL (rs.getD y ([],[])).1 (rs.getD y ([],[])).2 r)]=Ga (.bool b)/\(b=true↔Mt (λx=>vL (rs.getD x ([],[])).1 (rs.getD x ([],[])).2 r) x y):=λx y hx hy=>by
  have ox:=okA x hx;have oy:=okA y hy;refine⟨_,zxN _ _ _ _ (by rw[ox.len];exact ox.gd.n5) (by rw[ox.len,oy.len]) ox.it oy.it r (by omega),?_⟩;rw[uP];constructor
  .rintro⟨k,hk,e⟩;rw[jE,jE,decide_eq_true_eq] at e;have hk:=jK.mp hk;refine⟨vw (rs.getD x ([],[])).1 (rs.getD x ([],[])).2 r k,zkO _ _ _ _,?_,?_⟩
   .exact jr.mpr ⟨k,jK.mpr hk,by unfold vAt;rw[Ge e.1]⟩
   .exact jr.mpr ⟨k,jK.mpr (by rw[oy.len,<- ox.len];exact hk),by unfold vAt;rw[Ge e.2.1,e.2.2]⟩
  .rintro⟨v,v0,v1,v2⟩;obtain⟨k,hk,ek⟩:=jr.mp v1;obtain⟨j,hj,ej⟩:=jr.mp v2;obtain⟨u1,w1⟩:=zo1 (h:=by rw[ek];exact v0);obtain⟨u2,w2⟩:=zo1 (h:=by rw[ej];exact v0);have e:vw (rs.getD x ([],[])).1 (rs.getD x ([],[])).2 r k=vw (rs.getD y ([],[])).1 (rs.getD y ([],[])).2 r j:=by rw[<- w1,<- w2,ek,ej]
   have kj:=zuZ e;subst kj;exact⟨k,hk,by rw[u1,u2,e,Gc rfl];rfl⟩
 obtain⟨Mb,hMb⟩:∃ Mb:Nat->Nat->Bool,∀ x y,x<rs.length->y<rs.length->zaM [.list (vL (rs.getD x ([],[])).1 (rs.getD x ([],[])).2 r),.list (vL (rs.getD y ([],[])).1 (rs.getD y ([],[])).2 r)]=Ga (.bool (Mb x y))/\(Mb x y=true↔Mt (λx=>vL (rs.getD x ([],[])).1 (rs.getD x ([],[])).2 r) x y):=by
  refine⟨λx y=>if h:x<rs.length/\y<rs.length then(hM x y h.1 h.2).choose else false,λx y hx hy=>?_⟩;dsimp only;rw[dif_pos ⟨hx,hy⟩];exact(hM x y hx hy).choose_spec
 have eVS:(compF (za6 (gv 3)) (λ_=>Ga true) (binN dIx (zaK zbN (zaB (gv 0) (zaB (gv 1) (zaL)))) (gv 1)) [2]) [.val (.list (ns.map jb)),.val (.int (2+c%3)),.val (.int (r:Int)),.val (.list (rs.map rdP)),.val (.list (rs.map rdP)),.val (.list ((rts rt rs.length).map λa=>.list (il (grp rt rs.length a)))),.val (diD (wk rt rs.length (rts rt rs.length).length)),.no,.no,.no,.no]=Ga (rs.map λp=>kE (vL p.1 p.2 r)):=by
  refine(zeY (ds:=rs.map rdP) rfl (by rw[jd];omega)).trans ?_;refine(zkM rdP (λp=>kE (vL p.1 p.2 r)) λp hp=>?_);have G:Good p.1.length p.2:=by rw[(ok p hp).len];exact(ok p hp).gd
  refine zyO zbN (rdP p) r (rowsV p.1 p.2 (r+1)) _ (zjE p.1 p.2 G r hr) ?_;rw[zq2,zuI _ _ G]
 have vs_at:∀ x,x<rs.length->dIx (.list (rs.map λp=>kE (vL p.1 p.2 r))) (.int (x:Int))=Ga (.list (vL (rs.getD x ([],[])).1 (rs.getD x ([],[])).2 r)):=λx hx=>zc3 (by rw[jq,jc hx,ji,jc hx];rfl);have rg:∀ k:Nat,k<1000->rng1 (.int (k:Int))=Ga ((jk k).map λ(k:Nat)=>.int (k:Int)):=λk hk=>by rw[<- zbC];exact zbO (by omega)
 have hkv:kvI (diD (wk rt rs.length (rts rt rs.length).length))=Ga (wk rt rs.length (rts rt rs.length).length):=zjW _;have hw:∀ x,x<rs.length->∃ t:Nat,(rts rt rs.length)[t]?=Ga (rt x)/\atK (wk rt rs.length (rts rt rs.length).length) (x:Int)=Ga (.int (t:Int)):=λx hx=>zxM hx h2 h1;have his:dIs (diD (wk rt rs.length (rts rt rs.length).length)) .none=Ga (.bool false):=rfl;generalize diD (wk rt rs.length (rts rt rs.length).length)=W at egr eVS hkv his;generalize hVS:(rs.map λp=>kE (vL p.1 p.2 r))=VS at eVS vs_at
 generalize hRs:rs.map rdP=Rs at el ecl eVS;have hneR:dNe (.list Rs) (.list Rs)=Ga (.bool false):=by rw[<- hRs];exact zuX ok
 have hNR:(Rs.length:Int)=(rs.length:Int):=by rw[<- hRs,jd]
 rw[zqN];unfold zkF;refine lw_t zaQ zbT zbZ zbH _ _ _ (.list (ns.map jb)) .none W _ Rs VS _ _ c (c%3) (rs.length:Int) (r:Int) hc (zb1 (by decide)) (zd9 (by decide) (by decide)) (by rw[<- er];exact zb1 (by decide)) (by rw[en];exact el) ecl hNR egr his hneR eVS (rg _ (by omega)) ?_;have G1:=zd7 (t:=tgNN 8) (g:=(zbW (zcA rng1 (gv 8)) (tgNN 9) (ifSN (zc7 (tstN (zaK zaM (zaB (binN dIx (gv 7) (gv 8)) (zaB (binN dIx (gv 7) (gv 9)) (zaL))))) (zaG dNe (binN dIxI (gv 6) (gv 8)) (binN dIxI (gv 6) (gv 9)))) (za1 (cstN (.bool false))) (nxSN)))) (f:=λ(k:Nat)=>jb (k:Int)) (λk ψ=>∃ y8 y9,ψ=[.val (.list (ns.map jb)),.val (.int (2+c%3)),.val (.int (r:Int)),.val (.list Rs),.val (.list Rs),.val (.list ((rts rt rs.length).map λa=>.list (il (grp rt rs.length a)))),.val W,.val (.list VS),y8,y9,.no]) rs.length (λk hk ψ hI=>by
  obtain⟨y8,y9,rfl⟩:=hI;rw[zyP,jf];rw[zxR _ _ _ _ _ _ _ _ _ _ _ k _ (rg k (by omega))];have inner:=zd7 (t:=tgNN 9) (g:=(ifSN (zc7 (tstN (zaK zaM (zaB (binN dIx (gv 7) (gv 8)) (zaB (binN dIx (gv 7) (gv 9)) (zaL))))) (zaG dNe (binN dIxI (gv 6) (gv 8)) (binN dIxI (gv 6) (gv 9)))) (za1 (cstN (.bool false))) (nxSN))) (f:=λ(k:Nat)=>jb (k:Int)) (λ_ ψ=>∃ y9,ψ=[.val (.list (ns.map jb)),.val (.int (2+c%3)),.val (.int (r:Int)),.val (.list Rs),.val (.list Rs),.val (.list ((rts rt rs.length).map λa=>.list (il (grp rt rs.length a)))),.val W,.val (.list VS),.val (.int (k:Int)),y9,.no]) k (λj hj ψ hI=>by
   obtain⟨y9,rfl⟩:=hI;obtain⟨t,t1,t2⟩:=hw k hk;obtain⟨u,u1,u2⟩:=hw j (by omega);obtain⟨e1,e2⟩:=hMb k j hk (by omega);rw[zyN zaM _ _ _ _ _ _ W (.list VS) _ _ _ k j t u y9 .no (Mb k j) (vs_at k hk) (vs_at j (by omega)) e1 hkv t2 u2 (λb=>by
    have:=hA k j hk (by omega) (e2.mp b);rw[this] at t1;have:t=u:=(vJ (je.mp t1).1 (zmO zoU)).mp (t1.trans u1.symm);rw[this])]
   exact zeO ⟨_,rfl⟩) k 0 [.val (.list (ns.map jb)),.val (.int (2+c%3)),.val (.int (r:Int)),.val (.list Rs),.val (.list Rs),.val (.list ((rts rt rs.length).map λa=>.list (il (grp rt rs.length a)))),.val W,.val (.list VS),.val (.int (k:Int)),y9,.no] (ud k) ⟨_,rfl⟩
  rw[<- kh] at inner;exact zgF inner λe he=>by obtain⟨y,rfl⟩:=he;exact⟨_,_,rfl⟩) rs.length 0 [.val (.list (ns.map jb)),.val (.int (2+c%3)),.val (.int (r:Int)),.val (.list Rs),.val (.list Rs),.val (.list ((rts rt rs.length).map λa=>.list (il (grp rt rs.length a)))),.val W,.val (.list VS),.no,.no,.no] (ud _) ⟨_,_,rfl⟩
 rw[<- kh] at G1;obtain⟨e,g1,y8,y9,rfl⟩:=G1;rw[g1,zd6];have G2:=ze0 (t:=tgNN 10) (g:=(ifSN (zaG dNe (zdO (srtL (shVN (zaK za3 (zaB (gv 7) (zaB (gv 10) (zaL))))))) (gv 10)) (za1 (cstN (.bool false))) (nxSN))) (ψ:=[.val (.list (ns.map jb)),.val (.int (2+c%3)),.val (.int (r:Int)),.val (.list Rs),.val (.list Rs),.val (.list ((rts rt rs.length).map λa=>.list (il (grp rt rs.length a)))),.val W,.val (.list VS),y8,y9,.no]) (λa=>kE (il (grp rt rs.length a))) (λ_ ψ=>∃ y,ψ=[.val (.list (ns.map jb)),.val (.int (2+c%3)),.val (.int (r:Int)),.val (.list Rs),.val (.list Rs),.val (.list ((rts rt rs.length).map λa=>.list (il (grp rt rs.length a)))),.val W,.val (.list VS),y8,y9,y]) (rts rt rs.length) ⟨_,rfl⟩ (λpre a suf ea ψ hI=>by
  obtain⟨y,rfl⟩:=hI;have ha:a∈rts rt rs.length:=by rw[ea];simp
  have ham:=zkP.mp ha;obtain⟨g,eg⟩:=ziG h1 ha;have gup:=zjI (rt:=rt) (N:=rs.length) a;have gnd:=zmO gup;have glt:∀ x∈grp rt rs.length a,x<rs.length:=λx hx=>(zcO.mp hx).1;rw[eg] at gnd glt;obtain⟨F,f1,f2,f3,f4,f5⟩:=zmP l26 (.list VS) (λx=>.list (vL (rs.getD x ([],[])).1 (rs.getD x ([],[])).2 r)) Mb vs_at (λx y hx hy=>(hMb x y hx hy).1) a g gnd glt;rw[<- eg] at f2 f4 f5 gnd;have all:∀ x y,x<rs.length->Cn (λx=>vL (rs.getD x ([],[])).1 (rs.getD x ([],[])).2 r) rs.length x y->x∈F->rt x=a->y∈F/\rt y=a:=λx y hx cn hxF hxa=>by
   induction cn with
   | refl=>exact⟨hxF,hxa⟩
   | @step y z b hy hz m ih =>
    obtain⟨i1,i2⟩:=ih;have rz:rt z=a:=by rw[<- hA _ _ hy hz m];exact i2
    exact⟨f4 _ i1 z (zcO.mpr ⟨hz,rz⟩) ((hMb _ _ hy hz).2.mpr m),rz⟩
  have pm:F.Perm (grp rt rs.length a):=(uh f1 gnd).mpr λx=>⟨f2 x,λhx=>by
   have hx:=zcO.mp hx;exact(all a x ham.1 (hB a x ham.1 hx.1 (ham.2.trans hx.2.symm)) f3 ham.2).1⟩
  have gl:(grp rt rs.length a).length<=rs.length:=by unfold grp;exact j9 (kN _ _) (by rw[jz];exact jo _)
  rw[zxQ za3 _ _ _ _ _ _ _ _ _ y (.list VS) (il (grp rt rs.length a)) (il F) f5 (zd2 pm gup (by rw[pm.length_eq];omega)) (zqX _)];exact zeO ⟨_,rfl⟩)
 obtain⟨e2,g2,_⟩:=G2;exact zxS _ _ _ _ _ _ _ _ _ _ _ _ e2 g2
end Law
namespace Law
noncomputable section
open PySem PySem.W PySem.Spec PyProof.Rows L2
def fO (i:Nat)(x:Str)(d:Gg)(m:Str)(t:Nat)(c:Gj):Obj:=⟨.type "function",Gb,.func (fnOf x x (defArgs (top i)) (defBody (top i)) (defScope (top i)) .none .none d (.str m t) Gb (.ref c) .none),#[]⟩
def rV:Nat->Gg
 | 0=>.none
 | n+1=>.ref (n+1)
def cO (x:Str)(t1 t2 t3:Nat)(i1 i2 i3 i4 i5:Int)(r1:Gj)(i6:Int)(r2 r3 r4 r5:Gj)(i7 i8:Int)(t4:Nat):Obj:=⟨.type "code",Gb,.fields #[.str x t1,.str x t2,.str "/claim/cut.py" t3,.int i1 0,.int i2 0,.int i3 0,.int i4 0,.int i5 0,rV r1,.bool true,.int i6 0,rV r2,.none,rV r3,rV r4,rV r5,.int i7 0,.int i8 0,.str "/claim/cut.py" t4],#[]⟩
def eV (P:Params)(x:Str)(t:Nat)(v:Gg):DictEntry:=⟨JH P x,.str x t,v⟩
def eR (P:Params)(x:Str)(t:Nat)(a:Gj):DictEntry:=⟨JH P x,.str x t,.ref a⟩
def eL0 (P:Params):List DictEntry:=[eV P "__name__" 165 (.str ("law_roundfall_k62_classes_told") 315),eV P "__doc__" 166 (.none),eV P "__package__" 167 (.none),eV P "__loader__" 168 (.builtin "__main__.__loader__#opaque"),eV P "__spec__" 169 (.none),eR P "__annotations__" 170 6,eR P "__builtins__" 171 4,eV P "__file__" 173 (.str ("/claim/cut.py") 172),eV P "__cached__" 174 (.none),eR P "bit_of" 197 21,eR P "has_hand" 205 28,eR P "many_hands" 214 35]
def eL1 (P:Params):List DictEntry:=[eR P "fall_of" 223 42,eR P "is_up" 233 49,eR P "who_is_up" 239 54,eR P "comes" 250 61,eR P "view_behind" 258 66,eR P "views_behind" 264 71,eR P "views_of" 270 76,eR P "first_of" 280 83,eR P "unite" 291 90,eR P "joined" 303 97,eR P "classes" 314 104,eR P "_law_cell_at" 324 111]
def eL2 (P:Params):List DictEntry:=[eR P "_law_mixed" 333 118,eR P "_law_number" 340 125,eR P "_law_fall" 352 132,eR P "_law_run" 358 137,eR P "_law_changed" 364 142,eR P "_law_up" 374 149,eR P "_law_comes" 385 156,eR P "_law_views" 391 161,eR P "_law_list" 397 166,eR P "_law_meet" 406 173,eR P "_law_reached" 417 180,eR P "_law_whole" 424 187]
def eL3 (P:Params):List DictEntry:=[eR P "_law_groups" 430 192,eR P "law" 436 197]
def mO (P:Params):Obj:=⟨.type "dict",Gb,.dict (vG (eL0 P++eL1 P++eL2 P++eL3 P)) 38,#[]⟩
def oL0:List Obj:=[cO "bit_of" 189 190 191 2 1 0 0 3 15 181 16 17 18 19 195 2 196,fO 1 "bit_of" (.none) "roundfall.masks" 187 20,cO "has_hand" 198 199 200 7 2 0 0 3 22 181 23 24 25 26 203 7 204,fO 2 "has_hand" (.none) "roundfall.masks" 187 27,cO "many_hands" 208 209 210 10 1 0 0 3 29 181 30 31 32 33 212 10 213,fO 4 "many_hands" (.none) "roundfall.runs" 206 34,cO "fall_of" 215 216 217 12 2 0 0 3 36 181 37 38 39 40 221 12 222,fO 5 "fall_of" (.none) "roundfall.runs" 206 41,cO "is_up" 224 225 226 17 3 0 0 3 43 181 44 45 46 47 231 17 232,fO 6 "is_up" (.none) "roundfall.runs" 206 48,cO "who_is_up" 234 235 236 20 2 0 0 3 50 181 51 0 0 52 237 20 238,fO 7 "who_is_up" (.none) "roundfall.runs" 206 53]
def oL1:List Obj:=[cO "comes" 240 241 242 22 4 0 0 3 55 181 56 57 58 59 248 22 249,fO 8 "comes" (.none) "roundfall.runs" 206 60,cO "view_behind" 253 254 255 30 4 0 0 3 62 181 63 0 0 64 256 30 257,fO 10 "view_behind" (.none) "roundfall.views" 251 65,cO "views_behind" 259 260 261 33 3 0 0 3 67 181 68 0 0 69 262 33 263,fO 11 "views_behind" (.none) "roundfall.views" 251 70,cO "views_of" 265 266 267 36 2 0 0 3 72 181 73 0 0 74 268 36 269,fO 12 "views_of" (.none) "roundfall.views" 251 75,cO "first_of" 273 274 275 42 2 0 0 3 77 181 78 79 80 81 278 42 279,fO 14 "first_of" (.none) "roundfall.classes" 271 82,cO "unite" 281 282 283 47 3 0 0 3 84 181 85 86 87 88 289 47 290,fO 15 "unite" (.none) "roundfall.classes" 271 89]
def oL2:List Obj:=[cO "joined" 292 293 294 51 2 0 0 3 91 181 92 93 94 95 301 51 302,fO 16 "joined" (.none) "roundfall.classes" 271 96,cO "classes" 304 305 306 59 2 0 0 3 98 181 99 100 101 102 312 59 313,fO 17 "classes" (.none) "roundfall.classes" 271 103,cO "_law_cell_at" 317 318 319 66 2 0 0 3 105 181 106 107 108 109 322 66 323,fO 19 "_law_cell_at" (.none) "law_roundfall_k62_classes_told" 315 110,cO "_law_mixed" 325 326 327 70 2 0 0 3 112 181 113 114 115 116 331 70 332,fO 20 "_law_mixed" (.none) "law_roundfall_k62_classes_told" 315 117,cO "_law_number" 334 335 336 73 1 0 0 3 119 181 120 121 122 123 338 73 339,fO 21 "_law_number" (.none) "law_roundfall_k62_classes_told" 315 124,cO "_law_fall" 341 342 343 77 4 0 0 3 126 181 127 128 129 130 350 77 351,fO 22 "_law_fall" (.none) "law_roundfall_k62_classes_told" 315 131]
def oL3:List Obj:=[cO "_law_run" 353 354 355 89 3 0 0 3 133 181 134 0 0 135 356 89 357,fO 23 "_law_run" (.none) "law_roundfall_k62_classes_told" 315 136,cO "_law_changed" 359 360 361 99 3 0 0 3 138 181 139 0 0 140 362 99 363,fO 24 "_law_changed" (.none) "law_roundfall_k62_classes_told" 315 141,cO "_law_up" 365 366 367 118 3 0 0 3 143 181 144 145 146 147 372 118 373,fO 25 "_law_up" (.none) "law_roundfall_k62_classes_told" 315 148,cO "_law_comes" 375 376 377 123 4 0 0 3 150 181 151 152 153 154 383 123 384,fO 26 "_law_comes" (.none) "law_roundfall_k62_classes_told" 315 155,cO "_law_views" 386 387 388 130 2 0 0 3 157 181 158 0 0 159 389 130 390,fO 27 "_law_views" (.none) "law_roundfall_k62_classes_told" 315 160,cO "_law_list" 392 393 394 146 2 0 0 3 162 181 163 0 0 164 395 146 396,fO 28 "_law_list" (.none) "law_roundfall_k62_classes_told" 315 165]
def oL4:List Obj:=[cO "_law_meet" 398 399 400 155 2 0 0 3 167 181 168 169 170 171 404 155 405,fO 29 "_law_meet" (.none) "law_roundfall_k62_classes_told" 315 172,cO "_law_reached" 407 408 409 160 2 0 0 3 174 181 175 176 177 178 415 160 416,fO 30 "_law_reached" (.none) "law_roundfall_k62_classes_told" 315 179,cO "_law_whole" 418 419 420 169 1 0 0 3 181 181 182 183 184 185 422 169 423,fO 31 "_law_whole" (.none) "law_roundfall_k62_classes_told" 315 186,cO "_law_groups" 425 426 427 171 2 0 0 3 188 181 189 0 0 190 428 171 429,fO 32 "_law_groups" (.none) "law_roundfall_k62_classes_told" 315 191,cO "law" 431 432 433 187 1 0 0 3 193 181 194 0 0 195 434 187 435,fO 33 "law" (.none) "law_roundfall_k62_classes_told" 315 196]
def oA:List (List Obj):=[oL0,oL1,oL2,oL3,oL4]
def kO (i j:Nat):Obj:=(oA.getD i []).getD j ⟨.none,Gb,.plain,#[]⟩
def KK:Params->Frag:=λP=>(nat_lit 3,mO P)::(nat_lit 20,kO 0 0)::(nat_lit 21,kO 0 1)::(nat_lit 27,kO 0 2)::(nat_lit 28,kO 0 3)::(nat_lit 34,kO 0 4)::(nat_lit 35,kO 0 5)::(nat_lit 41,kO 0 6)::(nat_lit 42,kO 0 7)::(nat_lit 48,kO 0 8)::(nat_lit 49,kO 0 9)::(nat_lit 53,kO 0 10)::(nat_lit 54,kO 0 11)::(nat_lit 60,kO 1 0)::(nat_lit 61,kO 1 1)::(nat_lit 65,kO 1 2)::(nat_lit 66,kO 1 3)::(nat_lit 70,kO 1 4)::(nat_lit 71,kO 1 5)::(nat_lit 75,kO 1 6)::(nat_lit 76,kO 1 7)::(nat_lit 82,kO 1 8)::(nat_lit 83,kO 1 9)::(nat_lit 89,kO 1 10)::(nat_lit 90,kO 1 11)::(nat_lit 96,kO 2 0)::(nat_lit 97,kO 2 1)::(nat_lit 103,kO 2 2)::(nat_lit 104,kO 2 3)::(nat_lit 110,kO 2 4)::(nat_lit 111,kO 2 5)::(nat_lit 117,kO 2 6)::(nat_lit 118,kO 2 7)::(nat_lit 124,kO 2 8)::(nat_lit 125,kO 2 9)::(nat_lit 131,kO 2 10)::(nat_lit 132,kO 2 11)::(nat_lit 136,kO 3 0)::(nat_lit 137,kO 3 1)::(nat_lit 141,kO 3 2)::(nat_lit 142,kO 3 3)::(nat_lit 148,kO 3 4)::(nat_lit 149,kO 3 5)::(nat_lit 155,kO 3 6)::(nat_lit 156,kO 3 7)::(nat_lit 160,kO 3 8)::(nat_lit 161,kO 3 9)::(nat_lit 165,kO 3 10)::(nat_lit 166,kO 3 11)::(nat_lit 172,kO 4 0)::(nat_lit 173,kO 4 1)::(nat_lit 179,kO 4 2)::(nat_lit 180,kO 4 3)::(nat_lit 186,kO 4 4)::(nat_lit 187,kO 4 5)::(nat_lit 191,kO 4 6)::(nat_lit 192,kO 4 7)::(nat_lit 196,kO 4 8)::(nat_lit 197,kO 4 9)::[]
def KA:List Gj:=nat_lit 3::nat_lit 20::nat_lit 21::nat_lit 27::nat_lit 28::nat_lit 34::nat_lit 35::nat_lit 41::nat_lit 42::nat_lit 48::nat_lit 49::nat_lit 53::nat_lit 54::nat_lit 60::nat_lit 61::nat_lit 65::nat_lit 66::nat_lit 70::nat_lit 71::nat_lit 75::nat_lit 76::nat_lit 82::nat_lit 83::nat_lit 89::nat_lit 90::nat_lit 96::nat_lit 97::nat_lit 103::nat_lit 104::nat_lit 110::nat_lit 111::nat_lit 117::nat_lit 118::nat_lit 124::nat_lit 125::nat_lit 131::nat_lit 132::nat_lit 136::nat_lit 137::nat_lit 141::nat_lit 142::nat_lit 148::nat_lit 149::nat_lit 155::nat_lit 156::nat_lit 160::nat_lit 161::nat_lit 165::nat_lit 166::nat_lit 172::nat_lit 173::nat_lit 179::nat_lit 180::nat_lit 186::nat_lit 187::nat_lit 191::nat_lit 192::nat_lit 196::nat_lit 197::[]
end
end Law
namespace Law
open PySem PySem.W PySem.Spec PyProof.Rows L2 T3
abbrev pr0:Program:=PySem.Challenge.pw_roundfall_k62_classes_told
def qv0:Program:=view pr0 (jk 199)
theorem ziH (P:Params):KA=(KK P).map (·.1):=by kernel_rfl
abbrev xt0 (s:Gh):Bool:=xlAt qv0 [] s&&recOk [] s
abbrev oS (p q:Program)(Xt:Gh->Bool)(s:Gh):=openSeen q [] (importedModules p.main.body) Xt true s
abbrev oE (p:Program)(w:World):=openEnds treeTable p w 9000
theorem zyQ {p q:Program}{Xt:Gh->Bool}{α:Type}{Yf:Gh->α}{Ya:World->α}
  (h1:∀ w,(oE p w).map (λs=>(oS p q Xt s).1)=Ga (expectedOf q)) (h2:∀ w,(oE p w).map (λs=>((oS p q Xt s).2.1,(oS p q Xt s).2.2.2.2.2.2.2.1))=Ga (bltViewBooted,wideGood q))
  (h3:∀ w,(oE p w).map (λs=>(oS p q Xt s).2.2.1)=Ga true) (h4:∀ w,(oE p w).map (λs=>(oS p q Xt s).2.2.2.2.2.1)=Ga (plainGoodE q (looseW q []))) (h6:∀ w,(oE p w).map (λs=>((oS p q Xt s).2.2.2.1,(oS p q Xt s).2.2.2.2.1,(oS p q Xt s).2.2.2.2.2.2.1,(oS p q Xt s).2.2.2.2.2.2.2.2))=Ga (true,pinGoodD (drecsOf q),plainGoodD q [],clsGoodW q [])) (h5:∀ w,(oE p w).map Yf=Ga (Ya w)):LeftO p q [] Xt Yf Ya 9000:=λw=>by
 have a1:=h1 w;have a2:=h2 w;have a3:=h3 w;have a4:=h4 w;have a5:=h5 w;have a6:=h6 w;clear h1 h2 h3 h4 h5 h6;unfold oE at *;generalize openEnds treeTable p w 9000=E at *;cases E with
 | none=>cases a1
 | some s =>
  obtain⟨b1,b2⟩:=Prod.mk.inj (jw a2);obtain⟨c1,c2⟩:=Prod.mk.inj (jw a6);obtain⟨c2,c3⟩:=Prod.mk.inj c2;obtain⟨c3,c4⟩:=Prod.mk.inj c3;have e:oS p q Xt s=openGood q []:=Prod.ext (jw a1) (Prod.ext b1 (Prod.ext (jw a3) (Prod.ext c1 (Prod.ext c2 (Prod.ext (jw a4) (Prod.ext c3 (Prod.ext b2 c4)))))));show Ga (oS p q Xt s,Yf s)=Ga (openGood q [],Ya w);rw[e,show Yf s=Ya w from jw a5]
set_option maxHeartbeats 0 in
theorem lf_1:∀ w:World,(oE pr0 w).map (λs=>(oS pr0 qv0 xt0 s).1)=Ga (expectedOf qv0):=by
 intro w;unfold oE oS openEnds fencedOpening topFrom;rw[Fast.te14364793385576792824,Fast.te14082659384304107361,Fast.te10274390034422433532,Fast.te4187177175401517315]
 kernel_rfl
set_option maxHeartbeats 0 in
theorem lf_2:∀ w:World,(oE pr0 w).map (λs=>((oS pr0 qv0 xt0 s).2.1,(oS pr0 qv0 xt0 s).2.2.2.2.2.2.2.1))=Ga (bltViewBooted,wideGood qv0):=by
 intro w;unfold oE oS openEnds fencedOpening topFrom;rw[Fast.te14364793385576792824,Fast.te14082659384304107361,Fast.te10274390034422433532,Fast.te4187177175401517315]
 kernel_rfl
set_option maxHeartbeats 0 in
theorem lf_3:∀ w:World,(oE pr0 w).map (λs=>(oS pr0 qv0 xt0 s).2.2.1)=Ga true:=by
 intro w;unfold oE oS openEnds fencedOpening topFrom;rw[Fast.te14364793385576792824,Fast.te14082659384304107361,Fast.te10274390034422433532,Fast.te4187177175401517315]
 kernel_rfl
set_option maxHeartbeats 0 in
theorem lf_4:∀ w:World,(oE pr0 w).map (λs=>(oS pr0 qv0 xt0 s).2.2.2.2.2.1)=Ga (plainGoodE qv0 (looseW qv0 [])):=by
 intro w;unfold oE oS openEnds fencedOpening topFrom;rw[Fast.te14364793385576792824,Fast.te14082659384304107361,Fast.te10274390034422433532,Fast.te4187177175401517315]
 kernel_rfl
set_option maxHeartbeats 0 in
theorem lf_6:∀ w:World,(oE pr0 w).map (λs=>((oS pr0 qv0 xt0 s).2.2.2.1,(oS pr0 qv0 xt0 s).2.2.2.2.1,(oS pr0 qv0 xt0 s).2.2.2.2.2.2.1,(oS pr0 qv0 xt0 s).2.2.2.2.2.2.2.2))=Ga (true,pinGoodD (drecsOf qv0),plainGoodD qv0 [],clsGoodW qv0 []):=by
 intro w;unfold oE oS openEnds fencedOpening topFrom;rw[Fast.te14364793385576792824,Fast.te14082659384304107361,Fast.te10274390034422433532,Fast.te4187177175401517315]
 kernel_rfl
set_option maxHeartbeats 0 in
theorem lf_5:∀ w:World,(oE pr0 w).map (Hook.obs (uA Law.KK Law.KA Law.ziH))=Ga (Hook.val (uA Law.KK Law.KA Law.ziH) w):=by
 intro w;unfold oE openEnds fencedOpening topFrom;rw[Fast.te14364793385576792824,Fast.te14082659384304107361,Fast.te10274390034422433532]
 kernel_rfl
theorem lf0:LeftO pr0 qv0 [] xt0 (Hook.obs (uA Law.KK Law.KA Law.ziH)) (Hook.val (uA Law.KK Law.KA Law.ziH)) 9000:=zyQ lf_1 lf_2 lf_3 lf_4 lf_6 lf_5
set_option maxHeartbeats 0 in
theorem ws0:PySem.Challenge.rw_roundfall_k62_classes_told.wellSaid=true:=by
 rw[Fast.te9446332074065402090]
 kernel_rfl
end Law
open PySem PySem.W PyProof.Rows
set_option maxRecDepth 100000 in
set_option maxHeartbeats 0 in
theorem PySem.Challenge.cw_roundfall_k62_classes_told_holds : PySem.Challenge.rw_roundfall_k62_classes_told.Holds := by
 w_on
 refine PySem.W.holds_law Law.ws0 λsaid=>?_;refine PySem.W.holds_open (q:=Law.qv0) (loose:=[]) (Xt:=Law.xt0) (XP:=PySem.W.XL Law.qv0 []) (Yf:=PySem.W.Hook.obs (uA Law.KK Law.KA Law.ziH)) (Ya:=PySem.W.Hook.val (uA Law.KK Law.KA Law.ziH)) (YP:=PySem.W.Hook.says (uA Law.KK Law.KA Law.ziH)) (N:=9000) Law.lf0 (PySem.W.Hook.of (uA Law.KK Law.KA Law.ziH)) (PySem.W.Hook.keeps (uA Law.KK Law.KA Law.ziH)) (λs e=>PySem.W.xl_of s (qQ.mp e).1) PySem.W.XL.keeps (by rfl) (by rfl) (by rfl) (λs e=>PySem.W.recFacts_of (qQ.mp e).2) (by rfl) said (by decide +kernel) ⟨rfl,rfl,rfl,rfl,rfl,by decide +kernel⟩ ?hw ?hc
 case hw=>w_witness2
 k_fill
 refine L2.walk_ofK (l:=PySem.Challenge.rw_roundfall_k62_classes_told) (n:=63) (k:=9) (x:="script") (CX:=L2.CX0) (sp:=λK=>T3.spV K Law.ze6) rfl (by decide) rfl ⟨rfl,by decide,by decide⟩ (λw h Y=>PySem.W.kIn_of Y) ?F ?S ?C
 case F =>
  intro w mg fa h KX G hmg;refine'(λz=>(Law.zw2 KX G hmg z:_)) (Law.zw1 KX G ?w_q23 ?w_q17 ?w_q6 ?w_q19 ?w_q27 ?w_q10 ?w_q25 ?w_q4 ?w_q0 ?w_q15 ?w_q13 ?w_q26 ?w_q24 ?w_q21 ?w_q1 ?w_q9 ?w_q5 ?w_q18 ?w_q20 ?w_q2 ?w_q22 ?w_q11 ?w_q12 ?w_q16 ?w_q14 ?w_q3 ?w_q8 ?w_q7 ?w_q28 ?z_bool ?z_enumerate ?z_int ?z_isinstance ?z_len ?z_list ?z_max ?z_min ?z_range ?z_set ?z_sorted ?z_tuple)
  all_goals first|k_is|exact rfl|(refine'⟨_,_,_,_,_,_,_,_,?x1,?x2,?x3,?x4,?x5⟩;(case x1=>k_is);(case x2=>exact rfl);(case x3=>exact rfl);(case x4=>k_is);(case x5=>k_is))|skip
 case S=>exact λK H a ns hl hO hS=>T3.zvA hS (Law.zo2 ns hl)
 case C=>exact λ_ _ _ _ z=>z
